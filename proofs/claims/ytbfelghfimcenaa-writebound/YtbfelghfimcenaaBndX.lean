/- WriteBound: the walk of its loop. -/
import Derived.Test.YtbfelghfimcenaaBndW
namespace Go.Proofs.Ytbfelghfimcenaa
open Go.RowKit

set_option maxRecDepth 100000 in
set_option maxHeartbeats 4000000 in
theorem bnd_walk (a : Option Addr) (ws : List Int) (cap : Nat) (tr : Int) (a2 : Option Addr) (ls : List Int) (cap2 : Nat) (w : World) (hW : Wds w.heap.size w a ws) (hL : Wds w.heap.size w a2 ls) (h1 : 1 ≤ ws.length) (h2 : ws.length ≤ 64) (h3 : 1 ≤ tr) (h4 : tr ≤ 16) (h5 : ls.length ≤ 200) :
    Calls Try.prog 6 #[.slice a ws.length cap, .int .i64 tr, .slice a2 ls.length cap2] w (True1 w) := by
  have hnw : nwE (spS ws.length 3) ws.length tr = 0 := by
    unfold nwE
    rw [if_pos ((mb_iff _ _).2 ⟨by unfold Rt spS; simp only; omega, by omega, by omega⟩), if_pos (show (ws.length : Int) = (spS ws.length 3).wd from rfl)]
  have hms : mst (spS ws.length 3) tr = 2 * tr + ws.length + 1 := by
    unfold mst
    rw [if_pos ((mb_iff _ _).2 ⟨by unfold Rt spS; simp only; omega, by omega, by omega⟩)]
    rfl
  have Hmm : Hid (∀ w, Calls Try.prog 14 #[.agg #[.int .i64 0, .int .i64 1, .int .i64 2, .int .i64 ws.length, .int .i64 3], .int .i64 tr] w (Ret (.int .i64 (2 * tr + ws.length + 1)) w)) := Lib.hid (fun w => by
    have := most_any (spS ws.length 3) tr w
    rw [hms] at this
    exact this)
  have Hwf := Lib.hid (wf0 hnw hW.us)
  have HN : Hid (∀ w', Wds w.heap.size w' a ws → w.heap.size ≤ w'.heap.size → Calls Try.prog 11 #[.agg #[.int .i64 0, .int .i64 1, .int .i64 2, .int .i64 ws.length, .int .i64 3], .slice a ws.length cap, .int .i64 tr] w' (NewOp (spS ws.length 3) ws tr w')) :=
    Lib.hid (fun w' hh hs => newo_ok (spS ws.length 3) a ws cap tr w' w.heap.size hs hh hnw)
  have HW := Lib.hid hW
  have HL := Lib.hid hL
  have H12 := Lib.hid (And.intro h1 h2)
  have Hs := Lib.hid (fun w => spot3 ws.length h1 h2 w)
  have k1 : 1 ≤ (ws.length : Int) := by omega
  have k2 : (ws.length : Int) ≤ 64 := by omega
  have k5 : (ls.length : Int) ≤ 200 := by omega
  clear hnw hms hW hL h1 h2 h5
  go_enter Try.func6, Try.ntmps6
  go_wp2_with fail
  refine (Hs.out _).mono ?_
  rintro e w1 ⟨b, bg, hb, hg, rfl, hk1, hb1⟩
  have hk2 := hk1.alloc (b5 ws.length)
  have hb2 := hb1.alloc hb1.size (b5 ws.length)
  have hC := Blk.new w1 #[.int .i64 0, .int .i64 1, .int .i64 2, .int .i64 ws.length, .int .i64 3] 23
  have hsz : w1.heap.size < (w1.alloc (b5 ws.length)).heap.size := by simp
  have hq : b < w1.heap.size ∧ bg < w1.heap.size := ⟨hk1.ltb, hk1.ltg⟩
  have H1 := Lib.hid (And.intro hk2 (And.intro hb2 (And.intro hC (And.intro hsz hq))))
  clear hk1 hb1 hk2 hb2 hC hsz hq Hs
  go_wp2_with fail
  generalize w1.alloc (b5 ws.length) = w2 at H1 ⊢
  generalize w1.heap.size = sp at *
  refine (HN.out _ (HW.out.keep H1.out.2.1) H1.out.2.1.size).mono ?_
  rintro e w3 ⟨o, g, ho, hgo, rfl, hO3, hb3⟩
  obtain ⟨hk2, hb2, hC2, hsz, hq1, hq2⟩ := H1.out
  have hC3 := hC2.low hb3
  have c0 := hC3.cell (i := 0) rfl
  have c1 := hC3.cell (i := 1) rfl
  have c2 := hC3.cell (i := 2) rfl
  have c3 := hC3.cell (i := 3) rfl
  have c4 := hC3.cell (i := 4) rfl
  have H3 := Lib.hid (And.intro (hk2.below hb3) (And.intro (hb2.trans (hb3.mono hb2.size)) (And.intro hO3 (show o ≠ b ∧ o ≠ bg ∧ g ≠ b ∧ g ≠ bg ∧ w.heap.size ≤ o by have := hb2.size; omega))))
  clear H1 hk2 hb2 hC2 hsz hq1 hq2 hC3 hb3 hO3 ho hgo HN
  go_wp2_with fail
  refine (Hmm.out _).mono ?_
  rintro e w4 ⟨rfl, hb4⟩
  clear c0 c1 c2 c3 c4
  obtain ⟨hk3, hb3, hO3, d1, d2, d3, d4, d5⟩ := H3.out
  have hk4 := hk3.below hb4
  have hO4 := hO3.below hb4
  have hu4 := hb3.trans (hb4.mono hb3.size)
  clear H3 hk3 hb3 hO3 hb4 Hmm
  go_wp2_with fail
  go_loopw [13, 14, 15, 16] (fun ph fl sw i wr => BdRel w o g b bg tr ws ls.length ph fl sw i wr) (fun _ _ _ i _ => ls.length - (intOf i).toNat)
  case atStart => exact ⟨0, 0, 0, 0, _, _, 0, rfl, rfl, rfl, rfl, by omega, b_start h3 rfl, hO4, hk4, Hwf.out, u64_zero, by omega, by omega, hu4⟩
  case round =>
    clear hk4 hO4 hu4
    obtain ⟨k, p, f, s, x, xs, t, rfl, rfl, rfl, rfl, hkl, hI, hO, hK, hwf, us, t0, t1, hu⟩ := hrel
    by_cases hlt : (k : Int) < ls.length
    · have hkk : k < ls.length := by omega
      obtain ⟨uv, lb, loff, rfl, llt, lc⟩ := (HL.out.keep hu) k _ (List.getElem?_eq_getElem hkk)
      generalize ls[k] = v at *
      obtain ⟨v1, hv1⟩ := bd_one hI H12.out.1
      go_upto_region 14 with fail
      go_cut [94] (fun c wx => c = .bool false ∧ BdMid w o g b bg tr ws k p f s x wx)
      case first =>
        by_cases hv0 : v = 0
        · have HH := Lib.hid (show BdMid w o g b bg tr ws k p f s x wr from ⟨xs, t, v1, hI, hO, hK, t0, by omega, hu, hv1⟩)
          subst hv0
          clear hI hO hK hwf us t0 t1 hu hv1
          go_wp2
          go_meet
          exact ⟨rfl, HH.out⟩
        · by_cases hp : p < 2
          · have Hst := Lib.hid (store_in b bg xs t v v1 1 wr hK hv1 t0 (by omega) uv)
            have HI := Lib.hid (And.intro hI (And.intro hO hu))
            have Hb := Lib.hid (And.intro hb (And.intro hg (show 0 ≤ t + 1 ∧ t + 1 ≤ 2 * k + 1 by omega)))
            have Hlt := Lib.hid (lt_of_some hv1)
            clear hI hO hK hwf us t0 t1 hu hv1 uv
            go_wp2_with fail
            refine Hst.out.mono ?_
            rintro e w5 ⟨rfl, hK5, hu5⟩
            go_wp2
            go_meet
            obtain ⟨hI, hO, hu⟩ := HI.out
            have hn : ∀ q, q ≠ b → q ≠ bg → ¬ Own b bg q := fun q q1 q2 c => by rcases c with c | c <;> contradiction
            exact ⟨rfl, _, _, v, b_store hI hp, hO.upd hu5 (hn _ d1 d2) (hn _ d3 d4), hK5, Hb.out.2.2.1, Hb.out.2.2.2, Below.own hu hu5 hu.size Hb.out.1 Hb.out.2.1, List.getElem?_set_self Hlt.out⟩
          · have HH := Lib.hid (show BdMid w o g b bg tr ws k p f s x wr from ⟨xs, t, v1, hI, hO, hK, t0, by omega, hu, hv1⟩)
            clear hI hO hK hwf us t0 t1 hu hv1
            have hp2 : decide (p < 2) = false := decide_eq_false hp
            go_wp2
            go_meet
            exact ⟨rfl, HH.out⟩
      case rest =>
        obtain ⟨rfl, xs', t', now, hI', hO', hK', t0', t1', hu', hn'⟩ := hcut
        clear hI hO hK t0 t1 hu hv1
        have Hpk := Lib.hid (peek_in b bg xs' t' now 1 wc hK' hn')
        have un := hK'.rngAt hn'
        obtain ⟨hR, hS, hM⟩ := b_step hI' hwf (getI_mk (by omega) hn')
        have hN1 := b_not1 hI' (spS ws.length 3)
        have hwf2 := wf_stp hwf hK'.rng
        obtain ⟨_, s2, s3⟩ := steps_stp (spS ws.length 3) ws xs' x
        have hst0 := hI'.steps
        have Hst : Hid (∀ W, OpAt W o g (spS ws.length 3) ws x → Bk W b bg xs' t' → Calls Try.prog 18 #[.pointer (some ⟨o, 0, none⟩), .pointer (some ⟨b, 0, none⟩)] W (StepPost o g b bg (spS ws.length 3) ws (stp (spS ws.length 3) ws xs' x) t' W)) :=
          Lib.hid (fun W hO hK => step_any hO hK d1 d2 d3 d4 hwf t0' (by omega) (by omega) (by omega))
        generalize stp (spS ws.length 3) ws xs' x = r at *
        have H6 := Lib.hid (And.intro hO' hu')
        have Hwf2 := Lib.hid hwf2
        have Ht := Lib.hid (show 0 ≤ t' + r.2.2 ∧ t' + r.2.2 ≤ 2 * k + 2 by omega)
        have HR0 := Lib.hid hR
        have hpl : (p = 0 ∧ now % 2 = 1) ∨ (p = 0 ∧ ¬ now % 2 = 1) ∨ (p = 1 ∧ ¬ now = s) ∨ (p = 1 ∧ now = s) ∨ p = 2 := by
          rcases hI'.pl with ⟨q, _⟩ | ⟨q, _⟩ | ⟨q, _⟩ <;> omega
        have hf := hI'.f1
        have hf0 := hI'.f0
        have Hf := Lib.hid (And.intro hf hf0)
        have hM2 : (k : Int) + 1 ≤ 2 * tr + ws.length + 1 := hM
        have Hun := Lib.hid un
        have HN1 := Lib.hid hN1
        have Hus := Lib.hid us
        clear hI' hO' hK' t0' t1' hu' hn' hwf hwf2 s2 s3 hst0 hR hM un us hf hf0 hN1
        go_wp2_with fail
        refine Hpk.out.mono ?_
        rintro e w6 ⟨rfl, hK6, hb6⟩
        have hO6 := H6.out.1.below hb6
        have H7 := Lib.hid (H6.out.2.trans (hb6.mono H6.out.2.size))
        have Hst2 := Lib.hid (Hst.out w6 hO6 hK6)
        clear Hpk Hst H6 hb6 hO6 hK6
        go_wp2_with fail
        refine Hst2.out.mono ?_
        rintro e w7 ⟨rfl, hO7, hK7, hu7⟩
        have hb7 := Below.ownS H7.out hu7 H7.out.size d5 hb hg
        have Hps := Lib.hid (steps_any hO7)
        rw [hS] at Hps
        have H8 := Lib.hid (And.intro hO7 (And.intro hK7 hb7))
        clear hO7 hK7 hu7 hb7 Hst2 H7 hS
        go_wp2_with fail
        refine Hps.out.mono ?_
        rintro e w8 ⟨rfl, rfl⟩
        go_wp2_with fail
        refine Hps.out.mono ?_
        rintro e w8 ⟨rfl, rfl⟩
        obtain ⟨hO8, hK8, hu8⟩ := H8.out
        have HO8 := Lib.hid (And.intro hO8 (And.intro hK8 hu8))
        clear H8 Hps hO8 hK8 hu8
        obtain ⟨un0, un1⟩ := Hun.out
        rcases hpl with ⟨rfl, q⟩ | ⟨rfl, q⟩ | ⟨rfl, q⟩ | ⟨rfl, rfl⟩ | rfl
        · have e1 : bph 0 s now = 0 := by unfold bph; rw [if_pos (by omega)]
          have e2 : bfl 0 f s now = f + 1 := by unfold bfl; rw [if_pos (by omega)]
          have e3 : bsw 0 s now = s := by unfold bsw; rw [if_pos (by omega)]
          rw [e1, e2, e3] at HR0
          clear e1 e2 e3
          obtain ⟨f1, f0⟩ := Hf.out
          have m1 : (now % 2 == 1) = true := by simp [q]
          rcases HR0.out with ⟨z1, z2⟩ | ⟨_, _, z, _⟩ | ⟨z1, z2, z3⟩
          · rw [z2]
            have z4 : ((f + 1 : Int) == tr) = true := by simp [z1]
            clear HR0 z1 z2
            go_wp2_with fail
            refine (awake_any _).mono ?_
            rintro e w9 ⟨rfl, hb9⟩
            have H9 := Lib.hid (HO8.out.2.2.trans (hb9.mono HO8.out.2.2.size))
            clear hb9
            go_wp2
            go_ret
            exact ⟨rfl, H9.out⟩
          · omega
          · rw [z2]
            have z4 : ((f + 1 : Int) == tr) = false := by simp; omega
            have HR := Lib.hid z3
            clear HR0 z1 z2 z3
            go_wp2_with fail
            go_roundw
            case rel => exact ⟨k + 1, _, _, _, _, _, _, rfl, rfl, rfl, by go_num, by omega, HR.out, HO8.out.1, HO8.out.2.1, Hwf2.out, Hus.out, Ht.out.1, by have := Ht.out.2; omega, HO8.out.2.2⟩
            case measure => simp [intOf]; omega
        · have e1 : bph 0 s now = 1 := by unfold bph; rw [if_neg (by omega)]; rfl
          have e2 : bfl 0 f s now = f := by unfold bfl; rw [if_neg (by omega)]
          have e3 : bsw 0 s now = now := by unfold bsw; rw [if_neg (by omega)]; rfl
          rw [e1, e2, e3] at HR0
          clear e1 e2 e3
          obtain ⟨f1, f0⟩ := Hf.out
          have z4 : ((f : Int) == tr) = false := by simp; omega
          have m1 : (now % 2 == 1) = false := by simp [q]
          rcases HR0.out with ⟨z1, z2⟩ | ⟨_, _, z, _⟩ | ⟨z1, z2, z3⟩
          · omega
          · omega
          · rw [z2]
            have HR := Lib.hid z3
            clear HR0 z1 z2 z3
            go_wp2_with fail
            go_roundw
            case rel => exact ⟨k + 1, _, _, _, _, _, _, rfl, rfl, rfl, by go_num, by omega, HR.out, HO8.out.1, HO8.out.2.1, Hwf2.out, Hun.out, Ht.out.1, by have := Ht.out.2; omega, HO8.out.2.2⟩
            case measure => simp [intOf]; omega
        · have e1 : bph 1 s now = 0 := by unfold bph; rw [if_pos (by omega)]
          have e2 : bfl 1 f s now = f + 1 := by unfold bfl; rw [if_pos (by omega)]
          have e3 : bsw 1 s now = s := by unfold bsw; rw [if_pos (by omega)]
          rw [e1, e2, e3] at HR0
          clear e1 e2 e3
          obtain ⟨f1, f0⟩ := Hf.out
          have m1 : (now != s) = true := by simp [q]
          rcases HR0.out with ⟨z1, z2⟩ | ⟨_, _, z, _⟩ | ⟨z1, z2, z3⟩
          · rw [z2]
            have z4 : ((f + 1 : Int) == tr) = true := by simp [z1]
            clear HR0 z1 z2
            go_wp2_with fail
            refine (awake_any _).mono ?_
            rintro e w9 ⟨rfl, hb9⟩
            have H9 := Lib.hid (HO8.out.2.2.trans (hb9.mono HO8.out.2.2.size))
            clear hb9
            go_wp2
            go_ret
            exact ⟨rfl, H9.out⟩
          · omega
          · rw [z2]
            have z4 : ((f + 1 : Int) == tr) = false := by simp; omega
            have HR := Lib.hid z3
            clear HR0 z1 z2 z3
            go_wp2_with fail
            go_roundw
            case rel => exact ⟨k + 1, _, _, _, _, _, _, rfl, rfl, rfl, by go_num, by omega, HR.out, HO8.out.1, HO8.out.2.1, Hwf2.out, Hus.out, Ht.out.1, by have := Ht.out.2; omega, HO8.out.2.2⟩
            case measure => simp [intOf]; omega
        · have e1 : bph 1 now now = 2 := by unfold bph; rw [if_neg (by omega)]; rfl
          have e2 : bfl 1 f now now = f := by unfold bfl; rw [if_neg (by omega)]
          have e3 : bsw 1 now now = now := by unfold bsw; rw [if_neg (by omega)]; rfl
          rw [e1, e2, e3] at HR0
          clear e1 e2 e3
          obtain ⟨f1, f0⟩ := Hf.out
          have z4 : ((f : Int) == tr) = false := by simp; omega
          rcases HR0.out with ⟨z1, z2⟩ | ⟨z0, z1, _, z2⟩ | ⟨z1, z2, z3⟩
          · omega
          · exact absurd z1 (HN1.out (by omega))
          · rw [z2]
            have Hg := Lib.hid (show getI r.2.1 1 = some (addw now 1) by
              rcases z3.pl with ⟨c, _⟩ | ⟨c, _⟩ | ⟨_, _, _, c, _⟩
              · omega
              · omega
              · exact c)
            have HR := Lib.hid z3
            clear HR0 z1 z2 z3
            go_wp2_with fail
            refine (peek_in b bg _ _ (addw now 1) 1 _ HO8.out.2.1 (getI_some Hg.out).2).mono ?_
            rintro e w9 ⟨rfl, hK9, hb9⟩
            have hO9 := HO8.out.1.below hb9
            have hu9 := HO8.out.2.2.trans (hb9.mono HO8.out.2.2.size)
            have H9 := Lib.hid (And.intro hO9 (And.intro hK9 hu9))
            clear hO9 hK9 hu9 hb9 HO8 Hg
            unfold addw
            go_wp2_with fail
            go_roundw
            case rel => exact ⟨k + 1, _, _, _, _, _, _, rfl, rfl, rfl, by go_num, by omega, HR.out, H9.out.1, H9.out.2.1, Hwf2.out, Hus.out, Ht.out.1, by have := Ht.out.2; omega, H9.out.2.2⟩
            case measure => simp [intOf]; omega
        · have e1 : bph 2 s now = 2 := by unfold bph; rw [if_neg (by omega)]; rfl
          have e2 : bfl 2 f s now = f := by unfold bfl; rw [if_neg (by omega)]
          have e3 : bsw 2 s now = s := by unfold bsw; rw [if_neg (by omega)]; rfl
          rw [e1, e2, e3] at HR0
          clear e1 e2 e3
          obtain ⟨f1, f0⟩ := Hf.out
          have z4 : ((f : Int) == tr) = false := by simp; omega
          rcases HR0.out with ⟨z1, z2⟩ | ⟨z0, z1, _, z2⟩ | ⟨z1, z2, z3⟩
          · omega
          · rw [z1]
            have Hg := Lib.hid (getI_some z2).2
            clear HR0 z0 z1 z2
            go_wp2_with fail
            refine (peek_in b bg _ _ (addw s 2) 1 _ HO8.out.2.1 Hg.out).mono ?_
            rintro e w9 ⟨rfl, hK9, hb9⟩
            have H9 := Lib.hid (HO8.out.2.2.trans (hb9.mono HO8.out.2.2.size))
            clear hK9 hb9 HO8 Hg
            unfold addw
            go_wp2_with fail
            refine (awake_any _).mono ?_
            rintro e w10 ⟨rfl, hb10⟩
            have H10 := Lib.hid (H9.out.trans (hb10.mono H9.out.size))
            clear hb10
            go_wp2
            go_ret
            exact ⟨rfl, H10.out⟩
          · rw [z2]
            have HR := Lib.hid z3
            clear HR0 z1 z2 z3
            go_wp2_with fail
            go_roundw
            case rel => exact ⟨k + 1, _, _, _, _, _, _, rfl, rfl, rfl, by go_num, by omega, HR.out, HO8.out.1, HO8.out.2.1, Hwf2.out, Hus.out, Ht.out.1, by have := Ht.out.2; omega, HO8.out.2.2⟩
            case measure => simp [intOf]; omega
    · obtain rfl : k = ls.length := by omega
      have Hu := Lib.hid hu
      clear hI hO hK hwf us t0 t1 hu
      go_wp2_with fail
      refine (awake_any _).mono ?_
      rintro e w5 ⟨rfl, hb5⟩
      have H5 := Lib.hid (Hu.out.trans (hb5.mono Hu.out.size))
      clear hb5 Hu
      go_wp2
      go_ret
      exact ⟨rfl, H5.out⟩
theorem bnd_law (a : Option Addr) (ws : List Int) (cap : Nat) (tr : Int) (a2 : Option Addr) (ls : List Int) (cap2 : Nat) (w : World) (hW : Wds w.heap.size w a ws) (hL : Wds w.heap.size w a2 ls) :
    Calls Try.prog 6 #[.slice a ws.length cap, .int .i64 tr, .slice a2 ls.length cap2] w (True1 w) := by
  by_cases h : 1 ≤ ws.length ∧ ws.length ≤ 64
  · by_cases k : 1 ≤ tr ∧ tr ≤ 16 ∧ ls.length ≤ 200
    · exact bnd_walk a ws cap tr a2 ls cap2 w hW hL h.1 h.2 k.1 k.2.1 k.2.2
    · exact bnd_bad a ws cap tr a2 ls.length cap2 w h.1 h.2 k
  · exact bnd_out a ws cap tr a2 ls.length cap2 w (by omega)
end Go.Proofs.Ytbfelghfimcenaa
