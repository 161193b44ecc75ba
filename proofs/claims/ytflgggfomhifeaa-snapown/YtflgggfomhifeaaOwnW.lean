/- SnapOwn: its walk. -/
import Derived.Test.YtflgggfomhifeaaOwM
import Derived.Deep.RegionHeld3
import Derived.BigQuiet
namespace Go.Proofs.Ytflgggfomhifeaa
open Go.RowKit

set_option maxRecDepth 100000 in
set_option maxHeartbeats 2000000 in
theorem own_bad (a : Option Addr) (l : List Tp) (cap : Nat) (w : World) (hT : Tps w.heap.size w a l) (h : ¬ okL l) : Calls Try.prog 7 #[.slice a l.length cap] w (Ret (.bool true) w) := by
  have Hly := Lib.hid (fun w (q : Tps w.heap.size w a l) => lay_bad a cap l w q h)
  have HT := Lib.hid hT
  clear h hT
  generalize hln : l.length = ln at *
  clear hln
  go_enter Try.func7, Try.ntmps7
  go_wp2_with fail
  refine (ngot_nil _).mono ?_
  rintro e w' ⟨rfl, rfl⟩
  go_wp2_with fail
  refine (nstep_nil _ _).mono ?_
  rintro e w1 ⟨rfl, hb1⟩
  have H1 := Lib.hid hb1
  clear hb1
  go_wp2_with fail
  refine (nat_nil _).mono ?_
  rintro e w' ⟨rfl, rfl⟩
  go_wp2_with fail
  refine (nsteps_nil _).mono ?_
  rintro e w' ⟨rfl, rfl⟩
  go_wp2_with fail
  refine (Hly.out _ ((HT.out.below H1.out).mono' H1.out.size)).mono ?_
  rintro e w2 ⟨rfl, hb2⟩
  have H2 := Lib.hid (H1.out.trans (hb2.mono H1.out.size))
  clear hb2
  go_wp2_with fail
  refine (awake_any _).mono ?_
  rintro e w3 ⟨rfl, hu3⟩
  have H3 := Lib.hid (H2.out.trans (hu3.mono H2.out.size))
  clear hu3
  go_wp2
  go_ret
  exact ⟨rfl, H3.out⟩
/-- At the head of the loop that publishes. -/
def OwRel0 (w : World) (b bg sa : Nat) (l : List Tp) (n0 : Nat) (i : Value) (wr : World) : Prop :=
  ∃ (k : Nat) (zs : List Int) (t : Int), i = .int .i64 k ∧ k ≤ l.length ∧ Bk wr b bg zs t ∧ PO l n0 zs k ∧ 0 ≤ t ∧ t ≤ 100 * (k : Int) ∧ SpB sa (spots 0 l) wr ∧ Below w.heap.size w wr
/-- At the head of the loop that steps. -/
def OwRel1 (w : World) (b bg sa o gs g : Nat) (SS SA : List Sp) (gens : List Int) (Wp : Int → Prop) (zs : List Int) (t : Int) (i : Value) (wr : World) : Prop :=
  ∃ (j : Nat) (x : NSt), i = .int .i64 j ∧ Alo SS gens Wp 1 0 x ∧ pos SS x = j ∧ OwM w b bg sa o gs g SS SA x zs (t + j) wr
/-- At the head of a loop that writes over what was told. -/
def OwRel2 (w : World) (b bg sa o gs g q1 c1 q2 c2 n1 n2 : Nat) (SS SA : List Sp) (x : NSt) (zs : List Int) (t : Int) (n : Nat) (i : Value) (wr : World) : Prop :=
  ∃ (j : Nat) (ws hs : List Int), i = .int .i64 j ∧ j ≤ n ∧ Orw wr q1 c1 ws ∧ ws.length = n1 ∧ Orw wr q2 c2 hs ∧ hs.length = n2 ∧ OwM w b bg sa o gs g SS SA x zs t wr
set_option maxRecDepth 100000 in
set_option maxHeartbeats 8000000 in
theorem own_walk (a : Option Addr) (l : List Tp) (cap : Nat) (w : World) (hT : Tps w.heap.size w a l) (h : okL l) : Calls Try.prog 7 #[.slice a l.length cap] w (Ret (.bool true) w) := by
  have HOK := Lib.hid h
  have Hly := Lib.hid (fun w (q : Tps w.heap.size w a l) => lay_ok a cap l w q h)
  have HT := Lib.hid hT
  obtain ⟨B0, n0, d0, t0⟩ := tn_of h (show 0 < l.length from h.1)
  have hB0 : B0 = 0 := by have := t0.lo; simp [tot] at this; omega
  subst hB0
  have Ht0 := Lib.hid t0
  have hn01 := t0.n1
  have hn04 := t0.n4
  have Hz := Lib.hid (tot_bd l 0 h.2.2)
  have h1 : 1 ≤ (l.length : Int) := by have := h.1; omega
  have h2 : (l.length : Int) ≤ 5 := by have := h.2.1; omega
  obtain ⟨ln, hln⟩ : ∃ ln, l.length = ln := ⟨_, rfl⟩
  have Hln := Lib.hid hln
  rw [hln] at h1 h2 Hly ⊢
  have Hl5 := Lib.hid (And.intro h1 h2)
  clear h hT t0 hln
  go_enter Try.func7, Try.ntmps7
  go_wp2_with fail
  refine (ngot_nil _).mono ?_
  rintro e w' ⟨rfl, rfl⟩
  go_wp2_with fail
  refine (nstep_nil _ _).mono ?_
  rintro e w1 ⟨rfl, hb1⟩
  have H1 := Lib.hid hb1
  clear hb1
  go_wp2_with fail
  refine (nat_nil _).mono ?_
  rintro e w' ⟨rfl, rfl⟩
  go_wp2_with fail
  refine (nsteps_nil _).mono ?_
  rintro e w' ⟨rfl, rfl⟩
  go_wp2_with fail
  refine (Hly.out _ ((HT.out.below H1.out).mono' H1.out.size)).mono ?_
  rintro e w2 ⟨sa, cs, b, bg, hsa, hb, hbg, hn1, hn2, he, hsp, hk, hu⟩
  rw [Hln.out] at he
  subst he
  have H2 := Lib.hid (And.intro hsp (And.intro hk (H1.out.trans (hu.mono H1.out.size))))
  have HD := Lib.hid (show sa ≠ b ∧ sa ≠ bg ∧ w.heap.size ≤ sa ∧ w.heap.size ≤ b ∧ w.heap.size ≤ bg from ⟨hn1, hn2, Nat.le_trans H1.out.size hsa, Nat.le_trans H1.out.size hb, Nat.le_trans H1.out.size hbg⟩)
  clear hsa hb hbg hn1 hn2 hsp hk hu Hly H1
  go_wp2_with fail
  go_loopw [9] (fun i wr => OwRel0 w b bg sa l n0 i wr) (fun i _ => ln - (intOf i).toNat)
  case atStart => exact ⟨0, _, 0, rfl, by omega, H2.out.2.1, po_zero l n0, by omega, by omega, H2.out.1, H2.out.2.2⟩
  case round =>
    obtain ⟨k, zs, t, rfl, hk, hB, hP, t0, t1, hS, hb⟩ := hrel
    rw [Hln.out] at hk
    by_cases hlt : (k : Int) < ln
    · obtain ⟨B, n, d, tn⟩ := tn_of HOK.out (show k < l.length by have := Hln.out; omega)
      have e0 := hS.spot tn.sp 0 (.int .i64 (B : Int)) rfl
      have e1 := hS.spot tn.sp 1 (.int .i64 ((B : Int) + 1)) rfl
      have e2 := hS.spot tn.sp 2 (.int .i64 ((B : Int) + 2)) rfl
      have e3 := hS.spot tn.sp 3 (.int .i64 (n : Int)) rfl
      have e4 := hS.spot tn.sp 4 (.int .i64 (d : Int)) rfl
      rw [Nat.add_zero] at e0
      have hxl : B + 2 + n * d ≤ zs.length := by rw [hP.1]; exact tn.hi
      have hx : zs[B + 1]? = some (2 * ((0 : Nat) : Int)) := by
        rw [hP.2.1 k B n d tn, if_neg (by omega)]
        rfl
      have Hpub : Hid (Calls Try.prog 28 #[.pointer (some ⟨b, 0, none⟩), .agg #[.int .i64 B, .int .i64 ((B : Int) + 1), .int .i64 ((B : Int) + 2), .int .i64 n, .int .i64 d], .int .u64 ((k : Int) + 3)] wr (PubPost b bg B n d 0 (rcd n ((k : Int) + 3)) zs t wr)) := Lib.hid
        (publish_any b bg B n d 0 ((k : Int) + 3) zs t wr tn.n1 (by have := tn.n4; omega) tn.d2 (by have := tn.d5; omega) (by have := tn.hi; have := tn.mx; omega) (by omega) (by unfold U64; omega) hB hxl hx t0 (by omega))
      have hwk : IntKind.u64.wrap ((k : Int) + 3) = (k : Int) + 3 := by rw [IntKind.wrap_u64]; omega
      have HK := Lib.hid (And.intro hP (And.intro hS (And.intro hb (And.intro tn (And.intro t0 t1)))))
      clear hP hS hb tn t0 t1 hB hxl hx
      go_wp2_with fail
      refine Hpub.out.mono ?_
      rintro e w3 ⟨ys, rfl, hB3, hyl, hy1, hL, hu3⟩
      have HR : Hid (∃ (zs : List Int) (t : Int), Bk w3 b bg zs t ∧ PO l n0 zs (k + 1) ∧ 0 ≤ t ∧ t ≤ 100 * ((k + 1 : Nat) : Int) ∧ SpB sa (spots 0 l) w3 ∧ Below w.heap.size w w3) := Lib.hid (by
        obtain ⟨hP, hS, hb, tn, t0, t1⟩ := HK.out
        have hn4 := tn.n4
        refine ⟨ys, t + n + 3, hB3, po_next HOK.out hP tn (fun B n d tt => (tn_one tt Ht0.out).2.1) hyl (by simpa using hy1) hL, by omega, by push_cast; omega, hS.of_block (hu3.block sa hS.lt (fun q => by have := HD.out; rcases q with q | q <;> omega)), hb.trans (hu3.below hb.size (fun q hq => by have := HD.out; rcases hq with rfl | rfl <;> omega))⟩)
      clear hB3 hyl hy1 hL hu3 HK Hpub
      go_wp2_with fail
      go_roundw
      case rel =>
        obtain ⟨zs, t, r1, r2, r3, r4, r5, r6⟩ := HR.out
        exact ⟨k + 1, zs, t, by go_num, by have := Hln.out; omega, r1, r2, r3, r4, r5, r6⟩
      case measure => simp [intOf]; omega
    · obtain rfl : k = ln := by omega
      have HP := Lib.hid hP
      have HK := Lib.hid (And.intro hB (And.intro hS (And.intro hb (And.intro t0 t1))))
      have Hnew := Lib.hid (fun W (q : SpB sa (spots 0 l) W) => nnew_ok (some ⟨sa, 0, none⟩) cs (spots 0 l) 1 W q.sps (spots_flt HOK.out (by omega) (by omega)))
      rw [spots_len, Hln.out] at Hnew
      have Hin := Lib.hid (spots_in HOK.out hP.1)
      clear hB hP hS hb t0 t1 H2
      go_wp2_with fail
      refine (Hnew.out _ HK.out.2.1).mono ?_
      rintro e w3 ⟨o, gs, g, ho, hgs, hg, rfl, hO, hu⟩
      obtain ⟨S0, r, hSS⟩ : ∃ S r, spots 0 l = S :: r := by
        have := Ht0.out.sp
        match hq : spots 0 l, this with
        | S :: r, _ => exact ⟨S, r, rfl⟩
      have hS0 : S0 = spB 0 n0 d0 := by
        have := Ht0.out.sp
        rw [hSS] at this
        exact Option.some.inj this
      subst hS0
      have HSS := Lib.hid hSS
      obtain ⟨k1, k2, k3, k4, k5⟩ := HK.out
      have hD4 : OwD w b bg sa o gs g := by
        have l1 := k1.ltb
        have l2 := k1.ltg
        have l3 := k2.lt
        have l4 := k3.size
        obtain ⟨m1, m2, m3, m4, m5⟩ := HD.out
        exact ⟨by unfold Apt; omega, by omega, by omega, by omega, by omega, by omega, by omega, by omega, by omega, by omega, by omega⟩
      have hM4 : OwM w b bg sa o gs g (spots 0 l) (spots 0 l) (nst0 1) zs t w3 := ⟨k1.below hu, k2.low hu, hO, k3.trans (hu.mono k3.size)⟩
      have c1 := hM4.spot.spot (k := 0) (by rw [hSS]; rfl) 1 (.int .i64 1) rfl
      rw [Nat.zero_mul, Nat.zero_add] at c1
      have f1 := hM4.spot.frozen 1
      have ls := hM4.spot.lt
      have hsz := hM4.spot
      rw [hSS] at hsz
      have hM5 : OwM w b bg sa o gs g (spots 0 l) (⟨0, 0, (0 : Nat) + 2, n0, d0⟩ :: r) (nst0 1) zs t (w3.setCell ⟨sa, 1, none⟩ (.int .i64 0)) :=
        ⟨hM4.bank.setFar hD4.s1.symm hD4.s2.symm _, hsz.zero, hM4.sn.setFar hD4.s3.symm hD4.s5.symm hD4.s4.symm _, hM4.bel.setCell hD4.l5 _⟩
      have HM5 := Lib.hid (And.intro hM5 (And.intro hD4 (And.intro k4 k5)))
      have hlen0 : (0 : Int) < k := by omega
      clear hu hO ho hgs hg hD4 hM4 hM5 hsz k1 k2 k3 k4 k5 Hnew HK hSS
      have hwd : n0 ≤ wid (spots 0 l) ∧ wid (spots 0 l) ≤ 20 := by
        have h1 := wid_take (spots 0 l) 0 _ Ht0.out.sp
        have h2 := wid_le (spots 0 l) (0 + 1)
        have h3 : (spB 0 n0 d0).wd.toNat = n0 := by unfold spB; simp
        have h4 := (wid_spots HOK.out).1
        omega
      obtain ⟨F, hF⟩ : ∃ F, ful (spots 0 l) = F := ⟨_, rfl⟩
      have hF30 : (F : Int) ≤ 30 ∧ (2 : Int) ≤ F := by
        rw [← hF]
        have h1 := HOK.out.2.1
        have h2 := HOK.out.1
        have h3 := spots_len l 0
        unfold ful
        omega
      have HF := Lib.hid hF
      have Hwd := Lib.hid hwd
      obtain ⟨hF1, hF2⟩ := hF30
      clear hF hwd
      have hk5 := Hl5.out
      go_wp2_with fail
      generalize hw4 : w3.setCell ⟨sa, 1, none⟩ (.int .i64 0) = w4 at HM5 ⊢
      clear hw4 c1 f1 ls
      go_loopw [12] (fun i wr => OwRel1 w b bg sa o gs g (spots 0 l) (⟨0, 0, (0 : Nat) + 2, n0, d0⟩ :: r) (List.replicate l.length 1) (fun v => v = 3) zs t i wr) (fun i _ => 50 - (intOf i).toNat)
      case atStart => exact ⟨0, nst0 1, rfl, alo_start (nwf0 (spots_flt HOK.out (by omega) (by omega))) rfl rfl rfl rfl, by unfold pos; rw [if_pos (show (nst0 1).line = 0 from rfl)]; rfl, by rw [show ((0 : Nat) : Int) = 0 from rfl, Int.add_zero]; exact HM5.out.1⟩
      case round =>
        obtain ⟨j, x, rfl, hA, hpj, hM⟩ := hrel
        have hpl := (pos_lt hA.wf).1
        rw [hpj, HF.out] at hpl
        have HP1 := HP.out
        rw [← Hln.out] at HP1
        have hos := own_alo HOK.out Ht0.out HP1 hM.bank.rng hA
        rw [hpj, HF.out] at hos
        have hst := hA.steps
        rw [hpj] at hst
        obtain ⟨_, _, u1, u2⟩ := HM5.out
        have hstep := nstep_any hM.sn hM.bank HM5.out.2.1.ap hA.wf (by omega) (by omega) (by omega) (by omega)
        have Hst := Lib.hid hstep
        have HH := Lib.hid (And.intro hos hM)
        have hj50 : (j : Int) < 50 := by omega
        clear hA hpj hM hos hst hstep HP1 u1 u2
        by_cases hlast : j + 1 < F
        · obtain ⟨hA2, hp2⟩ := HH.out.1.2.1 hlast
          have Hh := Lib.hid hA2.how
          have HA2 := Lib.hid (And.intro hA2 hp2)
          have hr2 := HH.out.1.1
          clear hA2 hp2
          go_wp2_with fail
          refine Hst.out.mono ?_
          rintro e w5 ⟨rfl, hN5, hK5, hu5⟩
          rw [hr2] at hK5
          rw [Hh.out]
          have HM6 := Lib.hid (HH.out.2.step HM5.out.2.1 hN5 hK5 hu5)
          clear hN5 hK5 hu5 Hst HH hr2
          have hat := nat_pur HM6.out.sn
          rw [show nat (nst (spots 0 l) zs x).1 = 0 from by unfold nat; rw [Hh.out]; rfl] at hat
          have Hat := Lib.hid hat
          clear hat
          go_wp2_with fail
          refine Hat.out.mono ?_
          rintro e w' ⟨rfl, rfl⟩
          go_wp2_with fail
          go_roundw
          case rel => exact ⟨j + 1, _, by go_num, HA2.out.1, HA2.out.2, by rw [show ((j + 1 : Nat) : Int) = (j : Int) + 1 by omega, ← Int.add_assoc]; exact HM6.out⟩
          case measure => simp [intOf]; omega
        · have hD2 := HH.out.1.2.2 (by omega)
          have Hh := Lib.hid hD2.how
          have HD2 := Lib.hid hD2
          have hr2 := HH.out.1.1
          clear hD2
          go_wp2_with fail
          refine Hst.out.mono ?_
          rintro e w5 ⟨rfl, hN5, hK5, hu5⟩
          rw [hr2] at hK5
          rw [Hh.out]
          have HM6 := Lib.hid (HH.out.2.step HM5.out.2.1 hN5 hK5 hu5)
          clear hN5 hK5 hu5 Hst HH hr2
          generalize (nst (spots 0 l) zs x).1 = X at *
          generalize t + (j : Int) + 1 = tt at *
          obtain ⟨nW, hnW⟩ : ∃ nW, wid (spots 0 l) = nW := ⟨_, rfl⟩
          have HnW := Lib.hid hnW
          have Hgot : Hid (∀ W, NAt W o gs g (spots 0 l) X → Calls Try.prog 19 #[.pointer (some ⟨o, 0, none⟩)] W (fun e w' => ∃ q1 c1 q2 c2, e = .returned (.tuple #[.slice (some ⟨q1, 0, none⟩) nW c1, .slice (some ⟨q2, 0, none⟩) k c2]) ∧ W.heap.size ≤ q1 ∧ W.heap.size ≤ q2 ∧ q1 ≠ q2 ∧ Orw w' q1 c1 (X.tl.drop (spots 0 l).length) ∧ Orw w' q2 c2 (X.tl.take (spots 0 l).length) ∧ Below W.heap.size W w')) := Lib.hid (fun W hW => by
            have hD := HD2.out
            have h3 := spots_len l 0
            have := ngot_ok hW hD.how nW (by rw [hD.len, HnW.out]) (by have := (wid_spots HOK.out).2; have := HnW.out; omega) (by have := HOK.out.1; omega) (by have := Hwd.out; have := HnW.out; omega) (by have := HOK.out.2.1; omega) (by rw [hD.len]; exact Nat.le_refl _)
            unfold NgPost at this
            have e3 : (spots 0 l).length = k := by rw [spots_len]; exact Hln.out
            rw [e3] at this ⊢
            exact this)
          have hfacts : (X.tl.drop (spots 0 l).length).length = nW ∧ (X.tl.take (spots 0 l).length).length = k ∧ (X.tl.drop (spots 0 l).length)[0]? = some 3 ∧ (X.tl.take (spots 0 l).length)[0]? = some 1 := by
            have hD := HD2.out
            have h3 := spots_len l 0
            have h4 := HnW.out
            have h5 := Hwd.out
            have h6 := hD.len
            have h7 := Hln.out
            refine ⟨by rw [List.length_drop]; omega, by rw [List.length_take]; omega, ?_, ?_⟩
            · rw [List.getElem?_drop, Nat.add_zero, List.getElem?_eq_getElem (by omega)]
              have := hD.wd _ (List.getElem?_eq_getElem (by omega))
              rw [this]
            · rw [List.getElem?_take, if_pos (by omega), List.getElem?_eq_getElem (by omega)]
              have := hD.gen 0 _ (by omega) (List.getElem?_eq_getElem (by omega))
              rw [List.getElem?_replicate, if_pos (by omega)] at this
              exact this.symm
          generalize hWS : X.tl.drop (spots 0 l).length = WS at *
          generalize hGS : X.tl.take (spots 0 l).length = GS at *
          have HX := Lib.hid hfacts
          have hnW20 : (nW : Int) ≤ 20 ∧ (n0 : Int) ≤ nW := by have := Hwd.out; have := HnW.out; omega
          obtain ⟨hnW1, hnW2⟩ := hnW20
          clear hWS hGS hfacts hnW
          go_wp2_with fail
          refine (Hgot.out _ HM6.out.sn).mono ?_
          rintro e w6 ⟨q1, c1, q2, c2, rfl, hq1, hq2, hqq, hO1, hO2, hu6⟩
          have H7 := Lib.hid (And.intro (HM6.out.low hu6) (And.intro hO1 hO2))
          have HQ : Hid ((b ≠ q1 ∧ bg ≠ q1 ∧ sa ≠ q1 ∧ o ≠ q1 ∧ gs ≠ q1 ∧ g ≠ q1 ∧ w.heap.size ≤ q1) ∧ (b ≠ q2 ∧ bg ≠ q2 ∧ sa ≠ q2 ∧ o ≠ q2 ∧ gs ≠ q2 ∧ g ≠ q2 ∧ w.heap.size ≤ q2) ∧ q1 ≠ q2) := Lib.hid (by
            have hM := HM6.out
            have l1 := hM.bank.ltb
            have l2 := hM.bank.ltg
            have l3 := hM.spot.lt
            have l4 := hM.sn.lto
            have l5 := hM.sn.ltg
            have l6 := hM.sn.lts
            have l7 := hM.bel.size
            omega)
          clear hq1 hq2 hqq hO1 hO2 hu6 HM6
          go_wp2_with fail
          go_loopw [15] (fun i wr => OwRel2 w b bg sa o gs g q1 c1 q2 c2 nW k (spots 0 l) (⟨0, 0, (0 : Nat) + 2, n0, d0⟩ :: r) X zs tt nW i wr) (fun i _ => nW - (intOf i).toNat)
          case atStart => exact ⟨0, _, _, rfl, by omega, H7.out.2.1, HX.out.1, H7.out.2.2, HX.out.2.1, H7.out.1⟩
          case round =>
            obtain ⟨i, ws, hs, rfl, hi, hO1, hl1, hO2, hl2, hM⟩ := hrel
            by_cases hlt1 : (i : Int) < nW
            · have cv := hO1.cell (i := i) (List.getElem?_eq_getElem (by omega))
              generalize ws[i] = vj at cv
              have fv := hO1.frozen i
              have HV := Lib.hid (And.intro hO1 (And.intro hl1 (And.intro hO2 (And.intro hl2 hM))))
              clear hO1 hl1 hO2 hl2 hM
              go_wp2_with fail
              go_roundw
              case rel =>
                obtain ⟨⟨a1, a2, a3, a4, a5, a6, a7⟩, _, a8⟩ := HQ.out
                obtain ⟨v1, v2, v3, v4, v5⟩ := HV.out
                exact ⟨i + 1, _, _, by go_num, by omega, v1.put i 77, by rw [List.length_set]; exact v2, v3.setFar (p := ⟨q1, i, none⟩) a8.symm _, v4, v5.setFar (p := ⟨q1, i, none⟩) a1 a2 a3 a4 a5 a6 a7 _⟩
              case measure => simp [intOf]; omega
            · obtain rfl : i = nW := by omega
              have H8 := Lib.hid (And.intro hO1 (And.intro hl1 (And.intro hO2 (And.intro hl2 hM))))
              clear hO1 hl1 hO2 hl2 hM H7
              go_wp2_with fail
              go_loopw [16] (fun i' wr => OwRel2 w b bg sa o gs g q1 c1 q2 c2 i k (spots 0 l) (⟨0, 0, (0 : Nat) + 2, n0, d0⟩ :: r) X zs tt k i' wr) (fun i' _ => k - (intOf i').toNat)
              case atStart => exact ⟨0, _, _, rfl, by omega, H8.out.1, H8.out.2.1, H8.out.2.2.1, H8.out.2.2.2.1, H8.out.2.2.2.2⟩
              case round =>
                obtain ⟨i', ws', hs', rfl, hi', hO1, hl1, hO2, hl2, hM⟩ := hrel
                by_cases hlt2 : (i' : Int) < k
                · have cv := hO2.cell (i := i') (List.getElem?_eq_getElem (by omega))
                  generalize hs'[i'] = vj at cv
                  have fv := hO2.frozen i'
                  have HV := Lib.hid (And.intro hO1 (And.intro hl1 (And.intro hO2 (And.intro hl2 hM))))
                  clear hO1 hl1 hO2 hl2 hM
                  go_wp2_with fail
                  go_roundw
                  case rel =>
                    obtain ⟨_, ⟨a1, a2, a3, a4, a5, a6, a7⟩, a8⟩ := HQ.out
                    obtain ⟨v1, v2, v3, v4, v5⟩ := HV.out
                    exact ⟨i' + 1, _, _, by go_num, by omega, v1.setFar (p := ⟨q2, i', none⟩) a8 _, v2, v3.put i' 77, by rw [List.length_set]; exact v4, v5.setFar (p := ⟨q2, i', none⟩) a1 a2 a3 a4 a5 a6 a7 _⟩
                  case measure => simp [intOf]; omega
                · obtain rfl : i' = k := by omega
                  obtain ⟨va, vc, w9, hr9, hu9⟩ := ap_own hO1 hl1 (by omega) 5
                  have Hap := Lib.hid hr9
                  have H9 : Hid (OwM w b bg sa o gs g (spots 0 l) (⟨0, 0, (0 : Nat) + 2, n0, d0⟩ :: r) X zs tt w9) := Lib.hid (by
                    obtain ⟨⟨a1, a2, a3, a4, a5, a6, a7⟩, _⟩ := HQ.out
                    exact ⟨hM.bank.upd hu9 a1 a2, hM.spot.of_block (hu9.block sa hM.spot.lt a3), hM.sn.upd hu9 a4 a5 a6, hM.bel.trans (hu9.below hM.bel.size (fun k hk => by rw [hk]; exact a7))⟩)
                  clear hO1 hl1 hO2 hl2 hM hr9 hu9 H8
                  go_wp2_with (at_builtin; refine wpList_append_run _ rfl _ _ 41 41 rfl _ _ rfl rfl Hap.out ?_)
                  have hT9 := Lib.hid (HT.out.below H9.out.bel)
                  obtain ⟨lb, loff, rfl, _, lc0, _, _, _⟩ := hT9.out 0 _ Ht0.out.at'
                  clear Hap
                  dsimp only at lc0
                  rw [Nat.zero_mul, Nat.add_zero] at lc0
                  have Hlc := Lib.hid lc0
                  clear lc0 hT9
                  go_wp2_with fail
                  refine (Hgot.out _ H9.out.sn).mono ?_
                  rintro e w10 ⟨q3, c3, q4, c4, rfl, hq3, hq4, _, hO3, hO4, hu10⟩
                  have H10 := Lib.hid (H9.out.low hu10)
                  have g0 := hO4.cell HX.out.2.2.2
                  have v0 := hO3.cell HX.out.2.2.1
                  have lc0 := Hlc.out
                  rw [← World.cell?_of_block (w := w9) (w' := w10) (a := ⟨lb, loff, none⟩) (hu10.block lb (World.block_lt_of_cell? _ _ Hlc.out))] at lc0
                  clear hq3 hq4 hO3 hO4 hu10 H9 Hlc
                  have Hst7 : Hid (∀ W, NAt W o gs g (spots 0 l) X → Calls Try.prog 17 #[.pointer (some ⟨o, 0, none⟩), .pointer (some ⟨b, 0, none⟩)] W (Ret (.int .i64 1) W)) := Lib.hid (fun W h => by
                    have := nstep_ended h (.pointer (some ⟨b, 0, none⟩)) (by rw [HD2.out.how]; omega)
                    rw [HD2.out.how] at this
                    exact this)
                  have mtt : (tt != tt) = false := by simp
                  have mii : (((i : Int) + 1) != ((i : Int) + 1)) = false := by simp
                  have mkk : (((i' : Int)) != (i' : Int)) = false := by simp
                  go_wp2_with fail
                  refine (touches_any b bg _ _ _ H10.out.bank).mono ?_
                  rintro e w' ⟨rfl, rfl⟩
                  go_wp2_with fail
                  refine (Hst7.out _ H10.out.sn).mono ?_
                  rintro e w11 ⟨rfl, hu11⟩
                  have H11 := Lib.hid (H10.out.low hu11)
                  clear hu11 H10 g0 v0 lc0
                  go_wp2_with fail
                  refine (touches_any b bg _ _ _ H11.out.bank).mono ?_
                  rintro e w' ⟨rfl, rfl⟩
                  have hz := flt_zero HOK.out HSS.out Ht0.out
                  have hlr : (⟨0, 0, (0 : Nat) + 2, n0, d0⟩ :: r : List Sp).length = i' := by
                    have := spots_len l 0
                    rw [HSS.out] at this
                    have := Hln.out
                    simp at *
                    omega
                  have Hnew2 := Lib.hid (fun W (q : SpB sa (⟨0, 0, (0 : Nat) + 2, n0, d0⟩ :: r) W) => nnew_ok (some ⟨sa, 0, none⟩) cs _ 1 W q.sps hz)
                  rw [hlr] at Hnew2
                  have Hwf := Lib.hid (nwf0 hz)
                  clear hz hlr
                  go_wp2_with fail
                  refine (Hnew2.out _ H11.out.spot).mono ?_
                  rintro e w12 ⟨po, pgs, pg, hpo, hpgs, hpg, rfl, hP12, hu12⟩
                  have H12 : Hid (OwM w b bg sa o gs g (spots 0 l) (⟨0, 0, (0 : Nat) + 2, n0, d0⟩ :: r) X zs tt w12 ∧ NAt w12 po pgs pg (⟨0, 0, (0 : Nat) + 2, n0, d0⟩ :: r) (nst0 1) ∧ w.heap.size ≤ po) := Lib.hid ⟨H11.out.low hu12, hP12, by have := H11.out.bel.size; omega⟩
                  clear hpo hpgs hpg hP12 hu12 H11 Hnew2
                  have Hpn := Lib.hid (nstep_bank_nil H12.out.2.1 Hwf.out)
                  go_wp2_with fail
                  refine Hpn.out.mono ?_
                  rintro e w13 ⟨rfl, hP13, hu13⟩
                  have H13 : Hid (NAt w13 po pgs pg (⟨0, 0, (0 : Nat) + 2, n0, d0⟩ :: r) ⟨3, 0, 0, 0, 1, 0, 0, []⟩ ∧ Below w.heap.size w w13) := Lib.hid (by
                    obtain ⟨q1, q2, q3⟩ := H12.out
                    exact ⟨hP13, Below.ownS q1.bel hu13 q1.bel.size q3 q3 q3⟩)
                  clear Hpn H12 hP13 hu13
                  have He := Lib.hid (nstep_ended H13.out.1 (.pointer (some ⟨b, 0, none⟩)) (by show ¬ (3 : Int) = 0; omega))
                  change Hid (Calls Try.prog 17 #[.pointer (some ⟨po, 0, none⟩), .pointer (some ⟨b, 0, none⟩)] w13 (Ret (.int .i64 3) w13)) at He
                  go_wp2_with fail
                  refine He.out.mono ?_
                  rintro e w14 ⟨rfl, hu14⟩
                  have H14 := Lib.hid (And.intro (H13.out.1.below hu14) (H13.out.2.trans (hu14.mono H13.out.2.size)))
                  clear hu14 H13 He
                  have Hps : Hid (Calls Try.prog 18 #[.pointer (some ⟨po, 0, none⟩)] w14 (Pur (.int .i64 0) w14)) := Lib.hid (nsteps_any H14.out.1)
                  go_wp2_with fail
                  refine Hps.out.mono ?_
                  rintro e w' ⟨rfl, rfl⟩
                  go_wp2_with fail
                  refine (awake_any _).mono ?_
                  rintro e w15 ⟨rfl, hu15⟩
                  have H15 := Lib.hid (H14.out.2.trans (hu15.mono H14.out.2.size))
                  clear hu15
                  go_wp2
                  go_ret
                  exact ⟨rfl, H15.out⟩
theorem own_law (a : Option Addr) (l : List Tp) (cap : Nat) (w : World) (hT : Tps w.heap.size w a l) : Calls Try.prog 7 #[.slice a l.length cap] w (Ret (.bool true) w) := by
  by_cases h : okL l
  · exact own_walk a l cap w hT h
  · exact own_bad a l cap w hT h
end Go.Proofs.Ytflgggfomhifeaa
