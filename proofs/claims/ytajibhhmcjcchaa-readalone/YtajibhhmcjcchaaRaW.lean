/- ReadAlone: its walk. -/
import Derived.Test.YtajibhhmcjcchaaRaM
import Derived.Test.YtajibhhmcjcchaaOwnW
namespace Go.Proofs.Ytajibhhmcjcchaa
open Go.RowKit

set_option maxRecDepth 100000 in
set_option maxHeartbeats 8000000 in
theorem ral_walk (lb loff : Nat) (rs : List Rw) (cap d m : Nat) (w : World) (hR : Rws w.heap.size w (some ⟨lb, loff, none⟩) rs) (h1 : 1 ≤ rs.length) (h2 : rs.length ≤ 20) (r0 : Rw) (hr0 : rs[0]? = some r0) (n : Nat) (hn : r0.2.2.length = n) (n1 : 1 ≤ n) (n2 : n ≤ 64) (d1 : 2 ≤ d) (d2 : d ≤ 16) (hm : m ≤ n + 2) :
    Calls Try.prog 4 #[.slice (some ⟨lb, loff, none⟩) rs.length cap, .int .i64 (d : Int), .int .i64 (m : Int)] w (True1 w) := by
  have HR := Lib.hid hR
  have Hr0 : Hid (∀ W, Below w.heap.size w W → W.cell? ⟨lb, loff, none⟩ = some (.slice r0.1 n r0.2.1)) := Lib.hid (fun W hW => by
    obtain ⟨_, b', off', e, _, hc⟩ := (hR.keep hW) 0 r0 hr0
    cases e
    rw [hn] at hc
    exact hc)
  have Hw0 : Hid (Wds w.heap.size w r0.1 r0.2.2 ∧ r0.2.2.length = n ∧ rs[0]? = some r0) := Lib.hid ⟨(hR 0 r0 hr0).1, hn, hr0⟩
  have Hrt : Rt (spS n d) := by unfold Rt spS; simp only; omega
  have Hnw : Hid (nwE (spS n d) n 1 = 0) := Lib.hid (by
    unfold nwE
    rw [if_pos ((mb_iff _ _).2 ⟨Hrt, by omega, by omega⟩), if_pos (show (n : Int) = (spS n d).wd from rfl)])
  have Hmb := Lib.hid ((mb_iff (spS n d) 1).2 ⟨Hrt, by omega, by omega⟩)
  have Hs := Lib.hid (fun w => spot_ok n d n1 n2 d1 d2 w)
  have k1 : 1 ≤ (rs.length : Int) := by omega
  have k2 : (rs.length : Int) ≤ 20 := by omega
  have k0 : (0 : Int) < rs.length := by omega
  have k3 : 1 ≤ (n : Int) := by omega
  have k4 : (n : Int) ≤ 64 := by omega
  have k5 : 2 ≤ (d : Int) := by omega
  have k6 : (d : Int) ≤ 16 := by omega
  have k7 : 0 ≤ (m : Int) := by omega
  have k8 : (m : Int) ≤ (n : Int) + 2 := by omega
  have c0 := Hr0.out w (Below.refl _ _)
  have Hb := Lib.hid (And.intro n1 (And.intro n2 (And.intro d1 (And.intro d2 (And.intro h1 (And.intro h2 hm))))))
  clear hR h1 h2 hr0 hn n1 n2 d1 d2 hm Hrt
  generalize r0.1 = a0 at *
  generalize r0.2.1 = cap0 at *
  generalize r0.2.2 = ws0 at *
  go_enter Try.func4, Try.ntmps4
  go_wp2_with fail
  refine (Hs.out _).mono ?_
  rintro e w1 ⟨b, bg, hb, hg, rfl, hk1, hb1⟩
  have hk2 := hk1.alloc (bs n d)
  have hb2 := hb1.alloc hb1.size (bs n d)
  have hC := Blk.new w1 #[.int .i64 0, .int .i64 1, .int .i64 2, .int .i64 n, .int .i64 d] 23
  have H1 := Lib.hid (show RaB w b bg w1.heap.size n d (List.replicate (2 + n * d) 0) 0 (w1.alloc (bs n d)) ∧ b ≠ w1.heap.size ∧ bg ≠ w1.heap.size ∧ w.heap.size ≤ b ∧ w.heap.size ≤ bg from ⟨⟨hk2, hC, hb2⟩, by have := hk1.ltb; omega, by have := hk1.ltg; omega, hb, hg⟩)
  clear hk1 hb1 hk2 hb2 hC Hs c0 hb hg
  go_wp2_with fail
  generalize w1.alloc (bs n d) = w2 at H1 ⊢
  generalize w1.heap.size = sp at *
  go_loopw [10] (fun i wr => RaRel1 w b bg sp n d rs (List.replicate (2 + n * d) 0) i wr) (fun i _ => rs.length - (intOf i).toNat)
  case atStart => exact ⟨0, rfl, by omega, fun j r hj _ => by omega, H1.out.1⟩
  case round =>
    obtain ⟨k, rfl, hkm, hlen, hM⟩ := hrel
    have HM := Lib.hid (And.intro hlen hM)
    clear hlen hM
    by_cases hlt : (k : Int) < rs.length
    · have hkk : k < rs.length := by omega
      obtain ⟨_, lb', loff', e, llt, cr⟩ := (HR.out.keep HM.out.2.bel) k _ (List.getElem?_eq_getElem hkk)
      cases e
      have Hrk : Hid (rs[k]? = some rs[k]) := Lib.hid (List.getElem?_eq_getElem hkk)
      generalize rs[k] = r at *
      obtain ⟨ra, rcap, ws⟩ := r
      dsimp only at cr
      have c0 := Hr0.out wr HM.out.2.bel
      go_wp2_with fail
      go_quiet (fail)
      by_cases hwn : ws.length = n
      · subst hwn
        have m0 : ((ws.length : Int) != ws.length) = false := by simp
        go_wp2_with fail
        go_roundw
        case rel => exact ⟨k + 1, by go_num, by omega, fun j r hj hr => by
          by_cases c : j = k
          · subst c
            have h := hr.symm.trans Hrk.out
            cases h
            rfl
          · exact HM.out.1 j r (by omega) hr, HM.out.2.low (belN (Below.refl _ _) _)⟩
        case measure => simp [intOf]; omega
      · have m0 : ((ws.length : Int) != n) = true := by simp; omega
        clear cr c0
        go_wp2_with fail
        refine (awake_any _).mono ?_
        rintro e w3 ⟨rfl, hu3⟩
        have H3 := Lib.hid ((HM.out.2.low (belN (Below.refl _ _) nq)).low hu3).bel
        clear hu3
        go_wp2
        go_ret
        exact ⟨rfl, H3.out⟩
    · obtain rfl : k = rs.length := by omega
      have HL : Hid (∀ (j : Nat) (r : Rw), rs[j]? = some r → r.2.2.length = n) := Lib.hid (fun j r hr => HM.out.1 j r ((List.getElem?_eq_some_iff.1 hr).1) hr)
      have HM1 := Lib.hid HM.out.2
      clear HM
      go_wp2_with fail
      go_loopw [11] (fun i wr => RaRel2 w b bg sp n d rs i wr) (fun i _ => rs.length - (intOf i).toNat)
      case atStart => exact ⟨0, _, 0, rfl, by omega, by simp, by rw [List.getElem?_replicate, if_pos (by omega)]; rfl, fun j r hj => by omega, by omega, by omega, HM1.out⟩
      case round =>
        obtain ⟨k, xs, t, rfl, hkm, hxl, hx1, hpl, t0, t1, hM⟩ := hrel
        by_cases hlt : (k : Int) < rs.length
        · have hkk : k < rs.length := by omega
          obtain ⟨hws, lb', loff', e, llt, cr⟩ := (HR.out.keep hM.bel) k _ (List.getElem?_eq_getElem hkk)
          cases e
          have Hrk : Hid (rs[k]? = some rs[k]) := Lib.hid (List.getElem?_eq_getElem hkk)
          have hln := HL.out k _ Hrk.out
          generalize rs[k] = r at *
          obtain ⟨ra, rcap, ws⟩ := r
          dsimp only at cr hln hws
          rw [hln] at cr
          have HK := Lib.hid (show SpC sp n d ⟨lb, loff + k, none⟩ (.slice ra n rcap) wr.drew ∧ RaB w b bg sp n d xs t wr.drew from ⟨⟨hM.spot.drew, cr⟩, hM.low (belN (Below.refl _ _) 1)⟩)
          have Hpub : Hid (Calls Try.prog 23 #[.pointer (some ⟨b, 0, none⟩), .agg #[.int .i64 0, .int .i64 1, .int .i64 2, .int .i64 n, .int .i64 d], .slice ra n rcap] wr.drew (PubPost b bg n d k ws xs t wr.drew)) := Lib.hid (by
            obtain ⟨p1, p2, p3, p4, p5, p6, p7⟩ := Hb.out
            have hd := belN (Below.refl w.heap.size w) 0
            exact publish_any b bg n d k ra rcap w.heap.size ws xs t _ p1 p2 p3 p4 (by omega) hln (hws.keep (belN (Below.refl w.heap.size wr) 1)) hM.bel.size hM.bank.drew hxl hx1 t0 (by omega))
          have HP := Lib.hid (And.intro hxl (And.intro hx1 (And.intro hln (And.intro t0 t1))))
          clear hM hxl hx1 hpl t0 t1 hln hws cr
          go_wp2_with fail
          refine wp_region_held_drew (S := SpC sp n d ⟨lb, loff + k, none⟩ (.slice ra n rcap)) (by kernel_rfl) (HK.out.1) (fun hHeld => ?_)
          refine wpAnyH_take (i := 0) (v := ?v1) rfl (by kernel_rfl) (by kernel_rfl) (by kernel_rfl) (fun _ _ _ h => h) (Or.inl ⟨by rfl, ?y1⟩) hHeld ?r1
          case y1 => (intro w hSw; obtain ⟨hSp, cS⟩ := hSw; have e0 := hSp.cell (i := 0) rfl; have e1 := hSp.cell (i := 1) rfl; have e2 := hSp.cell (i := 2) rfl; have e3 := hSp.cell (i := 3) rfl; have e4 := hSp.cell (i := 4) rfl; clear hSp; go_simp; try with_reducible rfl)
          simp only [List.getElem_toArray, List.getElem_cons_zero, Act.put, List.setIfInBounds_toArray, List.set_cons_zero, List.set_cons_succ]
          refine wpAnyH_take (i := 1) (v := ?v2) rfl (by kernel_rfl) (by kernel_rfl) (by kernel_rfl) (fun _ _ _ h => h) (Or.inl ⟨by rfl, ?y2⟩) hHeld ?r2
          case y2 => (intro w hSw; obtain ⟨hSp, cS⟩ := hSw; have e0 := hSp.cell (i := 0) rfl; have e1 := hSp.cell (i := 1) rfl; have e2 := hSp.cell (i := 2) rfl; have e3 := hSp.cell (i := 3) rfl; have e4 := hSp.cell (i := 4) rfl; clear hSp; go_simp; try with_reducible rfl)
          simp only [List.getElem_toArray, List.getElem_cons_zero, List.getElem_cons_succ, Act.put, List.setIfInBounds_toArray, List.set_cons_zero, List.set_cons_succ]
          refine wpAnyH_take (i := 2) (v := ?v3) rfl (by kernel_rfl) (by kernel_rfl) (by kernel_rfl) (fun _ _ _ h => h) (Or.inl ⟨by rfl, ?y3⟩) hHeld ?r3
          case y3 => (intro w hSw; obtain ⟨hSp, cS⟩ := hSw; have e0 := hSp.cell (i := 0) rfl; have e1 := hSp.cell (i := 1) rfl; have e2 := hSp.cell (i := 2) rfl; have e3 := hSp.cell (i := 3) rfl; have e4 := hSp.cell (i := 4) rfl; clear hSp; go_simp; try with_reducible rfl)
          simp only [List.getElem_toArray, List.getElem_cons_zero, List.getElem_cons_succ, Act.put, List.setIfInBounds_toArray, List.set_cons_zero, List.set_cons_succ]
          refine wpAnyH_take (i := 3) (v := ?v4) rfl (by kernel_rfl) (by kernel_rfl) (by kernel_rfl) (fun _ _ _ h => h) (Or.inl ⟨by rfl, ?y4⟩) hHeld ?r4
          case y4 => (intro w hSw; obtain ⟨hSp, cS⟩ := hSw; have e0 := hSp.cell (i := 0) rfl; have e1 := hSp.cell (i := 1) rfl; have e2 := hSp.cell (i := 2) rfl; have e3 := hSp.cell (i := 3) rfl; have e4 := hSp.cell (i := 4) rfl; clear hSp; go_simp; try with_reducible rfl)
          simp only [List.getElem_toArray, List.getElem_cons_zero, List.getElem_cons_succ, Act.put, List.setIfInBounds_toArray, List.set_cons_zero, List.set_cons_succ]
          refine wpAnyH_take (i := 4) (v := ?v5) rfl (by kernel_rfl) (by kernel_rfl) (by kernel_rfl) (fun _ _ _ h => h) (Or.inl ⟨by rfl, ?y5⟩) hHeld ?r5
          case y5 => (intro w hSw; obtain ⟨hSp, cS⟩ := hSw; have e0 := hSp.cell (i := 0) rfl; have e1 := hSp.cell (i := 1) rfl; have e2 := hSp.cell (i := 2) rfl; have e3 := hSp.cell (i := 3) rfl; have e4 := hSp.cell (i := 4) rfl; clear hSp; go_simp; try with_reducible rfl)
          simp only [List.getElem_toArray, List.getElem_cons_zero, List.getElem_cons_succ, Act.put, List.setIfInBounds_toArray, List.set_cons_zero, List.set_cons_succ]
          refine wpAnyH_take (i := 5) (v := ?v6) rfl (by kernel_rfl) (by kernel_rfl) (by kernel_rfl) (fun _ _ _ h => h) (Or.inl ⟨by rfl, ?y6⟩) hHeld ?r6
          case y6 => (intro w hSw; obtain ⟨hSp, cS⟩ := hSw; have e0 := hSp.cell (i := 0) rfl; have e1 := hSp.cell (i := 1) rfl; have e2 := hSp.cell (i := 2) rfl; have e3 := hSp.cell (i := 3) rfl; have e4 := hSp.cell (i := 4) rfl; clear hSp; go_simp; try with_reducible rfl)
          simp only [List.getElem_toArray, List.getElem_cons_zero, List.getElem_cons_succ, Act.put, List.setIfInBounds_toArray, List.set_cons_zero, List.set_cons_succ]
          refine wpAnyH_ready (rs := [6]) (by kernel_rfl) (by simp) (AllReadyH.cons rfl (fun K hK => ?_) AllReadyH.nil)
          go_simp
          refine Hpub.out.mono ?_
          rintro e W4 ⟨zs, rfl, hB4, hzl, hz0, hz1, hL, hu4⟩
          have HV4' : Hid (∃ zs : List Int, zs.length = xs.length ∧ zs[1]? = some (2 * (k : Int) + 2) ∧ (zs.length = xs.length) ∧ Laid (plc n d k) n ws xs zs ∧ RaB w b bg sp n d zs (t + n + 3) W4) := Lib.hid (by
            obtain ⟨q1, q2⟩ := HK.out
            obtain ⟨a1, a2, a3, a4⟩ := H1.out.2
            exact ⟨zs, hzl, hz1, hzl, hL, ⟨hB4, q2.spot.of_block (hu4.block _ q2.spot.lt (fun q => by rcases q with q | q <;> omega)), q2.bel.trans (hu4.below q2.bel.size (fun k hk => by rcases hk with rfl | rfl <;> assumption))⟩⟩)
          have HS4 := Lib.hid (show SpC sp n d ⟨lb, loff + k, none⟩ (.slice ra n rcap) W4 from ⟨(by obtain ⟨_, h⟩ := HV4'.out; exact h.2.2.2.2.spot), by
            obtain ⟨q1, q2⟩ := HK.out
            obtain ⟨a1, a2, a3, a4⟩ := H1.out.2
            rw [hu4.cell (World.block_lt_of_cell? _ _ q1.2) (fun q => by rcases q with q | q <;> (simp only at q; omega))]
            exact q1.2⟩)
          clear hB4 hzl hz0 hz1 hL hu4
          go_wp2_with fail
          refine hK.out _ _ (HS4.out) (fun hHeld => ?_)
          clear hK K
          refine wpAnyH_take (i := 7) (v := ?v8) rfl (by kernel_rfl) (by kernel_rfl) (by kernel_rfl) (fun _ _ _ h => h) (Or.inl ⟨by rfl, ?y8⟩) hHeld ?r8
          case y8 => (intro w hSw; obtain ⟨hSp, cS⟩ := hSw; have e0 := hSp.cell (i := 0) rfl; have e1 := hSp.cell (i := 1) rfl; have e2 := hSp.cell (i := 2) rfl; have e3 := hSp.cell (i := 3) rfl; have e4 := hSp.cell (i := 4) rfl; clear hSp; go_simp; try with_reducible rfl)
          simp only [List.getElem_toArray, List.getElem_cons_zero, List.getElem_cons_succ, Act.put, List.setIfInBounds_toArray, List.set_cons_zero, List.set_cons_succ]
          refine wpAnyH_done (by kernel_rfl) ?_ _
          clear hHeld
          have HV4 := Lib.hid HV4'.out
          clear HV4' HK
          go_wp2_with fail
          go_roundw
          case rel =>
            obtain ⟨zs, z1, z2, z3, z4, z5⟩ := HV4.out
            obtain ⟨y1, y2, y3, y4, y5⟩ := HP.out
            obtain ⟨p1, p2, p3, p4, p5, p6, p7⟩ := Hb.out
            refine ⟨k + 1, zs, t + n + 3, by go_num, by omega, z1.trans y1, by rw [z2, show 2 * ((k + 1 : Nat) : Int) = 2 * (k : Int) + 2 by omega], fun j r hj hr i hi => ?_, by omega, by omega, z5⟩
            obtain rfl : j = k := by omega
            have h := hr.symm.trans Hrk.out
            cases h
            have g := (gat_in (n := n) (d := d) (G := j + 1) p3).1
            have e : gat n d (j + 1) = plc n d j := rfl
            rw [e] at g ⊢
            rw [z4 _ (by omega), if_pos ⟨by omega, by omega⟩]
            congr 1
            omega
          case measure => simp [intOf]; omega
        · obtain rfl : k = rs.length := by omega
          have c0 := Hr0.out wr hM.bel
          have HK := Lib.hid (show SpC sp n d ⟨lb, loff, none⟩ (.slice a0 n cap0) wr.drew ∧ RaB w b bg sp n d xs t wr.drew from ⟨⟨hM.spot.drew, c0⟩, hM.low (belN (Below.refl _ _) 1)⟩)
          have Hnew : Hid (Calls Try.prog 24 #[.agg #[.int .i64 0, .int .i64 1, .int .i64 2, .int .i64 n, .int .i64 d], .slice a0 n cap0, .int .i64 1] wr.drew (NewOp (spS n d) ws0 1 wr.drew)) := Lib.hid (by
            have := newo_ok (spS n d) a0 ws0 cap0 1 wr.drew w.heap.size hM.bel.size ((Hw0.out.1.keep hM.bel).keep (belN (Below.refl w.heap.size wr) 1)) (by rw [Hw0.out.2.1]; exact Hnw.out)
            rw [Hw0.out.2.1] at this
            exact this)
          have Hnr : Hid (∀ W, Calls Try.prog 9 #[.agg #[.int .i64 0, .int .i64 1, .int .i64 2, .int .i64 n, .int .i64 d], .int .i64 1] W (RNewOp (spS n d) 1 W)) := Lib.hid (fun W => rnew_ok (spS n d) 1 W Hmb.out)
          have Hwf := Lib.hid (wf0 (S := spS n d) (tr := 1) (by rw [Hw0.out.2.1]; exact Hnw.out) Hw0.out.1.us)
          have HP := Lib.hid (And.intro hxl (And.intro hx1 (And.intro hpl (And.intro t0 t1))))
          clear hM hxl hx1 hpl t0 t1 c0
          go_wp2_with fail
          refine wp_region_held_drew (S := SpC sp n d ⟨lb, loff, none⟩ (.slice a0 n cap0)) (by kernel_rfl) (HK.out.1) (fun hHeld => ?_)
          refine wpAnyH_take (i := 0) (v := ?v9) rfl (by kernel_rfl) (by kernel_rfl) (by kernel_rfl) (fun _ _ _ h => h) (Or.inl ⟨by rfl, ?y9⟩) hHeld ?r9
          case y9 => (intro w hSw; obtain ⟨hSp, cS⟩ := hSw; have e0 := hSp.cell (i := 0) rfl; have e1 := hSp.cell (i := 1) rfl; have e2 := hSp.cell (i := 2) rfl; have e3 := hSp.cell (i := 3) rfl; have e4 := hSp.cell (i := 4) rfl; clear hSp; go_simp; try with_reducible rfl)
          simp only [List.getElem_toArray, List.getElem_cons_zero, Act.put, List.setIfInBounds_toArray, List.set_cons_zero, List.set_cons_succ]
          refine wpAnyH_take (i := 1) (v := ?v10) rfl (by kernel_rfl) (by kernel_rfl) (by kernel_rfl) (fun _ _ _ h => h) (Or.inl ⟨by rfl, ?y10⟩) hHeld ?r10
          case y10 => (intro w hSw; obtain ⟨hSp, cS⟩ := hSw; have e0 := hSp.cell (i := 0) rfl; have e1 := hSp.cell (i := 1) rfl; have e2 := hSp.cell (i := 2) rfl; have e3 := hSp.cell (i := 3) rfl; have e4 := hSp.cell (i := 4) rfl; clear hSp; go_simp; try with_reducible rfl)
          simp only [List.getElem_toArray, List.getElem_cons_zero, List.getElem_cons_succ, Act.put, List.setIfInBounds_toArray, List.set_cons_zero, List.set_cons_succ]
          refine wpAnyH_take (i := 2) (v := ?v11) rfl (by kernel_rfl) (by kernel_rfl) (by kernel_rfl) (fun _ _ _ h => h) (Or.inl ⟨by rfl, ?y11⟩) hHeld ?r11
          case y11 => (intro w hSw; obtain ⟨hSp, cS⟩ := hSw; have e0 := hSp.cell (i := 0) rfl; have e1 := hSp.cell (i := 1) rfl; have e2 := hSp.cell (i := 2) rfl; have e3 := hSp.cell (i := 3) rfl; have e4 := hSp.cell (i := 4) rfl; clear hSp; go_simp; try with_reducible rfl)
          simp only [List.getElem_toArray, List.getElem_cons_zero, List.getElem_cons_succ, Act.put, List.setIfInBounds_toArray, List.set_cons_zero, List.set_cons_succ]
          refine wpAnyH_take (i := 3) (v := ?v12) rfl (by kernel_rfl) (by kernel_rfl) (by kernel_rfl) (fun _ _ _ h => h) (Or.inl ⟨by rfl, ?y12⟩) hHeld ?r12
          case y12 => (intro w hSw; obtain ⟨hSp, cS⟩ := hSw; have e0 := hSp.cell (i := 0) rfl; have e1 := hSp.cell (i := 1) rfl; have e2 := hSp.cell (i := 2) rfl; have e3 := hSp.cell (i := 3) rfl; have e4 := hSp.cell (i := 4) rfl; clear hSp; go_simp; try with_reducible rfl)
          simp only [List.getElem_toArray, List.getElem_cons_zero, List.getElem_cons_succ, Act.put, List.setIfInBounds_toArray, List.set_cons_zero, List.set_cons_succ]
          refine wpAnyH_ready (rs := [4]) (by kernel_rfl) (by simp) (AllReadyH.cons rfl (fun K hK => ?_) AllReadyH.nil)
          go_simp
          refine Hnew.out.mono ?_
          rintro e W3 ⟨o, g, ho, hgo, rfl, hO, hu3⟩
          have HG : Hid (RaB w b bg sp n d xs t W3 ∧ OpAt W3 o g (spS n d) ws0 (st0 1) ∧ (b < o ∧ bg < o ∧ b < g ∧ bg < g ∧ w.heap.size ≤ o)) := Lib.hid (by
            obtain ⟨q1, q2⟩ := HK.out
            have l1 := q2.bank.ltb
            have l2 := q2.bank.ltg
            have l3 := q2.bel.size
            exact ⟨q2.low hu3, hO, by omega⟩)
          have HS3 := Lib.hid (show SpC sp n d ⟨lb, loff, none⟩ (.slice a0 n cap0) W3 from ⟨HG.out.1.spot, cell_low hu3 HK.out.1.2⟩)
          clear hO hu3 ho hgo
          go_wp2_with fail
          refine hK.out _ _ (HS3.out) (fun hHeld => ?_)
          clear hK K
          refine wpAnyH_take (i := 5) (v := ?v14) rfl (by kernel_rfl) (by kernel_rfl) (by kernel_rfl) (fun _ _ _ h => h) (Or.inl ⟨by rfl, ?y14⟩) hHeld ?r14
          case y14 => (intro w hSw; obtain ⟨hSp, cS⟩ := hSw; have e0 := hSp.cell (i := 0) rfl; have e1 := hSp.cell (i := 1) rfl; have e2 := hSp.cell (i := 2) rfl; have e3 := hSp.cell (i := 3) rfl; have e4 := hSp.cell (i := 4) rfl; clear hSp; go_simp; try with_reducible rfl)
          simp only [List.getElem_toArray, List.getElem_cons_zero, List.getElem_cons_succ, Act.put, List.setIfInBounds_toArray, List.set_cons_zero, List.set_cons_succ]
          refine wpAnyH_take (i := 6) (v := ?v15) rfl (by kernel_rfl) (by kernel_rfl) (by kernel_rfl) (fun _ _ _ h => h) (Or.inl ⟨by rfl, ?y15⟩) hHeld ?r15
          case y15 => (intro w hSw; obtain ⟨hSp, cS⟩ := hSw; have e0 := hSp.cell (i := 0) rfl; have e1 := hSp.cell (i := 1) rfl; have e2 := hSp.cell (i := 2) rfl; have e3 := hSp.cell (i := 3) rfl; have e4 := hSp.cell (i := 4) rfl; clear hSp; go_simp; try with_reducible rfl)
          simp only [List.getElem_toArray, List.getElem_cons_zero, List.getElem_cons_succ, Act.put, List.setIfInBounds_toArray, List.set_cons_zero, List.set_cons_succ]
          refine wpAnyH_take (i := 7) (v := ?v16) rfl (by kernel_rfl) (by kernel_rfl) (by kernel_rfl) (fun _ _ _ h => h) (Or.inl ⟨by rfl, ?y16⟩) hHeld ?r16
          case y16 => (intro w hSw; obtain ⟨hSp, cS⟩ := hSw; have e0 := hSp.cell (i := 0) rfl; have e1 := hSp.cell (i := 1) rfl; have e2 := hSp.cell (i := 2) rfl; have e3 := hSp.cell (i := 3) rfl; have e4 := hSp.cell (i := 4) rfl; clear hSp; go_simp; try with_reducible rfl)
          simp only [List.getElem_toArray, List.getElem_cons_zero, List.getElem_cons_succ, Act.put, List.setIfInBounds_toArray, List.set_cons_zero, List.set_cons_succ]
          refine wpAnyH_take (i := 8) (v := ?v17) rfl (by kernel_rfl) (by kernel_rfl) (by kernel_rfl) (fun _ _ _ h => h) (Or.inl ⟨by rfl, ?y17⟩) hHeld ?r17
          case y17 => (intro w hSw; obtain ⟨hSp, cS⟩ := hSw; have e0 := hSp.cell (i := 0) rfl; have e1 := hSp.cell (i := 1) rfl; have e2 := hSp.cell (i := 2) rfl; have e3 := hSp.cell (i := 3) rfl; have e4 := hSp.cell (i := 4) rfl; clear hSp; go_simp; try with_reducible rfl)
          simp only [List.getElem_toArray, List.getElem_cons_zero, List.getElem_cons_succ, Act.put, List.setIfInBounds_toArray, List.set_cons_zero, List.set_cons_succ]
          refine wpAnyH_take (i := 9) (v := ?v18) rfl (by kernel_rfl) (by kernel_rfl) (by kernel_rfl) (fun _ _ _ h => h) (Or.inl ⟨by rfl, ?y18⟩) hHeld ?r18
          case y18 => (intro w hSw; obtain ⟨hSp, cS⟩ := hSw; have e0 := hSp.cell (i := 0) rfl; have e1 := hSp.cell (i := 1) rfl; have e2 := hSp.cell (i := 2) rfl; have e3 := hSp.cell (i := 3) rfl; have e4 := hSp.cell (i := 4) rfl; clear hSp; go_simp; try with_reducible rfl)
          simp only [List.getElem_toArray, List.getElem_cons_zero, List.getElem_cons_succ, Act.put, List.setIfInBounds_toArray, List.set_cons_zero, List.set_cons_succ]
          refine wpAnyH_done (by kernel_rfl) ?_ _
          clear hHeld HK
          have e0 := HG.out.1.spot.cell (i := 0) rfl
          have e1 := HG.out.1.spot.cell (i := 1) rfl
          have e2 := HG.out.1.spot.cell (i := 2) rfl
          have e3 := HG.out.1.spot.cell (i := 3) rfl
          have e4 := HG.out.1.spot.cell (i := 4) rfl
          go_wp2_with fail
          refine (Hnr.out _).mono ?_
          rintro e w4 ⟨p, pg, hp, hpg, rfl, hP4, hu4⟩
          have H4 : Hid (RaB w b bg sp n d xs t w4 ∧ OpAt w4 o g (spS n d) ws0 (st0 1) ∧ RdAt w4 p pg (spS n d) (rst0 1)) := Lib.hid ⟨HG.out.1.low hu4, HG.out.2.1.below hu4, hP4⟩
          have HD : Hid ((o ≠ b ∧ o ≠ bg ∧ g ≠ b ∧ g ≠ bg ∧ w.heap.size ≤ o) ∧ (p ≠ b ∧ p ≠ bg ∧ pg ≠ b ∧ pg ≠ bg ∧ p ≠ o ∧ pg ≠ o ∧ w.heap.size ≤ p ∧ w.heap.size ≤ pg) ∧ w.heap.size ≤ b ∧ w.heap.size ≤ bg) := Lib.hid (by
            have l1 := HG.out.1.bank.ltb
            have l2 := HG.out.1.bank.ltg
            have l3 := HG.out.2.1.lto
            have l4 := HG.out.2.1.ltg
            have l5 := HG.out.1.bel.size
            have l6 := HG.out.2.2
            have l7 := H1.out.2
            refine ⟨⟨by omega, by omega, by omega, by omega, by omega⟩, ⟨by omega, by omega, by omega, by omega, by omega, by omega, by omega, by omega⟩, by omega, by omega⟩)
          clear HG hp hpg hP4 hu4 e0 e1 e2 e3 e4 Hnr Hnew
          go_wp2_with fail
          go_loopw [16] (fun i wr => RaRel3 w b bg o g p pg n d rs.length ws0 xs t m i wr) (fun i _ => m - (intOf i).toNat)
          case atStart => exact ⟨0, st0 1, xs, rfl, by omega, ⟨rfl, rfl, .inl ⟨rfl, rfl, rfl⟩⟩, H4.out.2.1, (by rw [show ((0 : Nat) : Int) = 0 from rfl, Int.add_zero]; exact H4.out.1.bank), Hwf.out, rfl, H4.out.2.2, H4.out.1.bel⟩
          case round =>
            obtain ⟨j, x, zs, rfl, hj, hI, hO, hK, hwf, hst, hP, hbel⟩ := hrel
            by_cases hlt2 : (j : Int) < m
            · obtain ⟨p1, p2, p3, p4, p5, p6, p7⟩ := Hb.out
              obtain ⟨y1, y2, y3, y4, y5⟩ := HP.out
              obtain ⟨hI2, ha, hs2, hh2⟩ := al_step p1 p2 p3 p4 (by omega) y1 Hw0.out.2.1 y2 hI (by omega)
              obtain ⟨⟨e1, e2, e3, e4, e5⟩, ⟨f1, f2, f3, f4, f5, f6, f7, f8⟩, f9, f10⟩ := HD.out
              have Hst := Lib.hid (step_any hO hK e1 e2 e3 e4 hwf (by omega) (by omega) (by omega) (by omega))
              have Hwf2 := Lib.hid (wf_stp hwf hK.rng)
              have HI2 := Lib.hid (And.intro hI2 (And.intro ha hs2))
              have HPb := Lib.hid (And.intro hP hbel)
              have hj66 : (j : Int) ≤ 66 := by omega
              clear hI2 ha hs2 hh2 hI hO hK hwf hst hP hbel p1 p2 p3 p4 p5 p6 p7 y1 y2 y3 y4 y5 e1 e2 e3 e4 e5 f1 f2 f3 f4 f5 f6 f7 f8 f9 f10
              generalize stp (spS n d) ws0 zs x = r at *
              go_wp2_with fail
              refine Hst.out.mono ?_
              rintro e w5 ⟨rfl, hO2, hK2, hu2⟩
              have HX : Hid (AlInv n d rs.length ws0 xs (j + 1) r.1 r.2.1 ∧ OpAt w5 o g (spS n d) ws0 r.1 ∧ Bk w5 b bg r.2.1 (t + ((j + 1 : Nat) : Int)) ∧ Wf (spS n d) ws0 r.1 ∧ r.1.steps = ((j + 1 : Nat) : Int) ∧ RdAt w5 p pg (spS n d) (rst0 1) ∧ Below w.heap.size w w5) := Lib.hid (by
                obtain ⟨hI2, ha, hs2⟩ := HI2.out
                rw [ha] at hK2
                obtain ⟨⟨e1, e2, e3, e4, e5⟩, ⟨f1, f2, f3, f4, f5, f6, f7, f8⟩, f9, f10⟩ := HD.out
                have nO : ∀ q, q ≠ o → q ≠ b → q ≠ bg → ¬ OwnS o b bg q := fun q c1 c2 c3 c => by rcases c with c | c | c <;> contradiction
                exact ⟨hI2, hO2, (by rw [show ((j + 1 : Nat) : Int) = (j : Int) + 1 by omega, ← Int.add_assoc]; exact hK2), Hwf2.out, by omega, HPb.out.1.upd hu2 (nO _ f5 f1 f2) (nO _ f6 f3 f4), Below.ownS HPb.out.2 hu2 HPb.out.2.size e5 f9 f10⟩)
              clear Hst hu2 HI2 hO2 hK2 Hwf2 HPb
              go_wp2_with fail
              go_roundw
              case rel => exact ⟨j + 1, r.1, r.2.1, by go_num, by omega, HX.out⟩
              case measure => simp [intOf]; omega
            · obtain rfl : j = m := by omega
              have HZ : Hid (zs.length = 2 + n * d ∧ (∃ v : Int, zs[1]? = some v ∧ v / 2 = rs.length ∧ 0 ≤ v ∧ v ≤ 2 * (rs.length : Int) + 1) ∧ ∀ r : Rw, rs[rs.length - 1]? = some r → (zs.drop (gat n d rs.length)).take n = r.2.2) := Lib.hid (by
                obtain ⟨p1, p2, p3, p4, p5, p6, p7⟩ := Hb.out
                obtain ⟨y1, y2, y3, y4, y5⟩ := HP.out
                obtain ⟨hA, hv⟩ := al_place p3 y2 hI (by omega)
                refine ⟨hI.1.trans y1, hv, fun r hr => place_eq (HL.out _ r hr) (fun i hi => ?_)⟩
                rw [hA i hi]
                exact y3 (rs.length - 1) r (by omega) hr i hi)
              have ht : 0 ≤ t + j ∧ t + j ≤ 2000 := by have := HP.out.2.2.2; omega
              obtain ⟨ht0, ht1⟩ := ht
              generalize t + (j : Int) = T at *
              have HB := Lib.hid (And.intro hK (And.intro hP hbel))
              clear hK hP hbel hO hwf hst hI HP
              go_wp2_with fail
              refine (clone_any b bg zs T _ HB.out.1 (by have := HZ.out.1; have := Hb.out; have : n * d ≤ 64 * 16 := Nat.mul_le_mul (by omega) (by omega); omega)).mono ?_
              rintro e w6 ⟨b2, g2, hb2, hg2, rfl, hK2, hu6⟩
              have H6 : Hid (Bk w6 b bg zs T ∧ Bk w6 b2 g2 zs T ∧ RdAt w6 p pg (spS n d) (rst0 1) ∧ Below w.heap.size w w6) := Lib.hid ⟨HB.out.1.below hu6, hK2, HB.out.2.1.below hu6, HB.out.2.2.trans (hu6.mono HB.out.2.2.size)⟩
              have HD2 : Hid (b2 ≠ b ∧ b2 ≠ bg ∧ g2 ≠ b ∧ g2 ≠ bg ∧ b2 ≠ p ∧ b2 ≠ pg ∧ g2 ≠ p ∧ g2 ≠ pg) := Lib.hid (by
                have l1 := HB.out.1.ltb
                have l2 := HB.out.1.ltg
                have l3 := HB.out.2.1.lto
                have l4 := HB.out.2.1.ltg
                omega)
              have c0 := Hr0.out w6 H6.out.2.2.2
              clear HB hb2 hg2 hK2 hu6 H4
              go_wp2_with fail
              go_loopw [19, 20, 21] (fun i _ _ wr => RaRel4 w b bg b2 g2 p pg n d rs.length zs T i wr) (fun i _ _ _ => n + 3 - (intOf i).toNat)
              case atStart => exact ⟨0, rfl, by omega, (by rw [show ((0 : Nat) : Int) = 0 from rfl, Int.add_zero]; exact H6.out.1), H6.out.2.1, (by rw [rqa_zero]; exact H6.out.2.2.1), H6.out.2.2.2⟩
              case round =>
                clear H6
                obtain ⟨j, rfl, hj, hK, hK2, hRd, hbel⟩ := hrel
                have HM := Lib.hid (And.intro hK (And.intro hK2 (And.intro hRd hbel)))
                clear hK hK2 hRd hbel
                by_cases hlt4 : (j : Int) + 1 ≤ (n : Int) + 2
                · have hjj : (j : Int) ≤ 66 := by omega
                  have Hst : Hid (Calls Try.prog 16 #[.pointer (some ⟨p, 0, none⟩), .pointer (some ⟨b, 0, none⟩)] wr (RdPost p pg b bg (spS n d) zs (rqa zs n 1 rs.length (gat n d rs.length) (j + 1), 1) (T + j) wr)) := Lib.hid (by
                    obtain ⟨p1, p2, p3, p4, p5, p6, p7⟩ := Hb.out
                    obtain ⟨z1, ⟨v, z2, z3, z4, z5⟩, _⟩ := HZ.out
                    obtain ⟨_, ⟨f1, f2, f3, f4, f5, f6, f7, f8⟩, f9, f10⟩ := HD.out
                    obtain ⟨hK, hK2, hRd, hbel⟩ := HM.out
                    have hw := rwf_rqa (zs := zs) (n := n) (d := d) (G := rs.length) (tr := 1) p1 p2 p3 p4 (by omega) (by omega) hK.rng (by unfold U64; omega) j hj
                    have hs := rqa_steps (xs := zs) (n := n) (d := d) (G := rs.length) (tr := 1) j
                    have := rstep_any hRd hK f1 f2 f3 f4 hw (by omega) (by omega) (by rw [hs]; omega) (by rw [hs]; omega)
                    rw [rqa_step z2 z3 (by unfold U64; omega) p1 p2 p3 p4 (by omega) (by omega)] at this
                    exact this)
                  have Hss := Lib.hid (rqa_steps (xs := zs) (n := n) (d := d) (G := rs.length) (tr := 1) (j + 1))
                  have Hhow : Hid ((j + 1 = n + 2 ∧ (rqa zs n 1 rs.length (gat n d rs.length) (j + 1)).how = 1) ∨ (j + 1 < n + 2 ∧ (rqa zs n 1 rs.length (gat n d rs.length) (j + 1)).how = 0)) := Lib.hid (by
                    by_cases c : j + 1 = n + 2
                    · exact .inl ⟨c, by rw [c, rqa_end]; rfl⟩
                    · exact .inr ⟨by omega, rqa_how (by omega)⟩)
                  have Hgo := Lib.hid (show ∀ W, Bk W b bg zs (T + j + 1) → Bk W b bg zs (T + ((j + 1 : Nat) : Int)) from fun W h => by rw [show ((j + 1 : Nat) : Int) = (j : Int) + 1 by omega, ← Int.add_assoc]; exact h)
                  obtain ⟨Y, hY⟩ : ∃ Y, rqa zs n 1 rs.length (gat n d rs.length) (j + 1) = Y := ⟨_, rfl⟩
                  rw [hY] at Hst Hss Hhow
                  have HY := Lib.hid hY
                  clear hY
                  have hT1 : 0 ≤ T + (j : Int) := by omega
                  have hT2 : T + (j : Int) ≤ 3000 := by omega
                  go_wp2_with fail
                  refine (touches_any b bg _ _ _ HM.out.1).mono ?_
                  rintro e w' ⟨rfl, rfl⟩
                  go_wp2_with fail
                  refine Hst.out.mono ?_
                  rintro e w7 ⟨rfl, hR7, hK7, hu7⟩
                  have H7 : Hid (Bk w7 b bg zs (T + j + 1) ∧ Bk w7 b2 g2 zs T ∧ RdAt w7 p pg (spS n d) Y ∧ Below w.heap.size w w7) := Lib.hid (by
                    obtain ⟨hK, hK2, hRd, hbel⟩ := HM.out
                    obtain ⟨a1, a2, a3, a4, a5, a6, a7, a8⟩ := HD2.out
                    obtain ⟨_, ⟨f1, f2, f3, f4, f5, f6, f7, f8⟩, f9, f10⟩ := HD.out
                    have nO : ∀ q, q ≠ p → q ≠ pg → q ≠ b → q ≠ bg → ¬ OwnR p pg b bg q := fun q c1 c2 c3 c4 c => by rcases c with c | c | c | c <;> contradiction
                    exact ⟨hK7, hK2.upd hu7 (nO _ a5 a6 a1 a2) (nO _ a7 a8 a3 a4), hR7, Below.ownR hbel hu7 hbel.size f7 f8 f9 f10⟩)
                  clear hR7 hK7 hu7 Hst HM
                  have hss := rsteps_any H7.out.2.2.1
                  rw [Hss.out] at hss
                  have Hsn := Lib.hid (show Calls Try.prog 17 #[.pointer (some ⟨p, 0, none⟩)] w7 (Pur (.int .i64 ((j : Int) + 1)) w7) from (by rw [show ((j + 1 : Nat) : Int) = (j : Int) + 1 by omega] at hss; exact hss))
                  clear hss
                  have mT : ((T + (j : Int) + 1) != (T + (j : Int) + 1)) = false := by simp
                  have mJ : (((j : Int) + 1) != ((j : Int) + 1)) = false := by simp
                  rcases Hhow.out with ⟨c, hh⟩ | ⟨c, hh⟩
                  · rw [hh]
                    have m1 : (((j : Int) + 1) == (n : Int) + 2) = true := by simp; omega
                    have m2 : decide (((j : Int) + 1) < (n : Int) + 2) = false := by simp; omega
                    clear hh c
                    go_wp2_with fail
                    refine (touches_any b bg _ _ _ H7.out.1).mono ?_
                    rintro e w' ⟨rfl, rfl⟩
                    go_wp2_with fail
                    refine Hsn.out.mono ?_
                    rintro e w' ⟨rfl, rfl⟩
                    go_wp2_with fail
                    go_roundw
                    case rel => exact ⟨j + 1, by go_num, by omega, Hgo.out _ H7.out.1, H7.out.2.1, (by rw [HY.out]; exact H7.out.2.2.1), H7.out.2.2.2⟩
                    case measure => simp [intOf]; omega
                  · rw [hh]
                    have m1 : (((j : Int) + 1) == (n : Int) + 2) = false := by simp; omega
                    have m2 : decide (((j : Int) + 1) < (n : Int) + 2) = true := by simp; omega
                    clear hh c
                    go_wp2_with fail
                    refine (touches_any b bg _ _ _ H7.out.1).mono ?_
                    rintro e w' ⟨rfl, rfl⟩
                    go_wp2_with fail
                    refine Hsn.out.mono ?_
                    rintro e w' ⟨rfl, rfl⟩
                    go_wp2_with fail
                    go_roundw
                    case rel => exact ⟨j + 1, by go_num, by omega, Hgo.out _ H7.out.1, H7.out.2.1, (by rw [HY.out]; exact H7.out.2.2.1), H7.out.2.2.2⟩
                    case measure => simp [intOf]; omega
                · obtain rfl : j = n + 2 := by omega
                  rw [rqa_end] at HM
                  have HE : Hid ((∀ r : Rw, rs[rs.length - 1]? = some r → (rqE zs n 1 rs.length (gat n d rs.length)).rw = r.2.2) ∧ (rqE zs n 1 rs.length (gat n d rs.length)).gen = rs.length ∧ (rqE zs n 1 rs.length (gat n d rs.length)).how = 1 ∧ (rqE zs n 1 rs.length (gat n d rs.length)).bgn = 1) := Lib.hid ⟨HZ.out.2.2, rfl, rfl, rfl⟩
                  generalize rqE zs n 1 rs.length (gat n d rs.length) = X at *
                  have hzl : (zs.length : Int) ≤ 1026 := by have := HZ.out.1; have : n * d ≤ 64 * 16 := Nat.mul_le_mul (by have := Hb.out; omega) (by have := Hb.out; omega); omega
                  go_wp2_with fail
                  go_loopw [22] (fun i wr => RaRel5 w b bg b2 g2 p pg n d X zs T (T + ((n + 2 : Nat) : Int)) i wr) (fun i _ => zs.length - (intOf i).toNat)
                  case atStart => exact ⟨0, rfl, by omega, HM.out.1, HM.out.2.1, HM.out.2.2.1, HM.out.2.2.2⟩
                  case round =>
                    clear HM
                    obtain ⟨q, rfl, hq, hK, hK2, hRd, hbel⟩ := hrel
                    have HM := Lib.hid (And.intro hK (And.intro hK2 (And.intro hRd hbel)))
                    clear hK hK2 hRd hbel
                    by_cases hlt5 : (q : Int) < zs.length
                    · have hqq : q < zs.length := by omega
                      have hv : zs[q]? = some zs[q] := List.getElem?_eq_getElem hqq
                      have Hv := Lib.hid hv
                      clear hv
                      generalize zs[q] = v at *
                      have mv : (v != v) = false := by simp
                      go_wp2_with fail
                      refine (len_any b bg _ _ _ HM.out.1).mono ?_
                      rintro e w' ⟨rfl, rfl⟩
                      go_wp2_with fail
                      refine (peek_in b bg _ _ v q _ HM.out.1 Hv.out).mono ?_
                      rintro e w8 ⟨rfl, hK8, hu8⟩
                      have H8 := Lib.hid (And.intro hK8 (And.intro (HM.out.2.1.below hu8) (And.intro (HM.out.2.2.1.below hu8) (HM.out.2.2.2.trans (hu8.mono HM.out.2.2.2.size)))))
                      clear hK8 hu8 HM
                      go_wp2_with fail
                      refine (peek_in b2 g2 _ _ v q _ H8.out.2.1 Hv.out).mono ?_
                      rintro e w9 ⟨rfl, hK9, hu9⟩
                      have H9 := Lib.hid (And.intro (H8.out.1.below hu9) (And.intro hK9 (And.intro (H8.out.2.2.1.below hu9) (H8.out.2.2.2.trans (hu9.mono H8.out.2.2.2.size)))))
                      clear hK9 hu9 H8
                      go_wp2_with fail
                      go_roundw
                      case rel => exact ⟨q + 1, by go_num, by omega, H9.out⟩
                      case measure => simp [intOf]; omega
                    · obtain ⟨L, hL⟩ : ∃ L, rs.length = L + 1 := ⟨rs.length - 1, by have := Hb.out; omega⟩
                      obtain ⟨r, hr⟩ : ∃ r, rs[L]? = some r := ⟨_, List.getElem?_eq_getElem (by omega)⟩
                      obtain ⟨hws, lb', loff', e, llt, _⟩ := HR.out L r hr
                      cases e
                      have hln := HL.out L r hr
                      have Hcr : Hid (∀ W, Below w.heap.size w W → W.cell? ⟨lb, loff + L, none⟩ = some (.slice r.1 n r.2.1) ∧ Wds w.heap.size W r.1 r.2.2) := Lib.hid (fun W hW => by
                        obtain ⟨hws, lb', loff', e, _, hc⟩ := (HR.out.keep hW) L r hr
                        cases e
                        rw [hln] at hc
                        exact ⟨hc, hws⟩)
                      have Hgot : Hid (∀ W, RdAt W p pg (spS n d) X → Calls Try.prog 18 #[.pointer (some ⟨p, 0, none⟩)] W (fun e w' => ∃ q : Nat, W.heap.size ≤ q ∧ e = .returned (.tuple #[.slice (some ⟨q, 0, none⟩) n n, .int .u64 ((L : Int) + 1)]) ∧ Blk w' q (r.2.2.map (Value.int .u64)) ∧ Below W.heap.size W w')) := Lib.hid (fun W h => by
                        obtain ⟨y1, y2, y3, y4⟩ := HE.out
                        have y1' := y1 r (by rw [hL]; exact hr)
                        have := got_ok h y3 (by rw [y1', hln]; have := Hb.out; omega)
                        unfold GotPost at this
                        rw [y1', y2, hln, hL] at this
                        exact this)
                      have Hat : Hid (∀ W, RdAt W p pg (spS n d) X → Calls Try.prog 20 #[.pointer (some ⟨p, 0, none⟩)] W (Pur (.int .i64 1) W)) := Lib.hid (fun W h => by
                        obtain ⟨y1, y2, y3, y4⟩ := HE.out
                        have := rat_pur h
                        unfold rat at this
                        rw [if_pos y3, y4] at this
                        exact this)
                      have Hln := Lib.hid hln
                      clear hr hln hws llt hq HE HL Hr0 Hw0 HR
                      rw [hL] at k0 k1 k2 ⊢
                      clear hL
                      go_wp2_with fail
                      refine (len_any b bg _ _ _ HM.out.1).mono ?_
                      rintro e w' ⟨rfl, rfl⟩
                      go_wp2_with fail
                      refine (Hgot.out _ HM.out.2.2.1).mono ?_
                      rintro e w8 ⟨q1, hq1, rfl, hB8, hu8⟩
                      have H8 : Hid (Blk w8 q1 (r.2.2.map (Value.int .u64)) ∧ RdAt w8 p pg (spS n d) X ∧ Below w.heap.size w w8) := Lib.hid ⟨hB8, HM.out.2.2.1.below hu8, HM.out.2.2.2.trans (hu8.mono HM.out.2.2.2.size)⟩
                      clear hq1 hB8 hu8 HM
                      have cL := (Hcr.out _ H8.out.2.2).1
                      have Hwd : Hid (Calls Try.prog 19 #[.slice (some ⟨q1, 0, none⟩) n n, .slice r.1 n r.2.1] w8 (Ret (.bool true) w8)) := Lib.hid (by
                        have := words_any (some ⟨q1, 0, none⟩) r.1 r.2.2 r.2.2 n r.2.1 w8 (Rdw.of_blk H8.out.1) (Hcr.out _ H8.out.2.2).2.rdw (by rw [Hln.out]; have := Hb.out; omega)
                        rw [decide_eq_true rfl, Hln.out] at this
                        exact this)
                      have L0 : 0 ≤ (L : Int) := by omega
                      have L1 : (L : Int) ≤ 19 := by omega
                      have mL : (((L : Int) + 1) == ((L : Int) + 1)) = true := by simp
                      generalize r.1 = ra at *
                      generalize r.2.1 = rcap at *
                      go_wp2_with fail
                      refine Hwd.out.mono ?_
                      rintro e w9 ⟨rfl, hu9⟩
                      have H9 := Lib.hid (And.intro (H8.out.2.1.below hu9) (H8.out.2.2.trans (hu9.mono H8.out.2.2.size)))
                      clear hu9 Hwd cL
                      go_wp2_with fail
                      refine (Hat.out _ H9.out.1).mono ?_
                      rintro e w' ⟨rfl, rfl⟩
                      go_wp2_with fail
                      refine (awake_any _).mono ?_
                      rintro e w10 ⟨rfl, hu10⟩
                      have H10 := Lib.hid (H9.out.2.trans (hu10.mono H9.out.2.size))
                      clear hu10
                      go_wp2
                      go_ret
                      exact ⟨rfl, H10.out⟩
theorem ral_law (a : Option Addr) (rs : List Rw) (cap : Nat) (d m : Int) (w : World) (hR : Rws w.heap.size w a rs) : Calls Try.prog 4 #[.slice a rs.length cap, .int .i64 d, .int .i64 m] w (True1 w) := by
  by_cases h : 1 ≤ rs.length ∧ rs.length ≤ 20
  · obtain ⟨r0, hr0⟩ : ∃ r, rs[0]? = some r := ⟨_, List.getElem?_eq_getElem (by omega)⟩
    obtain ⟨_, lb, loff, rfl, _, hc⟩ := hR 0 r0 hr0
    by_cases h2 : 1 ≤ r0.2.2.length ∧ r0.2.2.length ≤ 64 ∧ 2 ≤ d ∧ d ≤ 16 ∧ 0 ≤ m ∧ m ≤ (r0.2.2.length : Int) + 2
    · obtain ⟨a1, a2, a3, a4, a5, a6⟩ := h2
      obtain ⟨dn, rfl⟩ := Int.eq_ofNat_of_zero_le (by omega : 0 ≤ d)
      obtain ⟨mn, rfl⟩ := Int.eq_ofNat_of_zero_le a5
      exact ral_walk lb loff rs cap dn mn w hR h.1 h.2 r0 hr0 _ rfl a1 a2 (by omega) (by omega) (by omega)
    · exact ral_bad lb loff rs.length cap d m w _ _ _ h.1 h.2 hc h2
  · exact ral_few a _ cap d m w (by omega)
end Go.Proofs.Ytajibhhmcjcchaa
