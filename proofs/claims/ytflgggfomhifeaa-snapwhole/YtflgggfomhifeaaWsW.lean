/- SnapWhole: its walk. -/
import Derived.Test.YtflgggfomhifeaaWsB
namespace Go.Proofs.Ytflgggfomhifeaa
open Go.RowKit

set_option maxRecDepth 100000 in
set_option maxHeartbeats 16000000 in
theorem whole_walk (a : Option Addr) (l : List Tp) (cap : Nat) (fi tr : Int) (pa : Option Addr) (ps : List Int) (pc : Nat) (w : World) (hT : Tps w.heap.size w a l) (hM : Ids w.heap.size w pa ps) (h : okL l) (hfi : U64 fi) (t1 : 1 ≤ tr) (t2 : tr ≤ 16) (hp : ps.length ≤ 400) :
    Calls Try.prog 4 #[.slice a l.length cap, .agg #[.int .u64 fi, .int .i64 tr], .slice pa ps.length pc] w (Ret (.bool true) w) := by
  have hbl := (Below.refl w.heap.size w).alloc (Nat.le_refl _) (.cells #[.int .u64 fi, .int .i64 tr] 58)
  have Hly := Lib.hid (lay_ok a cap l (w.alloc (.cells #[.int .u64 fi, .int .i64 tr] 58)) ((hT.below hbl).mono' hbl.size) h)
  have H0 := Lib.hid (And.intro hbl (And.intro (Blk.new w #[.int .u64 fi, .int .i64 tr] 58) (show (w.alloc (.cells #[.int .u64 fi, .int .i64 tr] 58)).heap.size = w.heap.size + 1 by simp)))
  have HT := Lib.hid hT
  have HM := Lib.hid hM
  have HOK := Lib.hid h
  have Hfi := Lib.hid hfi
  have Htr := Lib.hid (And.intro t1 t2)
  have h1 : 1 ≤ (l.length : Int) := by have := h.1; omega
  have h2 : (l.length : Int) ≤ 5 := by have := h.2.1; omega
  have Hl5 := Lib.hid (And.intro h1 h2)
  obtain ⟨pn, hpn⟩ : ∃ pn, ps.length = pn := ⟨_, rfl⟩
  have Hpn := Lib.hid hpn
  rw [hpn] at hp ⊢
  have hp' : (pn : Int) ≤ 400 := by omega
  have Hmk1 := Lib.hid (fun W => make_nils l.length (by omega) W)
  have Hmk2 := Lib.hid (fun W => make_ptr l.length (by omega) W)
  have Hmk3 := Lib.hid (fun W => make_mine l.length (by omega) W)
  clear h hT hM hpn hp hbl hfi
  go_enter Try.func4, Try.ntmps4
  go_wp2_with fail
  refine Hly.out.mono ?_
  rintro e w2 ⟨sa, cs, b, bg, hsa, hb, hbg, hnb, hng, rfl, hsp, hk, hu⟩
  have HD : Hid ((w.heap.size < b ∧ b < w2.heap.size) ∧ (w.heap.size < bg ∧ bg < w2.heap.size) ∧ (w.heap.size < sa ∧ sa < w2.heap.size) ∧ (sa ≠ b ∧ sa ≠ bg)) := Lib.hid (by
    have l1 := hsp.lt
    have l2 := hk.ltb
    have l3 := hk.ltg
    have l4 := H0.out.2.2
    rw [l4] at hsa hb hbg
    exact ⟨⟨by omega, l2⟩, ⟨by omega, l3⟩, ⟨by omega, l1⟩, ⟨hnb, hng⟩⟩)
  have hX := H0.out.2.1.low hu
  have c0 := hX.cell (i := 0) rfl
  have c1 := hX.cell (i := 1) rfl
  have lx := hX.lt
  have H2 := Lib.hid (And.intro hsp (And.intro hk (And.intro hX (H0.out.1.trans (hu.mono H0.out.1.size)))))
  clear hsa hb hbg hnb hng hsp hk hu Hly hX H0
  go_wp2_with fail
  rw [Hmk1.out]
  go_wp2_with fail
  have H3 := Lib.hid (WsInB.zero (L := l.length) (w2 := w2))
  generalize w2.alloc (.cells (vals l.length (fun _ => .slice none 0 0)).toArray 41) = w3 at *
  generalize hdn : w2.heap.size = dn at *
  clear c0 c1 lx
  go_loopw [11] (fun i wr => WsIni l.length dn w2 i wr) (fun i _ => l.length - (intOf i).toNat)
  case atStart => exact ⟨0, rfl, H3.out⟩
  case round =>
    clear H3
    obtain ⟨j, rfl, hI⟩ := hrel
    have hjl := hI.1
    by_cases hlt : (j : Int) < l.length
    · have HI := Lib.hid (hI.step (by omega))
      have d1 := (hI.2.1.alloc (.cells #[.int .u64 0] 42)).cell (vals_get _ (show j < l.length by omega))
      have z1 := (hI.2.1.alloc (.cells #[.int .u64 0] 42)).frozen j
      have ld := (hI.2.1.alloc (.cells #[.int .u64 0] 42)).lt
      clear hI
      go_wp2_with fail
      go_roundw
      case rel => exact ⟨j + 1, by go_num, HI.out⟩
      case measure => simp [intOf]; omega
    · obtain rfl : j = l.length := by omega
      obtain ⟨_, i2, i3, i4, i5⟩ := hI
      have hXr : Blk wr w.heap.size [.int .u64 fi, .int .i64 tr] := H2.out.2.2.1.low (hdn.symm ▸ i5)
      have hXe := (hXr.alloc (.cells (ptrs l.length (fun _ => none)).toArray 65)).alloc (.cells (u64s l.length (fun _ => 0)).toArray 42)
      have c0 := hXe.cell (i := 0) rfl
      have lx := hXe.lt
      have HW : Hid (WsM w l fi tr ⟨b, bg, sa, wr.heap.size, dn, wr.heap.size + 1, w.heap.size, fun _ => none, fun _ => 0, fun _ => [0], dv0 dn l.length, List.replicate (tot 0 l).toNat 0, 0, none, .slice none 0 0, [], []⟩ ((wr.alloc (.cells (ptrs l.length (fun _ => none)).toArray 65)).alloc (.cells (u64s l.length (fun _ => 0)).toArray 42))) := Lib.hid (by
        obtain ⟨g1, g2, g3, g4⟩ := H2.out
        have hd := HD.out
        have i5' : Below w2.heap.size w2 wr := hdn.symm ▸ i5
        have := ws_mem0 (g2.below i5') (g1.low i5') i2 i3 hXr i4 (g4.trans (i5'.mono g4.size)) hd.1 hd.2.1 hd.2.2.1 hd.2.2.2 _ rfl _ rfl
        rw [show dn + 1 + l.length = wr.heap.size from i4.symm, show dn + 2 + l.length = wr.heap.size + 1 by omega] at this
        exact this)
      clear i2 i3 i4 i5 hXr hXe H2 HD
      go_wp2_with fail
      rw [Hmk2.out]
      go_wp2_with fail
      rw [Hmk3.out]
      go_wp2_with fail
      clear Hmk1 Hmk2 Hmk3 c0 lx
      generalize (wr.alloc (.cells (ptrs l.length (fun _ => none)).toArray 65)).alloc (.cells (u64s l.length (fun _ => 0)).toArray 42) = w4 at *
      try simp only [World.size_alloc]
      generalize wr.heap.size = ob at *
      go_loopw [14, 15, 16, 17, 18, 19] (fun nx o nw al fr i wr => WsRel w b bg sa ob dn (ob + 1) l fi tr pn nx o nw al fr i wr) (fun _ _ _ _ _ i _ => pn - (intOf i).toNat)
      case atStart => exact ⟨0, fun _ => none, fun _ => 0, fun _ => [0], dv0 dn l.length, _, 0, none, .slice none 0 0, [], [], fi, 0, 0, rfl, by omega, rfl, rfl, rfl, rfl, rfl, HW.out, tww_zero l _, WsP.zero Hfi.out⟩
      case round =>
        clear HW
        obtain ⟨q, X, M, D, DV, zs, t, O, NV, N, NR, nxt, all, frm, rfl, hq, rfl, ho, hnw, rfl, rfl, hM, hW, hP⟩ := hrel
        replace hnw := hnw.symm
        subst hnw
        have Ho := Lib.hid ho
        clear ho
        have Hq := Lib.hid (show (q : Int) ≤ 400 by omega)
        by_cases hlt : (q : Int) < pn
        · obtain ⟨x, hx⟩ : ∃ x, ps[q]? = some x := ⟨_, List.getElem?_eq_getElem (by have := Hpn.out; omega)⟩
          obtain ⟨hix, pb, poff, rfl, _, cx⟩ := (HM.out.keep hM.bel) q x hx
          by_cases hx0 : 0 ≤ x
          · skip
            obtain ⟨xn, rfl⟩ := Int.eq_ofNat_of_zero_le hx0
            obtain ⟨kk, hkk, hkl2⟩ : ∃ kk : Nat, (xn : Int).tmod (l.length : Int) = (kk : Int) ∧ kk < l.length := ⟨xn % l.length, rfl, Nat.mod_lt _ (by omega)⟩
            have hkl3 : (kk : Int) < l.length := by omega
            have hln0 : ¬ (l.length : Int) = 0 := by omega
            obtain ⟨B, n, d, tn⟩ := tn_of HOK.out hkl2
            have Htn := Lib.hid tn
            have hn4 := tn.n4
            have co := hM.ops.cell (ptrs_get X (j := kk) hkl2)
            change wr.cell? ⟨ob, kk, none⟩ = some (ptr (X kk)) at co
            have HZ := Lib.hid (And.intro hM hW)
            have HP := Lib.hid hP
            have Hix := Lib.hid hix
            clear hM hW hP tn hx hix
            cases hX : X kk with
            | none =>
              as_aux_lemma =>
                rw [hX] at co
                change wr.cell? ⟨ob, kk, none⟩ = some (.pointer none) at co
                have HXn := Lib.hid hX
                clear hX
                obtain ⟨nx2, hnx2⟩ : ∃ nx2, IntKind.u64.wrap (nxt + 77) = nx2 := ⟨_, rfl⟩
                have HU2 : Hid (U64 nx2) := Lib.hid (by rw [← hnx2]; unfold U64; rw [IntKind.wrap_u64]; omega)
                have cm := HZ.out.1.mine.cell (u64s_get M hkl2)
                have fm := HZ.out.1.mine.frozen kk
                have lm := HZ.out.1.mine.lt
                have lob := HZ.out.1.ops.lt
                dsimp only at cm fm lm lob
                have H3 := Lib.hid (HZ.out.1.putMine HXn.out nx2)
                obtain ⟨lb, loff, ea, _, lc, _, _, _⟩ := (HT.out.below HZ.out.1.bel) kk _ Htn.out.at'
                subst ea
                have HrT := Lib.hid (show ∀ W, Below w.heap.size w W → W.cell? ⟨lb, loff + kk * 2, none⟩ = some (.int .i64 (n : Int)) from fun W hW => by
                  obtain ⟨_, _, e, _, c1, _⟩ := (HT.out.below hW) kk _ Htn.out.at'
                  cases e
                  exact c1)
                have Hrec := Lib.hid (fun W => record_any n nx2 W (by omega) HU2.out)
                have Hnw : Hid (nwE (spB B n d) (rcd n nx2).length 1 = 0) := Lib.hid (by
                  have t := Htn.out
                  have := t.d2
                  have := t.d5
                  have := t.hi
                  have := t.mx
                  unfold nwE
                  rw [if_pos ((mb_iff _ _).2 ⟨by unfold Rt spB; simp only; have := t.n1; omega, by omega, by omega⟩), rcd_len, if_pos (show (n : Int) = (spB B n d).wd from rfl)])
                have Hwf0 : Hid (Wf (spB B n d) (rcd n nx2) (st0 1)) := Lib.hid (wf0 Hnw.out (fun v hv => by
                  obtain ⟨j, hj⟩ := List.mem_iff_getElem?.1 hv
                  rw [(rcd_at hj).2]
                  exact u64_rcw _ _))
                have Hnew : Hid (∀ (w' : World) (a : Option Addr) (cap : Nat), Wds w'.heap.size w' a (rcd n nx2) → Calls Try.prog 24 #[.agg #[.int .i64 (B : Int), .int .i64 ((B : Int) + 1), .int .i64 ((B : Int) + 2), .int .i64 n, .int .i64 d], .slice a n cap, .int .i64 1] w' (NewOp (spB B n d) (rcd n nx2) 1 w')) := Lib.hid (fun w' a cap hW => by
                  have := newo_ok (spB B n d) a (rcd n nx2) cap 1 w' w'.heap.size (Nat.le_refl _) hW Hnw.out
                  rw [rcd_len] at this
                  exact this)
                clear lc
                go_wp2_with fail
                generalize hw3 : wr.setCell ⟨ob + 1, kk, none⟩ (.int .u64 nx2) = w3 at H3 ⊢
                clear hw3 cm fm lm cx hkk hln0 co lob hnx2 hx0
                have hq : RT1 sa lb loff kk B n d w3.drew := ⟨SpB.cells1 (w := w3) H3.out.spot Htn.out.sp, HrT.out w3 H3.out.bel⟩
                refine wp_region_held_drew (S := RT1 sa lb loff kk B n d) (by kernel_rfl) (hq) (fun hHeld => ?_)
                refine wpAnyH_take (i := 0) (v := ?v17) rfl (by kernel_rfl) (by kernel_rfl) (by kernel_rfl) (fun _ _ _ h => h) (Or.inl ⟨by rfl, ?y17⟩) hHeld ?r17
                case y17 => (intro w hSw; obtain ⟨⟨q0, q1, q2, q3, q4⟩, q5⟩ := hSw; go_simp; try with_reducible rfl)
                simp only [List.getElem_toArray, List.getElem_cons_zero, Act.put, List.setIfInBounds_toArray, List.set_cons_zero, List.set_cons_succ]
                refine wpAnyH_take (i := 1) (v := ?v18) rfl (by kernel_rfl) (by kernel_rfl) (by kernel_rfl) (fun _ _ _ h => h) (Or.inl ⟨by rfl, ?y18⟩) hHeld ?r18
                case y18 => (intro w hSw; obtain ⟨⟨q0, q1, q2, q3, q4⟩, q5⟩ := hSw; go_simp; try with_reducible rfl)
                simp only [List.getElem_toArray, List.getElem_cons_zero, List.getElem_cons_succ, Act.put, List.setIfInBounds_toArray, List.set_cons_zero, List.set_cons_succ]
                refine wpAnyH_take (i := 2) (v := ?v19) rfl (by kernel_rfl) (by kernel_rfl) (by kernel_rfl) (fun _ _ _ h => h) (Or.inl ⟨by rfl, ?y19⟩) hHeld ?r19
                case y19 => (intro w hSw; obtain ⟨⟨q0, q1, q2, q3, q4⟩, q5⟩ := hSw; go_simp; try with_reducible rfl)
                simp only [List.getElem_toArray, List.getElem_cons_zero, List.getElem_cons_succ, Act.put, List.setIfInBounds_toArray, List.set_cons_zero, List.set_cons_succ]
                refine wpAnyH_take (i := 3) (v := ?v20) rfl (by kernel_rfl) (by kernel_rfl) (by kernel_rfl) (fun _ _ _ h => h) (Or.inl ⟨by rfl, ?y20⟩) hHeld ?r20
                case y20 => (intro w hSw; obtain ⟨⟨q0, q1, q2, q3, q4⟩, q5⟩ := hSw; go_simp; try with_reducible rfl)
                simp only [List.getElem_toArray, List.getElem_cons_zero, List.getElem_cons_succ, Act.put, List.setIfInBounds_toArray, List.set_cons_zero, List.set_cons_succ]
                refine wpAnyH_take (i := 4) (v := ?v21) rfl (by kernel_rfl) (by kernel_rfl) (by kernel_rfl) (fun _ _ _ h => h) (Or.inl ⟨by rfl, ?y21⟩) hHeld ?r21
                case y21 => (intro w hSw; obtain ⟨⟨q0, q1, q2, q3, q4⟩, q5⟩ := hSw; go_simp; try with_reducible rfl)
                simp only [List.getElem_toArray, List.getElem_cons_zero, List.getElem_cons_succ, Act.put, List.setIfInBounds_toArray, List.set_cons_zero, List.set_cons_succ]
                refine wpAnyH_take (i := 5) (v := ?v22) rfl (by kernel_rfl) (by kernel_rfl) (by kernel_rfl) (fun _ _ _ h => h) (Or.inl ⟨by rfl, ?y22⟩) hHeld ?r22
                case y22 => (intro w hSw; obtain ⟨⟨q0, q1, q2, q3, q4⟩, q5⟩ := hSw; go_simp; try with_reducible rfl)
                simp only [List.getElem_toArray, List.getElem_cons_zero, List.getElem_cons_succ, Act.put, List.setIfInBounds_toArray, List.set_cons_zero, List.set_cons_succ]
                refine wpAnyH_take (i := 6) (v := ?v23) rfl (by kernel_rfl) (by kernel_rfl) (by kernel_rfl) (fun _ _ _ h => h) (Or.inl ⟨by rfl, ?y23⟩) hHeld ?r23
                case y23 => (intro w hSw; obtain ⟨⟨q0, q1, q2, q3, q4⟩, q5⟩ := hSw; go_simp; try with_reducible rfl)
                simp only [List.getElem_toArray, List.getElem_cons_zero, List.getElem_cons_succ, Act.put, List.setIfInBounds_toArray, List.set_cons_zero, List.set_cons_succ]
                refine wpAnyH_take (i := 7) (v := ?v24) rfl (by kernel_rfl) (by kernel_rfl) (by kernel_rfl) (fun _ _ _ h => h) (Or.inl ⟨by rfl, ?y24⟩) hHeld ?r24
                case y24 => (intro w hSw; obtain ⟨⟨q0, q1, q2, q3, q4⟩, q5⟩ := hSw; go_simp; try with_reducible rfl)
                simp only [List.getElem_toArray, List.getElem_cons_zero, List.getElem_cons_succ, Act.put, List.setIfInBounds_toArray, List.set_cons_zero, List.set_cons_succ]
                refine wpAnyH_take (i := 8) (v := ?v25) rfl (by kernel_rfl) (by kernel_rfl) (by kernel_rfl) (fun _ _ _ h => h) (Or.inl ⟨by rfl, ?y25⟩) hHeld ?r25
                case y25 => (intro w hSw; obtain ⟨⟨q0, q1, q2, q3, q4⟩, q5⟩ := hSw; go_simp; try with_reducible rfl)
                simp only [List.getElem_toArray, List.getElem_cons_zero, List.getElem_cons_succ, Act.put, List.setIfInBounds_toArray, List.set_cons_zero, List.set_cons_succ]
                refine wpAnyH_take (i := 9) (v := ?v26) rfl (by kernel_rfl) (by kernel_rfl) (by kernel_rfl) (fun _ _ _ h => h) (Or.inl ⟨by rfl, ?y26⟩) hHeld ?r26
                case y26 => (intro w hSw; obtain ⟨⟨q0, q1, q2, q3, q4⟩, q5⟩ := hSw; go_simp; try with_reducible rfl)
                simp only [List.getElem_toArray, List.getElem_cons_zero, List.getElem_cons_succ, Act.put, List.setIfInBounds_toArray, List.set_cons_zero, List.set_cons_succ]
                refine wpAnyH_ready (rs := [10]) (by kernel_rfl) (by simp) (AllReadyH.cons rfl (fun K hK => ?_) AllReadyH.nil)
                go_simp
                refine (Hrec.out _).mono ?_
                rintro e w4 ⟨ra, rc, rfl, hW4, hb4⟩
                have H4 := Lib.hid (And.intro (H3.out.low ((belN (Below.refl w3.heap.size w3) 1).trans hb4)) (And.intro hW4 (show w3.heap.size ≤ w4.heap.size from hb4.size)))
                have hq4 : RT1 sa lb loff kk B n d w4 := ⟨SpB.cells1 H4.out.1.spot Htn.out.sp, HrT.out w4 H4.out.1.bel⟩
                clear hW4 hb4
                go_wp2_with fail
                refine hK.out _ _ (hq4) (fun hHeld => ?_)
                clear hK K
                refine wpAnyH_ready (rs := [11]) (by kernel_rfl) (by simp) (AllReadyH.cons rfl (fun K hK => ?_) AllReadyH.nil)
                go_simp
                refine (Hnew.out _ ra rc H4.out.2.1).mono ?_
                rintro e w5 ⟨o1, g1, ho1, hg1, rfl, hO1, hu5⟩
                have H5 := Lib.hid (And.intro (H4.out.1.low hu5) (And.intro hO1 (show w3.heap.size ≤ o1 ∧ w3.heap.size ≤ g1 from by have := H4.out.2.2; omega)))
                have hq5 : RT1 sa lb loff kk B n d w5 := ⟨SpB.cells1 H5.out.1.spot Htn.out.sp, HrT.out w5 H5.out.1.bel⟩
                clear ho1 hg1 hO1 hu5
                go_wp2_with fail
                refine hK.out _ _ (hq5) (fun hHeld => ?_)
                clear hK K
                refine wpAnyH_take (i := 12) (v := ?v29) rfl (by kernel_rfl) (by kernel_rfl) (by kernel_rfl) (fun _ _ _ h => h) (Or.inl ⟨by rfl, ?y29⟩) hHeld ?r29
                case y29 => (intro w hSw; obtain ⟨⟨q0, q1, q2, q3, q4⟩, q5⟩ := hSw; go_simp; try with_reducible rfl)
                simp only [List.getElem_toArray, List.getElem_cons_zero, List.getElem_cons_succ, Act.put, List.setIfInBounds_toArray, List.set_cons_zero, List.set_cons_succ]
                refine wpAnyH_take (i := 13) (v := ?v30) rfl (by kernel_rfl) (by kernel_rfl) (by kernel_rfl) (fun _ _ _ h => h) (Or.inl ⟨by rfl, ?y30⟩) hHeld ?r30
                case y30 => (intro w hSw; obtain ⟨⟨q0, q1, q2, q3, q4⟩, q5⟩ := hSw; go_simp; try with_reducible rfl)
                simp only [List.getElem_toArray, List.getElem_cons_zero, List.getElem_cons_succ, Act.put, List.setIfInBounds_toArray, List.set_cons_zero, List.set_cons_succ]
                refine wpAnyH_take (i := 14) (v := ?v31) rfl (by kernel_rfl) (by kernel_rfl) (by kernel_rfl) (fun _ _ _ h => h) (Or.inl ⟨by rfl, ?y31⟩) hHeld ?r31
                case y31 => (intro w hSw; obtain ⟨⟨q0, q1, q2, q3, q4⟩, q5⟩ := hSw; go_simp; try with_reducible rfl)
                simp only [List.getElem_toArray, List.getElem_cons_zero, List.getElem_cons_succ, Act.put, List.setIfInBounds_toArray, List.set_cons_zero, List.set_cons_succ]
                refine wpAnyH_take (i := 15) (v := ?v32) rfl (by kernel_rfl) (by kernel_rfl) (by kernel_rfl) (fun _ _ _ h => h) (Or.inl ⟨by rfl, ?y32⟩) hHeld ?r32
                case y32 => (intro w hSw; obtain ⟨⟨q0, q1, q2, q3, q4⟩, q5⟩ := hSw; go_simp; try with_reducible rfl)
                simp only [List.getElem_toArray, List.getElem_cons_zero, List.getElem_cons_succ, Act.put, List.setIfInBounds_toArray, List.set_cons_zero, List.set_cons_succ]
                refine wpAnyH_take (i := 16) (v := ?v33) rfl (by kernel_rfl) (by kernel_rfl) (by kernel_rfl) (fun _ _ _ h => h) (Or.inl ⟨by rfl, ?y33⟩) hHeld ?r33
                case y33 => (intro w hSw; obtain ⟨⟨q0, q1, q2, q3, q4⟩, q5⟩ := hSw; go_simp; try with_reducible rfl)
                simp only [List.getElem_toArray, List.getElem_cons_zero, List.getElem_cons_succ, Act.put, List.setIfInBounds_toArray, List.set_cons_zero, List.set_cons_succ]
                refine wpAnyH_done (by kernel_rfl) ?_ _
                clear hHeld hq hq4 hq5 Hnew Hrec
                have co5 := H5.out.1.ops.cell (ptrs_get X (j := kk) hkl2)
                rw [HXn.out] at co5
                change w5.cell? ⟨ob, kk, none⟩ = some (.pointer none) at co5
                have lob := H5.out.1.ops.lt
                have fob := H5.out.1.ops.frozen kk
                dsimp only at lob fob
                have H6 := Lib.hid (H5.out.1.put (m := w3.heap.size) Htn.out (by dsimp only; rw [updD_self]; exact H5.out.2.1) (by dsimp only; rw [updD_self]; exact Hwf0.out) (fun i q hq => (H3.out.dj.bd i q hq).2) H5.out.2.2.1 H5.out.2.2.2 H3.out.bel.size)
                have Htw6 := Lib.hid (tww_new (o := o1) (g := g1) HZ.out.2 HXn.out nx2)
                have HP6 := Lib.hid (HP.out.mine HU2.out kk)
                go_wp2_with fail
                generalize hw6 : w5.setCell ⟨ob, kk, none⟩ (.pointer (some ⟨o1, 0, none⟩)) = w6 at H6 ⊢
                clear hw6 co5 lob fob
                have HY : Hid (WsM w l fi tr ⟨b, bg, sa, ob, dn, ob + 1, w.heap.size, upd X kk (some (o1, g1, st0 1)), updD M kk nx2, D, DV, zs, t, O, NV, N, NR⟩ w6 ∧ TWW l zs D (updD M kk nx2) (upd X kk (some (o1, g1, st0 1))) ∧ (upd X kk (some (o1, g1, st0 1))) kk = some (o1, g1, st0 1)) := Lib.hid ⟨H6.out, Htw6.out, upd_self _ _ _⟩
                clear HZ H6 H5 H4 Htw6 HXn Hwf0 Hnw H3 HP HU2
                have HP := Lib.hid HP6.out
                clear HP6
                generalize hX6 : upd X kk (some (o1, g1, st0 1)) = X6 at *
                generalize hM6 : updD M kk nx2 = M6 at *
                generalize st0 1 = y at *
                clear hX6 hM6
                have co := HY.out.1.ops.cell (ptrs_get X6 (j := kk) hkl2)
                rw [HY.out.2.2] at co
                change w6.cell? ⟨ob, kk, none⟩ = some (.pointer (some ⟨o1, 0, none⟩)) at co
                have HTn9 := Htn.out
                obtain ⟨hO, hwf⟩ := HY.out.1.wr kk B n d o1 g1 y HTn9 HY.out.2.2
                have hqb := HP.out
                have hapt : o1 ≠ b ∧ o1 ≠ bg ∧ g1 ≠ b ∧ g1 ≠ bg := by
                  have dj := HY.out.1.dj.dj
                  refine ⟨fun e => ?_, fun e => ?_, fun e => ?_, fun e => ?_⟩
                  · have := dj (.wr kk) .bank o1 ⟨_, _, _, HY.out.2.2, .inl rfl⟩ (.inl e); cases this
                  · have := dj (.wr kk) .bank o1 ⟨_, _, _, HY.out.2.2, .inl rfl⟩ (.inr e); cases this
                  · have := dj (.wr kk) .bank g1 ⟨_, _, _, HY.out.2.2, .inr rfl⟩ (.inl e); cases this
                  · have := dj (.wr kk) .bank g1 ⟨_, _, _, HY.out.2.2, .inr rfl⟩ (.inr e); cases this
                have hss : 0 ≤ y.steps ∧ y.steps ≤ 100 := by
                  obtain ⟨v, _, hv⟩ := (HY.out.2.1.2 kk B n d HTn9).seq
                  rw [HY.out.2.2] at hv
                  exact wst_steps hv hwf
                have hst := step_any hO HY.out.1.bank hapt.1 hapt.2.1 hapt.2.2.1 hapt.2.2.2 hwf (by dsimp only; exact hqb.t0) (by dsimp only; have := hqb.t1; have := Hq.out; omega) (by omega) (by omega)
                have Hst := Lib.hid hst
                have Htw := Lib.hid (tww_step HOK.out HY.out.2.1 HTn9 HY.out.2.2 hwf (by have := hqb.dq kk; have := Hq.out; omega))
                have Hwf2 := Lib.hid (wf_stp hwf HY.out.1.bank.rng)
                have Hs01 := Lib.hid (steps_stp (spB B n d) (rcd n (M6 kk)) zs y)
                have lob := HY.out.1.ops.lt
                clear hO hwf hapt hst hss hqb HTn9
                dsimp only at Hst Htw Hwf2 lob
                generalize stp (spB B n d) (rcd n (M6 kk)) zs y = r at *
                rcases Htw.out with ⟨hh0, htw⟩ | ⟨hh1, htw⟩
                · as_aux_lemma =>
                    have Hh0 := Lib.hid htw
                    clear htw
                    go_wp2_with fail
                    refine Hst.out.mono ?_
                    rintro e wa ⟨rfl, hOa, hBa, hua⟩
                    rw [hh0]
                    have HR : Hid (WsM w l fi tr ⟨b, bg, sa, ob, dn, ob + 1, w.heap.size, upd X6 kk (some (o1, g1, r.1)), M6, D, DV, r.2.1, t + r.2.2, O, NV, N, NR⟩ wa) := Lib.hid (HY.out.1.step Htn.out HY.out.2.2 hua hOa Hwf2.out hBa)
                    clear hOa hBa hua Hst hh0
                    go_wp2_with fail
                    go_roundw
                    case rel =>
                      have hs := Hs01.out
                      exact ⟨q + 1, _, _, D, DV, _, _, O, NV, N, NR, nx2, all, frm, by go_num, by omega, rfl, Ho.out, rfl, rfl, rfl, HR.out, Hh0.out, HP.out.next (by omega) (by omega)⟩
                    case measure => simp [intOf]; omega
                · as_aux_lemma =>
                    have Hh1 := Lib.hid htw
                    clear htw
                    go_wp2_with fail
                    refine Hst.out.mono ?_
                    rintro e wa ⟨rfl, hOa, hBa, hua⟩
                    rw [hh1]
                    have HR : Hid (WsM w l fi tr ⟨b, bg, sa, ob, dn, ob + 1, w.heap.size, upd X6 kk (some (o1, g1, r.1)), M6, D, DV, r.2.1, t + r.2.2, O, NV, N, NR⟩ wa) := Lib.hid (HY.out.1.step Htn.out HY.out.2.2 hua hOa Hwf2.out hBa)
                    clear hOa hBa hua Hst hh1
                    have hRd := HR.out.drew
                    obtain ⟨V6, Wp, hr5, ho5, hg5, hf5⟩ := ap_done (hRd.dr kk hkl2) (by dsimp only; have := HP.out.dq kk; have := Hq.out; omega) (M6 kk)
                    dsimp only at hr5 ho5 hf5
                    obtain ⟨a6, c6, rfl⟩ := owns_sl ho5
                    have hu5 : TrnW w _ (fun i => i = .dr kk) wa.drew Wp := trn_grown (s := ⟨b, bg, sa, ob, dn, ob + 1, w.heap.size, upd X6 kk (some (o1, g1, r.1)), M6, D, DV, r.2.1, t + r.2.2, O, NV, N, NR⟩) (i := .dr kk) (fun k hk => hk) hg5
                    have hM7 := hRd.appD hkl2 hu5 ho5 hf5
                    have Hap := Lib.hid hr5
                    obtain ⟨dva, dvc, hdv⟩ := owns_sl (v := DV kk) (hRd.dr kk hkl2)
                    have hcm := hRd.mine.cell (u64s_get M6 hkl2)
                    obtain ⟨m, hm⟩ : ∃ m, M6 kk = m := ⟨_, rfl⟩
                    rw [hm] at Hap hcm
                    have hqv : RA0 (ob + 1) kk m wa.drew := hcm
                    have hRA := hRd.low ((Below.refl _ wa.drew).alloc (Nat.le_refl _) (.cells #[.int .u64 m] 42))
                    have hRB := HR.out.low ((Below.refl _ wa).alloc (Nat.le_refl _) (.cells #[.int .u64 m] 42))
                    have hqA : RA0 (ob + 1) kk m (wa.drew.alloc (.cells #[.int .u64 m] 42)) := by have := hRA.mine.cell (u64s_get M6 hkl2); rw [hm] at this; exact this
                    have hq5 : RA0 (ob + 1) kk m Wp := by have := (hRd.kMine hu5 (by simp)).cell (u64s_get M6 hkl2); dsimp only at this; rw [hm] at this; exact this
                    have f0 := HR.out.dn.cell (vals_get DV hkl2)
                    have f1 := hRd.dn.cell (vals_get DV hkl2)
                    have f2 := hRA.dn.cell (vals_get DV hkl2)
                    have f3 := hRB.dn.cell (vals_get DV hkl2)
                    have f5 := (hRd.kDn hu5 (by simp)).cell (vals_get DV hkl2)
                    have z5 := (hRd.kDn hu5 (by simp)).frozen kk
                    have lop := (hRd.kDn hu5 (by simp)).lt
                    have lod := hRd.dn.lt
                    dsimp only at f0 f1 f2 f3 f5 z5 lop lod
                    generalize hv6 : Wp.setCell ⟨dn, kk, none⟩ (.slice a6 ((D kk).length + 1) c6) = v6 at hM7
                    have HM7 := Lib.hid hM7
                    have hq6 : RA0 (ob + 1) kk m v6 := by have := hM7.mine.cell (u64s_get M6 hkl2); dsimp only at this; rw [hm] at this; exact this
                    have Hmm := Lib.hid hm
                    clear hRd hr5 ho5 hg5 hf5 hu5 hM7 hRA hRB hcm hm HY HR
                    rw [hdv] at f0 f1 f2 f3 f5 Hap
                    have hall : all ≤ 500 := by have := HP.out.a1; have := Hq.out; omega
                    have hall0 : 0 ≤ all := HP.out.a0
                    go_wp2_with fail
                    refine wp_region_held_drew (S := RA0 (ob + 1) kk m) (by kernel_rfl) (hqv) (fun hHeld => ?_)
                    refine wpAnyH_take (i := 0) (v := ?v1) rfl (by kernel_rfl) (by kernel_rfl) (by kernel_rfl) (fun _ _ _ h => h) (Or.inl ⟨by rfl, ?y1⟩) hHeld ?r1
                    case y1 => (intro w hSw; have q0 := hSw; unfold RA0 at q0; go_simp; try with_reducible rfl)
                    simp only [List.getElem_toArray, List.getElem_cons_zero, Act.put, List.setIfInBounds_toArray, List.set_cons_zero, List.set_cons_succ]
                    refine wpAnyH_take (i := 1) (v := ?v2) rfl (by kernel_rfl) (by kernel_rfl) (by kernel_rfl) (fun _ _ _ h => h) (Or.inl ⟨by rfl, ?y2⟩) hHeld ?r2
                    case y2 => (intro w hSw; have q0 := hSw; unfold RA0 at q0; go_simp; try with_reducible rfl)
                    simp only [List.getElem_toArray, List.getElem_cons_zero, List.getElem_cons_succ, Act.put, List.setIfInBounds_toArray, List.set_cons_zero, List.set_cons_succ]
                    refine wpAnyH_take (i := 2) (v := ?v3) rfl (by kernel_rfl) (by kernel_rfl) (by kernel_rfl) (fun _ _ _ h => h) (Or.inl ⟨by rfl, ?y3⟩) hHeld ?r3
                    case y3 => (intro w hSw; have q0 := hSw; unfold RA0 at q0; go_simp; try with_reducible rfl)
                    simp only [List.getElem_toArray, List.getElem_cons_zero, List.getElem_cons_succ, Act.put, List.setIfInBounds_toArray, List.set_cons_zero, List.set_cons_succ]
                    refine wpAnyH_take (i := 3) (v := ?v4) rfl (by kernel_rfl) (by kernel_rfl) (by kernel_rfl) (fun _ _ _ h => h) (Or.inl ⟨by rfl, ?y4⟩) hHeld ?r4
                    case y4 => (intro w hSw; have q0 := hSw; unfold RA0 at q0; go_simp; try with_reducible rfl)
                    simp only [List.getElem_toArray, List.getElem_cons_zero, List.getElem_cons_succ, Act.put, List.setIfInBounds_toArray, List.set_cons_zero, List.set_cons_succ]
                    refine wpAnyH_take (i := 4) (v := ?v5) rfl (by kernel_rfl) (by kernel_rfl) (by kernel_rfl) (fun _ _ _ h => h) (Or.inl ⟨by rfl, ?y5⟩) hHeld ?r5
                    case y5 => (intro w hSw; have q0 := hSw; unfold RA0 at q0; go_simp; try with_reducible rfl)
                    simp only [List.getElem_toArray, List.getElem_cons_zero, List.getElem_cons_succ, Act.put, List.setIfInBounds_toArray, List.set_cons_zero, List.set_cons_succ]
                    refine wpAnyH_take (i := 6) (v := ?v6) rfl (by kernel_rfl) (by kernel_rfl) (by kernel_rfl) (fun _ _ _ h => h) (Or.inl ⟨by rfl, ?y6⟩) hHeld ?r6
                    case y6 => (intro w hSw; have q0 := hSw; unfold RA0 at q0; go_simp; try with_reducible rfl)
                    simp only [List.getElem_toArray, List.getElem_cons_zero, List.getElem_cons_succ, Act.put, List.setIfInBounds_toArray, List.set_cons_zero, List.set_cons_succ]
                    refine wpAnyH_take (i := 7) (v := ?v7) rfl (by kernel_rfl) (by kernel_rfl) (by kernel_rfl) (fun _ _ _ h => h) (Or.inl ⟨by rfl, ?y7⟩) hHeld ?r7
                    case y7 => (intro w hSw; have q0 := hSw; unfold RA0 at q0; go_simp; try with_reducible rfl)
                    simp only [List.getElem_toArray, List.getElem_cons_zero, List.getElem_cons_succ, Act.put, List.setIfInBounds_toArray, List.set_cons_zero, List.set_cons_succ]
                    refine wpAnyH_take (i := 8) (v := ?v8) rfl (by kernel_rfl) (by kernel_rfl) (by kernel_rfl) (fun _ _ _ h => h) (Or.inl ⟨by rfl, ?y8⟩) hHeld ?r8
                    case y8 => (intro w hSw; have q0 := hSw; unfold RA0 at q0; go_simp; try with_reducible rfl)
                    simp only [List.getElem_toArray, List.getElem_cons_zero, List.getElem_cons_succ, Act.put, List.setIfInBounds_toArray, List.set_cons_zero, List.set_cons_succ]
                    refine wpAnyH_take (i := 9) (v := ?v9) rfl (by kernel_rfl) (by kernel_rfl) (by kernel_rfl) (fun _ _ _ h => h) (Or.inl ⟨by rfl, ?y9⟩) hHeld ?r9
                    case y9 => (intro w hSw; have q0 := hSw; unfold RA0 at q0; go_simp; try with_reducible rfl)
                    simp only [List.getElem_toArray, List.getElem_cons_zero, List.getElem_cons_succ, Act.put, List.setIfInBounds_toArray, List.set_cons_zero, List.set_cons_succ]
                    refine wpAnyH_ready (rs := [5, 10]) (by kernel_rfl) (by simp) (AllReadyH.cons rfl (fun K hK => ?_) (AllReadyH.cons rfl (fun K hK => ?_) AllReadyH.nil))
                    · go_simp
                      refine hK.out _ _ (hqv) (fun hHeld => ?_)
                      clear hK K
                      refine wpAnyH_ready (rs := [10]) (by kernel_rfl) (by simp) (AllReadyH.cons rfl (fun K hK => ?_) AllReadyH.nil)
                      go_simp
                      refine hK.out _ _ (hqA) (fun hHeld => ?_)
                      clear hK K
                      refine wpAnyH_ready (rs := [11]) (by kernel_rfl) (by simp) (AllReadyH.cons rfl (fun K hK => ?_) AllReadyH.nil)
                      refine wp_append_run _ (.tmp 137) (.tmp 142) 41 41 rfl _ _ rfl rfl Hap.out ?_
                      refine hK.out _ _ (hq5) (fun hHeld => ?_)
                      clear hK K
                      refine wpAnyH_take (i := 12) (v := ?v12) rfl (by kernel_rfl) (by kernel_rfl) (by kernel_rfl) (fun _ _ _ h => h) (Or.inl ⟨by rfl, ?y12⟩) hHeld ?r12
                      case y12 => (intro w hSw; have q0 := hSw; unfold RA0 at q0; go_simp; try with_reducible rfl)
                      simp only [List.getElem_toArray, List.getElem_cons_zero, List.getElem_cons_succ, Act.put, List.setIfInBounds_toArray, List.set_cons_zero, List.set_cons_succ]
                      refine wpAnyH_ready (rs := [13]) (by kernel_rfl) (by simp) (AllReadyH.cons rfl (fun K hK => ?_) AllReadyH.nil)
                      go_simp
                      go_wp2_with fail
                      refine hK.out _ _ (hq6) (fun hHeld => ?_)
                      clear hK K
                      refine wpAnyH_done (by kernel_rfl) ?_ _
                      clear hHeld hqv hqA hq5 hq6 Hap z5 f0 f1 f2 f3 f5 lop lod
                      have cb := HM7.out.ops.cell (ptrs_get _ (j := kk) hkl2)
                      have fb := HM7.out.ops.frozen kk
                      have lb2 := HM7.out.ops.lt
                      dsimp only at cb fb lb2
                      rw [upd_self] at cb
                      change v6.cell? ⟨ob, kk, none⟩ = some (.pointer (some ⟨o1, 0, none⟩)) at cb
                      have HM8 := Lib.hid (HM7.out.strike kk)
                      go_wp2_with fail
                      go_roundw
                      case rel =>
                        have hs := Hs01.out
                        have hx2 := HM8.out
                        have eX : upd (upd X6 kk (some (o1, g1, r.1))) kk none = upd X6 kk none := by
                          funext j
                          by_cases c : j = kk
                          · rw [c, upd_self, upd_self]
                          · rw [upd_ne _ _ c, upd_ne _ _ c, upd_ne _ _ c]
                        dsimp only at hx2
                        rw [eX] at hx2
                        exact ⟨q + 1, _, _, _, _, _, _, O, NV, N, NR, nx2, all + 1, frm, by go_num, by omega, rfl, Ho.out, rfl, by go_num, rfl, hx2, Hh1.out, HP.out.grow (by omega) (by omega) kk⟩
                      case measure => simp [intOf]; omega
                    · go_simp
                      refine hK.out _ _ (hqA) (fun hHeld => ?_)
                      clear hK K
                      refine wpAnyH_ready (rs := [5]) (by kernel_rfl) (by simp) (AllReadyH.cons rfl (fun K hK => ?_) AllReadyH.nil)
                      go_simp
                      refine hK.out _ _ (hqA) (fun hHeld => ?_)
                      clear hK K
                      refine wpAnyH_ready (rs := [11]) (by kernel_rfl) (by simp) (AllReadyH.cons rfl (fun K hK => ?_) AllReadyH.nil)
                      refine wp_append_run _ (.tmp 137) (.tmp 142) 41 41 rfl _ _ rfl rfl Hap.out ?_
                      refine hK.out _ _ (hq5) (fun hHeld => ?_)
                      clear hK K
                      refine wpAnyH_take (i := 12) (v := ?v15) rfl (by kernel_rfl) (by kernel_rfl) (by kernel_rfl) (fun _ _ _ h => h) (Or.inl ⟨by rfl, ?y15⟩) hHeld ?r15
                      case y15 => (intro w hSw; have q0 := hSw; unfold RA0 at q0; go_simp; try with_reducible rfl)
                      simp only [List.getElem_toArray, List.getElem_cons_zero, List.getElem_cons_succ, Act.put, List.setIfInBounds_toArray, List.set_cons_zero, List.set_cons_succ]
                      refine wpAnyH_ready (rs := [13]) (by kernel_rfl) (by simp) (AllReadyH.cons rfl (fun K hK => ?_) AllReadyH.nil)
                      go_simp
                      go_wp2_with fail
                      refine hK.out _ _ (hq6) (fun hHeld => ?_)
                      clear hK K
                      refine wpAnyH_done (by kernel_rfl) ?_ _
                      clear hHeld hqv hqA hq5 hq6 Hap z5 f0 f1 f2 f3 f5 lop lod
                      have cb := HM7.out.ops.cell (ptrs_get _ (j := kk) hkl2)
                      have fb := HM7.out.ops.frozen kk
                      have lb2 := HM7.out.ops.lt
                      dsimp only at cb fb lb2
                      rw [upd_self] at cb
                      change v6.cell? ⟨ob, kk, none⟩ = some (.pointer (some ⟨o1, 0, none⟩)) at cb
                      have HM8 := Lib.hid (HM7.out.strike kk)
                      go_wp2_with fail
                      go_roundw
                      case rel =>
                        have hs := Hs01.out
                        have hx2 := HM8.out
                        have eX : upd (upd X6 kk (some (o1, g1, r.1))) kk none = upd X6 kk none := by
                          funext j
                          by_cases c : j = kk
                          · rw [c, upd_self, upd_self]
                          · rw [upd_ne _ _ c, upd_ne _ _ c, upd_ne _ _ c]
                        dsimp only at hx2
                        rw [eX] at hx2
                        exact ⟨q + 1, _, _, _, _, _, _, O, NV, N, NR, nx2, all + 1, frm, by go_num, by omega, rfl, Ho.out, rfl, by go_num, rfl, hx2, Hh1.out, HP.out.grow (by omega) (by omega) kk⟩
                      case measure => simp [intOf]; omega
            | some p =>
              as_aux_lemma =>
                obtain ⟨o1, g1, y⟩ := p
                rw [hX] at co
                change wr.cell? ⟨ob, kk, none⟩ = some (.pointer (some ⟨o1, 0, none⟩)) at co
                have HXs := Lib.hid hX
                clear hX
                have HY : Hid (WsM w l fi tr ⟨b, bg, sa, ob, dn, ob + 1, w.heap.size, X, M, D, DV, zs, t, O, NV, N, NR⟩ wr ∧ TWW l zs D M X ∧ X kk = some (o1, g1, y)) := Lib.hid ⟨HZ.out.1, HZ.out.2, HXs.out⟩
                clear HZ HXs
                have HTn9 := Htn.out
                obtain ⟨hO, hwf⟩ := HY.out.1.wr kk B n d o1 g1 y HTn9 HY.out.2.2
                have hqb := HP.out
                have hapt : o1 ≠ b ∧ o1 ≠ bg ∧ g1 ≠ b ∧ g1 ≠ bg := by
                  have dj := HY.out.1.dj.dj
                  refine ⟨fun e => ?_, fun e => ?_, fun e => ?_, fun e => ?_⟩
                  · have := dj (.wr kk) .bank o1 ⟨_, _, _, HY.out.2.2, .inl rfl⟩ (.inl e); cases this
                  · have := dj (.wr kk) .bank o1 ⟨_, _, _, HY.out.2.2, .inl rfl⟩ (.inr e); cases this
                  · have := dj (.wr kk) .bank g1 ⟨_, _, _, HY.out.2.2, .inr rfl⟩ (.inl e); cases this
                  · have := dj (.wr kk) .bank g1 ⟨_, _, _, HY.out.2.2, .inr rfl⟩ (.inr e); cases this
                have hss : 0 ≤ y.steps ∧ y.steps ≤ 100 := by
                  obtain ⟨v, _, hv⟩ := (HY.out.2.1.2 kk B n d HTn9).seq
                  rw [HY.out.2.2] at hv
                  exact wst_steps hv hwf
                have hst := step_any hO HY.out.1.bank hapt.1 hapt.2.1 hapt.2.2.1 hapt.2.2.2 hwf (by dsimp only; exact hqb.t0) (by dsimp only; have := hqb.t1; have := Hq.out; omega) (by omega) (by omega)
                have Hst := Lib.hid hst
                have Htw := Lib.hid (tww_step HOK.out HY.out.2.1 HTn9 HY.out.2.2 hwf (by have := hqb.dq kk; have := Hq.out; omega))
                have Hwf2 := Lib.hid (wf_stp hwf HY.out.1.bank.rng)
                have Hs01 := Lib.hid (steps_stp (spB B n d) (rcd n (M kk)) zs y)
                have lob := HY.out.1.ops.lt
                clear hO hwf hapt hst hss hqb HTn9
                dsimp only at Hst Htw Hwf2 lob
                generalize stp (spB B n d) (rcd n (M kk)) zs y = r at *
                rcases Htw.out with ⟨hh0, htw⟩ | ⟨hh1, htw⟩
                · as_aux_lemma =>
                    have Hh0 := Lib.hid htw
                    clear htw
                    go_wp2_with fail
                    refine Hst.out.mono ?_
                    rintro e wa ⟨rfl, hOa, hBa, hua⟩
                    rw [hh0]
                    have HR : Hid (WsM w l fi tr ⟨b, bg, sa, ob, dn, ob + 1, w.heap.size, upd X kk (some (o1, g1, r.1)), M, D, DV, r.2.1, t + r.2.2, O, NV, N, NR⟩ wa) := Lib.hid (HY.out.1.step Htn.out HY.out.2.2 hua hOa Hwf2.out hBa)
                    clear hOa hBa hua Hst hh0
                    go_wp2_with fail
                    go_roundw
                    case rel =>
                      have hs := Hs01.out
                      exact ⟨q + 1, _, _, D, DV, _, _, O, NV, N, NR, nxt, all, frm, by go_num, by omega, rfl, Ho.out, rfl, rfl, rfl, HR.out, Hh0.out, HP.out.next (by omega) (by omega)⟩
                    case measure => simp [intOf]; omega
                · as_aux_lemma =>
                    have Hh1 := Lib.hid htw
                    clear htw
                    go_wp2_with fail
                    refine Hst.out.mono ?_
                    rintro e wa ⟨rfl, hOa, hBa, hua⟩
                    rw [hh1]
                    have HR : Hid (WsM w l fi tr ⟨b, bg, sa, ob, dn, ob + 1, w.heap.size, upd X kk (some (o1, g1, r.1)), M, D, DV, r.2.1, t + r.2.2, O, NV, N, NR⟩ wa) := Lib.hid (HY.out.1.step Htn.out HY.out.2.2 hua hOa Hwf2.out hBa)
                    clear hOa hBa hua Hst hh1
                    have hRd := HR.out.drew
                    obtain ⟨V6, Wp, hr5, ho5, hg5, hf5⟩ := ap_done (hRd.dr kk hkl2) (by dsimp only; have := HP.out.dq kk; have := Hq.out; omega) (M kk)
                    dsimp only at hr5 ho5 hf5
                    obtain ⟨a6, c6, rfl⟩ := owns_sl ho5
                    have hu5 : TrnW w _ (fun i => i = .dr kk) wa.drew Wp := trn_grown (s := ⟨b, bg, sa, ob, dn, ob + 1, w.heap.size, upd X kk (some (o1, g1, r.1)), M, D, DV, r.2.1, t + r.2.2, O, NV, N, NR⟩) (i := .dr kk) (fun k hk => hk) hg5
                    have hM7 := hRd.appD hkl2 hu5 ho5 hf5
                    have Hap := Lib.hid hr5
                    obtain ⟨dva, dvc, hdv⟩ := owns_sl (v := DV kk) (hRd.dr kk hkl2)
                    have hcm := hRd.mine.cell (u64s_get M hkl2)
                    obtain ⟨m, hm⟩ : ∃ m, M kk = m := ⟨_, rfl⟩
                    rw [hm] at Hap hcm
                    have hqv : RA0 (ob + 1) kk m wa.drew := hcm
                    have hRA := hRd.low ((Below.refl _ wa.drew).alloc (Nat.le_refl _) (.cells #[.int .u64 m] 42))
                    have hRB := HR.out.low ((Below.refl _ wa).alloc (Nat.le_refl _) (.cells #[.int .u64 m] 42))
                    have hqA : RA0 (ob + 1) kk m (wa.drew.alloc (.cells #[.int .u64 m] 42)) := by have := hRA.mine.cell (u64s_get M hkl2); rw [hm] at this; exact this
                    have hq5 : RA0 (ob + 1) kk m Wp := by have := (hRd.kMine hu5 (by simp)).cell (u64s_get M hkl2); dsimp only at this; rw [hm] at this; exact this
                    have f0 := HR.out.dn.cell (vals_get DV hkl2)
                    have f1 := hRd.dn.cell (vals_get DV hkl2)
                    have f2 := hRA.dn.cell (vals_get DV hkl2)
                    have f3 := hRB.dn.cell (vals_get DV hkl2)
                    have f5 := (hRd.kDn hu5 (by simp)).cell (vals_get DV hkl2)
                    have z5 := (hRd.kDn hu5 (by simp)).frozen kk
                    have lop := (hRd.kDn hu5 (by simp)).lt
                    have lod := hRd.dn.lt
                    dsimp only at f0 f1 f2 f3 f5 z5 lop lod
                    generalize hv6 : Wp.setCell ⟨dn, kk, none⟩ (.slice a6 ((D kk).length + 1) c6) = v6 at hM7
                    have HM7 := Lib.hid hM7
                    have hq6 : RA0 (ob + 1) kk m v6 := by have := hM7.mine.cell (u64s_get M hkl2); dsimp only at this; rw [hm] at this; exact this
                    have Hmm := Lib.hid hm
                    clear hRd hr5 ho5 hg5 hf5 hu5 hM7 hRA hRB hcm hm HY HR
                    rw [hdv] at f0 f1 f2 f3 f5 Hap
                    have hall : all ≤ 500 := by have := HP.out.a1; have := Hq.out; omega
                    have hall0 : 0 ≤ all := HP.out.a0
                    go_wp2_with fail
                    refine wp_region_held_drew (S := RA0 (ob + 1) kk m) (by kernel_rfl) (hqv) (fun hHeld => ?_)
                    refine wpAnyH_take (i := 0) (v := ?v34) rfl (by kernel_rfl) (by kernel_rfl) (by kernel_rfl) (fun _ _ _ h => h) (Or.inl ⟨by rfl, ?y34⟩) hHeld ?r34
                    case y34 => (intro w hSw; have q0 := hSw; unfold RA0 at q0; go_simp; try with_reducible rfl)
                    simp only [List.getElem_toArray, List.getElem_cons_zero, Act.put, List.setIfInBounds_toArray, List.set_cons_zero, List.set_cons_succ]
                    refine wpAnyH_take (i := 1) (v := ?v35) rfl (by kernel_rfl) (by kernel_rfl) (by kernel_rfl) (fun _ _ _ h => h) (Or.inl ⟨by rfl, ?y35⟩) hHeld ?r35
                    case y35 => (intro w hSw; have q0 := hSw; unfold RA0 at q0; go_simp; try with_reducible rfl)
                    simp only [List.getElem_toArray, List.getElem_cons_zero, List.getElem_cons_succ, Act.put, List.setIfInBounds_toArray, List.set_cons_zero, List.set_cons_succ]
                    refine wpAnyH_take (i := 2) (v := ?v36) rfl (by kernel_rfl) (by kernel_rfl) (by kernel_rfl) (fun _ _ _ h => h) (Or.inl ⟨by rfl, ?y36⟩) hHeld ?r36
                    case y36 => (intro w hSw; have q0 := hSw; unfold RA0 at q0; go_simp; try with_reducible rfl)
                    simp only [List.getElem_toArray, List.getElem_cons_zero, List.getElem_cons_succ, Act.put, List.setIfInBounds_toArray, List.set_cons_zero, List.set_cons_succ]
                    refine wpAnyH_take (i := 3) (v := ?v37) rfl (by kernel_rfl) (by kernel_rfl) (by kernel_rfl) (fun _ _ _ h => h) (Or.inl ⟨by rfl, ?y37⟩) hHeld ?r37
                    case y37 => (intro w hSw; have q0 := hSw; unfold RA0 at q0; go_simp; try with_reducible rfl)
                    simp only [List.getElem_toArray, List.getElem_cons_zero, List.getElem_cons_succ, Act.put, List.setIfInBounds_toArray, List.set_cons_zero, List.set_cons_succ]
                    refine wpAnyH_take (i := 4) (v := ?v38) rfl (by kernel_rfl) (by kernel_rfl) (by kernel_rfl) (fun _ _ _ h => h) (Or.inl ⟨by rfl, ?y38⟩) hHeld ?r38
                    case y38 => (intro w hSw; have q0 := hSw; unfold RA0 at q0; go_simp; try with_reducible rfl)
                    simp only [List.getElem_toArray, List.getElem_cons_zero, List.getElem_cons_succ, Act.put, List.setIfInBounds_toArray, List.set_cons_zero, List.set_cons_succ]
                    refine wpAnyH_take (i := 6) (v := ?v39) rfl (by kernel_rfl) (by kernel_rfl) (by kernel_rfl) (fun _ _ _ h => h) (Or.inl ⟨by rfl, ?y39⟩) hHeld ?r39
                    case y39 => (intro w hSw; have q0 := hSw; unfold RA0 at q0; go_simp; try with_reducible rfl)
                    simp only [List.getElem_toArray, List.getElem_cons_zero, List.getElem_cons_succ, Act.put, List.setIfInBounds_toArray, List.set_cons_zero, List.set_cons_succ]
                    refine wpAnyH_take (i := 7) (v := ?v40) rfl (by kernel_rfl) (by kernel_rfl) (by kernel_rfl) (fun _ _ _ h => h) (Or.inl ⟨by rfl, ?y40⟩) hHeld ?r40
                    case y40 => (intro w hSw; have q0 := hSw; unfold RA0 at q0; go_simp; try with_reducible rfl)
                    simp only [List.getElem_toArray, List.getElem_cons_zero, List.getElem_cons_succ, Act.put, List.setIfInBounds_toArray, List.set_cons_zero, List.set_cons_succ]
                    refine wpAnyH_take (i := 8) (v := ?v41) rfl (by kernel_rfl) (by kernel_rfl) (by kernel_rfl) (fun _ _ _ h => h) (Or.inl ⟨by rfl, ?y41⟩) hHeld ?r41
                    case y41 => (intro w hSw; have q0 := hSw; unfold RA0 at q0; go_simp; try with_reducible rfl)
                    simp only [List.getElem_toArray, List.getElem_cons_zero, List.getElem_cons_succ, Act.put, List.setIfInBounds_toArray, List.set_cons_zero, List.set_cons_succ]
                    refine wpAnyH_take (i := 9) (v := ?v42) rfl (by kernel_rfl) (by kernel_rfl) (by kernel_rfl) (fun _ _ _ h => h) (Or.inl ⟨by rfl, ?y42⟩) hHeld ?r42
                    case y42 => (intro w hSw; have q0 := hSw; unfold RA0 at q0; go_simp; try with_reducible rfl)
                    simp only [List.getElem_toArray, List.getElem_cons_zero, List.getElem_cons_succ, Act.put, List.setIfInBounds_toArray, List.set_cons_zero, List.set_cons_succ]
                    refine wpAnyH_ready (rs := [5, 10]) (by kernel_rfl) (by simp) (AllReadyH.cons rfl (fun K hK => ?_) (AllReadyH.cons rfl (fun K hK => ?_) AllReadyH.nil))
                    · go_simp
                      refine hK.out _ _ (hqv) (fun hHeld => ?_)
                      clear hK K
                      refine wpAnyH_ready (rs := [10]) (by kernel_rfl) (by simp) (AllReadyH.cons rfl (fun K hK => ?_) AllReadyH.nil)
                      go_simp
                      refine hK.out _ _ (hqA) (fun hHeld => ?_)
                      clear hK K
                      refine wpAnyH_ready (rs := [11]) (by kernel_rfl) (by simp) (AllReadyH.cons rfl (fun K hK => ?_) AllReadyH.nil)
                      refine wp_append_run _ (.tmp 137) (.tmp 142) 41 41 rfl _ _ rfl rfl Hap.out ?_
                      refine hK.out _ _ (hq5) (fun hHeld => ?_)
                      clear hK K
                      refine wpAnyH_take (i := 12) (v := ?v45) rfl (by kernel_rfl) (by kernel_rfl) (by kernel_rfl) (fun _ _ _ h => h) (Or.inl ⟨by rfl, ?y45⟩) hHeld ?r45
                      case y45 => (intro w hSw; have q0 := hSw; unfold RA0 at q0; go_simp; try with_reducible rfl)
                      simp only [List.getElem_toArray, List.getElem_cons_zero, List.getElem_cons_succ, Act.put, List.setIfInBounds_toArray, List.set_cons_zero, List.set_cons_succ]
                      refine wpAnyH_ready (rs := [13]) (by kernel_rfl) (by simp) (AllReadyH.cons rfl (fun K hK => ?_) AllReadyH.nil)
                      go_simp
                      go_wp2_with fail
                      refine hK.out _ _ (hq6) (fun hHeld => ?_)
                      clear hK K
                      refine wpAnyH_done (by kernel_rfl) ?_ _
                      clear hHeld hqv hqA hq5 hq6 Hap z5 f0 f1 f2 f3 f5 lop lod
                      have cb := HM7.out.ops.cell (ptrs_get _ (j := kk) hkl2)
                      have fb := HM7.out.ops.frozen kk
                      have lb2 := HM7.out.ops.lt
                      dsimp only at cb fb lb2
                      rw [upd_self] at cb
                      change v6.cell? ⟨ob, kk, none⟩ = some (.pointer (some ⟨o1, 0, none⟩)) at cb
                      have HM8 := Lib.hid (HM7.out.strike kk)
                      go_wp2_with fail
                      go_roundw
                      case rel =>
                        have hs := Hs01.out
                        have hx2 := HM8.out
                        have eX : upd (upd X kk (some (o1, g1, r.1))) kk none = upd X kk none := by
                          funext j
                          by_cases c : j = kk
                          · rw [c, upd_self, upd_self]
                          · rw [upd_ne _ _ c, upd_ne _ _ c, upd_ne _ _ c]
                        dsimp only at hx2
                        rw [eX] at hx2
                        exact ⟨q + 1, _, _, _, _, _, _, O, NV, N, NR, nxt, all + 1, frm, by go_num, by omega, rfl, Ho.out, rfl, by go_num, rfl, hx2, Hh1.out, HP.out.grow (by omega) (by omega) kk⟩
                      case measure => simp [intOf]; omega
                    · go_simp
                      refine hK.out _ _ (hqA) (fun hHeld => ?_)
                      clear hK K
                      refine wpAnyH_ready (rs := [5]) (by kernel_rfl) (by simp) (AllReadyH.cons rfl (fun K hK => ?_) AllReadyH.nil)
                      go_simp
                      refine hK.out _ _ (hqA) (fun hHeld => ?_)
                      clear hK K
                      refine wpAnyH_ready (rs := [11]) (by kernel_rfl) (by simp) (AllReadyH.cons rfl (fun K hK => ?_) AllReadyH.nil)
                      refine wp_append_run _ (.tmp 137) (.tmp 142) 41 41 rfl _ _ rfl rfl Hap.out ?_
                      refine hK.out _ _ (hq5) (fun hHeld => ?_)
                      clear hK K
                      refine wpAnyH_take (i := 12) (v := ?v48) rfl (by kernel_rfl) (by kernel_rfl) (by kernel_rfl) (fun _ _ _ h => h) (Or.inl ⟨by rfl, ?y48⟩) hHeld ?r48
                      case y48 => (intro w hSw; have q0 := hSw; unfold RA0 at q0; go_simp; try with_reducible rfl)
                      simp only [List.getElem_toArray, List.getElem_cons_zero, List.getElem_cons_succ, Act.put, List.setIfInBounds_toArray, List.set_cons_zero, List.set_cons_succ]
                      refine wpAnyH_ready (rs := [13]) (by kernel_rfl) (by simp) (AllReadyH.cons rfl (fun K hK => ?_) AllReadyH.nil)
                      go_simp
                      go_wp2_with fail
                      refine hK.out _ _ (hq6) (fun hHeld => ?_)
                      clear hK K
                      refine wpAnyH_done (by kernel_rfl) ?_ _
                      clear hHeld hqv hqA hq5 hq6 Hap z5 f0 f1 f2 f3 f5 lop lod
                      have cb := HM7.out.ops.cell (ptrs_get _ (j := kk) hkl2)
                      have fb := HM7.out.ops.frozen kk
                      have lb2 := HM7.out.ops.lt
                      dsimp only at cb fb lb2
                      rw [upd_self] at cb
                      change v6.cell? ⟨ob, kk, none⟩ = some (.pointer (some ⟨o1, 0, none⟩)) at cb
                      have HM8 := Lib.hid (HM7.out.strike kk)
                      go_wp2_with fail
                      go_roundw
                      case rel =>
                        have hs := Hs01.out
                        have hx2 := HM8.out
                        have eX : upd (upd X kk (some (o1, g1, r.1))) kk none = upd X kk none := by
                          funext j
                          by_cases c : j = kk
                          · rw [c, upd_self, upd_self]
                          · rw [upd_ne _ _ c, upd_ne _ _ c, upd_ne _ _ c]
                        dsimp only at hx2
                        rw [eX] at hx2
                        exact ⟨q + 1, _, _, _, _, _, _, O, NV, N, NR, nxt, all + 1, frm, by go_num, by omega, rfl, Ho.out, rfl, by go_num, rfl, hx2, Hh1.out, HP.out.grow (by omega) (by omega) kk⟩
                      case measure => simp [intOf]; omega
          · skip
            have HP0 := Lib.hid hP
            have HZ0 := Lib.hid (And.intro hM hW)
            have Hix := Lib.hid hix
            have hxn : x < 0 := by omega
            clear hM hW hP hx hix hx0
            cases O with
            | none =>
              as_aux_lemma =>
                have ho9 : _ = Value.pointer none := Ho.out
                subst ho9
                have Hn1 := Lib.hid (fun W (q : SpB sa (spots 0 l) W) => nnew_ok (some ⟨sa, 0, none⟩) cs (spots 0 l) tr W q.sps (spots_flt HOK.out Htr.out.1 Htr.out.2))
                rw [spots_len] at Hn1
                have cx1 := HZ0.out.1.box.cell (i := 1) rfl
                have lx1 := HZ0.out.1.box.lt
                go_wp2_with fail
                refine (Hn1.out _ HZ0.out.1.spot).mono ?_
                rintro e w6 ⟨p, gs, g, ho, hgs, hg, rfl, hN, hu6⟩
                have hzm := (HZ0.out.1.low hu6).newSn (m := wr.heap.size) hN (fun i q hq => (HZ0.out.1.dj.bd i q hq).2) ho hgs hg HZ0.out.1.bel.size
                have HZ := Lib.hid (And.intro hzm HZ0.out.2)
                have HP := Lib.hid (HP0.out.new HOK.out Htr.out.1 Htr.out.2 p gs g)
                clear ho hgs hg hN hu6 hzm HZ0 HP0 Hn1 cx1 lx1
                generalize hx0 : nst0 tr = x0 at HZ HP
                clear hx0
                go_wp2_with fail
                obtain ⟨G, a0, cb, hS⟩ := HP.out.sn p gs g _ rfl
                have HTW := Lib.hid HZ.out.2
                have hM := HZ.out.1
                have hrng := hM.bank.rng
                have hsi := si_step HOK.out HZ.out.2 hrng hS
                have hqb := HP.out
                have hapt : Apt p gs g b bg := by
                  have dj := hM.dj.dj
                  have f : ∀ k, (k = p ∨ k = gs ∨ k = g) → k ≠ b ∧ k ≠ bg := fun k hk => by
                    have h1 : Ww.own ⟨b, bg, sa, ob, dn, ob + 1, w.heap.size, X, M, D, DV, zs, t, some (p, gs, g, x0), .slice none 0 0, ([] : List (List Int)), ([] : List (Nat × Nat))⟩ .sn k := ⟨_, _, _, _, rfl, hk⟩
                    refine ⟨fun e => ?_, fun e => ?_⟩
                    · have := dj .sn .bank k h1 (.inl e); cases this
                    · have := dj .sn .bank k h1 (.inr e); cases this
                  have f1 := f p (.inl rfl)
                  have f2 := f gs (.inr (.inl rfl))
                  have f3 := f g (.inr (.inr rfl))
                  exact ⟨f1.1, f1.2, f3.1, f3.2, f2.1, f2.2⟩
                have hst := nstep_any (hM.sn p gs g _ rfl) hM.bank hapt hS.wf (by dsimp only; exact hqb.t0) (by dsimp only; have := hqb.t1; have := Hq.out; omega) (by rw [hS.steps]; omega) (by rw [hS.steps]; have := hqb.nq; have := Hq.out; omega)
                dsimp only at hst
                have Hst := Lib.hid hst
                have hNq := hqb.nq
                obtain ⟨hr2, hst1, hmx, hwf2, hcs⟩ := hsi
                have hda := hM.dnAt hqb.d hqb.d1
                have HDA := Lib.hid hda
                clear hst hrng hqb hapt hS hM hda
                generalize nst (spots 0 l) zs x0 = r at *
                obtain ⟨NN, hNN⟩ : ∃ NN, ([] : List (List Int)) ++ [cnt l D] = NN := ⟨_, rfl⟩
                obtain ⟨nl, hnl⟩ : ∃ nl, NN.length = nl := ⟨_, rfl⟩
                have hnl1 : nl = (([] : List (List Int))).length + 1 := by rw [← hnl, ← hNN]; simp
                have hnl4 : (nl : Int) ≤ 500 := by have := Hq.out; omega
                have hst2 : r.1.steps = (nl : Int) := by rw [hst1, hnl1]; push_cast; rfl
                have Hlen := Lib.hid (And.intro hnl hst2)
                rw [hNN] at hcs
                have HNN := Lib.hid hNN
                obtain ⟨MS, hMS⟩ : ∃ MS, nmst (spots 0 l) tr = MS := ⟨_, rfl⟩
                have hms : (nl : Int) ≤ MS := by
                  rw [← hMS]
                  unfold nmst
                  rw [if_pos (spots_flt HOK.out Htr.out.1 Htr.out.2)]
                  rw [hst2] at hmx
                  unfold ful at hmx
                  push_cast at hmx
                  exact hmx
                have hms2 : MS ≤ 100000 := by
                  rw [← hMS]
                  unfold nmst
                  rw [if_pos (spots_flt HOK.out Htr.out.1 Htr.out.2)]
                  have := wid_spots HOK.out
                  have h3 := spots_len l 0
                  have h4 := Int.mul_le_mul (a := tr) (b := 2 * ((spots 0 l).length : Int) + wid (spots 0 l)) (c := 16) (d := 30) Htr.out.2 (by have := Hl5.out; omega) (by omega) (by omega)
                  omega
                have HMS := Lib.hid hMS
                have Hcs := Lib.hid hcs
                clear hst1 hmx hwf2 hnl hst2 hNN hMS hcs hnl1
                go_wp2_with fail
                refine Hst.out.mono ?_
                rintro e wa ⟨rfl, hNa, hKa, hua⟩
                rw [hr2] at hKa
                have H7 := Lib.hid (HZ.out.1.stepSn rfl hua hNa hKa)
                have HDA7 := Lib.hid (H7.out.dnAt HP.out.d HP.out.d1)
                clear hNa hKa hua Hst hr2 HDA
                go_wp2_with fail
                go_loopw [27, 28] (fun v i wr => NowRel wa l D v i wr) (fun _ i _ => l.length - (intOf i).toNat)
                case atStart => exact ⟨0, rfl, by omega, by simp; exact World.ownsRow_nil _ _ _ _, Below.refl _ _⟩
                case round =>
                  obtain ⟨j, rfl, hj, hO, hbw⟩ := hrel
                  obtain ⟨va, vc, rfl⟩ := owns_sl hO
                  by_cases hlt3 : (j : Int) < l.length
                  · obtain ⟨dq, dc, dd1, _⟩ := HDA7.out j (by omega)
                    obtain ⟨u, hu⟩ : ∃ u, (D j).length = u + 1 := ⟨(D j).length - 1, by have := HP.out.d1 j; omega⟩
                    have hu4 : (u : Int) ≤ 500 := by have := HP.out.dq j; have := Hq.out; omega
                    have dd1 := cell_low hbw dd1
                    try dsimp only at dd1
                    rw [hu] at dd1
                    obtain ⟨v2, w3, hr3, ho3, hb3⟩ := ap_i64 hO hbw.size (by omega) u
                    have Hap := Lib.hid hr3
                    obtain ⟨va2, vc2, rfl⟩ := owns_sl ho3
                    have HO3 := Lib.hid (And.intro ho3 (And.intro (hbw.trans hb3) hu))
                    have dd2 := cell_low ((Below.refl wr.heap.size wr).alloc (Nat.le_refl _) (.cells #[.int .i64 (u : Int)] 3)) dd1
                    clear hO hbw hr3 ho3 hb3 hu
                    go_wp2_with (at_builtin; refine wpList_append_run _ rfl _ _ 59 59 rfl _ _ rfl rfl Hap.out ?_)
                    go_roundw
                    case rel =>
                      obtain ⟨ho3, hb3, hu⟩ := HO3.out
                      refine ⟨j + 1, by go_num, by omega, ?_, hb3⟩
                      have hc := cnt_at D (show j < l.length by omega)
                      rw [hu, Nat.add_sub_cancel] at hc
                      rw [List.take_add_one, hc, List.map_append]
                      exact ho3
                    case measure => simp [intOf]; omega
                  · obtain rfl : j = l.length := by omega
                    rw [List.take_of_length_le (Nat.le_of_eq (cnt_len l D))] at hO
                    obtain ⟨qn, cn, hv, hqn, hRw⟩ := now_row hO (by have := Hl5.out; omega)
                    cases hv
                    have hown := H7.out.dj.bd
                    have H7w := H7.out.low hbw
                    obtain ⟨V2, w8, hr8, ho8, hg8, hf8⟩ := ap_row H7w.nw (by dsimp only; have := Hq.out; omega) (rwv l.length (qn, vc)) rfl
                    have hnv : ∀ k, Value.ownBlock (.slice none 0 0) = some k → k < wa.heap.size := fun k hk => (hown .nw k hk).2
                    have H8' := H7w.appN (m := wa.heap.size) hRw (cnt_len l D) (fun i k hk => (hown i k hk).2) hqn H7.out.bel.size (trn_grown (i := .nw) (fun k hk => hk) hg8) ((hg8.block qn (by have := hRw.lt; simp; omega) (fun c => by have := hnv qn c.symm; omega)).trans (Below.heap_alloc _ _ _ hRw.lt)) ho8 hf8
                    dsimp only at H8'
                    rw [HNN.out] at H8'
                    obtain ⟨na2, nc2, hV2, hNw⟩ := H8'.nwAt
                    dsimp only at hV2 hNw
                    rw [Hlen.out.1] at hV2
                    subst hV2
                    have H8 := Lib.hid H8'
                    have HNw := Lib.hid hNw
                    have Hap8 := Lib.hid hr8
                    obtain ⟨nva, nvc, hnvv⟩ := owns_sl (v := .slice none 0 0) H7w.nw
                    dsimp only at hnvv
                    have Hnvv := Lib.hid hnvv
                    clear hO hbw hqn hRw hown H7w ho8 hg8 hf8 hnv H8' hNw hr8 hnvv H7 HDA7
                    rcases Hcs.out with ⟨hh, hd⟩ | ⟨hh, hd⟩ | ⟨hh, hd⟩
                    all_goals
                      have HD1 := Lib.hid (And.intro hh hd)
                      clear hd
                    · rw [hh]
                      clear hh Hcs HZ
                      as_aux_lemma =>
                        go_wp2_with (at_builtin; refine wpList_append_run _ rfl _ _ 64 64 rfl _ _ rfl rfl Hap8.out ?_)
                        have hm8 := H8.out.spot
                        have HSP8 := H8.out.sn p gs g _ rfl
                        have HMost := Lib.hid (fun W (q : SpB sa (spots 0 l) W) => nmost_any (some ⟨sa, 0, none⟩) cs (spots 0 l) tr W q.sps (by rw [spots_len]; omega))
                        rw [spots_len, HMS.out] at HMost
                        have HSt8 := nsteps_any HSP8
                        rw [Hlen.out.2] at HSt8
                        have Hst8 := Lib.hid HSt8
                        have cx1 := H8.out.box.cell (i := 1) rfl
                        have lx1 := H8.out.box.lt
                        have mnn : ((nl : Int) != (nl : Int)) = false := by simp
                        clear hm8 HSP8 HSt8
                        go_wp2_with fail
                        refine Hst8.out.mono ?_
                        rintro e wq ⟨rfl, rfl⟩
                        go_wp2_with fail
                        refine (HMost.out _ H8.out.spot).mono ?_
                        rintro e w9 ⟨rfl, hb9⟩
                        have H9 := Lib.hid (H8.out.low hb9)
                        have cx2 := H9.out.box.cell (i := 1) rfl
                        have lx2 := H9.out.box.lt
                        clear hb9 H8 HMost Hst8 cx1 lx1
                        go_wp2_with fail
                        go_roundw
                        case rel =>
                          exact ⟨q + 1, X, M, D, DV, zs, t + 1, some (p, gs, g, r.1), _, NN, _, nxt, all, all, by go_num, by omega, rfl, rfl, rfl, rfl, rfl, H9.out, HTW.out, by rw [← HNN.out]; exact HP.out.busy p gs g (by rw [HNN.out]; exact HD1.out.2)⟩
                        case measure => simp [intOf]; omega
                    · rw [hh]
                      clear hh Hcs HZ
                      as_aux_lemma =>
                        go_wp2_with (at_builtin; refine wpList_append_run _ rfl _ _ 64 64 rfl _ _ rfl rfl Hap8.out ?_)
                        have hm8 := H8.out.spot
                        have HSP8 := H8.out.sn p gs g _ rfl
                        have HMost := Lib.hid (fun W (q : SpB sa (spots 0 l) W) => nmost_any (some ⟨sa, 0, none⟩) cs (spots 0 l) tr W q.sps (by rw [spots_len]; omega))
                        rw [spots_len, HMS.out] at HMost
                        have HSt8 := nsteps_any HSP8
                        rw [Hlen.out.2] at HSt8
                        have Hst8 := Lib.hid HSt8
                        have cx1 := H8.out.box.cell (i := 1) rfl
                        have lx1 := H8.out.box.lt
                        have mnn : ((nl : Int) != (nl : Int)) = false := by simp
                        clear hm8 HSP8 HSt8
                        go_wp2_with fail
                        refine Hst8.out.mono ?_
                        rintro e wq ⟨rfl, rfl⟩
                        go_wp2_with fail
                        refine (HMost.out _ H8.out.spot).mono ?_
                        rintro e w9 ⟨rfl, hb9⟩
                        have H9 := Lib.hid (H8.out.low hb9)
                        have HTd := Lib.hid (told_any (o := p) (gs := gs) (g := g) (x := r.1) (D := D) (N := NN) (H9.out.sn p gs g _ rfl) HD1.out.1 HOK.out HD1.out.2 a cap ((HT.out.below H9.out.bel).mono' H9.out.bel.size) dn (H9.out.dnAt HP.out.d HP.out.d1) na2 nc2 (HNw.out.low hb9) (by rw [Hlen.out.1]; omega) (fun j => by have := HP.out.dq j; have := Hq.out; omega))
                        rw [Hlen.out.1] at HTd
                        have cx2 := H9.out.box.cell (i := 1) rfl
                        have lx2 := H9.out.box.lt
                        clear hb9 H8 HMost Hst8 cx1 lx1
                        go_wp2_with fail
                        refine HTd.out.mono ?_
                        rintro e w10 ⟨rfl, hb10⟩
                        have H10 := Lib.hid (H9.out.low hb10)
                        clear hb10 HTd cx2 lx2 H9
                        go_wp2_with fail
                        go_roundw
                        case rel =>
                          have hz := H10.out.drop
                          exact ⟨q + 1, X, M, D, DV, zs, t + 1, none, _, NN, _, nxt, all, all, by go_num, by omega, rfl, rfl, rfl, rfl, rfl, hz, HTW.out, by rw [← HNN.out]; exact HP.out.ended _⟩
                        case measure => simp [intOf]; omega
                    · rw [hh]
                      clear hh Hcs HZ
                      as_aux_lemma =>
                        go_wp2_with (at_builtin; refine wpList_append_run _ rfl _ _ 64 64 rfl _ _ rfl rfl Hap8.out ?_)
                        exfalso
                        have h8 := HD1.out.2
                        have h9 := Htr.out.1
                        omega
            | some pp =>
              as_aux_lemma =>
                obtain ⟨p, gs, g, x0⟩ := pp
                have ho9 : _ = Value.pointer (some ⟨p, 0, none⟩) := Ho.out
                subst ho9
                have HZ := Lib.hid HZ0.out
                have HP := Lib.hid HP0.out
                clear HZ0 HP0
                obtain ⟨nva, nvc, hnv⟩ := owns_sl (v := NV) HZ.out.1.nw
                dsimp only at hnv
                subst hnv
                go_wp2_with fail
                obtain ⟨G, a0, cb, hS⟩ := HP.out.sn p gs g _ rfl
                have HTW := Lib.hid HZ.out.2
                have hM := HZ.out.1
                have hrng := hM.bank.rng
                have hsi := si_step HOK.out HZ.out.2 hrng hS
                have hqb := HP.out
                have hapt : Apt p gs g b bg := by
                  have dj := hM.dj.dj
                  have f : ∀ k, (k = p ∨ k = gs ∨ k = g) → k ≠ b ∧ k ≠ bg := fun k hk => by
                    have h1 : Ww.own ⟨b, bg, sa, ob, dn, ob + 1, w.heap.size, X, M, D, DV, zs, t, some (p, gs, g, x0), .slice nva N.length nvc, N, NR⟩ .sn k := ⟨_, _, _, _, rfl, hk⟩
                    refine ⟨fun e => ?_, fun e => ?_⟩
                    · have := dj .sn .bank k h1 (.inl e); cases this
                    · have := dj .sn .bank k h1 (.inr e); cases this
                  have f1 := f p (.inl rfl)
                  have f2 := f gs (.inr (.inl rfl))
                  have f3 := f g (.inr (.inr rfl))
                  exact ⟨f1.1, f1.2, f3.1, f3.2, f2.1, f2.2⟩
                have hst := nstep_any (hM.sn p gs g _ rfl) hM.bank hapt hS.wf (by dsimp only; exact hqb.t0) (by dsimp only; have := hqb.t1; have := Hq.out; omega) (by rw [hS.steps]; omega) (by rw [hS.steps]; have := hqb.nq; have := Hq.out; omega)
                dsimp only at hst
                have Hst := Lib.hid hst
                have hNq := hqb.nq
                obtain ⟨hr2, hst1, hmx, hwf2, hcs⟩ := hsi
                have hda := hM.dnAt hqb.d hqb.d1
                have HDA := Lib.hid hda
                clear hst hrng hqb hapt hS hM hda
                generalize nst (spots 0 l) zs x0 = r at *
                obtain ⟨NN, hNN⟩ : ∃ NN, N ++ [cnt l D] = NN := ⟨_, rfl⟩
                obtain ⟨nl, hnl⟩ : ∃ nl, NN.length = nl := ⟨_, rfl⟩
                have hnl1 : nl = (N).length + 1 := by rw [← hnl, ← hNN]; simp
                have hnl4 : (nl : Int) ≤ 500 := by have := Hq.out; omega
                have hst2 : r.1.steps = (nl : Int) := by rw [hst1, hnl1]; push_cast; rfl
                have Hlen := Lib.hid (And.intro hnl hst2)
                rw [hNN] at hcs
                have HNN := Lib.hid hNN
                obtain ⟨MS, hMS⟩ : ∃ MS, nmst (spots 0 l) tr = MS := ⟨_, rfl⟩
                have hms : (nl : Int) ≤ MS := by
                  rw [← hMS]
                  unfold nmst
                  rw [if_pos (spots_flt HOK.out Htr.out.1 Htr.out.2)]
                  rw [hst2] at hmx
                  unfold ful at hmx
                  push_cast at hmx
                  exact hmx
                have hms2 : MS ≤ 100000 := by
                  rw [← hMS]
                  unfold nmst
                  rw [if_pos (spots_flt HOK.out Htr.out.1 Htr.out.2)]
                  have := wid_spots HOK.out
                  have h3 := spots_len l 0
                  have h4 := Int.mul_le_mul (a := tr) (b := 2 * ((spots 0 l).length : Int) + wid (spots 0 l)) (c := 16) (d := 30) Htr.out.2 (by have := Hl5.out; omega) (by omega) (by omega)
                  omega
                have HMS := Lib.hid hMS
                have Hcs := Lib.hid hcs
                clear hst1 hmx hwf2 hnl hst2 hNN hMS hcs hnl1
                go_wp2_with fail
                refine Hst.out.mono ?_
                rintro e wa ⟨rfl, hNa, hKa, hua⟩
                rw [hr2] at hKa
                have H7 := Lib.hid (HZ.out.1.stepSn rfl hua hNa hKa)
                have HDA7 := Lib.hid (H7.out.dnAt HP.out.d HP.out.d1)
                clear hNa hKa hua Hst hr2 HDA
                go_wp2_with fail
                go_loopw [27, 28] (fun v i wr => NowRel wa l D v i wr) (fun _ i _ => l.length - (intOf i).toNat)
                case atStart => exact ⟨0, rfl, by omega, by simp; exact World.ownsRow_nil _ _ _ _, Below.refl _ _⟩
                case round =>
                  obtain ⟨j, rfl, hj, hO, hbw⟩ := hrel
                  obtain ⟨va, vc, rfl⟩ := owns_sl hO
                  by_cases hlt3 : (j : Int) < l.length
                  · obtain ⟨dq, dc, dd1, _⟩ := HDA7.out j (by omega)
                    obtain ⟨u, hu⟩ : ∃ u, (D j).length = u + 1 := ⟨(D j).length - 1, by have := HP.out.d1 j; omega⟩
                    have hu4 : (u : Int) ≤ 500 := by have := HP.out.dq j; have := Hq.out; omega
                    have dd1 := cell_low hbw dd1
                    try dsimp only at dd1
                    rw [hu] at dd1
                    obtain ⟨v2, w3, hr3, ho3, hb3⟩ := ap_i64 hO hbw.size (by omega) u
                    have Hap := Lib.hid hr3
                    obtain ⟨va2, vc2, rfl⟩ := owns_sl ho3
                    have HO3 := Lib.hid (And.intro ho3 (And.intro (hbw.trans hb3) hu))
                    have dd2 := cell_low ((Below.refl wr.heap.size wr).alloc (Nat.le_refl _) (.cells #[.int .i64 (u : Int)] 3)) dd1
                    clear hO hbw hr3 ho3 hb3 hu
                    go_wp2_with (at_builtin; refine wpList_append_run _ rfl _ _ 59 59 rfl _ _ rfl rfl Hap.out ?_)
                    go_roundw
                    case rel =>
                      obtain ⟨ho3, hb3, hu⟩ := HO3.out
                      refine ⟨j + 1, by go_num, by omega, ?_, hb3⟩
                      have hc := cnt_at D (show j < l.length by omega)
                      rw [hu, Nat.add_sub_cancel] at hc
                      rw [List.take_add_one, hc, List.map_append]
                      exact ho3
                    case measure => simp [intOf]; omega
                  · obtain rfl : j = l.length := by omega
                    rw [List.take_of_length_le (Nat.le_of_eq (cnt_len l D))] at hO
                    obtain ⟨qn, cn, hv, hqn, hRw⟩ := now_row hO (by have := Hl5.out; omega)
                    cases hv
                    have hown := H7.out.dj.bd
                    have H7w := H7.out.low hbw
                    obtain ⟨V2, w8, hr8, ho8, hg8, hf8⟩ := ap_row H7w.nw (by dsimp only; have := Hq.out; omega) (rwv l.length (qn, vc)) rfl
                    have hnv : ∀ k, Value.ownBlock (.slice nva N.length nvc) = some k → k < wa.heap.size := fun k hk => (hown .nw k hk).2
                    have H8' := H7w.appN (m := wa.heap.size) hRw (cnt_len l D) (fun i k hk => (hown i k hk).2) hqn H7.out.bel.size (trn_grown (i := .nw) (fun k hk => hk) hg8) ((hg8.block qn (by have := hRw.lt; simp; omega) (fun c => by have := hnv qn c.symm; omega)).trans (Below.heap_alloc _ _ _ hRw.lt)) ho8 hf8
                    dsimp only at H8'
                    rw [HNN.out] at H8'
                    obtain ⟨na2, nc2, hV2, hNw⟩ := H8'.nwAt
                    dsimp only at hV2 hNw
                    rw [Hlen.out.1] at hV2
                    subst hV2
                    have H8 := Lib.hid H8'
                    have HNw := Lib.hid hNw
                    have Hap8 := Lib.hid hr8
                    obtain ⟨nva, nvc, hnvv⟩ := owns_sl (v := .slice nva N.length nvc) H7w.nw
                    dsimp only at hnvv
                    have Hnvv := Lib.hid hnvv
                    clear hO hbw hqn hRw hown H7w ho8 hg8 hf8 hnv H8' hNw hr8 hnvv H7 HDA7
                    rcases Hcs.out with ⟨hh, hd⟩ | ⟨hh, hd⟩ | ⟨hh, hd⟩
                    all_goals
                      have HD1 := Lib.hid (And.intro hh hd)
                      clear hd
                    · rw [hh]
                      clear hh Hcs HZ
                      as_aux_lemma =>
                        go_wp2_with (at_builtin; refine wpList_append_run _ rfl _ _ 64 64 rfl _ _ rfl rfl Hap8.out ?_)
                        have hm8 := H8.out.spot
                        have HSP8 := H8.out.sn p gs g _ rfl
                        have HMost := Lib.hid (fun W (q : SpB sa (spots 0 l) W) => nmost_any (some ⟨sa, 0, none⟩) cs (spots 0 l) tr W q.sps (by rw [spots_len]; omega))
                        rw [spots_len, HMS.out] at HMost
                        have HSt8 := nsteps_any HSP8
                        rw [Hlen.out.2] at HSt8
                        have Hst8 := Lib.hid HSt8
                        have cx1 := H8.out.box.cell (i := 1) rfl
                        have lx1 := H8.out.box.lt
                        have mnn : ((nl : Int) != (nl : Int)) = false := by simp
                        clear hm8 HSP8 HSt8
                        go_wp2_with fail
                        refine Hst8.out.mono ?_
                        rintro e wq ⟨rfl, rfl⟩
                        go_wp2_with fail
                        refine (HMost.out _ H8.out.spot).mono ?_
                        rintro e w9 ⟨rfl, hb9⟩
                        have H9 := Lib.hid (H8.out.low hb9)
                        have cx2 := H9.out.box.cell (i := 1) rfl
                        have lx2 := H9.out.box.lt
                        clear hb9 H8 HMost Hst8 cx1 lx1
                        go_wp2_with fail
                        go_roundw
                        case rel =>
                          exact ⟨q + 1, X, M, D, DV, zs, t + 1, some (p, gs, g, r.1), _, NN, _, nxt, all, frm, by go_num, by omega, rfl, rfl, rfl, rfl, rfl, H9.out, HTW.out, by rw [← HNN.out]; exact HP.out.busy p gs g (by rw [HNN.out]; exact HD1.out.2)⟩
                        case measure => simp [intOf]; omega
                    · rw [hh]
                      clear hh Hcs HZ
                      as_aux_lemma =>
                        go_wp2_with (at_builtin; refine wpList_append_run _ rfl _ _ 64 64 rfl _ _ rfl rfl Hap8.out ?_)
                        have hm8 := H8.out.spot
                        have HSP8 := H8.out.sn p gs g _ rfl
                        have HMost := Lib.hid (fun W (q : SpB sa (spots 0 l) W) => nmost_any (some ⟨sa, 0, none⟩) cs (spots 0 l) tr W q.sps (by rw [spots_len]; omega))
                        rw [spots_len, HMS.out] at HMost
                        have HSt8 := nsteps_any HSP8
                        rw [Hlen.out.2] at HSt8
                        have Hst8 := Lib.hid HSt8
                        have cx1 := H8.out.box.cell (i := 1) rfl
                        have lx1 := H8.out.box.lt
                        have mnn : ((nl : Int) != (nl : Int)) = false := by simp
                        clear hm8 HSP8 HSt8
                        go_wp2_with fail
                        refine Hst8.out.mono ?_
                        rintro e wq ⟨rfl, rfl⟩
                        go_wp2_with fail
                        refine (HMost.out _ H8.out.spot).mono ?_
                        rintro e w9 ⟨rfl, hb9⟩
                        have H9 := Lib.hid (H8.out.low hb9)
                        have HTd := Lib.hid (told_any (o := p) (gs := gs) (g := g) (x := r.1) (D := D) (N := NN) (H9.out.sn p gs g _ rfl) HD1.out.1 HOK.out HD1.out.2 a cap ((HT.out.below H9.out.bel).mono' H9.out.bel.size) dn (H9.out.dnAt HP.out.d HP.out.d1) na2 nc2 (HNw.out.low hb9) (by rw [Hlen.out.1]; omega) (fun j => by have := HP.out.dq j; have := Hq.out; omega))
                        rw [Hlen.out.1] at HTd
                        have cx2 := H9.out.box.cell (i := 1) rfl
                        have lx2 := H9.out.box.lt
                        clear hb9 H8 HMost Hst8 cx1 lx1
                        go_wp2_with fail
                        refine HTd.out.mono ?_
                        rintro e w10 ⟨rfl, hb10⟩
                        have H10 := Lib.hid (H9.out.low hb10)
                        clear hb10 HTd cx2 lx2 H9
                        go_wp2_with fail
                        go_roundw
                        case rel =>
                          have hz := H10.out.drop
                          exact ⟨q + 1, X, M, D, DV, zs, t + 1, none, _, NN, _, nxt, all, frm, by go_num, by omega, rfl, rfl, rfl, rfl, rfl, hz, HTW.out, by rw [← HNN.out]; exact HP.out.ended _⟩
                        case measure => simp [intOf]; omega
                    · rw [hh]
                      clear hh Hcs HZ
                      as_aux_lemma =>
                        go_wp2_with (at_builtin; refine wpList_append_run _ rfl _ _ 64 64 rfl _ _ rfl rfl Hap8.out ?_)
                        have hm8 := H8.out.spot
                        have HSP8 := H8.out.sn p gs g _ rfl
                        have HMost := Lib.hid (fun W (q : SpB sa (spots 0 l) W) => nmost_any (some ⟨sa, 0, none⟩) cs (spots 0 l) tr W q.sps (by rw [spots_len]; omega))
                        rw [spots_len, HMS.out] at HMost
                        have HSt8 := nsteps_any HSP8
                        rw [Hlen.out.2] at HSt8
                        have Hst8 := Lib.hid HSt8
                        have cx1 := H8.out.box.cell (i := 1) rfl
                        have lx1 := H8.out.box.lt
                        have mnn : ((nl : Int) != (nl : Int)) = false := by simp
                        clear hm8 HSP8 HSt8
                        go_wp2_with fail
                        refine Hst8.out.mono ?_
                        rintro e wq ⟨rfl, rfl⟩
                        go_wp2_with fail
                        refine (HMost.out _ H8.out.spot).mono ?_
                        rintro e w9 ⟨rfl, hb9⟩
                        have H9 := Lib.hid (H8.out.low hb9)
                        have cx2 := H9.out.box.cell (i := 1) rfl
                        have lx2 := H9.out.box.lt
                        clear hb9 H8 HMost Hst8 cx1 lx1
                        have hfa := HD1.out.2
                        have hq9 := HP.out
                        obtain ⟨_, _, _, _, _, e0, e1, f0, f1, _, _, _, _⟩ := hq9
                        have hqq := Hq.out
                        go_wp2_with fail
                        go_roundw
                        case rel =>
                          have hz := H9.out.drop
                          exact ⟨q + 1, X, M, D, DV, zs, t + 1, none, _, NN, _, nxt, all, frm, by go_num, by omega, rfl, rfl, rfl, rfl, rfl, hz, HTW.out, by rw [← HNN.out]; exact HP.out.ended _⟩
                        case measure => simp [intOf]; omega
        · obtain rfl : q = pn := by omega
          have HB := Lib.hid hM.bel
          clear hM hW hP
          go_wp2_with fail
          refine (awake_any _).mono ?_
          rintro e wz ⟨rfl, huz⟩
          have HE9 := Lib.hid (HB.out.trans (huz.mono HB.out.size))
          clear huz
          go_wp2
          go_ret
          exact ⟨rfl, HE9.out⟩
end Go.Proofs.Ytflgggfomhifeaa
