/- The document's step: a word. -/
import Derived.Test.YtflgggfomhifeaaRnD
namespace Go.Proofs.Ytflgggfomhifeaa
open Go.RowKit

section
variable {w : World} {o wb b off ln cp k nn : Nat} {V U : Value} {SS : List Sp} {tr left p bn v : Int} {tl ys : List Int}
set_option maxRecDepth 100000 in
set_option maxHeartbeats 2000000 in
theorem rn_word (h : RnAt w o (some ⟨b, off, none⟩) ln cp V U SS tr ⟨0, 1, k, nn, left, p, bn, tl⟩) (hB : Row w wb ys) (hne : o ≠ wb) (hvw : V.ownBlock ≠ some wb) (huw : U.ownBlock ≠ some wb) (hw : NWf SS ⟨0, 1, k, nn, left, p, bn, tl⟩) (_t1 : left ≤ tr) (_t2 : tr ≤ 16) (p0 : 0 ≤ p) (p1 : p ≤ 1000000) (hyl : ys.length ≤ 1000) (hv : getI ys (nxl SS ⟨0, 1, k, nn, left, p, bn, tl⟩) = some v) (hu : U64 v) (hm : ¬ (nn : Int) + 1 = (nxs SS ⟨0, 1, k, nn, left, p, bn, tl⟩).wd) :
    Calls Try.prog 16 #[.pointer (some ⟨o, 0, none⟩), .slice (some ⟨wb, 0, none⟩) ys.length ys.length] w (RnPost o wb (some ⟨b, off, none⟩) ln cp V U SS tr ys ⟨0, 1, k, (nn + 1), left, (p + 1), bn, (tl ++ [v])⟩ w) := by
  obtain ⟨gl, wl, hr, Q0⟩ := Rtg.start h hB hne hvw huw
  have hgw := hr (fun c => by have := c.1; dsimp only at this; omega)
  clear hr
  dsimp only at hgw
  have hlen := h.len
  have ha1 := hw.a1 rfl
  dsimp only at ha1
  have hk0 := hw.k
  dsimp only at hk0
  have hgll : gl.length = ln := by rw [hgw.1, List.length_take]; omega
  obtain ⟨gg, vc, rfl, hgb⟩ := owns_some Q0.gv (by omega)
  obtain ⟨ua, uc, rfl⟩ := owns_sl Q0.uv
  have hsp := hw.sp
  obtain ⟨gen, g1, g2, g3⟩ := hw.gen (by show (1 : Int) ≤ 1; omega)
  dsimp only at g1 g2
  have hgk : gl[k]? = some gen := by rw [hgw.1, List.getElem?_take_of_lt (by omega)]; exact g1
  have Hgw := Lib.hid hgw
  have Hgk := Lib.hid hgk
  have R0 := Q0.to (C' := (rc (.slice (some ⟨b, off, none⟩) ln cp) (.slice (some ⟨gg, 0, none⟩) gl.length vc) (.slice ua wl.length uc) tr 2 k nn (tr - left) bn 0 p)) (by simp [rfc, rc])
  obtain ⟨b', off', heq, hbl, hjj⟩ := R0.sp k _ hsp
  clear hjj
  cases heq
  obtain ⟨S, hSe⟩ : ∃ S, nxs SS ⟨0, 1, k, nn, left, p, bn, tl⟩ = S := ⟨_, rfl⟩
  have hrm := hw.room1 (by show (1 : Int) ≤ 1; omega)
  dsimp only at hrm
  have hwll : wl.length ≤ 100000 := by rw [hgw.2, List.length_drop]; have := hw.rbd; omega
  have hmu : Value.ownBlock (.slice ua wl.length uc) ≠ some w.heap.size := fun e => by have := owns_lt Q0.uv e; omega
  have Hwl := Lib.hid (And.intro hwll hmu)
  obtain ⟨_, hA0, hA1⟩ := nxl_bd hw
  rw [hSe] at ha1
  dsimp only at hA0 hA1
  rw [hSe, g2] at hA0 hA1
  have hHt := rat_any S.ow S.sq S.fs S.wd S.dp gen
  have Hat := Lib.hid (fun W => hHt W g3.1 g3.2)
  clear hHt
  have HtlL := Lib.hid (show SS.length ≤ tl.length by omega)
  have hn2 := ha1.2
  have hn64 : S.wd ≤ 64 := by rw [← hSe]; exact hw.rts.2.1
  have hrt := hw.rts
  rw [hSe] at hsp hrt
  have hs64 := hw.s64
  rw [hlen] at hs64
  have hkl : k < ln := by omega
  have hkl2 : (k : Int) < ln := by omega
  have hkg : (k : Int) < gl.length := by omega
  have hq0 : 0 ≤ S.sq := by unfold Rt at hrt; omega
  unfold nxl at hv
  rw [if_pos (by rfl), hSe] at hv
  dsimp only at hv
  rw [g2] at hv
  obtain ⟨J, hJ⟩ : ∃ J : Int, atv S.fs S.wd S.dp gen + (nn : Int) = J := ⟨_, rfl⟩
  generalize atv S.fs S.wd S.dp gen = A at *
  rw [hJ] at hv
  obtain ⟨hJ0, hv1⟩ := getI_some hv
  have hlt := lt_of_some hv1
  obtain ⟨i, hi⟩ := Int.eq_ofNat_of_zero_le hJ0
  subst hi
  rw [Int.toNat_natCast] at hv1 hlt
  have hlt2 : (i : Int) < ys.length := by omega
  have Hv1 := Lib.hid hv1
  have hwA : IntKind.i64.wrap (i : Int) = i := by rw [IntKind.wrap_i64]; omega
  obtain ⟨u0, u1⟩ := hu
  rw [hSe] at hm
  have hmw : (((nn : Int) + 1) == S.wd) = false := by simp; omega
  have hom : w.heap.size ≠ o := by have := R0.bk.lt; omega
  obtain ⟨bb, hm8⟩ : ∃ bb : Bool, ((k : Int) == (ln : Int) - 1) = bb := ⟨_, rfl⟩
  have RA := R0.drew.alloc (.cells #[.int .i64 0, .int .i64 0, .int .i64 0, .int .i64 0, .int .i64 0] 96)
  have R1 := (R0.alloc (sb2 S)).drew
  have hM1 : Blk (w.alloc (sb2 S)).drew w.heap.size (spc5 S) := Blk.new w #[.int .i64 S.ow, .int .i64 S.sq, .int .i64 S.fs, .int .i64 S.wd, .int .i64 S.dp] 96
  have HQ0 := Lib.hid (RX.of R0.drew hsp)
  have HQ1 := Lib.hid (RX.of RA hsp)
  have HQ2 := Lib.hid (RX.of R1 hsp)
  have hM := Blk.new w.drew #[.int .i64 0, .int .i64 0, .int .i64 0, .int .i64 0, .int .i64 0] 96
  change Blk _ w.heap.size _ at hM
  have hM0 := hM.cell (i := 0) rfl
  have hM1c := hM.cell (i := 1) rfl
  have hM2 := hM.cell (i := 2) rfl
  have hM3 := hM.cell (i := 3) rfl
  have hM4 := hM.cell (i := 4) rfl
  have y0 := hM.frozen 0
  have y1 := hM.frozen 1
  have y2 := hM.frozen 2
  have y3 := hM.frozen 3
  have y4 := hM.frozen 4
  have lA := hM.lt
  have lo0 := R0.bk.lt
  have lw0 := R0.row.lt
  have e0_9 := R0.bk.cell (i := 9) (v := .int .i64 (0)) rfl
  have Hlen := Lib.hid hlen
  have HR1 := Lib.hid R1
  have HM1 := Lib.hid hM1
  clear Q0 R0 RA R1 hM1 hM h hB hvw huw hsp hgw hgk hw hSe hrt ha1 hrm hwll hmu g1 g2 g3 hgll hlen hk0 hv hv1 hlt hm hJ0
  go_enter Try.func16, Try.ntmps16
  go_wp2_with fail
  refine wp_region_held_drew (S := RX o b off cp ln k S) (by kernel_rfl) (HQ0.out) (fun hHeld => ?_)
  refine wpAnyH_take (i := 0) (v := ?v36) rfl (by kernel_rfl) (by kernel_rfl) (by kernel_rfl) (fun _ _ _ h => h) (Or.inl ⟨by rfl, ?y36⟩) hHeld ?r36
  case y36 => (intro w hSw; obtain ⟨⟨q0, q1⟩, q2, q3, q4, q5, q6⟩ := hSw; (try simp only [Nat.zero_mul, Nat.add_zero] at q2 q3 q4 q5 q6); go_simp; try with_reducible rfl)
  simp only [List.getElem_toArray, List.getElem_cons_zero, Act.put, List.setIfInBounds_toArray, List.set_cons_zero, List.set_cons_succ]
  refine wpAnyH_take (i := 1) (v := ?v37) rfl (by kernel_rfl) (by kernel_rfl) (by kernel_rfl) (fun _ _ _ h => h) (Or.inl ⟨by rfl, ?y37⟩) hHeld ?r37
  case y37 => (intro w hSw; obtain ⟨⟨q0, q1⟩, q2, q3, q4, q5, q6⟩ := hSw; (try simp only [Nat.zero_mul, Nat.add_zero] at q2 q3 q4 q5 q6); go_simp; try with_reducible rfl)
  simp only [List.getElem_toArray, List.getElem_cons_zero, List.getElem_cons_succ, Act.put, List.setIfInBounds_toArray, List.set_cons_zero, List.set_cons_succ]
  refine wpAnyH_take (i := 2) (v := ?v38) rfl (by kernel_rfl) (by kernel_rfl) (by kernel_rfl) (fun _ _ _ h => h) (Or.inl ⟨by rfl, ?y38⟩) hHeld ?r38
  case y38 => (intro w hSw; obtain ⟨⟨q0, q1⟩, q2, q3, q4, q5, q6⟩ := hSw; (try simp only [Nat.zero_mul, Nat.add_zero] at q2 q3 q4 q5 q6); go_simp; try with_reducible rfl)
  simp only [List.getElem_toArray, List.getElem_cons_zero, List.getElem_cons_succ, Act.put, List.setIfInBounds_toArray, List.set_cons_zero, List.set_cons_succ]
  refine wpAnyH_take (i := 3) (v := ?v39) rfl (by kernel_rfl) (by kernel_rfl) (by kernel_rfl) (fun _ _ _ h => h) (Or.inl ⟨by rfl, ?y39⟩) hHeld ?r39
  case y39 => (intro w hSw; obtain ⟨⟨q0, q1⟩, q2, q3, q4, q5, q6⟩ := hSw; (try simp only [Nat.zero_mul, Nat.add_zero] at q2 q3 q4 q5 q6); go_simp; try with_reducible rfl)
  simp only [List.getElem_toArray, List.getElem_cons_zero, List.getElem_cons_succ, Act.put, List.setIfInBounds_toArray, List.set_cons_zero, List.set_cons_succ]
  refine wpAnyH_take (i := 4) (v := ?v40) rfl (by kernel_rfl) (by kernel_rfl) (by kernel_rfl) (fun _ _ _ h => h) (Or.inl ⟨by rfl, ?y40⟩) hHeld ?r40
  case y40 => (intro w hSw; obtain ⟨⟨q0, q1⟩, q2, q3, q4, q5, q6⟩ := hSw; (try simp only [Nat.zero_mul, Nat.add_zero] at q2 q3 q4 q5 q6); go_simp; try with_reducible rfl)
  simp only [List.getElem_toArray, List.getElem_cons_zero, List.getElem_cons_succ, Act.put, List.setIfInBounds_toArray, List.set_cons_zero, List.set_cons_succ]
  refine wpAnyH_take (i := 5) (v := ?v41) rfl (by kernel_rfl) (by kernel_rfl) (by kernel_rfl) (fun _ _ _ h => h) (Or.inl ⟨by rfl, ?y41⟩) hHeld ?r41
  case y41 => (intro w hSw; obtain ⟨⟨q0, q1⟩, q2, q3, q4, q5, q6⟩ := hSw; (try simp only [Nat.zero_mul, Nat.add_zero] at q2 q3 q4 q5 q6); go_simp; try with_reducible rfl)
  simp only [List.getElem_toArray, List.getElem_cons_zero, List.getElem_cons_succ, Act.put, List.setIfInBounds_toArray, List.set_cons_zero, List.set_cons_succ]
  refine wpAnyH_take (i := 6) (v := ?v42) rfl (by kernel_rfl) (by kernel_rfl) (by kernel_rfl) (fun _ _ _ h => h) (Or.inl ⟨by rfl, ?y42⟩) hHeld ?r42
  case y42 => (intro w hSw; obtain ⟨⟨q0, q1⟩, q2, q3, q4, q5, q6⟩ := hSw; (try simp only [Nat.zero_mul, Nat.add_zero] at q2 q3 q4 q5 q6); go_simp; try with_reducible rfl)
  simp only [List.getElem_toArray, List.getElem_cons_zero, List.getElem_cons_succ, Act.put, List.setIfInBounds_toArray, List.set_cons_zero, List.set_cons_succ]
  refine wpAnyH_take (i := 7) (v := ?v43) rfl (by kernel_rfl) (by kernel_rfl) (by kernel_rfl) (fun _ _ _ h => h) (Or.inl ⟨by rfl, ?y43⟩) hHeld ?r43
  case y43 => (intro w hSw; obtain ⟨⟨q0, q1⟩, q2, q3, q4, q5, q6⟩ := hSw; (try simp only [Nat.zero_mul, Nat.add_zero] at q2 q3 q4 q5 q6); go_simp; try with_reducible rfl)
  simp only [List.getElem_toArray, List.getElem_cons_zero, List.getElem_cons_succ, Act.put, List.setIfInBounds_toArray, List.set_cons_zero, List.set_cons_succ]
  refine wpAnyH_take (i := 8) (v := ?v44) rfl (by kernel_rfl) (by kernel_rfl) (by kernel_rfl) (fun _ _ _ h => h) (Or.inl ⟨by rfl, ?y44⟩) hHeld ?r44
  case y44 => (intro w hSw; obtain ⟨⟨q0, q1⟩, q2, q3, q4, q5, q6⟩ := hSw; (try simp only [Nat.zero_mul, Nat.add_zero] at q2 q3 q4 q5 q6); go_simp; try with_reducible rfl)
  simp only [List.getElem_toArray, List.getElem_cons_zero, List.getElem_cons_succ, Act.put, List.setIfInBounds_toArray, List.set_cons_zero, List.set_cons_succ]
  refine wpAnyH_take (i := 9) (v := ?v45) rfl (by kernel_rfl) (by kernel_rfl) (by kernel_rfl) (fun _ _ _ h => h) (Or.inl ⟨by rfl, ?y45⟩) hHeld ?r45
  case y45 => (intro w hSw; obtain ⟨⟨q0, q1⟩, q2, q3, q4, q5, q6⟩ := hSw; (try simp only [Nat.zero_mul, Nat.add_zero] at q2 q3 q4 q5 q6); go_simp; try with_reducible rfl)
  simp only [List.getElem_toArray, List.getElem_cons_zero, List.getElem_cons_succ, Act.put, List.setIfInBounds_toArray, List.set_cons_zero, List.set_cons_succ]
  refine wpAnyH_ready (rs := [10]) (by kernel_rfl) (by simp) (AllReadyH.cons rfl (fun K hK => ?_) AllReadyH.nil)
  go_simp
  skip
  refine hK.out _ _ (HQ1.out) (fun hHeld => ?_)
  clear hK K
  refine wpAnyH_ready (rs := [11]) (by kernel_rfl) (by simp) (AllReadyH.cons rfl (fun K hK => ?_) AllReadyH.nil)
  go_simp
  skip
  refine hK.out _ _ (HQ2.out) (fun hHeld => ?_)
  clear hK K
  refine wpAnyH_done (by kernel_rfl) ?_ _
  clear hHeld HQ0 HQ1 HQ2 hM0 hM1c hM2 hM3 hM4 y0 y1 y2 y3 y4 lA lo0 lw0 e0_9
  have R1 := HR1.out
  have hM1 := HM1.out
  clear HR1 HM1
  generalize hv1 : (w.alloc (sb2 S)).drew = v1 at R1 hM1 ⊢
  have lo1 := R1.bk.lt
  have lw1 := R1.row.lt
  have d1 := hM1.cell (i := 1) rfl
  have lm1 := hM1.lt
  have e1_2 := R1.bk.cell (i := 2) (v := .int .i64 (2)) rfl
  have HA := Lib.hid (And.intro R1.drew hM1.drew)
  have hq : RN4 o gg w.heap.size k nn S gl.length vc gen v1.drew := RN4.of R1.drew hM1.drew Hgk.out
  clear R1 hM1 hv1
  go_wp2_with fail
  refine wp_region_held_drew (S := RN4 o gg w.heap.size k nn S gl.length vc gen) (by kernel_rfl) (hq) (fun hHeld => ?_)
  refine wpAnyH_take (i := 0) (v := ?v18) rfl (by kernel_rfl) (by kernel_rfl) (by kernel_rfl) (fun _ _ _ h => h) (Or.inl ⟨by rfl, ?y18⟩) hHeld ?r18
  case y18 => (intro w hSw; obtain ⟨q0, q1, q2, q3, q4⟩ := hSw; have b0 := q0.cell (i := 0) rfl; have b1 := q0.cell (i := 1) rfl; have b2 := q0.cell (i := 2) rfl; have b3 := q0.cell (i := 3) rfl; have b4 := q0.cell (i := 4) rfl; clear q0; go_simp; try with_reducible rfl)
  simp only [List.getElem_toArray, List.getElem_cons_zero, Act.put, List.setIfInBounds_toArray, List.set_cons_zero, List.set_cons_succ]
  refine wpAnyH_take (i := 1) (v := ?v19) rfl (by kernel_rfl) (by kernel_rfl) (by kernel_rfl) (fun _ _ _ h => h) (Or.inl ⟨by rfl, ?y19⟩) hHeld ?r19
  case y19 => (intro w hSw; obtain ⟨q0, q1, q2, q3, q4⟩ := hSw; have b0 := q0.cell (i := 0) rfl; have b1 := q0.cell (i := 1) rfl; have b2 := q0.cell (i := 2) rfl; have b3 := q0.cell (i := 3) rfl; have b4 := q0.cell (i := 4) rfl; clear q0; go_simp; try with_reducible rfl)
  simp only [List.getElem_toArray, List.getElem_cons_zero, List.getElem_cons_succ, Act.put, List.setIfInBounds_toArray, List.set_cons_zero, List.set_cons_succ]
  refine wpAnyH_take (i := 2) (v := ?v20) rfl (by kernel_rfl) (by kernel_rfl) (by kernel_rfl) (fun _ _ _ h => h) (Or.inl ⟨by rfl, ?y20⟩) hHeld ?r20
  case y20 => (intro w hSw; obtain ⟨q0, q1, q2, q3, q4⟩ := hSw; have b0 := q0.cell (i := 0) rfl; have b1 := q0.cell (i := 1) rfl; have b2 := q0.cell (i := 2) rfl; have b3 := q0.cell (i := 3) rfl; have b4 := q0.cell (i := 4) rfl; clear q0; go_simp; try with_reducible rfl)
  simp only [List.getElem_toArray, List.getElem_cons_zero, List.getElem_cons_succ, Act.put, List.setIfInBounds_toArray, List.set_cons_zero, List.set_cons_succ]
  refine wpAnyH_take (i := 3) (v := ?v21) rfl (by kernel_rfl) (by kernel_rfl) (by kernel_rfl) (fun _ _ _ h => h) (Or.inl ⟨by rfl, ?y21⟩) hHeld ?r21
  case y21 => (intro w hSw; obtain ⟨q0, q1, q2, q3, q4⟩ := hSw; have b0 := q0.cell (i := 0) rfl; have b1 := q0.cell (i := 1) rfl; have b2 := q0.cell (i := 2) rfl; have b3 := q0.cell (i := 3) rfl; have b4 := q0.cell (i := 4) rfl; clear q0; go_simp; try with_reducible rfl)
  simp only [List.getElem_toArray, List.getElem_cons_zero, List.getElem_cons_succ, Act.put, List.setIfInBounds_toArray, List.set_cons_zero, List.set_cons_succ]
  refine wpAnyH_take (i := 4) (v := ?v22) rfl (by kernel_rfl) (by kernel_rfl) (by kernel_rfl) (fun _ _ _ h => h) (Or.inl ⟨by rfl, ?y22⟩) hHeld ?r22
  case y22 => (intro w hSw; obtain ⟨q0, q1, q2, q3, q4⟩ := hSw; have b0 := q0.cell (i := 0) rfl; have b1 := q0.cell (i := 1) rfl; have b2 := q0.cell (i := 2) rfl; have b3 := q0.cell (i := 3) rfl; have b4 := q0.cell (i := 4) rfl; clear q0; go_simp; try with_reducible rfl)
  simp only [List.getElem_toArray, List.getElem_cons_zero, List.getElem_cons_succ, Act.put, List.setIfInBounds_toArray, List.set_cons_zero, List.set_cons_succ]
  refine wpAnyH_take (i := 5) (v := ?v23) rfl (by kernel_rfl) (by kernel_rfl) (by kernel_rfl) (fun _ _ _ h => h) (Or.inl ⟨by rfl, ?y23⟩) hHeld ?r23
  case y23 => (intro w hSw; obtain ⟨q0, q1, q2, q3, q4⟩ := hSw; have b0 := q0.cell (i := 0) rfl; have b1 := q0.cell (i := 1) rfl; have b2 := q0.cell (i := 2) rfl; have b3 := q0.cell (i := 3) rfl; have b4 := q0.cell (i := 4) rfl; clear q0; go_simp; try with_reducible rfl)
  simp only [List.getElem_toArray, List.getElem_cons_zero, List.getElem_cons_succ, Act.put, List.setIfInBounds_toArray, List.set_cons_zero, List.set_cons_succ]
  refine wpAnyH_take (i := 6) (v := ?v24) rfl (by kernel_rfl) (by kernel_rfl) (by kernel_rfl) (fun _ _ _ h => h) (Or.inl ⟨by rfl, ?y24⟩) hHeld ?r24
  case y24 => (intro w hSw; obtain ⟨q0, q1, q2, q3, q4⟩ := hSw; have b0 := q0.cell (i := 0) rfl; have b1 := q0.cell (i := 1) rfl; have b2 := q0.cell (i := 2) rfl; have b3 := q0.cell (i := 3) rfl; have b4 := q0.cell (i := 4) rfl; clear q0; go_simp; try with_reducible rfl)
  simp only [List.getElem_toArray, List.getElem_cons_zero, List.getElem_cons_succ, Act.put, List.setIfInBounds_toArray, List.set_cons_zero, List.set_cons_succ]
  refine wpAnyH_take (i := 7) (v := ?v25) rfl (by kernel_rfl) (by kernel_rfl) (by kernel_rfl) (fun _ _ _ h => h) (Or.inl ⟨by rfl, ?y25⟩) hHeld ?r25
  case y25 => (intro w hSw; obtain ⟨q0, q1, q2, q3, q4⟩ := hSw; have b0 := q0.cell (i := 0) rfl; have b1 := q0.cell (i := 1) rfl; have b2 := q0.cell (i := 2) rfl; have b3 := q0.cell (i := 3) rfl; have b4 := q0.cell (i := 4) rfl; clear q0; go_simp; try with_reducible rfl)
  simp only [List.getElem_toArray, List.getElem_cons_zero, List.getElem_cons_succ, Act.put, List.setIfInBounds_toArray, List.set_cons_zero, List.set_cons_succ]
  refine wpAnyH_take (i := 8) (v := ?v26) rfl (by kernel_rfl) (by kernel_rfl) (by kernel_rfl) (fun _ _ _ h => h) (Or.inl ⟨by rfl, ?y26⟩) hHeld ?r26
  case y26 => (intro w hSw; obtain ⟨q0, q1, q2, q3, q4⟩ := hSw; have b0 := q0.cell (i := 0) rfl; have b1 := q0.cell (i := 1) rfl; have b2 := q0.cell (i := 2) rfl; have b3 := q0.cell (i := 3) rfl; have b4 := q0.cell (i := 4) rfl; clear q0; go_simp; try with_reducible rfl)
  simp only [List.getElem_toArray, List.getElem_cons_zero, List.getElem_cons_succ, Act.put, List.setIfInBounds_toArray, List.set_cons_zero, List.set_cons_succ]
  refine wpAnyH_take (i := 9) (v := ?v27) rfl (by kernel_rfl) (by kernel_rfl) (by kernel_rfl) (fun _ _ _ h => h) (Or.inl ⟨by rfl, ?y27⟩) hHeld ?r27
  case y27 => (intro w hSw; obtain ⟨q0, q1, q2, q3, q4⟩ := hSw; have b0 := q0.cell (i := 0) rfl; have b1 := q0.cell (i := 1) rfl; have b2 := q0.cell (i := 2) rfl; have b3 := q0.cell (i := 3) rfl; have b4 := q0.cell (i := 4) rfl; clear q0; go_simp; try with_reducible rfl)
  simp only [List.getElem_toArray, List.getElem_cons_zero, List.getElem_cons_succ, Act.put, List.setIfInBounds_toArray, List.set_cons_zero, List.set_cons_succ]
  refine wpAnyH_take (i := 10) (v := ?v28) rfl (by kernel_rfl) (by kernel_rfl) (by kernel_rfl) (fun _ _ _ h => h) (Or.inl ⟨by rfl, ?y28⟩) hHeld ?r28
  case y28 => (intro w hSw; obtain ⟨q0, q1, q2, q3, q4⟩ := hSw; have b0 := q0.cell (i := 0) rfl; have b1 := q0.cell (i := 1) rfl; have b2 := q0.cell (i := 2) rfl; have b3 := q0.cell (i := 3) rfl; have b4 := q0.cell (i := 4) rfl; clear q0; go_simp; try with_reducible rfl)
  simp only [List.getElem_toArray, List.getElem_cons_zero, List.getElem_cons_succ, Act.put, List.setIfInBounds_toArray, List.set_cons_zero, List.set_cons_succ]
  refine wpAnyH_take (i := 12) (v := ?v29) rfl (by kernel_rfl) (by kernel_rfl) (by kernel_rfl) (fun _ _ _ h => h) (Or.inl ⟨by rfl, ?y29⟩) hHeld ?r29
  case y29 => (intro w hSw; obtain ⟨q0, q1, q2, q3, q4⟩ := hSw; have b0 := q0.cell (i := 0) rfl; have b1 := q0.cell (i := 1) rfl; have b2 := q0.cell (i := 2) rfl; have b3 := q0.cell (i := 3) rfl; have b4 := q0.cell (i := 4) rfl; clear q0; go_simp; try with_reducible rfl)
  simp only [List.getElem_toArray, List.getElem_cons_zero, List.getElem_cons_succ, Act.put, List.setIfInBounds_toArray, List.set_cons_zero, List.set_cons_succ]
  refine wpAnyH_take (i := 13) (v := ?v30) rfl (by kernel_rfl) (by kernel_rfl) (by kernel_rfl) (fun _ _ _ h => h) (Or.inl ⟨by rfl, ?y30⟩) hHeld ?r30
  case y30 => (intro w hSw; obtain ⟨q0, q1, q2, q3, q4⟩ := hSw; have b0 := q0.cell (i := 0) rfl; have b1 := q0.cell (i := 1) rfl; have b2 := q0.cell (i := 2) rfl; have b3 := q0.cell (i := 3) rfl; have b4 := q0.cell (i := 4) rfl; clear q0; go_simp; try with_reducible rfl)
  simp only [List.getElem_toArray, List.getElem_cons_zero, List.getElem_cons_succ, Act.put, List.setIfInBounds_toArray, List.set_cons_zero, List.set_cons_succ]
  refine wpAnyH_take (i := 14) (v := ?v31) rfl (by kernel_rfl) (by kernel_rfl) (by kernel_rfl) (fun _ _ _ h => h) (Or.inl ⟨by rfl, ?y31⟩) hHeld ?r31
  case y31 => (intro w hSw; obtain ⟨q0, q1, q2, q3, q4⟩ := hSw; have b0 := q0.cell (i := 0) rfl; have b1 := q0.cell (i := 1) rfl; have b2 := q0.cell (i := 2) rfl; have b3 := q0.cell (i := 3) rfl; have b4 := q0.cell (i := 4) rfl; clear q0; go_simp; try with_reducible rfl)
  simp only [List.getElem_toArray, List.getElem_cons_zero, List.getElem_cons_succ, Act.put, List.setIfInBounds_toArray, List.set_cons_zero, List.set_cons_succ]
  refine wpAnyH_take (i := 15) (v := ?v32) rfl (by kernel_rfl) (by kernel_rfl) (by kernel_rfl) (fun _ _ _ h => h) (Or.inl ⟨by rfl, ?y32⟩) hHeld ?r32
  case y32 => (intro w hSw; obtain ⟨q0, q1, q2, q3, q4⟩ := hSw; have b0 := q0.cell (i := 0) rfl; have b1 := q0.cell (i := 1) rfl; have b2 := q0.cell (i := 2) rfl; have b3 := q0.cell (i := 3) rfl; have b4 := q0.cell (i := 4) rfl; clear q0; go_simp; try with_reducible rfl)
  simp only [List.getElem_toArray, List.getElem_cons_zero, List.getElem_cons_succ, Act.put, List.setIfInBounds_toArray, List.set_cons_zero, List.set_cons_succ]
  refine wpAnyH_ready (rs := [11]) (by kernel_rfl) (by simp) (AllReadyH.cons rfl (fun K hK => ?_) AllReadyH.nil)
  go_simp
  refine (Hat.out _).mono ?_
  rintro e v3 ⟨rfl, hb3⟩
  have R3 := HA.out.1.low hb3
  have hM3 := HA.out.2.low hb3
  have hq3 : RN4 o gg w.heap.size k nn S gl.length vc gen v3 := RN4.of R3 hM3 Hgk.out
  have HB3 := Lib.hid (And.intro R3 hM3)
  clear hb3 R3 hM3
  go_wp2_with fail
  refine hK.out _ _ (hq3) (fun hHeld => ?_)
  clear hK K
  refine wpAnyH_take (i := 16) (v := (.int .i64 (i : Int))) rfl (by kernel_rfl) (by kernel_rfl) (by kernel_rfl) (fun _ _ _ h => h) (Or.inl ⟨by rfl, ?y34⟩) hHeld ?r34
  case y34 => (intro w hSw; obtain ⟨q0, q1, q2, q3, q4⟩ := hSw; have b0 := q0.cell (i := 0) rfl; have b1 := q0.cell (i := 1) rfl; have b2 := q0.cell (i := 2) rfl; have b3 := q0.cell (i := 3) rfl; have b4 := q0.cell (i := 4) rfl; clear q0; go_simp; try with_reducible rfl)
  simp only [List.getElem_toArray, List.getElem_cons_zero, List.getElem_cons_succ, Act.put, List.setIfInBounds_toArray, List.set_cons_zero, List.set_cons_succ]
  refine wpAnyH_take (i := 17) (v := (.int .i64 (i : Int))) rfl (by kernel_rfl) (by kernel_rfl) (by kernel_rfl) (fun _ _ _ h => h) (Or.inl ⟨by rfl, ?y35⟩) hHeld ?r35
  case y35 => (intro w hSw; obtain ⟨q0, q1, q2, q3, q4⟩ := hSw; have b0 := q0.cell (i := 0) rfl; have b1 := q0.cell (i := 1) rfl; have b2 := q0.cell (i := 2) rfl; have b3 := q0.cell (i := 3) rfl; have b4 := q0.cell (i := 4) rfl; clear q0; go_simp; try with_reducible rfl)
  simp only [List.getElem_toArray, List.getElem_cons_zero, List.getElem_cons_succ, Act.put, List.setIfInBounds_toArray, List.set_cons_zero, List.set_cons_succ]
  refine wpAnyH_done (by kernel_rfl) ?_ _
  clear hHeld hq hq3 Hat HA hJ hwA d1 lm1 lo1 lw1 e1_2
  obtain ⟨R3, hM3⟩ := HB3.out
  clear HB3
  have lo3 := R3.bk.lt
  have lw3 := R3.row.lt
  have e3_10 := R3.bk.cell (i := 10) (v := .int .i64 (p)) rfl
  have z3_10 := R3.bk.frozen 10
  have R4 := (R3.put 10 (.int .i64 ((p + 1)))).to (C' := (rc (.slice (some ⟨b, off, none⟩) ln cp) (.slice (some ⟨gg, 0, none⟩) gl.length vc) (.slice ua wl.length uc) tr 2 k nn (tr - left) bn 0 (p + 1))) rfl
  have hM4 := hM3.setFar (p := ⟨o, 10, none⟩) hom (.int .i64 ((p + 1)))
  generalize hv4 : v3.setCell ⟨o, 10, none⟩ (.int .i64 ((p + 1))) = v4 at R4 hM4
  have lo4 := R4.bk.lt
  have lw4 := R4.row.lt
  have HRq := Lib.hid (fun q => And.intro (R4.drewN q) (blkN hM4 q))
  have e4_0 := R4.bk.cell (i := 0) (v := .slice (some ⟨b, off, none⟩) ln cp) rfl
  have e4_3 := R4.bk.cell (i := 3) (v := .int .i64 (k)) rfl
  clear R3 R4 hM3 hM4
  go_wp2_with fail
  go_quiet (fail)
  obtain ⟨R5, hM5⟩ := HRq.out nq
  clear HRq hv4 lo3 lw3 lo4 lw4 e3_10 z3_10 e4_0 e4_3
  generalize v4.drewN nq = v5 at R5 hM5 ⊢
  have lo5 := R5.bk.lt
  have lw5 := R5.row.lt
  have e5_2 := R5.bk.cell (i := 2) (v := .int .i64 (2)) rfl
  obtain ⟨hwll, hmu⟩ := Hwl.out
  have hbl2 : b < v5.drew.heap.size := by have := R5.up.size; have e2 : v5.drew.heap.size = v5.heap.size := rfl; omega
  obtain ⟨a5, c5, Wp, hr5, Rp, hfp⟩ := R5.drew.appU hwll hbl2 v
  have Hap := Lib.hid hr5
  have hMp := hM5.drew.of_block (hfp _ hM5.drew.lt hmu)
  have hqv : RW wb i v v5.drew := R5.drew.row.cell Hv1.out
  have lod := R5.drew.bk.lt
  have lwd := R5.drew.row.lt
  have RA := R5.drew.alloc (.cells #[.int .u64 v] 42)
  have RB := R5.alloc (.cells #[.int .u64 v] 42)
  have hqA : RW wb i v (v5.drew.alloc (.cells #[.int .u64 v] 42)) := RA.row.cell Hv1.out
  have f0 := R5.bk.cell (i := 7) rfl
  have f1 := R5.drew.bk.cell (i := 7) rfl
  have f2 := RA.bk.cell (i := 7) rfl
  have f3 := RB.bk.cell (i := 7) rfl
  have hq5 : RW wb i v Wp := Rp.row.cell Hv1.out
  have f5 := Rp.bk.cell (i := 7) rfl
  have z5 := Rp.bk.frozen 7
  have lop := Rp.bk.lt
  have R6 := (Rp.put 7 (.slice a5 (wl.length + 1) c5)).to (C' := (rc (.slice (some ⟨b, off, none⟩) ln cp) (.slice (some ⟨gg, 0, none⟩) gl.length vc) (.slice a5 (wl.length + 1) c5) tr 2 k nn (tr - left) bn 0 (p + 1))) rfl
  have hM6 := hMp.setFar (p := ⟨o, 7, none⟩) hom ((.slice a5 (wl.length + 1) c5))
  generalize hw6 : Wp.setCell ⟨o, 7, none⟩ (.slice a5 (wl.length + 1) c5) = v6 at R6 hM6
  have hq6 : RW wb i v v6 := R6.row.cell Hv1.out
  have HR6 := Lib.hid (And.intro R6 hM6)
  clear R5 hM5 Rp RA RB R6 hM6 hMp hr5 hbl2 hfp hmu
  go_wp2_with fail
  refine wp_region_held_drew (S := RW wb i v) (by kernel_rfl) (hqv) (fun hHeld => ?_)
  refine wpAnyH_take (i := 0) (v := ?v1) rfl (by kernel_rfl) (by kernel_rfl) (by kernel_rfl) (fun _ _ _ h => h) (Or.inl ⟨by rfl, ?y1⟩) hHeld ?r1
  case y1 => (intro w hSw; have q0 := hSw; unfold RW at q0; go_simp; try with_reducible rfl)
  simp only [List.getElem_toArray, List.getElem_cons_zero, Act.put, List.setIfInBounds_toArray, List.set_cons_zero, List.set_cons_succ]
  refine wpAnyH_take (i := 1) (v := ?v2) rfl (by kernel_rfl) (by kernel_rfl) (by kernel_rfl) (fun _ _ _ h => h) (Or.inl ⟨by rfl, ?y2⟩) hHeld ?r2
  case y2 => (intro w hSw; have q0 := hSw; unfold RW at q0; go_simp; try with_reducible rfl)
  simp only [List.getElem_toArray, List.getElem_cons_zero, List.getElem_cons_succ, Act.put, List.setIfInBounds_toArray, List.set_cons_zero, List.set_cons_succ]
  refine wpAnyH_take (i := 2) (v := ?v3) rfl (by kernel_rfl) (by kernel_rfl) (by kernel_rfl) (fun _ _ _ h => h) (Or.inl ⟨by rfl, ?y3⟩) hHeld ?r3
  case y3 => (intro w hSw; have q0 := hSw; unfold RW at q0; go_simp; try with_reducible rfl)
  simp only [List.getElem_toArray, List.getElem_cons_zero, List.getElem_cons_succ, Act.put, List.setIfInBounds_toArray, List.set_cons_zero, List.set_cons_succ]
  refine wpAnyH_take (i := 3) (v := ?v4) rfl (by kernel_rfl) (by kernel_rfl) (by kernel_rfl) (fun _ _ _ h => h) (Or.inl ⟨by rfl, ?y4⟩) hHeld ?r4
  case y4 => (intro w hSw; have q0 := hSw; unfold RW at q0; go_simp; try with_reducible rfl)
  simp only [List.getElem_toArray, List.getElem_cons_zero, List.getElem_cons_succ, Act.put, List.setIfInBounds_toArray, List.set_cons_zero, List.set_cons_succ]
  refine wpAnyH_take (i := 5) (v := ?v5) rfl (by kernel_rfl) (by kernel_rfl) (by kernel_rfl) (fun _ _ _ h => h) (Or.inl ⟨by rfl, ?y5⟩) hHeld ?r5
  case y5 => (intro w hSw; have q0 := hSw; unfold RW at q0; go_simp; try with_reducible rfl)
  simp only [List.getElem_toArray, List.getElem_cons_zero, List.getElem_cons_succ, Act.put, List.setIfInBounds_toArray, List.set_cons_zero, List.set_cons_succ]
  refine wpAnyH_take (i := 6) (v := ?v6) rfl (by kernel_rfl) (by kernel_rfl) (by kernel_rfl) (fun _ _ _ h => h) (Or.inl ⟨by rfl, ?y6⟩) hHeld ?r6
  case y6 => (intro w hSw; have q0 := hSw; unfold RW at q0; go_simp; try with_reducible rfl)
  simp only [List.getElem_toArray, List.getElem_cons_zero, List.getElem_cons_succ, Act.put, List.setIfInBounds_toArray, List.set_cons_zero, List.set_cons_succ]
  refine wpAnyH_take (i := 7) (v := ?v7) rfl (by kernel_rfl) (by kernel_rfl) (by kernel_rfl) (fun _ _ _ h => h) (Or.inl ⟨by rfl, ?y7⟩) hHeld ?r7
  case y7 => (intro w hSw; have q0 := hSw; unfold RW at q0; go_simp; try with_reducible rfl)
  simp only [List.getElem_toArray, List.getElem_cons_zero, List.getElem_cons_succ, Act.put, List.setIfInBounds_toArray, List.set_cons_zero, List.set_cons_succ]
  refine wpAnyH_take (i := 8) (v := ?v8) rfl (by kernel_rfl) (by kernel_rfl) (by kernel_rfl) (fun _ _ _ h => h) (Or.inl ⟨by rfl, ?y8⟩) hHeld ?r8
  case y8 => (intro w hSw; have q0 := hSw; unfold RW at q0; go_simp; try with_reducible rfl)
  simp only [List.getElem_toArray, List.getElem_cons_zero, List.getElem_cons_succ, Act.put, List.setIfInBounds_toArray, List.set_cons_zero, List.set_cons_succ]
  refine wpAnyH_ready (rs := [4, 9]) (by kernel_rfl) (by simp) (AllReadyH.cons rfl (fun K hK => ?_) (AllReadyH.cons rfl (fun K hK => ?_) AllReadyH.nil))
  · go_simp
    refine hK.out _ _ (hqv) (fun hHeld => ?_)
    clear hK K
    refine wpAnyH_ready (rs := [9]) (by kernel_rfl) (by simp) (AllReadyH.cons rfl (fun K hK => ?_) AllReadyH.nil)
    go_simp
    refine hK.out _ _ (hqA) (fun hHeld => ?_)
    clear hK K
    refine wpAnyH_ready (rs := [10]) (by kernel_rfl) (by simp) (AllReadyH.cons rfl (fun K hK => ?_) AllReadyH.nil)
    refine wp_append_run _ (.tmp 136) (.tmp 141) 41 41 rfl _ _ rfl rfl Hap.out ?_
    refine hK.out _ _ (hq5) (fun hHeld => ?_)
    clear hK K
    refine wpAnyH_take (i := 11) (v := ?v11) rfl (by kernel_rfl) (by kernel_rfl) (by kernel_rfl) (fun _ _ _ h => h) (Or.inl ⟨by rfl, ?y11⟩) hHeld ?r11
    case y11 => (intro w hSw; have q0 := hSw; unfold RW at q0; go_simp; try with_reducible rfl)
    simp only [List.getElem_toArray, List.getElem_cons_zero, List.getElem_cons_succ, Act.put, List.setIfInBounds_toArray, List.set_cons_zero, List.set_cons_succ]
    refine wpAnyH_take (i := 12) (v := ?v12) rfl (by kernel_rfl) (by kernel_rfl) (by kernel_rfl) (fun _ _ _ h => h) (Or.inl ⟨by rfl, ?y12⟩) hHeld ?r12
    case y12 => (intro w hSw; have q0 := hSw; unfold RW at q0; go_simp; try with_reducible rfl)
    simp only [List.getElem_toArray, List.getElem_cons_zero, List.getElem_cons_succ, Act.put, List.setIfInBounds_toArray, List.set_cons_zero, List.set_cons_succ]
    refine wpAnyH_ready (rs := [13]) (by kernel_rfl) (by simp) (AllReadyH.cons rfl (fun K hK => ?_) AllReadyH.nil)
    go_simp
    go_wp2_with fail
    refine hK.out _ _ (hq6) (fun hHeld => ?_)
    clear hK K
    refine wpAnyH_done (by kernel_rfl) ?_ _
    clear hHeld hqv hqA hq5 hq6 Hap z5 lop lod lwd f0 f1 f2 f3 f5 hw6 hwll
    obtain ⟨R6, hM6⟩ := HR6.out
    clear HR6
    have lo6 := R6.bk.lt
    have lw6 := R6.row.lt
    have e6_4 := R6.bk.cell (i := 4) (v := .int .i64 (nn)) rfl
    have z6_4 := R6.bk.frozen 4
    have R7 := (R6.put 4 (.int .i64 ((nn + 1)))).to (C' := (rc (.slice (some ⟨b, off, none⟩) ln cp) (.slice (some ⟨gg, 0, none⟩) gl.length vc) (.slice a5 (wl.length + 1) c5) tr 2 k (nn + 1) (tr - left) bn 0 (p + 1))) rfl
    have hM7 := hM6.setFar (p := ⟨o, 4, none⟩) hom (.int .i64 ((nn + 1)))
    generalize hv7 : v6.setCell ⟨o, 4, none⟩ (.int .i64 ((nn + 1))) = v7 at R7 hM7
    have lo7 := R7.bk.lt
    have lw7 := R7.row.lt
    have e7_4 := R7.bk.cell (i := 4) (v := .int .i64 ((nn + 1))) rfl
    have HRq := Lib.hid (fun q => And.intro (R7.drewN q) (blkN hM7 q))
    have d3 := hM7.cell (i := 3) rfl
    have lm7 := hM7.lt
    clear R6 R7 hM6 hM7
    go_wp2_with fail
    go_quiet (fail)
    obtain ⟨R8, hM8⟩ := HRq.out nq
    clear HRq hv7 lo6 lw6 lo7 lw7 e6_4 z6_4 e7_4 d3 lm7
    generalize v7.drewN nq = v8 at R8 hM8 ⊢
    have HR8 := Lib.hid R8
    clear R8 hM8
    go_wp2
    go_end0
    exact (HR8.out.to (show _ = rfc (.slice (some ⟨b, off, none⟩) ln cp) (.slice (some ⟨gg, 0, none⟩) gl.length vc) (.slice a5 (wl.length + 1) c5) tr ⟨0, 1, k, (nn + 1), left, (p + 1), bn, (tl ++ [v])⟩ from by simp [rfc, rc]; try omega)).post Hlen.out (fun _ => rows1 HtlL.out Hgw.out)
  · go_simp
    refine hK.out _ _ (hqA) (fun hHeld => ?_)
    clear hK K
    refine wpAnyH_ready (rs := [4]) (by kernel_rfl) (by simp) (AllReadyH.cons rfl (fun K hK => ?_) AllReadyH.nil)
    go_simp
    refine hK.out _ _ (hqA) (fun hHeld => ?_)
    clear hK K
    refine wpAnyH_ready (rs := [10]) (by kernel_rfl) (by simp) (AllReadyH.cons rfl (fun K hK => ?_) AllReadyH.nil)
    refine wp_append_run _ (.tmp 136) (.tmp 141) 41 41 rfl _ _ rfl rfl Hap.out ?_
    refine hK.out _ _ (hq5) (fun hHeld => ?_)
    clear hK K
    refine wpAnyH_take (i := 11) (v := ?v15) rfl (by kernel_rfl) (by kernel_rfl) (by kernel_rfl) (fun _ _ _ h => h) (Or.inl ⟨by rfl, ?y15⟩) hHeld ?r15
    case y15 => (intro w hSw; have q0 := hSw; unfold RW at q0; go_simp; try with_reducible rfl)
    simp only [List.getElem_toArray, List.getElem_cons_zero, List.getElem_cons_succ, Act.put, List.setIfInBounds_toArray, List.set_cons_zero, List.set_cons_succ]
    refine wpAnyH_take (i := 12) (v := ?v16) rfl (by kernel_rfl) (by kernel_rfl) (by kernel_rfl) (fun _ _ _ h => h) (Or.inl ⟨by rfl, ?y16⟩) hHeld ?r16
    case y16 => (intro w hSw; have q0 := hSw; unfold RW at q0; go_simp; try with_reducible rfl)
    simp only [List.getElem_toArray, List.getElem_cons_zero, List.getElem_cons_succ, Act.put, List.setIfInBounds_toArray, List.set_cons_zero, List.set_cons_succ]
    refine wpAnyH_ready (rs := [13]) (by kernel_rfl) (by simp) (AllReadyH.cons rfl (fun K hK => ?_) AllReadyH.nil)
    go_simp
    go_wp2_with fail
    refine hK.out _ _ (hq6) (fun hHeld => ?_)
    clear hK K
    refine wpAnyH_done (by kernel_rfl) ?_ _
    clear hHeld hqv hqA hq5 hq6 Hap z5 lop lod lwd f0 f1 f2 f3 f5 hw6 hwll
    obtain ⟨R6, hM6⟩ := HR6.out
    clear HR6
    have lo6 := R6.bk.lt
    have lw6 := R6.row.lt
    have e6_4 := R6.bk.cell (i := 4) (v := .int .i64 (nn)) rfl
    have z6_4 := R6.bk.frozen 4
    have R7 := (R6.put 4 (.int .i64 ((nn + 1)))).to (C' := (rc (.slice (some ⟨b, off, none⟩) ln cp) (.slice (some ⟨gg, 0, none⟩) gl.length vc) (.slice a5 (wl.length + 1) c5) tr 2 k (nn + 1) (tr - left) bn 0 (p + 1))) rfl
    have hM7 := hM6.setFar (p := ⟨o, 4, none⟩) hom (.int .i64 ((nn + 1)))
    generalize hv7 : v6.setCell ⟨o, 4, none⟩ (.int .i64 ((nn + 1))) = v7 at R7 hM7
    have lo7 := R7.bk.lt
    have lw7 := R7.row.lt
    have e7_4 := R7.bk.cell (i := 4) (v := .int .i64 ((nn + 1))) rfl
    have HRq := Lib.hid (fun q => And.intro (R7.drewN q) (blkN hM7 q))
    have d3 := hM7.cell (i := 3) rfl
    have lm7 := hM7.lt
    clear R6 R7 hM6 hM7
    go_wp2_with fail
    go_quiet (fail)
    obtain ⟨R8, hM8⟩ := HRq.out nq
    clear HRq hv7 lo6 lw6 lo7 lw7 e6_4 z6_4 e7_4 d3 lm7
    generalize v7.drewN nq = v8 at R8 hM8 ⊢
    have HR8 := Lib.hid R8
    clear R8 hM8
    go_wp2
    go_end0
    exact (HR8.out.to (show _ = rfc (.slice (some ⟨b, off, none⟩) ln cp) (.slice (some ⟨gg, 0, none⟩) gl.length vc) (.slice a5 (wl.length + 1) c5) tr ⟨0, 1, k, (nn + 1), left, (p + 1), bn, (tl ++ [v])⟩ from by simp [rfc, rc]; try omega)).post Hlen.out (fun _ => rows1 HtlL.out Hgw.out)
end
end Go.Proofs.Ytflgggfomhifeaa
/- The document's step: a record's last word. -/
namespace Go.Proofs.Ytflgggfomhifeaa
open Go.RowKit

section
variable {w : World} {o wb b off ln cp k nn : Nat} {V U : Value} {SS : List Sp} {tr left p bn v : Int} {tl ys : List Int}
set_option maxRecDepth 100000 in
set_option maxHeartbeats 2000000 in
theorem rn_word_next (h : RnAt w o (some ⟨b, off, none⟩) ln cp V U SS tr ⟨0, 1, k, nn, left, p, bn, tl⟩) (hB : Row w wb ys) (hne : o ≠ wb) (hvw : V.ownBlock ≠ some wb) (huw : U.ownBlock ≠ some wb) (hw : NWf SS ⟨0, 1, k, nn, left, p, bn, tl⟩) (_t1 : left ≤ tr) (_t2 : tr ≤ 16) (p0 : 0 ≤ p) (p1 : p ≤ 1000000) (hyl : ys.length ≤ 1000) (hv : getI ys (nxl SS ⟨0, 1, k, nn, left, p, bn, tl⟩) = some v) (hu : U64 v) (hm : (nn : Int) + 1 = (nxs SS ⟨0, 1, k, nn, left, p, bn, tl⟩).wd) (hl : ¬ k + 1 = ln) :
    Calls Try.prog 16 #[.pointer (some ⟨o, 0, none⟩), .slice (some ⟨wb, 0, none⟩) ys.length ys.length] w (RnPost o wb (some ⟨b, off, none⟩) ln cp V U SS tr ys ⟨0, 1, (k + 1), 0, left, (p + 1), bn, (tl ++ [v])⟩ w) := by
  obtain ⟨gl, wl, hr, Q0⟩ := Rtg.start h hB hne hvw huw
  have hgw := hr (fun c => by have := c.1; dsimp only at this; omega)
  clear hr
  dsimp only at hgw
  have hlen := h.len
  have ha1 := hw.a1 rfl
  dsimp only at ha1
  have hk0 := hw.k
  dsimp only at hk0
  have hgll : gl.length = ln := by rw [hgw.1, List.length_take]; omega
  obtain ⟨gg, vc, rfl, hgb⟩ := owns_some Q0.gv (by omega)
  obtain ⟨ua, uc, rfl⟩ := owns_sl Q0.uv
  have hsp := hw.sp
  obtain ⟨gen, g1, g2, g3⟩ := hw.gen (by show (1 : Int) ≤ 1; omega)
  dsimp only at g1 g2
  have hgk : gl[k]? = some gen := by rw [hgw.1, List.getElem?_take_of_lt (by omega)]; exact g1
  have Hgw := Lib.hid hgw
  have Hgk := Lib.hid hgk
  have R0 := Q0.to (C' := (rc (.slice (some ⟨b, off, none⟩) ln cp) (.slice (some ⟨gg, 0, none⟩) gl.length vc) (.slice ua wl.length uc) tr 2 k nn (tr - left) bn 0 p)) (by simp [rfc, rc])
  obtain ⟨b', off', heq, hbl, hjj⟩ := R0.sp k _ hsp
  clear hjj
  cases heq
  obtain ⟨S, hSe⟩ : ∃ S, nxs SS ⟨0, 1, k, nn, left, p, bn, tl⟩ = S := ⟨_, rfl⟩
  have hrm := hw.room1 (by show (1 : Int) ≤ 1; omega)
  dsimp only at hrm
  have hwll : wl.length ≤ 100000 := by rw [hgw.2, List.length_drop]; have := hw.rbd; omega
  have hmu : Value.ownBlock (.slice ua wl.length uc) ≠ some w.heap.size := fun e => by have := owns_lt Q0.uv e; omega
  have Hwl := Lib.hid (And.intro hwll hmu)
  obtain ⟨_, hA0, hA1⟩ := nxl_bd hw
  rw [hSe] at ha1
  dsimp only at hA0 hA1
  rw [hSe, g2] at hA0 hA1
  have hHt := rat_any S.ow S.sq S.fs S.wd S.dp gen
  have Hat := Lib.hid (fun W => hHt W g3.1 g3.2)
  clear hHt
  have HtlL := Lib.hid (show SS.length ≤ tl.length by omega)
  have hn2 := ha1.2
  have hn64 : S.wd ≤ 64 := by rw [← hSe]; exact hw.rts.2.1
  have hrt := hw.rts
  rw [hSe] at hsp hrt
  have hs64 := hw.s64
  rw [hlen] at hs64
  have hkl : k < ln := by omega
  have hkl2 : (k : Int) < ln := by omega
  have hkg : (k : Int) < gl.length := by omega
  have hq0 : 0 ≤ S.sq := by unfold Rt at hrt; omega
  unfold nxl at hv
  rw [if_pos (by rfl), hSe] at hv
  dsimp only at hv
  rw [g2] at hv
  obtain ⟨J, hJ⟩ : ∃ J : Int, atv S.fs S.wd S.dp gen + (nn : Int) = J := ⟨_, rfl⟩
  generalize atv S.fs S.wd S.dp gen = A at *
  rw [hJ] at hv
  obtain ⟨hJ0, hv1⟩ := getI_some hv
  have hlt := lt_of_some hv1
  obtain ⟨i, hi⟩ := Int.eq_ofNat_of_zero_le hJ0
  subst hi
  rw [Int.toNat_natCast] at hv1 hlt
  have hlt2 : (i : Int) < ys.length := by omega
  have Hv1 := Lib.hid hv1
  have hwA : IntKind.i64.wrap (i : Int) = i := by rw [IntKind.wrap_i64]; omega
  obtain ⟨u0, u1⟩ := hu
  have hm8 : ((k : Int) == (ln : Int) - 1) = false := by simp; omega
  rw [hSe] at hm
  have hmw : (((nn : Int) + 1) == S.wd) = true := by simp; omega
  have hom : w.heap.size ≠ o := by have := R0.bk.lt; omega
  have RA := R0.drew.alloc (.cells #[.int .i64 0, .int .i64 0, .int .i64 0, .int .i64 0, .int .i64 0] 96)
  have R1 := (R0.alloc (sb2 S)).drew
  have hM1 : Blk (w.alloc (sb2 S)).drew w.heap.size (spc5 S) := Blk.new w #[.int .i64 S.ow, .int .i64 S.sq, .int .i64 S.fs, .int .i64 S.wd, .int .i64 S.dp] 96
  have HQ0 := Lib.hid (RX.of R0.drew hsp)
  have HQ1 := Lib.hid (RX.of RA hsp)
  have HQ2 := Lib.hid (RX.of R1 hsp)
  have hM := Blk.new w.drew #[.int .i64 0, .int .i64 0, .int .i64 0, .int .i64 0, .int .i64 0] 96
  change Blk _ w.heap.size _ at hM
  have hM0 := hM.cell (i := 0) rfl
  have hM1c := hM.cell (i := 1) rfl
  have hM2 := hM.cell (i := 2) rfl
  have hM3 := hM.cell (i := 3) rfl
  have hM4 := hM.cell (i := 4) rfl
  have y0 := hM.frozen 0
  have y1 := hM.frozen 1
  have y2 := hM.frozen 2
  have y3 := hM.frozen 3
  have y4 := hM.frozen 4
  have lA := hM.lt
  have lo0 := R0.bk.lt
  have lw0 := R0.row.lt
  have e0_9 := R0.bk.cell (i := 9) (v := .int .i64 (0)) rfl
  have Hlen := Lib.hid hlen
  have HR1 := Lib.hid R1
  have HM1 := Lib.hid hM1
  clear Q0 R0 RA R1 hM1 hM h hB hvw huw hsp hgw hgk hw hSe hrt ha1 hrm hwll hmu g1 g2 g3 hgll hlen hk0 hv hv1 hlt hm hJ0 hl
  go_enter Try.func16, Try.ntmps16
  go_wp2_with fail
  refine wp_region_held_drew (S := RX o b off cp ln k S) (by kernel_rfl) (HQ0.out) (fun hHeld => ?_)
  refine wpAnyH_take (i := 0) (v := ?v83) rfl (by kernel_rfl) (by kernel_rfl) (by kernel_rfl) (fun _ _ _ h => h) (Or.inl ⟨by rfl, ?y83⟩) hHeld ?r83
  case y83 => (intro w hSw; obtain ⟨⟨q0, q1⟩, q2, q3, q4, q5, q6⟩ := hSw; (try simp only [Nat.zero_mul, Nat.add_zero] at q2 q3 q4 q5 q6); go_simp; try with_reducible rfl)
  simp only [List.getElem_toArray, List.getElem_cons_zero, Act.put, List.setIfInBounds_toArray, List.set_cons_zero, List.set_cons_succ]
  refine wpAnyH_take (i := 1) (v := ?v84) rfl (by kernel_rfl) (by kernel_rfl) (by kernel_rfl) (fun _ _ _ h => h) (Or.inl ⟨by rfl, ?y84⟩) hHeld ?r84
  case y84 => (intro w hSw; obtain ⟨⟨q0, q1⟩, q2, q3, q4, q5, q6⟩ := hSw; (try simp only [Nat.zero_mul, Nat.add_zero] at q2 q3 q4 q5 q6); go_simp; try with_reducible rfl)
  simp only [List.getElem_toArray, List.getElem_cons_zero, List.getElem_cons_succ, Act.put, List.setIfInBounds_toArray, List.set_cons_zero, List.set_cons_succ]
  refine wpAnyH_take (i := 2) (v := ?v85) rfl (by kernel_rfl) (by kernel_rfl) (by kernel_rfl) (fun _ _ _ h => h) (Or.inl ⟨by rfl, ?y85⟩) hHeld ?r85
  case y85 => (intro w hSw; obtain ⟨⟨q0, q1⟩, q2, q3, q4, q5, q6⟩ := hSw; (try simp only [Nat.zero_mul, Nat.add_zero] at q2 q3 q4 q5 q6); go_simp; try with_reducible rfl)
  simp only [List.getElem_toArray, List.getElem_cons_zero, List.getElem_cons_succ, Act.put, List.setIfInBounds_toArray, List.set_cons_zero, List.set_cons_succ]
  refine wpAnyH_take (i := 3) (v := ?v86) rfl (by kernel_rfl) (by kernel_rfl) (by kernel_rfl) (fun _ _ _ h => h) (Or.inl ⟨by rfl, ?y86⟩) hHeld ?r86
  case y86 => (intro w hSw; obtain ⟨⟨q0, q1⟩, q2, q3, q4, q5, q6⟩ := hSw; (try simp only [Nat.zero_mul, Nat.add_zero] at q2 q3 q4 q5 q6); go_simp; try with_reducible rfl)
  simp only [List.getElem_toArray, List.getElem_cons_zero, List.getElem_cons_succ, Act.put, List.setIfInBounds_toArray, List.set_cons_zero, List.set_cons_succ]
  refine wpAnyH_take (i := 4) (v := ?v87) rfl (by kernel_rfl) (by kernel_rfl) (by kernel_rfl) (fun _ _ _ h => h) (Or.inl ⟨by rfl, ?y87⟩) hHeld ?r87
  case y87 => (intro w hSw; obtain ⟨⟨q0, q1⟩, q2, q3, q4, q5, q6⟩ := hSw; (try simp only [Nat.zero_mul, Nat.add_zero] at q2 q3 q4 q5 q6); go_simp; try with_reducible rfl)
  simp only [List.getElem_toArray, List.getElem_cons_zero, List.getElem_cons_succ, Act.put, List.setIfInBounds_toArray, List.set_cons_zero, List.set_cons_succ]
  refine wpAnyH_take (i := 5) (v := ?v88) rfl (by kernel_rfl) (by kernel_rfl) (by kernel_rfl) (fun _ _ _ h => h) (Or.inl ⟨by rfl, ?y88⟩) hHeld ?r88
  case y88 => (intro w hSw; obtain ⟨⟨q0, q1⟩, q2, q3, q4, q5, q6⟩ := hSw; (try simp only [Nat.zero_mul, Nat.add_zero] at q2 q3 q4 q5 q6); go_simp; try with_reducible rfl)
  simp only [List.getElem_toArray, List.getElem_cons_zero, List.getElem_cons_succ, Act.put, List.setIfInBounds_toArray, List.set_cons_zero, List.set_cons_succ]
  refine wpAnyH_take (i := 6) (v := ?v89) rfl (by kernel_rfl) (by kernel_rfl) (by kernel_rfl) (fun _ _ _ h => h) (Or.inl ⟨by rfl, ?y89⟩) hHeld ?r89
  case y89 => (intro w hSw; obtain ⟨⟨q0, q1⟩, q2, q3, q4, q5, q6⟩ := hSw; (try simp only [Nat.zero_mul, Nat.add_zero] at q2 q3 q4 q5 q6); go_simp; try with_reducible rfl)
  simp only [List.getElem_toArray, List.getElem_cons_zero, List.getElem_cons_succ, Act.put, List.setIfInBounds_toArray, List.set_cons_zero, List.set_cons_succ]
  refine wpAnyH_take (i := 7) (v := ?v90) rfl (by kernel_rfl) (by kernel_rfl) (by kernel_rfl) (fun _ _ _ h => h) (Or.inl ⟨by rfl, ?y90⟩) hHeld ?r90
  case y90 => (intro w hSw; obtain ⟨⟨q0, q1⟩, q2, q3, q4, q5, q6⟩ := hSw; (try simp only [Nat.zero_mul, Nat.add_zero] at q2 q3 q4 q5 q6); go_simp; try with_reducible rfl)
  simp only [List.getElem_toArray, List.getElem_cons_zero, List.getElem_cons_succ, Act.put, List.setIfInBounds_toArray, List.set_cons_zero, List.set_cons_succ]
  refine wpAnyH_take (i := 8) (v := ?v91) rfl (by kernel_rfl) (by kernel_rfl) (by kernel_rfl) (fun _ _ _ h => h) (Or.inl ⟨by rfl, ?y91⟩) hHeld ?r91
  case y91 => (intro w hSw; obtain ⟨⟨q0, q1⟩, q2, q3, q4, q5, q6⟩ := hSw; (try simp only [Nat.zero_mul, Nat.add_zero] at q2 q3 q4 q5 q6); go_simp; try with_reducible rfl)
  simp only [List.getElem_toArray, List.getElem_cons_zero, List.getElem_cons_succ, Act.put, List.setIfInBounds_toArray, List.set_cons_zero, List.set_cons_succ]
  refine wpAnyH_take (i := 9) (v := ?v92) rfl (by kernel_rfl) (by kernel_rfl) (by kernel_rfl) (fun _ _ _ h => h) (Or.inl ⟨by rfl, ?y92⟩) hHeld ?r92
  case y92 => (intro w hSw; obtain ⟨⟨q0, q1⟩, q2, q3, q4, q5, q6⟩ := hSw; (try simp only [Nat.zero_mul, Nat.add_zero] at q2 q3 q4 q5 q6); go_simp; try with_reducible rfl)
  simp only [List.getElem_toArray, List.getElem_cons_zero, List.getElem_cons_succ, Act.put, List.setIfInBounds_toArray, List.set_cons_zero, List.set_cons_succ]
  refine wpAnyH_ready (rs := [10]) (by kernel_rfl) (by simp) (AllReadyH.cons rfl (fun K hK => ?_) AllReadyH.nil)
  go_simp
  skip
  refine hK.out _ _ (HQ1.out) (fun hHeld => ?_)
  clear hK K
  refine wpAnyH_ready (rs := [11]) (by kernel_rfl) (by simp) (AllReadyH.cons rfl (fun K hK => ?_) AllReadyH.nil)
  go_simp
  skip
  refine hK.out _ _ (HQ2.out) (fun hHeld => ?_)
  clear hK K
  refine wpAnyH_done (by kernel_rfl) ?_ _
  clear hHeld HQ0 HQ1 HQ2 hM0 hM1c hM2 hM3 hM4 y0 y1 y2 y3 y4 lA lo0 lw0 e0_9
  have R1 := HR1.out
  have hM1 := HM1.out
  clear HR1 HM1
  generalize hv1 : (w.alloc (sb2 S)).drew = v1 at R1 hM1 ⊢
  have lo1 := R1.bk.lt
  have lw1 := R1.row.lt
  have d1 := hM1.cell (i := 1) rfl
  have lm1 := hM1.lt
  have e1_2 := R1.bk.cell (i := 2) (v := .int .i64 (2)) rfl
  have HA := Lib.hid (And.intro R1.drew hM1.drew)
  have hq : RN4 o gg w.heap.size k nn S gl.length vc gen v1.drew := RN4.of R1.drew hM1.drew Hgk.out
  clear R1 hM1 hv1
  go_wp2_with fail
  refine wp_region_held_drew (S := RN4 o gg w.heap.size k nn S gl.length vc gen) (by kernel_rfl) (hq) (fun hHeld => ?_)
  refine wpAnyH_take (i := 0) (v := ?v65) rfl (by kernel_rfl) (by kernel_rfl) (by kernel_rfl) (fun _ _ _ h => h) (Or.inl ⟨by rfl, ?y65⟩) hHeld ?r65
  case y65 => (intro w hSw; obtain ⟨q0, q1, q2, q3, q4⟩ := hSw; have b0 := q0.cell (i := 0) rfl; have b1 := q0.cell (i := 1) rfl; have b2 := q0.cell (i := 2) rfl; have b3 := q0.cell (i := 3) rfl; have b4 := q0.cell (i := 4) rfl; clear q0; go_simp; try with_reducible rfl)
  simp only [List.getElem_toArray, List.getElem_cons_zero, Act.put, List.setIfInBounds_toArray, List.set_cons_zero, List.set_cons_succ]
  refine wpAnyH_take (i := 1) (v := ?v66) rfl (by kernel_rfl) (by kernel_rfl) (by kernel_rfl) (fun _ _ _ h => h) (Or.inl ⟨by rfl, ?y66⟩) hHeld ?r66
  case y66 => (intro w hSw; obtain ⟨q0, q1, q2, q3, q4⟩ := hSw; have b0 := q0.cell (i := 0) rfl; have b1 := q0.cell (i := 1) rfl; have b2 := q0.cell (i := 2) rfl; have b3 := q0.cell (i := 3) rfl; have b4 := q0.cell (i := 4) rfl; clear q0; go_simp; try with_reducible rfl)
  simp only [List.getElem_toArray, List.getElem_cons_zero, List.getElem_cons_succ, Act.put, List.setIfInBounds_toArray, List.set_cons_zero, List.set_cons_succ]
  refine wpAnyH_take (i := 2) (v := ?v67) rfl (by kernel_rfl) (by kernel_rfl) (by kernel_rfl) (fun _ _ _ h => h) (Or.inl ⟨by rfl, ?y67⟩) hHeld ?r67
  case y67 => (intro w hSw; obtain ⟨q0, q1, q2, q3, q4⟩ := hSw; have b0 := q0.cell (i := 0) rfl; have b1 := q0.cell (i := 1) rfl; have b2 := q0.cell (i := 2) rfl; have b3 := q0.cell (i := 3) rfl; have b4 := q0.cell (i := 4) rfl; clear q0; go_simp; try with_reducible rfl)
  simp only [List.getElem_toArray, List.getElem_cons_zero, List.getElem_cons_succ, Act.put, List.setIfInBounds_toArray, List.set_cons_zero, List.set_cons_succ]
  refine wpAnyH_take (i := 3) (v := ?v68) rfl (by kernel_rfl) (by kernel_rfl) (by kernel_rfl) (fun _ _ _ h => h) (Or.inl ⟨by rfl, ?y68⟩) hHeld ?r68
  case y68 => (intro w hSw; obtain ⟨q0, q1, q2, q3, q4⟩ := hSw; have b0 := q0.cell (i := 0) rfl; have b1 := q0.cell (i := 1) rfl; have b2 := q0.cell (i := 2) rfl; have b3 := q0.cell (i := 3) rfl; have b4 := q0.cell (i := 4) rfl; clear q0; go_simp; try with_reducible rfl)
  simp only [List.getElem_toArray, List.getElem_cons_zero, List.getElem_cons_succ, Act.put, List.setIfInBounds_toArray, List.set_cons_zero, List.set_cons_succ]
  refine wpAnyH_take (i := 4) (v := ?v69) rfl (by kernel_rfl) (by kernel_rfl) (by kernel_rfl) (fun _ _ _ h => h) (Or.inl ⟨by rfl, ?y69⟩) hHeld ?r69
  case y69 => (intro w hSw; obtain ⟨q0, q1, q2, q3, q4⟩ := hSw; have b0 := q0.cell (i := 0) rfl; have b1 := q0.cell (i := 1) rfl; have b2 := q0.cell (i := 2) rfl; have b3 := q0.cell (i := 3) rfl; have b4 := q0.cell (i := 4) rfl; clear q0; go_simp; try with_reducible rfl)
  simp only [List.getElem_toArray, List.getElem_cons_zero, List.getElem_cons_succ, Act.put, List.setIfInBounds_toArray, List.set_cons_zero, List.set_cons_succ]
  refine wpAnyH_take (i := 5) (v := ?v70) rfl (by kernel_rfl) (by kernel_rfl) (by kernel_rfl) (fun _ _ _ h => h) (Or.inl ⟨by rfl, ?y70⟩) hHeld ?r70
  case y70 => (intro w hSw; obtain ⟨q0, q1, q2, q3, q4⟩ := hSw; have b0 := q0.cell (i := 0) rfl; have b1 := q0.cell (i := 1) rfl; have b2 := q0.cell (i := 2) rfl; have b3 := q0.cell (i := 3) rfl; have b4 := q0.cell (i := 4) rfl; clear q0; go_simp; try with_reducible rfl)
  simp only [List.getElem_toArray, List.getElem_cons_zero, List.getElem_cons_succ, Act.put, List.setIfInBounds_toArray, List.set_cons_zero, List.set_cons_succ]
  refine wpAnyH_take (i := 6) (v := ?v71) rfl (by kernel_rfl) (by kernel_rfl) (by kernel_rfl) (fun _ _ _ h => h) (Or.inl ⟨by rfl, ?y71⟩) hHeld ?r71
  case y71 => (intro w hSw; obtain ⟨q0, q1, q2, q3, q4⟩ := hSw; have b0 := q0.cell (i := 0) rfl; have b1 := q0.cell (i := 1) rfl; have b2 := q0.cell (i := 2) rfl; have b3 := q0.cell (i := 3) rfl; have b4 := q0.cell (i := 4) rfl; clear q0; go_simp; try with_reducible rfl)
  simp only [List.getElem_toArray, List.getElem_cons_zero, List.getElem_cons_succ, Act.put, List.setIfInBounds_toArray, List.set_cons_zero, List.set_cons_succ]
  refine wpAnyH_take (i := 7) (v := ?v72) rfl (by kernel_rfl) (by kernel_rfl) (by kernel_rfl) (fun _ _ _ h => h) (Or.inl ⟨by rfl, ?y72⟩) hHeld ?r72
  case y72 => (intro w hSw; obtain ⟨q0, q1, q2, q3, q4⟩ := hSw; have b0 := q0.cell (i := 0) rfl; have b1 := q0.cell (i := 1) rfl; have b2 := q0.cell (i := 2) rfl; have b3 := q0.cell (i := 3) rfl; have b4 := q0.cell (i := 4) rfl; clear q0; go_simp; try with_reducible rfl)
  simp only [List.getElem_toArray, List.getElem_cons_zero, List.getElem_cons_succ, Act.put, List.setIfInBounds_toArray, List.set_cons_zero, List.set_cons_succ]
  refine wpAnyH_take (i := 8) (v := ?v73) rfl (by kernel_rfl) (by kernel_rfl) (by kernel_rfl) (fun _ _ _ h => h) (Or.inl ⟨by rfl, ?y73⟩) hHeld ?r73
  case y73 => (intro w hSw; obtain ⟨q0, q1, q2, q3, q4⟩ := hSw; have b0 := q0.cell (i := 0) rfl; have b1 := q0.cell (i := 1) rfl; have b2 := q0.cell (i := 2) rfl; have b3 := q0.cell (i := 3) rfl; have b4 := q0.cell (i := 4) rfl; clear q0; go_simp; try with_reducible rfl)
  simp only [List.getElem_toArray, List.getElem_cons_zero, List.getElem_cons_succ, Act.put, List.setIfInBounds_toArray, List.set_cons_zero, List.set_cons_succ]
  refine wpAnyH_take (i := 9) (v := ?v74) rfl (by kernel_rfl) (by kernel_rfl) (by kernel_rfl) (fun _ _ _ h => h) (Or.inl ⟨by rfl, ?y74⟩) hHeld ?r74
  case y74 => (intro w hSw; obtain ⟨q0, q1, q2, q3, q4⟩ := hSw; have b0 := q0.cell (i := 0) rfl; have b1 := q0.cell (i := 1) rfl; have b2 := q0.cell (i := 2) rfl; have b3 := q0.cell (i := 3) rfl; have b4 := q0.cell (i := 4) rfl; clear q0; go_simp; try with_reducible rfl)
  simp only [List.getElem_toArray, List.getElem_cons_zero, List.getElem_cons_succ, Act.put, List.setIfInBounds_toArray, List.set_cons_zero, List.set_cons_succ]
  refine wpAnyH_take (i := 10) (v := ?v75) rfl (by kernel_rfl) (by kernel_rfl) (by kernel_rfl) (fun _ _ _ h => h) (Or.inl ⟨by rfl, ?y75⟩) hHeld ?r75
  case y75 => (intro w hSw; obtain ⟨q0, q1, q2, q3, q4⟩ := hSw; have b0 := q0.cell (i := 0) rfl; have b1 := q0.cell (i := 1) rfl; have b2 := q0.cell (i := 2) rfl; have b3 := q0.cell (i := 3) rfl; have b4 := q0.cell (i := 4) rfl; clear q0; go_simp; try with_reducible rfl)
  simp only [List.getElem_toArray, List.getElem_cons_zero, List.getElem_cons_succ, Act.put, List.setIfInBounds_toArray, List.set_cons_zero, List.set_cons_succ]
  refine wpAnyH_take (i := 12) (v := ?v76) rfl (by kernel_rfl) (by kernel_rfl) (by kernel_rfl) (fun _ _ _ h => h) (Or.inl ⟨by rfl, ?y76⟩) hHeld ?r76
  case y76 => (intro w hSw; obtain ⟨q0, q1, q2, q3, q4⟩ := hSw; have b0 := q0.cell (i := 0) rfl; have b1 := q0.cell (i := 1) rfl; have b2 := q0.cell (i := 2) rfl; have b3 := q0.cell (i := 3) rfl; have b4 := q0.cell (i := 4) rfl; clear q0; go_simp; try with_reducible rfl)
  simp only [List.getElem_toArray, List.getElem_cons_zero, List.getElem_cons_succ, Act.put, List.setIfInBounds_toArray, List.set_cons_zero, List.set_cons_succ]
  refine wpAnyH_take (i := 13) (v := ?v77) rfl (by kernel_rfl) (by kernel_rfl) (by kernel_rfl) (fun _ _ _ h => h) (Or.inl ⟨by rfl, ?y77⟩) hHeld ?r77
  case y77 => (intro w hSw; obtain ⟨q0, q1, q2, q3, q4⟩ := hSw; have b0 := q0.cell (i := 0) rfl; have b1 := q0.cell (i := 1) rfl; have b2 := q0.cell (i := 2) rfl; have b3 := q0.cell (i := 3) rfl; have b4 := q0.cell (i := 4) rfl; clear q0; go_simp; try with_reducible rfl)
  simp only [List.getElem_toArray, List.getElem_cons_zero, List.getElem_cons_succ, Act.put, List.setIfInBounds_toArray, List.set_cons_zero, List.set_cons_succ]
  refine wpAnyH_take (i := 14) (v := ?v78) rfl (by kernel_rfl) (by kernel_rfl) (by kernel_rfl) (fun _ _ _ h => h) (Or.inl ⟨by rfl, ?y78⟩) hHeld ?r78
  case y78 => (intro w hSw; obtain ⟨q0, q1, q2, q3, q4⟩ := hSw; have b0 := q0.cell (i := 0) rfl; have b1 := q0.cell (i := 1) rfl; have b2 := q0.cell (i := 2) rfl; have b3 := q0.cell (i := 3) rfl; have b4 := q0.cell (i := 4) rfl; clear q0; go_simp; try with_reducible rfl)
  simp only [List.getElem_toArray, List.getElem_cons_zero, List.getElem_cons_succ, Act.put, List.setIfInBounds_toArray, List.set_cons_zero, List.set_cons_succ]
  refine wpAnyH_take (i := 15) (v := ?v79) rfl (by kernel_rfl) (by kernel_rfl) (by kernel_rfl) (fun _ _ _ h => h) (Or.inl ⟨by rfl, ?y79⟩) hHeld ?r79
  case y79 => (intro w hSw; obtain ⟨q0, q1, q2, q3, q4⟩ := hSw; have b0 := q0.cell (i := 0) rfl; have b1 := q0.cell (i := 1) rfl; have b2 := q0.cell (i := 2) rfl; have b3 := q0.cell (i := 3) rfl; have b4 := q0.cell (i := 4) rfl; clear q0; go_simp; try with_reducible rfl)
  simp only [List.getElem_toArray, List.getElem_cons_zero, List.getElem_cons_succ, Act.put, List.setIfInBounds_toArray, List.set_cons_zero, List.set_cons_succ]
  refine wpAnyH_ready (rs := [11]) (by kernel_rfl) (by simp) (AllReadyH.cons rfl (fun K hK => ?_) AllReadyH.nil)
  go_simp
  refine (Hat.out _).mono ?_
  rintro e v3 ⟨rfl, hb3⟩
  have R3 := HA.out.1.low hb3
  have hM3 := HA.out.2.low hb3
  have hq3 : RN4 o gg w.heap.size k nn S gl.length vc gen v3 := RN4.of R3 hM3 Hgk.out
  have HB3 := Lib.hid (And.intro R3 hM3)
  clear hb3 R3 hM3
  go_wp2_with fail
  refine hK.out _ _ (hq3) (fun hHeld => ?_)
  clear hK K
  refine wpAnyH_take (i := 16) (v := (.int .i64 (i : Int))) rfl (by kernel_rfl) (by kernel_rfl) (by kernel_rfl) (fun _ _ _ h => h) (Or.inl ⟨by rfl, ?y81⟩) hHeld ?r81
  case y81 => (intro w hSw; obtain ⟨q0, q1, q2, q3, q4⟩ := hSw; have b0 := q0.cell (i := 0) rfl; have b1 := q0.cell (i := 1) rfl; have b2 := q0.cell (i := 2) rfl; have b3 := q0.cell (i := 3) rfl; have b4 := q0.cell (i := 4) rfl; clear q0; go_simp; try with_reducible rfl)
  simp only [List.getElem_toArray, List.getElem_cons_zero, List.getElem_cons_succ, Act.put, List.setIfInBounds_toArray, List.set_cons_zero, List.set_cons_succ]
  refine wpAnyH_take (i := 17) (v := (.int .i64 (i : Int))) rfl (by kernel_rfl) (by kernel_rfl) (by kernel_rfl) (fun _ _ _ h => h) (Or.inl ⟨by rfl, ?y82⟩) hHeld ?r82
  case y82 => (intro w hSw; obtain ⟨q0, q1, q2, q3, q4⟩ := hSw; have b0 := q0.cell (i := 0) rfl; have b1 := q0.cell (i := 1) rfl; have b2 := q0.cell (i := 2) rfl; have b3 := q0.cell (i := 3) rfl; have b4 := q0.cell (i := 4) rfl; clear q0; go_simp; try with_reducible rfl)
  simp only [List.getElem_toArray, List.getElem_cons_zero, List.getElem_cons_succ, Act.put, List.setIfInBounds_toArray, List.set_cons_zero, List.set_cons_succ]
  refine wpAnyH_done (by kernel_rfl) ?_ _
  clear hHeld hq hq3 Hat HA hJ hwA d1 lm1 lo1 lw1 e1_2
  obtain ⟨R3, hM3⟩ := HB3.out
  clear HB3
  have lo3 := R3.bk.lt
  have lw3 := R3.row.lt
  have e3_10 := R3.bk.cell (i := 10) (v := .int .i64 (p)) rfl
  have z3_10 := R3.bk.frozen 10
  have R4 := (R3.put 10 (.int .i64 ((p + 1)))).to (C' := (rc (.slice (some ⟨b, off, none⟩) ln cp) (.slice (some ⟨gg, 0, none⟩) gl.length vc) (.slice ua wl.length uc) tr 2 k nn (tr - left) bn 0 (p + 1))) rfl
  have hM4 := hM3.setFar (p := ⟨o, 10, none⟩) hom (.int .i64 ((p + 1)))
  generalize hv4 : v3.setCell ⟨o, 10, none⟩ (.int .i64 ((p + 1))) = v4 at R4 hM4
  have lo4 := R4.bk.lt
  have lw4 := R4.row.lt
  have HRq := Lib.hid (fun q => And.intro (R4.drewN q) (blkN hM4 q))
  have e4_0 := R4.bk.cell (i := 0) (v := .slice (some ⟨b, off, none⟩) ln cp) rfl
  have e4_3 := R4.bk.cell (i := 3) (v := .int .i64 (k)) rfl
  clear R3 R4 hM3 hM4
  go_wp2_with fail
  go_quiet (fail)
  obtain ⟨R5, hM5⟩ := HRq.out nq
  clear HRq hv4 lo3 lw3 lo4 lw4 e3_10 z3_10 e4_0 e4_3
  generalize v4.drewN nq = v5 at R5 hM5 ⊢
  have lo5 := R5.bk.lt
  have lw5 := R5.row.lt
  have e5_2 := R5.bk.cell (i := 2) (v := .int .i64 (2)) rfl
  obtain ⟨hwll, hmu⟩ := Hwl.out
  have hbl2 : b < v5.drew.heap.size := by have := R5.up.size; have e2 : v5.drew.heap.size = v5.heap.size := rfl; omega
  obtain ⟨a5, c5, Wp, hr5, Rp, hfp⟩ := R5.drew.appU hwll hbl2 v
  have Hap := Lib.hid hr5
  have hMp := hM5.drew.of_block (hfp _ hM5.drew.lt hmu)
  have hqv : RW wb i v v5.drew := R5.drew.row.cell Hv1.out
  have lod := R5.drew.bk.lt
  have lwd := R5.drew.row.lt
  have RA := R5.drew.alloc (.cells #[.int .u64 v] 42)
  have RB := R5.alloc (.cells #[.int .u64 v] 42)
  have hqA : RW wb i v (v5.drew.alloc (.cells #[.int .u64 v] 42)) := RA.row.cell Hv1.out
  have f0 := R5.bk.cell (i := 7) rfl
  have f1 := R5.drew.bk.cell (i := 7) rfl
  have f2 := RA.bk.cell (i := 7) rfl
  have f3 := RB.bk.cell (i := 7) rfl
  have hq5 : RW wb i v Wp := Rp.row.cell Hv1.out
  have f5 := Rp.bk.cell (i := 7) rfl
  have z5 := Rp.bk.frozen 7
  have lop := Rp.bk.lt
  have R6 := (Rp.put 7 (.slice a5 (wl.length + 1) c5)).to (C' := (rc (.slice (some ⟨b, off, none⟩) ln cp) (.slice (some ⟨gg, 0, none⟩) gl.length vc) (.slice a5 (wl.length + 1) c5) tr 2 k nn (tr - left) bn 0 (p + 1))) rfl
  have hM6 := hMp.setFar (p := ⟨o, 7, none⟩) hom ((.slice a5 (wl.length + 1) c5))
  generalize hw6 : Wp.setCell ⟨o, 7, none⟩ (.slice a5 (wl.length + 1) c5) = v6 at R6 hM6
  have hq6 : RW wb i v v6 := R6.row.cell Hv1.out
  have HR6 := Lib.hid (And.intro R6 hM6)
  clear R5 hM5 Rp RA RB R6 hM6 hMp hr5 hbl2 hfp hmu
  go_wp2_with fail
  refine wp_region_held_drew (S := RW wb i v) (by kernel_rfl) (hqv) (fun hHeld => ?_)
  refine wpAnyH_take (i := 0) (v := ?v48) rfl (by kernel_rfl) (by kernel_rfl) (by kernel_rfl) (fun _ _ _ h => h) (Or.inl ⟨by rfl, ?y48⟩) hHeld ?r48
  case y48 => (intro w hSw; have q0 := hSw; unfold RW at q0; go_simp; try with_reducible rfl)
  simp only [List.getElem_toArray, List.getElem_cons_zero, Act.put, List.setIfInBounds_toArray, List.set_cons_zero, List.set_cons_succ]
  refine wpAnyH_take (i := 1) (v := ?v49) rfl (by kernel_rfl) (by kernel_rfl) (by kernel_rfl) (fun _ _ _ h => h) (Or.inl ⟨by rfl, ?y49⟩) hHeld ?r49
  case y49 => (intro w hSw; have q0 := hSw; unfold RW at q0; go_simp; try with_reducible rfl)
  simp only [List.getElem_toArray, List.getElem_cons_zero, List.getElem_cons_succ, Act.put, List.setIfInBounds_toArray, List.set_cons_zero, List.set_cons_succ]
  refine wpAnyH_take (i := 2) (v := ?v50) rfl (by kernel_rfl) (by kernel_rfl) (by kernel_rfl) (fun _ _ _ h => h) (Or.inl ⟨by rfl, ?y50⟩) hHeld ?r50
  case y50 => (intro w hSw; have q0 := hSw; unfold RW at q0; go_simp; try with_reducible rfl)
  simp only [List.getElem_toArray, List.getElem_cons_zero, List.getElem_cons_succ, Act.put, List.setIfInBounds_toArray, List.set_cons_zero, List.set_cons_succ]
  refine wpAnyH_take (i := 3) (v := ?v51) rfl (by kernel_rfl) (by kernel_rfl) (by kernel_rfl) (fun _ _ _ h => h) (Or.inl ⟨by rfl, ?y51⟩) hHeld ?r51
  case y51 => (intro w hSw; have q0 := hSw; unfold RW at q0; go_simp; try with_reducible rfl)
  simp only [List.getElem_toArray, List.getElem_cons_zero, List.getElem_cons_succ, Act.put, List.setIfInBounds_toArray, List.set_cons_zero, List.set_cons_succ]
  refine wpAnyH_take (i := 5) (v := ?v52) rfl (by kernel_rfl) (by kernel_rfl) (by kernel_rfl) (fun _ _ _ h => h) (Or.inl ⟨by rfl, ?y52⟩) hHeld ?r52
  case y52 => (intro w hSw; have q0 := hSw; unfold RW at q0; go_simp; try with_reducible rfl)
  simp only [List.getElem_toArray, List.getElem_cons_zero, List.getElem_cons_succ, Act.put, List.setIfInBounds_toArray, List.set_cons_zero, List.set_cons_succ]
  refine wpAnyH_take (i := 6) (v := ?v53) rfl (by kernel_rfl) (by kernel_rfl) (by kernel_rfl) (fun _ _ _ h => h) (Or.inl ⟨by rfl, ?y53⟩) hHeld ?r53
  case y53 => (intro w hSw; have q0 := hSw; unfold RW at q0; go_simp; try with_reducible rfl)
  simp only [List.getElem_toArray, List.getElem_cons_zero, List.getElem_cons_succ, Act.put, List.setIfInBounds_toArray, List.set_cons_zero, List.set_cons_succ]
  refine wpAnyH_take (i := 7) (v := ?v54) rfl (by kernel_rfl) (by kernel_rfl) (by kernel_rfl) (fun _ _ _ h => h) (Or.inl ⟨by rfl, ?y54⟩) hHeld ?r54
  case y54 => (intro w hSw; have q0 := hSw; unfold RW at q0; go_simp; try with_reducible rfl)
  simp only [List.getElem_toArray, List.getElem_cons_zero, List.getElem_cons_succ, Act.put, List.setIfInBounds_toArray, List.set_cons_zero, List.set_cons_succ]
  refine wpAnyH_take (i := 8) (v := ?v55) rfl (by kernel_rfl) (by kernel_rfl) (by kernel_rfl) (fun _ _ _ h => h) (Or.inl ⟨by rfl, ?y55⟩) hHeld ?r55
  case y55 => (intro w hSw; have q0 := hSw; unfold RW at q0; go_simp; try with_reducible rfl)
  simp only [List.getElem_toArray, List.getElem_cons_zero, List.getElem_cons_succ, Act.put, List.setIfInBounds_toArray, List.set_cons_zero, List.set_cons_succ]
  refine wpAnyH_ready (rs := [4, 9]) (by kernel_rfl) (by simp) (AllReadyH.cons rfl (fun K hK => ?_) (AllReadyH.cons rfl (fun K hK => ?_) AllReadyH.nil))
  · go_simp
    refine hK.out _ _ (hqv) (fun hHeld => ?_)
    clear hK K
    refine wpAnyH_ready (rs := [9]) (by kernel_rfl) (by simp) (AllReadyH.cons rfl (fun K hK => ?_) AllReadyH.nil)
    go_simp
    refine hK.out _ _ (hqA) (fun hHeld => ?_)
    clear hK K
    refine wpAnyH_ready (rs := [10]) (by kernel_rfl) (by simp) (AllReadyH.cons rfl (fun K hK => ?_) AllReadyH.nil)
    refine wp_append_run _ (.tmp 136) (.tmp 141) 41 41 rfl _ _ rfl rfl Hap.out ?_
    refine hK.out _ _ (hq5) (fun hHeld => ?_)
    clear hK K
    refine wpAnyH_take (i := 11) (v := ?v58) rfl (by kernel_rfl) (by kernel_rfl) (by kernel_rfl) (fun _ _ _ h => h) (Or.inl ⟨by rfl, ?y58⟩) hHeld ?r58
    case y58 => (intro w hSw; have q0 := hSw; unfold RW at q0; go_simp; try with_reducible rfl)
    simp only [List.getElem_toArray, List.getElem_cons_zero, List.getElem_cons_succ, Act.put, List.setIfInBounds_toArray, List.set_cons_zero, List.set_cons_succ]
    refine wpAnyH_take (i := 12) (v := ?v59) rfl (by kernel_rfl) (by kernel_rfl) (by kernel_rfl) (fun _ _ _ h => h) (Or.inl ⟨by rfl, ?y59⟩) hHeld ?r59
    case y59 => (intro w hSw; have q0 := hSw; unfold RW at q0; go_simp; try with_reducible rfl)
    simp only [List.getElem_toArray, List.getElem_cons_zero, List.getElem_cons_succ, Act.put, List.setIfInBounds_toArray, List.set_cons_zero, List.set_cons_succ]
    refine wpAnyH_ready (rs := [13]) (by kernel_rfl) (by simp) (AllReadyH.cons rfl (fun K hK => ?_) AllReadyH.nil)
    go_simp
    go_wp2_with fail
    refine hK.out _ _ (hq6) (fun hHeld => ?_)
    clear hK K
    refine wpAnyH_done (by kernel_rfl) ?_ _
    clear hHeld hqv hqA hq5 hq6 Hap z5 lop lod lwd f0 f1 f2 f3 f5 hw6 hwll
    obtain ⟨R6, hM6⟩ := HR6.out
    clear HR6
    have lo6 := R6.bk.lt
    have lw6 := R6.row.lt
    have e6_4 := R6.bk.cell (i := 4) (v := .int .i64 (nn)) rfl
    have z6_4 := R6.bk.frozen 4
    have R7 := (R6.put 4 (.int .i64 ((nn + 1)))).to (C' := (rc (.slice (some ⟨b, off, none⟩) ln cp) (.slice (some ⟨gg, 0, none⟩) gl.length vc) (.slice a5 (wl.length + 1) c5) tr 2 k (nn + 1) (tr - left) bn 0 (p + 1))) rfl
    have hM7 := hM6.setFar (p := ⟨o, 4, none⟩) hom (.int .i64 ((nn + 1)))
    generalize hv7 : v6.setCell ⟨o, 4, none⟩ (.int .i64 ((nn + 1))) = v7 at R7 hM7
    have lo7 := R7.bk.lt
    have lw7 := R7.row.lt
    have e7_4 := R7.bk.cell (i := 4) (v := .int .i64 ((nn + 1))) rfl
    have HRq := Lib.hid (fun q => And.intro (R7.drewN q) (blkN hM7 q))
    have d3 := hM7.cell (i := 3) rfl
    have lm7 := hM7.lt
    clear R6 R7 hM6 hM7
    go_wp2_with fail
    go_quiet (fail)
    obtain ⟨R8, hM8⟩ := HRq.out nq
    clear HRq hv7 lo6 lw6 lo7 lw7 e6_4 z6_4 e7_4 d3 lm7
    generalize v7.drewN nq = v8 at R8 hM8 ⊢
    have lo8 := R8.bk.lt
    have lw8 := R8.row.lt
    have e8_4 := R8.bk.cell (i := 4) (v := .int .i64 ((nn + 1))) rfl
    have z8_4 := R8.bk.frozen 4
    have R9 := (R8.put 4 (.int .i64 (0))).to (C' := (rc (.slice (some ⟨b, off, none⟩) ln cp) (.slice (some ⟨gg, 0, none⟩) gl.length vc) (.slice a5 (wl.length + 1) c5) tr 2 k 0 (tr - left) bn 0 (p + 1))) rfl
    have hM9 := hM8.setFar (p := ⟨o, 4, none⟩) hom (.int .i64 (0))
    generalize hv9 : v8.setCell ⟨o, 4, none⟩ (.int .i64 (0)) = v9 at R9 hM9
    have lo9 := R9.bk.lt
    have lw9 := R9.row.lt
    have e9_3 := R9.bk.cell (i := 3) (v := .int .i64 (k)) rfl
    have z9_3 := R9.bk.frozen 3
    have R10 := (R9.put 3 (.int .i64 ((k + 1)))).to (C' := (rc (.slice (some ⟨b, off, none⟩) ln cp) (.slice (some ⟨gg, 0, none⟩) gl.length vc) (.slice a5 (wl.length + 1) c5) tr 2 (k + 1) 0 (tr - left) bn 0 (p + 1))) rfl
    have hM10 := hM9.setFar (p := ⟨o, 3, none⟩) hom (.int .i64 ((k + 1)))
    generalize hv10 : v9.setCell ⟨o, 3, none⟩ (.int .i64 ((k + 1))) = v10 at R10 hM10
    have HR10 := Lib.hid R10
    clear R8 hM8 R9 hM9 R10 hM10
    go_wp2
    go_end0
    exact (HR10.out.to (show _ = rfc (.slice (some ⟨b, off, none⟩) ln cp) (.slice (some ⟨gg, 0, none⟩) gl.length vc) (.slice a5 (wl.length + 1) c5) tr ⟨0, 1, (k + 1), 0, left, (p + 1), bn, (tl ++ [v])⟩ from by simp [rfc, rc]; try omega)).post Hlen.out (fun _ => rows1 HtlL.out Hgw.out)
  · go_simp
    refine hK.out _ _ (hqA) (fun hHeld => ?_)
    clear hK K
    refine wpAnyH_ready (rs := [4]) (by kernel_rfl) (by simp) (AllReadyH.cons rfl (fun K hK => ?_) AllReadyH.nil)
    go_simp
    refine hK.out _ _ (hqA) (fun hHeld => ?_)
    clear hK K
    refine wpAnyH_ready (rs := [10]) (by kernel_rfl) (by simp) (AllReadyH.cons rfl (fun K hK => ?_) AllReadyH.nil)
    refine wp_append_run _ (.tmp 136) (.tmp 141) 41 41 rfl _ _ rfl rfl Hap.out ?_
    refine hK.out _ _ (hq5) (fun hHeld => ?_)
    clear hK K
    refine wpAnyH_take (i := 11) (v := ?v62) rfl (by kernel_rfl) (by kernel_rfl) (by kernel_rfl) (fun _ _ _ h => h) (Or.inl ⟨by rfl, ?y62⟩) hHeld ?r62
    case y62 => (intro w hSw; have q0 := hSw; unfold RW at q0; go_simp; try with_reducible rfl)
    simp only [List.getElem_toArray, List.getElem_cons_zero, List.getElem_cons_succ, Act.put, List.setIfInBounds_toArray, List.set_cons_zero, List.set_cons_succ]
    refine wpAnyH_take (i := 12) (v := ?v63) rfl (by kernel_rfl) (by kernel_rfl) (by kernel_rfl) (fun _ _ _ h => h) (Or.inl ⟨by rfl, ?y63⟩) hHeld ?r63
    case y63 => (intro w hSw; have q0 := hSw; unfold RW at q0; go_simp; try with_reducible rfl)
    simp only [List.getElem_toArray, List.getElem_cons_zero, List.getElem_cons_succ, Act.put, List.setIfInBounds_toArray, List.set_cons_zero, List.set_cons_succ]
    refine wpAnyH_ready (rs := [13]) (by kernel_rfl) (by simp) (AllReadyH.cons rfl (fun K hK => ?_) AllReadyH.nil)
    go_simp
    go_wp2_with fail
    refine hK.out _ _ (hq6) (fun hHeld => ?_)
    clear hK K
    refine wpAnyH_done (by kernel_rfl) ?_ _
    clear hHeld hqv hqA hq5 hq6 Hap z5 lop lod lwd f0 f1 f2 f3 f5 hw6 hwll
    obtain ⟨R6, hM6⟩ := HR6.out
    clear HR6
    have lo6 := R6.bk.lt
    have lw6 := R6.row.lt
    have e6_4 := R6.bk.cell (i := 4) (v := .int .i64 (nn)) rfl
    have z6_4 := R6.bk.frozen 4
    have R7 := (R6.put 4 (.int .i64 ((nn + 1)))).to (C' := (rc (.slice (some ⟨b, off, none⟩) ln cp) (.slice (some ⟨gg, 0, none⟩) gl.length vc) (.slice a5 (wl.length + 1) c5) tr 2 k (nn + 1) (tr - left) bn 0 (p + 1))) rfl
    have hM7 := hM6.setFar (p := ⟨o, 4, none⟩) hom (.int .i64 ((nn + 1)))
    generalize hv7 : v6.setCell ⟨o, 4, none⟩ (.int .i64 ((nn + 1))) = v7 at R7 hM7
    have lo7 := R7.bk.lt
    have lw7 := R7.row.lt
    have e7_4 := R7.bk.cell (i := 4) (v := .int .i64 ((nn + 1))) rfl
    have HRq := Lib.hid (fun q => And.intro (R7.drewN q) (blkN hM7 q))
    have d3 := hM7.cell (i := 3) rfl
    have lm7 := hM7.lt
    clear R6 R7 hM6 hM7
    go_wp2_with fail
    go_quiet (fail)
    obtain ⟨R8, hM8⟩ := HRq.out nq
    clear HRq hv7 lo6 lw6 lo7 lw7 e6_4 z6_4 e7_4 d3 lm7
    generalize v7.drewN nq = v8 at R8 hM8 ⊢
    have lo8 := R8.bk.lt
    have lw8 := R8.row.lt
    have e8_4 := R8.bk.cell (i := 4) (v := .int .i64 ((nn + 1))) rfl
    have z8_4 := R8.bk.frozen 4
    have R9 := (R8.put 4 (.int .i64 (0))).to (C' := (rc (.slice (some ⟨b, off, none⟩) ln cp) (.slice (some ⟨gg, 0, none⟩) gl.length vc) (.slice a5 (wl.length + 1) c5) tr 2 k 0 (tr - left) bn 0 (p + 1))) rfl
    have hM9 := hM8.setFar (p := ⟨o, 4, none⟩) hom (.int .i64 (0))
    generalize hv9 : v8.setCell ⟨o, 4, none⟩ (.int .i64 (0)) = v9 at R9 hM9
    have lo9 := R9.bk.lt
    have lw9 := R9.row.lt
    have e9_3 := R9.bk.cell (i := 3) (v := .int .i64 (k)) rfl
    have z9_3 := R9.bk.frozen 3
    have R10 := (R9.put 3 (.int .i64 ((k + 1)))).to (C' := (rc (.slice (some ⟨b, off, none⟩) ln cp) (.slice (some ⟨gg, 0, none⟩) gl.length vc) (.slice a5 (wl.length + 1) c5) tr 2 (k + 1) 0 (tr - left) bn 0 (p + 1))) rfl
    have hM10 := hM9.setFar (p := ⟨o, 3, none⟩) hom (.int .i64 ((k + 1)))
    generalize hv10 : v9.setCell ⟨o, 3, none⟩ (.int .i64 ((k + 1))) = v10 at R10 hM10
    have HR10 := Lib.hid R10
    clear R8 hM8 R9 hM9 R10 hM10
    go_wp2
    go_end0
    exact (HR10.out.to (show _ = rfc (.slice (some ⟨b, off, none⟩) ln cp) (.slice (some ⟨gg, 0, none⟩) gl.length vc) (.slice a5 (wl.length + 1) c5) tr ⟨0, 1, (k + 1), 0, left, (p + 1), bn, (tl ++ [v])⟩ from by simp [rfc, rc]; try omega)).post Hlen.out (fun _ => rows1 HtlL.out Hgw.out)
end
end Go.Proofs.Ytflgggfomhifeaa
/- The document's step: the last word. -/
namespace Go.Proofs.Ytflgggfomhifeaa
open Go.RowKit

section
variable {w : World} {o wb b off ln cp k nn : Nat} {V U : Value} {SS : List Sp} {tr left p bn v : Int} {tl ys : List Int}
set_option maxRecDepth 100000 in
set_option maxHeartbeats 2000000 in
theorem rn_word_last (h : RnAt w o (some ⟨b, off, none⟩) ln cp V U SS tr ⟨0, 1, k, nn, left, p, bn, tl⟩) (hB : Row w wb ys) (hne : o ≠ wb) (hvw : V.ownBlock ≠ some wb) (huw : U.ownBlock ≠ some wb) (hw : NWf SS ⟨0, 1, k, nn, left, p, bn, tl⟩) (_t1 : left ≤ tr) (_t2 : tr ≤ 16) (p0 : 0 ≤ p) (p1 : p ≤ 1000000) (hyl : ys.length ≤ 1000) (hv : getI ys (nxl SS ⟨0, 1, k, nn, left, p, bn, tl⟩) = some v) (hu : U64 v) (hm : (nn : Int) + 1 = (nxs SS ⟨0, 1, k, nn, left, p, bn, tl⟩).wd) (hl : k + 1 = ln) :
    Calls Try.prog 16 #[.pointer (some ⟨o, 0, none⟩), .slice (some ⟨wb, 0, none⟩) ys.length ys.length] w (RnPost o wb (some ⟨b, off, none⟩) ln cp V U SS tr ys ⟨0, 2, 0, 0, left, (p + 1), bn, (tl ++ [v])⟩ w) := by
  obtain ⟨gl, wl, hr, Q0⟩ := Rtg.start h hB hne hvw huw
  have hgw := hr (fun c => by have := c.1; dsimp only at this; omega)
  clear hr
  dsimp only at hgw
  have hlen := h.len
  have ha1 := hw.a1 rfl
  dsimp only at ha1
  have hk0 := hw.k
  dsimp only at hk0
  have hgll : gl.length = ln := by rw [hgw.1, List.length_take]; omega
  obtain ⟨gg, vc, rfl, hgb⟩ := owns_some Q0.gv (by omega)
  obtain ⟨ua, uc, rfl⟩ := owns_sl Q0.uv
  have hsp := hw.sp
  obtain ⟨gen, g1, g2, g3⟩ := hw.gen (by show (1 : Int) ≤ 1; omega)
  dsimp only at g1 g2
  have hgk : gl[k]? = some gen := by rw [hgw.1, List.getElem?_take_of_lt (by omega)]; exact g1
  have Hgw := Lib.hid hgw
  have Hgk := Lib.hid hgk
  have R0 := Q0.to (C' := (rc (.slice (some ⟨b, off, none⟩) ln cp) (.slice (some ⟨gg, 0, none⟩) gl.length vc) (.slice ua wl.length uc) tr 2 k nn (tr - left) bn 0 p)) (by simp [rfc, rc])
  obtain ⟨b', off', heq, hbl, hjj⟩ := R0.sp k _ hsp
  clear hjj
  cases heq
  obtain ⟨S, hSe⟩ : ∃ S, nxs SS ⟨0, 1, k, nn, left, p, bn, tl⟩ = S := ⟨_, rfl⟩
  have hrm := hw.room1 (by show (1 : Int) ≤ 1; omega)
  dsimp only at hrm
  have hwll : wl.length ≤ 100000 := by rw [hgw.2, List.length_drop]; have := hw.rbd; omega
  have hmu : Value.ownBlock (.slice ua wl.length uc) ≠ some w.heap.size := fun e => by have := owns_lt Q0.uv e; omega
  have Hwl := Lib.hid (And.intro hwll hmu)
  obtain ⟨_, hA0, hA1⟩ := nxl_bd hw
  rw [hSe] at ha1
  dsimp only at hA0 hA1
  rw [hSe, g2] at hA0 hA1
  have hHt := rat_any S.ow S.sq S.fs S.wd S.dp gen
  have Hat := Lib.hid (fun W => hHt W g3.1 g3.2)
  clear hHt
  have HtlL := Lib.hid (show SS.length ≤ tl.length by omega)
  have hn2 := ha1.2
  have hn64 : S.wd ≤ 64 := by rw [← hSe]; exact hw.rts.2.1
  have hrt := hw.rts
  rw [hSe] at hsp hrt
  have hs64 := hw.s64
  rw [hlen] at hs64
  have hkl : k < ln := by omega
  have hkl2 : (k : Int) < ln := by omega
  have hkg : (k : Int) < gl.length := by omega
  have hq0 : 0 ≤ S.sq := by unfold Rt at hrt; omega
  unfold nxl at hv
  rw [if_pos (by rfl), hSe] at hv
  dsimp only at hv
  rw [g2] at hv
  obtain ⟨J, hJ⟩ : ∃ J : Int, atv S.fs S.wd S.dp gen + (nn : Int) = J := ⟨_, rfl⟩
  generalize atv S.fs S.wd S.dp gen = A at *
  rw [hJ] at hv
  obtain ⟨hJ0, hv1⟩ := getI_some hv
  have hlt := lt_of_some hv1
  obtain ⟨i, hi⟩ := Int.eq_ofNat_of_zero_le hJ0
  subst hi
  rw [Int.toNat_natCast] at hv1 hlt
  have hlt2 : (i : Int) < ys.length := by omega
  have Hv1 := Lib.hid hv1
  have hwA : IntKind.i64.wrap (i : Int) = i := by rw [IntKind.wrap_i64]; omega
  obtain ⟨u0, u1⟩ := hu
  have hm8 : ((k : Int) == (ln : Int) - 1) = true := by simp; omega
  rw [hSe] at hm
  have hmw : (((nn : Int) + 1) == S.wd) = true := by simp; omega
  have hom : w.heap.size ≠ o := by have := R0.bk.lt; omega
  have RA := R0.drew.alloc (.cells #[.int .i64 0, .int .i64 0, .int .i64 0, .int .i64 0, .int .i64 0] 96)
  have R1 := (R0.alloc (sb2 S)).drew
  have hM1 : Blk (w.alloc (sb2 S)).drew w.heap.size (spc5 S) := Blk.new w #[.int .i64 S.ow, .int .i64 S.sq, .int .i64 S.fs, .int .i64 S.wd, .int .i64 S.dp] 96
  have HQ0 := Lib.hid (RX.of R0.drew hsp)
  have HQ1 := Lib.hid (RX.of RA hsp)
  have HQ2 := Lib.hid (RX.of R1 hsp)
  have hM := Blk.new w.drew #[.int .i64 0, .int .i64 0, .int .i64 0, .int .i64 0, .int .i64 0] 96
  change Blk _ w.heap.size _ at hM
  have hM0 := hM.cell (i := 0) rfl
  have hM1c := hM.cell (i := 1) rfl
  have hM2 := hM.cell (i := 2) rfl
  have hM3 := hM.cell (i := 3) rfl
  have hM4 := hM.cell (i := 4) rfl
  have y0 := hM.frozen 0
  have y1 := hM.frozen 1
  have y2 := hM.frozen 2
  have y3 := hM.frozen 3
  have y4 := hM.frozen 4
  have lA := hM.lt
  have lo0 := R0.bk.lt
  have lw0 := R0.row.lt
  have e0_9 := R0.bk.cell (i := 9) (v := .int .i64 (0)) rfl
  have Hlen := Lib.hid hlen
  have HR1 := Lib.hid R1
  have HM1 := Lib.hid hM1
  clear Q0 R0 RA R1 hM1 hM h hB hvw huw hsp hgw hgk hw hSe hrt ha1 hrm hwll hmu g1 g2 g3 hgll hlen hk0 hv hv1 hlt hm hJ0 hl
  go_enter Try.func16, Try.ntmps16
  go_wp2_with fail
  refine wp_region_held_drew (S := RX o b off cp ln k S) (by kernel_rfl) (HQ0.out) (fun hHeld => ?_)
  refine wpAnyH_take (i := 0) (v := ?v130) rfl (by kernel_rfl) (by kernel_rfl) (by kernel_rfl) (fun _ _ _ h => h) (Or.inl ⟨by rfl, ?y130⟩) hHeld ?r130
  case y130 => (intro w hSw; obtain ⟨⟨q0, q1⟩, q2, q3, q4, q5, q6⟩ := hSw; (try simp only [Nat.zero_mul, Nat.add_zero] at q2 q3 q4 q5 q6); go_simp; try with_reducible rfl)
  simp only [List.getElem_toArray, List.getElem_cons_zero, Act.put, List.setIfInBounds_toArray, List.set_cons_zero, List.set_cons_succ]
  refine wpAnyH_take (i := 1) (v := ?v131) rfl (by kernel_rfl) (by kernel_rfl) (by kernel_rfl) (fun _ _ _ h => h) (Or.inl ⟨by rfl, ?y131⟩) hHeld ?r131
  case y131 => (intro w hSw; obtain ⟨⟨q0, q1⟩, q2, q3, q4, q5, q6⟩ := hSw; (try simp only [Nat.zero_mul, Nat.add_zero] at q2 q3 q4 q5 q6); go_simp; try with_reducible rfl)
  simp only [List.getElem_toArray, List.getElem_cons_zero, List.getElem_cons_succ, Act.put, List.setIfInBounds_toArray, List.set_cons_zero, List.set_cons_succ]
  refine wpAnyH_take (i := 2) (v := ?v132) rfl (by kernel_rfl) (by kernel_rfl) (by kernel_rfl) (fun _ _ _ h => h) (Or.inl ⟨by rfl, ?y132⟩) hHeld ?r132
  case y132 => (intro w hSw; obtain ⟨⟨q0, q1⟩, q2, q3, q4, q5, q6⟩ := hSw; (try simp only [Nat.zero_mul, Nat.add_zero] at q2 q3 q4 q5 q6); go_simp; try with_reducible rfl)
  simp only [List.getElem_toArray, List.getElem_cons_zero, List.getElem_cons_succ, Act.put, List.setIfInBounds_toArray, List.set_cons_zero, List.set_cons_succ]
  refine wpAnyH_take (i := 3) (v := ?v133) rfl (by kernel_rfl) (by kernel_rfl) (by kernel_rfl) (fun _ _ _ h => h) (Or.inl ⟨by rfl, ?y133⟩) hHeld ?r133
  case y133 => (intro w hSw; obtain ⟨⟨q0, q1⟩, q2, q3, q4, q5, q6⟩ := hSw; (try simp only [Nat.zero_mul, Nat.add_zero] at q2 q3 q4 q5 q6); go_simp; try with_reducible rfl)
  simp only [List.getElem_toArray, List.getElem_cons_zero, List.getElem_cons_succ, Act.put, List.setIfInBounds_toArray, List.set_cons_zero, List.set_cons_succ]
  refine wpAnyH_take (i := 4) (v := ?v134) rfl (by kernel_rfl) (by kernel_rfl) (by kernel_rfl) (fun _ _ _ h => h) (Or.inl ⟨by rfl, ?y134⟩) hHeld ?r134
  case y134 => (intro w hSw; obtain ⟨⟨q0, q1⟩, q2, q3, q4, q5, q6⟩ := hSw; (try simp only [Nat.zero_mul, Nat.add_zero] at q2 q3 q4 q5 q6); go_simp; try with_reducible rfl)
  simp only [List.getElem_toArray, List.getElem_cons_zero, List.getElem_cons_succ, Act.put, List.setIfInBounds_toArray, List.set_cons_zero, List.set_cons_succ]
  refine wpAnyH_take (i := 5) (v := ?v135) rfl (by kernel_rfl) (by kernel_rfl) (by kernel_rfl) (fun _ _ _ h => h) (Or.inl ⟨by rfl, ?y135⟩) hHeld ?r135
  case y135 => (intro w hSw; obtain ⟨⟨q0, q1⟩, q2, q3, q4, q5, q6⟩ := hSw; (try simp only [Nat.zero_mul, Nat.add_zero] at q2 q3 q4 q5 q6); go_simp; try with_reducible rfl)
  simp only [List.getElem_toArray, List.getElem_cons_zero, List.getElem_cons_succ, Act.put, List.setIfInBounds_toArray, List.set_cons_zero, List.set_cons_succ]
  refine wpAnyH_take (i := 6) (v := ?v136) rfl (by kernel_rfl) (by kernel_rfl) (by kernel_rfl) (fun _ _ _ h => h) (Or.inl ⟨by rfl, ?y136⟩) hHeld ?r136
  case y136 => (intro w hSw; obtain ⟨⟨q0, q1⟩, q2, q3, q4, q5, q6⟩ := hSw; (try simp only [Nat.zero_mul, Nat.add_zero] at q2 q3 q4 q5 q6); go_simp; try with_reducible rfl)
  simp only [List.getElem_toArray, List.getElem_cons_zero, List.getElem_cons_succ, Act.put, List.setIfInBounds_toArray, List.set_cons_zero, List.set_cons_succ]
  refine wpAnyH_take (i := 7) (v := ?v137) rfl (by kernel_rfl) (by kernel_rfl) (by kernel_rfl) (fun _ _ _ h => h) (Or.inl ⟨by rfl, ?y137⟩) hHeld ?r137
  case y137 => (intro w hSw; obtain ⟨⟨q0, q1⟩, q2, q3, q4, q5, q6⟩ := hSw; (try simp only [Nat.zero_mul, Nat.add_zero] at q2 q3 q4 q5 q6); go_simp; try with_reducible rfl)
  simp only [List.getElem_toArray, List.getElem_cons_zero, List.getElem_cons_succ, Act.put, List.setIfInBounds_toArray, List.set_cons_zero, List.set_cons_succ]
  refine wpAnyH_take (i := 8) (v := ?v138) rfl (by kernel_rfl) (by kernel_rfl) (by kernel_rfl) (fun _ _ _ h => h) (Or.inl ⟨by rfl, ?y138⟩) hHeld ?r138
  case y138 => (intro w hSw; obtain ⟨⟨q0, q1⟩, q2, q3, q4, q5, q6⟩ := hSw; (try simp only [Nat.zero_mul, Nat.add_zero] at q2 q3 q4 q5 q6); go_simp; try with_reducible rfl)
  simp only [List.getElem_toArray, List.getElem_cons_zero, List.getElem_cons_succ, Act.put, List.setIfInBounds_toArray, List.set_cons_zero, List.set_cons_succ]
  refine wpAnyH_take (i := 9) (v := ?v139) rfl (by kernel_rfl) (by kernel_rfl) (by kernel_rfl) (fun _ _ _ h => h) (Or.inl ⟨by rfl, ?y139⟩) hHeld ?r139
  case y139 => (intro w hSw; obtain ⟨⟨q0, q1⟩, q2, q3, q4, q5, q6⟩ := hSw; (try simp only [Nat.zero_mul, Nat.add_zero] at q2 q3 q4 q5 q6); go_simp; try with_reducible rfl)
  simp only [List.getElem_toArray, List.getElem_cons_zero, List.getElem_cons_succ, Act.put, List.setIfInBounds_toArray, List.set_cons_zero, List.set_cons_succ]
  refine wpAnyH_ready (rs := [10]) (by kernel_rfl) (by simp) (AllReadyH.cons rfl (fun K hK => ?_) AllReadyH.nil)
  go_simp
  skip
  refine hK.out _ _ (HQ1.out) (fun hHeld => ?_)
  clear hK K
  refine wpAnyH_ready (rs := [11]) (by kernel_rfl) (by simp) (AllReadyH.cons rfl (fun K hK => ?_) AllReadyH.nil)
  go_simp
  skip
  refine hK.out _ _ (HQ2.out) (fun hHeld => ?_)
  clear hK K
  refine wpAnyH_done (by kernel_rfl) ?_ _
  clear hHeld HQ0 HQ1 HQ2 hM0 hM1c hM2 hM3 hM4 y0 y1 y2 y3 y4 lA lo0 lw0 e0_9
  have R1 := HR1.out
  have hM1 := HM1.out
  clear HR1 HM1
  generalize hv1 : (w.alloc (sb2 S)).drew = v1 at R1 hM1 ⊢
  have lo1 := R1.bk.lt
  have lw1 := R1.row.lt
  have d1 := hM1.cell (i := 1) rfl
  have lm1 := hM1.lt
  have e1_2 := R1.bk.cell (i := 2) (v := .int .i64 (2)) rfl
  have HA := Lib.hid (And.intro R1.drew hM1.drew)
  have hq : RN4 o gg w.heap.size k nn S gl.length vc gen v1.drew := RN4.of R1.drew hM1.drew Hgk.out
  clear R1 hM1 hv1
  go_wp2_with fail
  refine wp_region_held_drew (S := RN4 o gg w.heap.size k nn S gl.length vc gen) (by kernel_rfl) (hq) (fun hHeld => ?_)
  refine wpAnyH_take (i := 0) (v := ?v112) rfl (by kernel_rfl) (by kernel_rfl) (by kernel_rfl) (fun _ _ _ h => h) (Or.inl ⟨by rfl, ?y112⟩) hHeld ?r112
  case y112 => (intro w hSw; obtain ⟨q0, q1, q2, q3, q4⟩ := hSw; have b0 := q0.cell (i := 0) rfl; have b1 := q0.cell (i := 1) rfl; have b2 := q0.cell (i := 2) rfl; have b3 := q0.cell (i := 3) rfl; have b4 := q0.cell (i := 4) rfl; clear q0; go_simp; try with_reducible rfl)
  simp only [List.getElem_toArray, List.getElem_cons_zero, Act.put, List.setIfInBounds_toArray, List.set_cons_zero, List.set_cons_succ]
  refine wpAnyH_take (i := 1) (v := ?v113) rfl (by kernel_rfl) (by kernel_rfl) (by kernel_rfl) (fun _ _ _ h => h) (Or.inl ⟨by rfl, ?y113⟩) hHeld ?r113
  case y113 => (intro w hSw; obtain ⟨q0, q1, q2, q3, q4⟩ := hSw; have b0 := q0.cell (i := 0) rfl; have b1 := q0.cell (i := 1) rfl; have b2 := q0.cell (i := 2) rfl; have b3 := q0.cell (i := 3) rfl; have b4 := q0.cell (i := 4) rfl; clear q0; go_simp; try with_reducible rfl)
  simp only [List.getElem_toArray, List.getElem_cons_zero, List.getElem_cons_succ, Act.put, List.setIfInBounds_toArray, List.set_cons_zero, List.set_cons_succ]
  refine wpAnyH_take (i := 2) (v := ?v114) rfl (by kernel_rfl) (by kernel_rfl) (by kernel_rfl) (fun _ _ _ h => h) (Or.inl ⟨by rfl, ?y114⟩) hHeld ?r114
  case y114 => (intro w hSw; obtain ⟨q0, q1, q2, q3, q4⟩ := hSw; have b0 := q0.cell (i := 0) rfl; have b1 := q0.cell (i := 1) rfl; have b2 := q0.cell (i := 2) rfl; have b3 := q0.cell (i := 3) rfl; have b4 := q0.cell (i := 4) rfl; clear q0; go_simp; try with_reducible rfl)
  simp only [List.getElem_toArray, List.getElem_cons_zero, List.getElem_cons_succ, Act.put, List.setIfInBounds_toArray, List.set_cons_zero, List.set_cons_succ]
  refine wpAnyH_take (i := 3) (v := ?v115) rfl (by kernel_rfl) (by kernel_rfl) (by kernel_rfl) (fun _ _ _ h => h) (Or.inl ⟨by rfl, ?y115⟩) hHeld ?r115
  case y115 => (intro w hSw; obtain ⟨q0, q1, q2, q3, q4⟩ := hSw; have b0 := q0.cell (i := 0) rfl; have b1 := q0.cell (i := 1) rfl; have b2 := q0.cell (i := 2) rfl; have b3 := q0.cell (i := 3) rfl; have b4 := q0.cell (i := 4) rfl; clear q0; go_simp; try with_reducible rfl)
  simp only [List.getElem_toArray, List.getElem_cons_zero, List.getElem_cons_succ, Act.put, List.setIfInBounds_toArray, List.set_cons_zero, List.set_cons_succ]
  refine wpAnyH_take (i := 4) (v := ?v116) rfl (by kernel_rfl) (by kernel_rfl) (by kernel_rfl) (fun _ _ _ h => h) (Or.inl ⟨by rfl, ?y116⟩) hHeld ?r116
  case y116 => (intro w hSw; obtain ⟨q0, q1, q2, q3, q4⟩ := hSw; have b0 := q0.cell (i := 0) rfl; have b1 := q0.cell (i := 1) rfl; have b2 := q0.cell (i := 2) rfl; have b3 := q0.cell (i := 3) rfl; have b4 := q0.cell (i := 4) rfl; clear q0; go_simp; try with_reducible rfl)
  simp only [List.getElem_toArray, List.getElem_cons_zero, List.getElem_cons_succ, Act.put, List.setIfInBounds_toArray, List.set_cons_zero, List.set_cons_succ]
  refine wpAnyH_take (i := 5) (v := ?v117) rfl (by kernel_rfl) (by kernel_rfl) (by kernel_rfl) (fun _ _ _ h => h) (Or.inl ⟨by rfl, ?y117⟩) hHeld ?r117
  case y117 => (intro w hSw; obtain ⟨q0, q1, q2, q3, q4⟩ := hSw; have b0 := q0.cell (i := 0) rfl; have b1 := q0.cell (i := 1) rfl; have b2 := q0.cell (i := 2) rfl; have b3 := q0.cell (i := 3) rfl; have b4 := q0.cell (i := 4) rfl; clear q0; go_simp; try with_reducible rfl)
  simp only [List.getElem_toArray, List.getElem_cons_zero, List.getElem_cons_succ, Act.put, List.setIfInBounds_toArray, List.set_cons_zero, List.set_cons_succ]
  refine wpAnyH_take (i := 6) (v := ?v118) rfl (by kernel_rfl) (by kernel_rfl) (by kernel_rfl) (fun _ _ _ h => h) (Or.inl ⟨by rfl, ?y118⟩) hHeld ?r118
  case y118 => (intro w hSw; obtain ⟨q0, q1, q2, q3, q4⟩ := hSw; have b0 := q0.cell (i := 0) rfl; have b1 := q0.cell (i := 1) rfl; have b2 := q0.cell (i := 2) rfl; have b3 := q0.cell (i := 3) rfl; have b4 := q0.cell (i := 4) rfl; clear q0; go_simp; try with_reducible rfl)
  simp only [List.getElem_toArray, List.getElem_cons_zero, List.getElem_cons_succ, Act.put, List.setIfInBounds_toArray, List.set_cons_zero, List.set_cons_succ]
  refine wpAnyH_take (i := 7) (v := ?v119) rfl (by kernel_rfl) (by kernel_rfl) (by kernel_rfl) (fun _ _ _ h => h) (Or.inl ⟨by rfl, ?y119⟩) hHeld ?r119
  case y119 => (intro w hSw; obtain ⟨q0, q1, q2, q3, q4⟩ := hSw; have b0 := q0.cell (i := 0) rfl; have b1 := q0.cell (i := 1) rfl; have b2 := q0.cell (i := 2) rfl; have b3 := q0.cell (i := 3) rfl; have b4 := q0.cell (i := 4) rfl; clear q0; go_simp; try with_reducible rfl)
  simp only [List.getElem_toArray, List.getElem_cons_zero, List.getElem_cons_succ, Act.put, List.setIfInBounds_toArray, List.set_cons_zero, List.set_cons_succ]
  refine wpAnyH_take (i := 8) (v := ?v120) rfl (by kernel_rfl) (by kernel_rfl) (by kernel_rfl) (fun _ _ _ h => h) (Or.inl ⟨by rfl, ?y120⟩) hHeld ?r120
  case y120 => (intro w hSw; obtain ⟨q0, q1, q2, q3, q4⟩ := hSw; have b0 := q0.cell (i := 0) rfl; have b1 := q0.cell (i := 1) rfl; have b2 := q0.cell (i := 2) rfl; have b3 := q0.cell (i := 3) rfl; have b4 := q0.cell (i := 4) rfl; clear q0; go_simp; try with_reducible rfl)
  simp only [List.getElem_toArray, List.getElem_cons_zero, List.getElem_cons_succ, Act.put, List.setIfInBounds_toArray, List.set_cons_zero, List.set_cons_succ]
  refine wpAnyH_take (i := 9) (v := ?v121) rfl (by kernel_rfl) (by kernel_rfl) (by kernel_rfl) (fun _ _ _ h => h) (Or.inl ⟨by rfl, ?y121⟩) hHeld ?r121
  case y121 => (intro w hSw; obtain ⟨q0, q1, q2, q3, q4⟩ := hSw; have b0 := q0.cell (i := 0) rfl; have b1 := q0.cell (i := 1) rfl; have b2 := q0.cell (i := 2) rfl; have b3 := q0.cell (i := 3) rfl; have b4 := q0.cell (i := 4) rfl; clear q0; go_simp; try with_reducible rfl)
  simp only [List.getElem_toArray, List.getElem_cons_zero, List.getElem_cons_succ, Act.put, List.setIfInBounds_toArray, List.set_cons_zero, List.set_cons_succ]
  refine wpAnyH_take (i := 10) (v := ?v122) rfl (by kernel_rfl) (by kernel_rfl) (by kernel_rfl) (fun _ _ _ h => h) (Or.inl ⟨by rfl, ?y122⟩) hHeld ?r122
  case y122 => (intro w hSw; obtain ⟨q0, q1, q2, q3, q4⟩ := hSw; have b0 := q0.cell (i := 0) rfl; have b1 := q0.cell (i := 1) rfl; have b2 := q0.cell (i := 2) rfl; have b3 := q0.cell (i := 3) rfl; have b4 := q0.cell (i := 4) rfl; clear q0; go_simp; try with_reducible rfl)
  simp only [List.getElem_toArray, List.getElem_cons_zero, List.getElem_cons_succ, Act.put, List.setIfInBounds_toArray, List.set_cons_zero, List.set_cons_succ]
  refine wpAnyH_take (i := 12) (v := ?v123) rfl (by kernel_rfl) (by kernel_rfl) (by kernel_rfl) (fun _ _ _ h => h) (Or.inl ⟨by rfl, ?y123⟩) hHeld ?r123
  case y123 => (intro w hSw; obtain ⟨q0, q1, q2, q3, q4⟩ := hSw; have b0 := q0.cell (i := 0) rfl; have b1 := q0.cell (i := 1) rfl; have b2 := q0.cell (i := 2) rfl; have b3 := q0.cell (i := 3) rfl; have b4 := q0.cell (i := 4) rfl; clear q0; go_simp; try with_reducible rfl)
  simp only [List.getElem_toArray, List.getElem_cons_zero, List.getElem_cons_succ, Act.put, List.setIfInBounds_toArray, List.set_cons_zero, List.set_cons_succ]
  refine wpAnyH_take (i := 13) (v := ?v124) rfl (by kernel_rfl) (by kernel_rfl) (by kernel_rfl) (fun _ _ _ h => h) (Or.inl ⟨by rfl, ?y124⟩) hHeld ?r124
  case y124 => (intro w hSw; obtain ⟨q0, q1, q2, q3, q4⟩ := hSw; have b0 := q0.cell (i := 0) rfl; have b1 := q0.cell (i := 1) rfl; have b2 := q0.cell (i := 2) rfl; have b3 := q0.cell (i := 3) rfl; have b4 := q0.cell (i := 4) rfl; clear q0; go_simp; try with_reducible rfl)
  simp only [List.getElem_toArray, List.getElem_cons_zero, List.getElem_cons_succ, Act.put, List.setIfInBounds_toArray, List.set_cons_zero, List.set_cons_succ]
  refine wpAnyH_take (i := 14) (v := ?v125) rfl (by kernel_rfl) (by kernel_rfl) (by kernel_rfl) (fun _ _ _ h => h) (Or.inl ⟨by rfl, ?y125⟩) hHeld ?r125
  case y125 => (intro w hSw; obtain ⟨q0, q1, q2, q3, q4⟩ := hSw; have b0 := q0.cell (i := 0) rfl; have b1 := q0.cell (i := 1) rfl; have b2 := q0.cell (i := 2) rfl; have b3 := q0.cell (i := 3) rfl; have b4 := q0.cell (i := 4) rfl; clear q0; go_simp; try with_reducible rfl)
  simp only [List.getElem_toArray, List.getElem_cons_zero, List.getElem_cons_succ, Act.put, List.setIfInBounds_toArray, List.set_cons_zero, List.set_cons_succ]
  refine wpAnyH_take (i := 15) (v := ?v126) rfl (by kernel_rfl) (by kernel_rfl) (by kernel_rfl) (fun _ _ _ h => h) (Or.inl ⟨by rfl, ?y126⟩) hHeld ?r126
  case y126 => (intro w hSw; obtain ⟨q0, q1, q2, q3, q4⟩ := hSw; have b0 := q0.cell (i := 0) rfl; have b1 := q0.cell (i := 1) rfl; have b2 := q0.cell (i := 2) rfl; have b3 := q0.cell (i := 3) rfl; have b4 := q0.cell (i := 4) rfl; clear q0; go_simp; try with_reducible rfl)
  simp only [List.getElem_toArray, List.getElem_cons_zero, List.getElem_cons_succ, Act.put, List.setIfInBounds_toArray, List.set_cons_zero, List.set_cons_succ]
  refine wpAnyH_ready (rs := [11]) (by kernel_rfl) (by simp) (AllReadyH.cons rfl (fun K hK => ?_) AllReadyH.nil)
  go_simp
  refine (Hat.out _).mono ?_
  rintro e v3 ⟨rfl, hb3⟩
  have R3 := HA.out.1.low hb3
  have hM3 := HA.out.2.low hb3
  have hq3 : RN4 o gg w.heap.size k nn S gl.length vc gen v3 := RN4.of R3 hM3 Hgk.out
  have HB3 := Lib.hid (And.intro R3 hM3)
  clear hb3 R3 hM3
  go_wp2_with fail
  refine hK.out _ _ (hq3) (fun hHeld => ?_)
  clear hK K
  refine wpAnyH_take (i := 16) (v := (.int .i64 (i : Int))) rfl (by kernel_rfl) (by kernel_rfl) (by kernel_rfl) (fun _ _ _ h => h) (Or.inl ⟨by rfl, ?y128⟩) hHeld ?r128
  case y128 => (intro w hSw; obtain ⟨q0, q1, q2, q3, q4⟩ := hSw; have b0 := q0.cell (i := 0) rfl; have b1 := q0.cell (i := 1) rfl; have b2 := q0.cell (i := 2) rfl; have b3 := q0.cell (i := 3) rfl; have b4 := q0.cell (i := 4) rfl; clear q0; go_simp; try with_reducible rfl)
  simp only [List.getElem_toArray, List.getElem_cons_zero, List.getElem_cons_succ, Act.put, List.setIfInBounds_toArray, List.set_cons_zero, List.set_cons_succ]
  refine wpAnyH_take (i := 17) (v := (.int .i64 (i : Int))) rfl (by kernel_rfl) (by kernel_rfl) (by kernel_rfl) (fun _ _ _ h => h) (Or.inl ⟨by rfl, ?y129⟩) hHeld ?r129
  case y129 => (intro w hSw; obtain ⟨q0, q1, q2, q3, q4⟩ := hSw; have b0 := q0.cell (i := 0) rfl; have b1 := q0.cell (i := 1) rfl; have b2 := q0.cell (i := 2) rfl; have b3 := q0.cell (i := 3) rfl; have b4 := q0.cell (i := 4) rfl; clear q0; go_simp; try with_reducible rfl)
  simp only [List.getElem_toArray, List.getElem_cons_zero, List.getElem_cons_succ, Act.put, List.setIfInBounds_toArray, List.set_cons_zero, List.set_cons_succ]
  refine wpAnyH_done (by kernel_rfl) ?_ _
  clear hHeld hq hq3 Hat HA hJ hwA d1 lm1 lo1 lw1 e1_2
  obtain ⟨R3, hM3⟩ := HB3.out
  clear HB3
  have lo3 := R3.bk.lt
  have lw3 := R3.row.lt
  have e3_10 := R3.bk.cell (i := 10) (v := .int .i64 (p)) rfl
  have z3_10 := R3.bk.frozen 10
  have R4 := (R3.put 10 (.int .i64 ((p + 1)))).to (C' := (rc (.slice (some ⟨b, off, none⟩) ln cp) (.slice (some ⟨gg, 0, none⟩) gl.length vc) (.slice ua wl.length uc) tr 2 k nn (tr - left) bn 0 (p + 1))) rfl
  have hM4 := hM3.setFar (p := ⟨o, 10, none⟩) hom (.int .i64 ((p + 1)))
  generalize hv4 : v3.setCell ⟨o, 10, none⟩ (.int .i64 ((p + 1))) = v4 at R4 hM4
  have lo4 := R4.bk.lt
  have lw4 := R4.row.lt
  have HRq := Lib.hid (fun q => And.intro (R4.drewN q) (blkN hM4 q))
  have e4_0 := R4.bk.cell (i := 0) (v := .slice (some ⟨b, off, none⟩) ln cp) rfl
  have e4_3 := R4.bk.cell (i := 3) (v := .int .i64 (k)) rfl
  clear R3 R4 hM3 hM4
  go_wp2_with fail
  go_quiet (fail)
  obtain ⟨R5, hM5⟩ := HRq.out nq
  clear HRq hv4 lo3 lw3 lo4 lw4 e3_10 z3_10 e4_0 e4_3
  generalize v4.drewN nq = v5 at R5 hM5 ⊢
  have lo5 := R5.bk.lt
  have lw5 := R5.row.lt
  have e5_2 := R5.bk.cell (i := 2) (v := .int .i64 (2)) rfl
  obtain ⟨hwll, hmu⟩ := Hwl.out
  have hbl2 : b < v5.drew.heap.size := by have := R5.up.size; have e2 : v5.drew.heap.size = v5.heap.size := rfl; omega
  obtain ⟨a5, c5, Wp, hr5, Rp, hfp⟩ := R5.drew.appU hwll hbl2 v
  have Hap := Lib.hid hr5
  have hMp := hM5.drew.of_block (hfp _ hM5.drew.lt hmu)
  have hqv : RW wb i v v5.drew := R5.drew.row.cell Hv1.out
  have lod := R5.drew.bk.lt
  have lwd := R5.drew.row.lt
  have RA := R5.drew.alloc (.cells #[.int .u64 v] 42)
  have RB := R5.alloc (.cells #[.int .u64 v] 42)
  have hqA : RW wb i v (v5.drew.alloc (.cells #[.int .u64 v] 42)) := RA.row.cell Hv1.out
  have f0 := R5.bk.cell (i := 7) rfl
  have f1 := R5.drew.bk.cell (i := 7) rfl
  have f2 := RA.bk.cell (i := 7) rfl
  have f3 := RB.bk.cell (i := 7) rfl
  have hq5 : RW wb i v Wp := Rp.row.cell Hv1.out
  have f5 := Rp.bk.cell (i := 7) rfl
  have z5 := Rp.bk.frozen 7
  have lop := Rp.bk.lt
  have R6 := (Rp.put 7 (.slice a5 (wl.length + 1) c5)).to (C' := (rc (.slice (some ⟨b, off, none⟩) ln cp) (.slice (some ⟨gg, 0, none⟩) gl.length vc) (.slice a5 (wl.length + 1) c5) tr 2 k nn (tr - left) bn 0 (p + 1))) rfl
  have hM6 := hMp.setFar (p := ⟨o, 7, none⟩) hom ((.slice a5 (wl.length + 1) c5))
  generalize hw6 : Wp.setCell ⟨o, 7, none⟩ (.slice a5 (wl.length + 1) c5) = v6 at R6 hM6
  have hq6 : RW wb i v v6 := R6.row.cell Hv1.out
  have HR6 := Lib.hid (And.intro R6 hM6)
  clear R5 hM5 Rp RA RB R6 hM6 hMp hr5 hbl2 hfp hmu
  go_wp2_with fail
  refine wp_region_held_drew (S := RW wb i v) (by kernel_rfl) (hqv) (fun hHeld => ?_)
  refine wpAnyH_take (i := 0) (v := ?v95) rfl (by kernel_rfl) (by kernel_rfl) (by kernel_rfl) (fun _ _ _ h => h) (Or.inl ⟨by rfl, ?y95⟩) hHeld ?r95
  case y95 => (intro w hSw; have q0 := hSw; unfold RW at q0; go_simp; try with_reducible rfl)
  simp only [List.getElem_toArray, List.getElem_cons_zero, Act.put, List.setIfInBounds_toArray, List.set_cons_zero, List.set_cons_succ]
  refine wpAnyH_take (i := 1) (v := ?v96) rfl (by kernel_rfl) (by kernel_rfl) (by kernel_rfl) (fun _ _ _ h => h) (Or.inl ⟨by rfl, ?y96⟩) hHeld ?r96
  case y96 => (intro w hSw; have q0 := hSw; unfold RW at q0; go_simp; try with_reducible rfl)
  simp only [List.getElem_toArray, List.getElem_cons_zero, List.getElem_cons_succ, Act.put, List.setIfInBounds_toArray, List.set_cons_zero, List.set_cons_succ]
  refine wpAnyH_take (i := 2) (v := ?v97) rfl (by kernel_rfl) (by kernel_rfl) (by kernel_rfl) (fun _ _ _ h => h) (Or.inl ⟨by rfl, ?y97⟩) hHeld ?r97
  case y97 => (intro w hSw; have q0 := hSw; unfold RW at q0; go_simp; try with_reducible rfl)
  simp only [List.getElem_toArray, List.getElem_cons_zero, List.getElem_cons_succ, Act.put, List.setIfInBounds_toArray, List.set_cons_zero, List.set_cons_succ]
  refine wpAnyH_take (i := 3) (v := ?v98) rfl (by kernel_rfl) (by kernel_rfl) (by kernel_rfl) (fun _ _ _ h => h) (Or.inl ⟨by rfl, ?y98⟩) hHeld ?r98
  case y98 => (intro w hSw; have q0 := hSw; unfold RW at q0; go_simp; try with_reducible rfl)
  simp only [List.getElem_toArray, List.getElem_cons_zero, List.getElem_cons_succ, Act.put, List.setIfInBounds_toArray, List.set_cons_zero, List.set_cons_succ]
  refine wpAnyH_take (i := 5) (v := ?v99) rfl (by kernel_rfl) (by kernel_rfl) (by kernel_rfl) (fun _ _ _ h => h) (Or.inl ⟨by rfl, ?y99⟩) hHeld ?r99
  case y99 => (intro w hSw; have q0 := hSw; unfold RW at q0; go_simp; try with_reducible rfl)
  simp only [List.getElem_toArray, List.getElem_cons_zero, List.getElem_cons_succ, Act.put, List.setIfInBounds_toArray, List.set_cons_zero, List.set_cons_succ]
  refine wpAnyH_take (i := 6) (v := ?v100) rfl (by kernel_rfl) (by kernel_rfl) (by kernel_rfl) (fun _ _ _ h => h) (Or.inl ⟨by rfl, ?y100⟩) hHeld ?r100
  case y100 => (intro w hSw; have q0 := hSw; unfold RW at q0; go_simp; try with_reducible rfl)
  simp only [List.getElem_toArray, List.getElem_cons_zero, List.getElem_cons_succ, Act.put, List.setIfInBounds_toArray, List.set_cons_zero, List.set_cons_succ]
  refine wpAnyH_take (i := 7) (v := ?v101) rfl (by kernel_rfl) (by kernel_rfl) (by kernel_rfl) (fun _ _ _ h => h) (Or.inl ⟨by rfl, ?y101⟩) hHeld ?r101
  case y101 => (intro w hSw; have q0 := hSw; unfold RW at q0; go_simp; try with_reducible rfl)
  simp only [List.getElem_toArray, List.getElem_cons_zero, List.getElem_cons_succ, Act.put, List.setIfInBounds_toArray, List.set_cons_zero, List.set_cons_succ]
  refine wpAnyH_take (i := 8) (v := ?v102) rfl (by kernel_rfl) (by kernel_rfl) (by kernel_rfl) (fun _ _ _ h => h) (Or.inl ⟨by rfl, ?y102⟩) hHeld ?r102
  case y102 => (intro w hSw; have q0 := hSw; unfold RW at q0; go_simp; try with_reducible rfl)
  simp only [List.getElem_toArray, List.getElem_cons_zero, List.getElem_cons_succ, Act.put, List.setIfInBounds_toArray, List.set_cons_zero, List.set_cons_succ]
  refine wpAnyH_ready (rs := [4, 9]) (by kernel_rfl) (by simp) (AllReadyH.cons rfl (fun K hK => ?_) (AllReadyH.cons rfl (fun K hK => ?_) AllReadyH.nil))
  · go_simp
    refine hK.out _ _ (hqv) (fun hHeld => ?_)
    clear hK K
    refine wpAnyH_ready (rs := [9]) (by kernel_rfl) (by simp) (AllReadyH.cons rfl (fun K hK => ?_) AllReadyH.nil)
    go_simp
    refine hK.out _ _ (hqA) (fun hHeld => ?_)
    clear hK K
    refine wpAnyH_ready (rs := [10]) (by kernel_rfl) (by simp) (AllReadyH.cons rfl (fun K hK => ?_) AllReadyH.nil)
    refine wp_append_run _ (.tmp 136) (.tmp 141) 41 41 rfl _ _ rfl rfl Hap.out ?_
    refine hK.out _ _ (hq5) (fun hHeld => ?_)
    clear hK K
    refine wpAnyH_take (i := 11) (v := ?v105) rfl (by kernel_rfl) (by kernel_rfl) (by kernel_rfl) (fun _ _ _ h => h) (Or.inl ⟨by rfl, ?y105⟩) hHeld ?r105
    case y105 => (intro w hSw; have q0 := hSw; unfold RW at q0; go_simp; try with_reducible rfl)
    simp only [List.getElem_toArray, List.getElem_cons_zero, List.getElem_cons_succ, Act.put, List.setIfInBounds_toArray, List.set_cons_zero, List.set_cons_succ]
    refine wpAnyH_take (i := 12) (v := ?v106) rfl (by kernel_rfl) (by kernel_rfl) (by kernel_rfl) (fun _ _ _ h => h) (Or.inl ⟨by rfl, ?y106⟩) hHeld ?r106
    case y106 => (intro w hSw; have q0 := hSw; unfold RW at q0; go_simp; try with_reducible rfl)
    simp only [List.getElem_toArray, List.getElem_cons_zero, List.getElem_cons_succ, Act.put, List.setIfInBounds_toArray, List.set_cons_zero, List.set_cons_succ]
    refine wpAnyH_ready (rs := [13]) (by kernel_rfl) (by simp) (AllReadyH.cons rfl (fun K hK => ?_) AllReadyH.nil)
    go_simp
    go_wp2_with fail
    refine hK.out _ _ (hq6) (fun hHeld => ?_)
    clear hK K
    refine wpAnyH_done (by kernel_rfl) ?_ _
    clear hHeld hqv hqA hq5 hq6 Hap z5 lop lod lwd f0 f1 f2 f3 f5 hw6 hwll
    obtain ⟨R6, hM6⟩ := HR6.out
    clear HR6
    have lo6 := R6.bk.lt
    have lw6 := R6.row.lt
    have e6_4 := R6.bk.cell (i := 4) (v := .int .i64 (nn)) rfl
    have z6_4 := R6.bk.frozen 4
    have R7 := (R6.put 4 (.int .i64 ((nn + 1)))).to (C' := (rc (.slice (some ⟨b, off, none⟩) ln cp) (.slice (some ⟨gg, 0, none⟩) gl.length vc) (.slice a5 (wl.length + 1) c5) tr 2 k (nn + 1) (tr - left) bn 0 (p + 1))) rfl
    have hM7 := hM6.setFar (p := ⟨o, 4, none⟩) hom (.int .i64 ((nn + 1)))
    generalize hv7 : v6.setCell ⟨o, 4, none⟩ (.int .i64 ((nn + 1))) = v7 at R7 hM7
    have lo7 := R7.bk.lt
    have lw7 := R7.row.lt
    have e7_4 := R7.bk.cell (i := 4) (v := .int .i64 ((nn + 1))) rfl
    have HRq := Lib.hid (fun q => And.intro (R7.drewN q) (blkN hM7 q))
    have d3 := hM7.cell (i := 3) rfl
    have lm7 := hM7.lt
    clear R6 R7 hM6 hM7
    go_wp2_with fail
    go_quiet (fail)
    obtain ⟨R8, hM8⟩ := HRq.out nq
    clear HRq hv7 lo6 lw6 lo7 lw7 e6_4 z6_4 e7_4 d3 lm7
    generalize v7.drewN nq = v8 at R8 hM8 ⊢
    have lo8 := R8.bk.lt
    have lw8 := R8.row.lt
    have e8_4 := R8.bk.cell (i := 4) (v := .int .i64 ((nn + 1))) rfl
    have z8_4 := R8.bk.frozen 4
    have R9 := (R8.put 4 (.int .i64 (0))).to (C' := (rc (.slice (some ⟨b, off, none⟩) ln cp) (.slice (some ⟨gg, 0, none⟩) gl.length vc) (.slice a5 (wl.length + 1) c5) tr 2 k 0 (tr - left) bn 0 (p + 1))) rfl
    have hM9 := hM8.setFar (p := ⟨o, 4, none⟩) hom (.int .i64 (0))
    generalize hv9 : v8.setCell ⟨o, 4, none⟩ (.int .i64 (0)) = v9 at R9 hM9
    have lo9 := R9.bk.lt
    have lw9 := R9.row.lt
    have e9_3 := R9.bk.cell (i := 3) (v := .int .i64 (k)) rfl
    have z9_3 := R9.bk.frozen 3
    have R10 := (R9.put 3 (.int .i64 ((k + 1)))).to (C' := (rc (.slice (some ⟨b, off, none⟩) ln cp) (.slice (some ⟨gg, 0, none⟩) gl.length vc) (.slice a5 (wl.length + 1) c5) tr 2 (k + 1) 0 (tr - left) bn 0 (p + 1))) rfl
    have hM10 := hM9.setFar (p := ⟨o, 3, none⟩) hom (.int .i64 ((k + 1)))
    generalize hv10 : v9.setCell ⟨o, 3, none⟩ (.int .i64 ((k + 1))) = v10 at R10 hM10
    have lo10 := R10.bk.lt
    have lw10 := R10.row.lt
    have e10_2 := R10.bk.cell (i := 2) (v := .int .i64 (2)) rfl
    have z10_2 := R10.bk.frozen 2
    have R11 := (R10.put 2 (.int .i64 (3))).to (C' := (rc (.slice (some ⟨b, off, none⟩) ln cp) (.slice (some ⟨gg, 0, none⟩) gl.length vc) (.slice a5 (wl.length + 1) c5) tr 3 (k + 1) 0 (tr - left) bn 0 (p + 1))) rfl
    have hM11 := hM10.setFar (p := ⟨o, 2, none⟩) hom (.int .i64 (3))
    generalize hv11 : v10.setCell ⟨o, 2, none⟩ (.int .i64 (3)) = v11 at R11 hM11
    have lo11 := R11.bk.lt
    have lw11 := R11.row.lt
    have e11_3 := R11.bk.cell (i := 3) (v := .int .i64 ((k + 1))) rfl
    have z11_3 := R11.bk.frozen 3
    have R12 := (R11.put 3 (.int .i64 (0))).to (C' := (rc (.slice (some ⟨b, off, none⟩) ln cp) (.slice (some ⟨gg, 0, none⟩) gl.length vc) (.slice a5 (wl.length + 1) c5) tr 3 0 0 (tr - left) bn 0 (p + 1))) rfl
    have hM12 := hM11.setFar (p := ⟨o, 3, none⟩) hom (.int .i64 (0))
    generalize hv12 : v11.setCell ⟨o, 3, none⟩ (.int .i64 (0)) = v12 at R12 hM12
    have HR12 := Lib.hid R12
    clear R8 hM8 R9 hM9 R10 hM10 R11 hM11 R12 hM12
    go_wp2
    go_end0
    exact (HR12.out.to (show _ = rfc (.slice (some ⟨b, off, none⟩) ln cp) (.slice (some ⟨gg, 0, none⟩) gl.length vc) (.slice a5 (wl.length + 1) c5) tr ⟨0, 2, 0, 0, left, (p + 1), bn, (tl ++ [v])⟩ from by simp [rfc, rc]; try omega)).post Hlen.out (fun _ => rows1 HtlL.out Hgw.out)
  · go_simp
    refine hK.out _ _ (hqA) (fun hHeld => ?_)
    clear hK K
    refine wpAnyH_ready (rs := [4]) (by kernel_rfl) (by simp) (AllReadyH.cons rfl (fun K hK => ?_) AllReadyH.nil)
    go_simp
    refine hK.out _ _ (hqA) (fun hHeld => ?_)
    clear hK K
    refine wpAnyH_ready (rs := [10]) (by kernel_rfl) (by simp) (AllReadyH.cons rfl (fun K hK => ?_) AllReadyH.nil)
    refine wp_append_run _ (.tmp 136) (.tmp 141) 41 41 rfl _ _ rfl rfl Hap.out ?_
    refine hK.out _ _ (hq5) (fun hHeld => ?_)
    clear hK K
    refine wpAnyH_take (i := 11) (v := ?v109) rfl (by kernel_rfl) (by kernel_rfl) (by kernel_rfl) (fun _ _ _ h => h) (Or.inl ⟨by rfl, ?y109⟩) hHeld ?r109
    case y109 => (intro w hSw; have q0 := hSw; unfold RW at q0; go_simp; try with_reducible rfl)
    simp only [List.getElem_toArray, List.getElem_cons_zero, List.getElem_cons_succ, Act.put, List.setIfInBounds_toArray, List.set_cons_zero, List.set_cons_succ]
    refine wpAnyH_take (i := 12) (v := ?v110) rfl (by kernel_rfl) (by kernel_rfl) (by kernel_rfl) (fun _ _ _ h => h) (Or.inl ⟨by rfl, ?y110⟩) hHeld ?r110
    case y110 => (intro w hSw; have q0 := hSw; unfold RW at q0; go_simp; try with_reducible rfl)
    simp only [List.getElem_toArray, List.getElem_cons_zero, List.getElem_cons_succ, Act.put, List.setIfInBounds_toArray, List.set_cons_zero, List.set_cons_succ]
    refine wpAnyH_ready (rs := [13]) (by kernel_rfl) (by simp) (AllReadyH.cons rfl (fun K hK => ?_) AllReadyH.nil)
    go_simp
    go_wp2_with fail
    refine hK.out _ _ (hq6) (fun hHeld => ?_)
    clear hK K
    refine wpAnyH_done (by kernel_rfl) ?_ _
    clear hHeld hqv hqA hq5 hq6 Hap z5 lop lod lwd f0 f1 f2 f3 f5 hw6 hwll
    obtain ⟨R6, hM6⟩ := HR6.out
    clear HR6
    have lo6 := R6.bk.lt
    have lw6 := R6.row.lt
    have e6_4 := R6.bk.cell (i := 4) (v := .int .i64 (nn)) rfl
    have z6_4 := R6.bk.frozen 4
    have R7 := (R6.put 4 (.int .i64 ((nn + 1)))).to (C' := (rc (.slice (some ⟨b, off, none⟩) ln cp) (.slice (some ⟨gg, 0, none⟩) gl.length vc) (.slice a5 (wl.length + 1) c5) tr 2 k (nn + 1) (tr - left) bn 0 (p + 1))) rfl
    have hM7 := hM6.setFar (p := ⟨o, 4, none⟩) hom (.int .i64 ((nn + 1)))
    generalize hv7 : v6.setCell ⟨o, 4, none⟩ (.int .i64 ((nn + 1))) = v7 at R7 hM7
    have lo7 := R7.bk.lt
    have lw7 := R7.row.lt
    have e7_4 := R7.bk.cell (i := 4) (v := .int .i64 ((nn + 1))) rfl
    have HRq := Lib.hid (fun q => And.intro (R7.drewN q) (blkN hM7 q))
    have d3 := hM7.cell (i := 3) rfl
    have lm7 := hM7.lt
    clear R6 R7 hM6 hM7
    go_wp2_with fail
    go_quiet (fail)
    obtain ⟨R8, hM8⟩ := HRq.out nq
    clear HRq hv7 lo6 lw6 lo7 lw7 e6_4 z6_4 e7_4 d3 lm7
    generalize v7.drewN nq = v8 at R8 hM8 ⊢
    have lo8 := R8.bk.lt
    have lw8 := R8.row.lt
    have e8_4 := R8.bk.cell (i := 4) (v := .int .i64 ((nn + 1))) rfl
    have z8_4 := R8.bk.frozen 4
    have R9 := (R8.put 4 (.int .i64 (0))).to (C' := (rc (.slice (some ⟨b, off, none⟩) ln cp) (.slice (some ⟨gg, 0, none⟩) gl.length vc) (.slice a5 (wl.length + 1) c5) tr 2 k 0 (tr - left) bn 0 (p + 1))) rfl
    have hM9 := hM8.setFar (p := ⟨o, 4, none⟩) hom (.int .i64 (0))
    generalize hv9 : v8.setCell ⟨o, 4, none⟩ (.int .i64 (0)) = v9 at R9 hM9
    have lo9 := R9.bk.lt
    have lw9 := R9.row.lt
    have e9_3 := R9.bk.cell (i := 3) (v := .int .i64 (k)) rfl
    have z9_3 := R9.bk.frozen 3
    have R10 := (R9.put 3 (.int .i64 ((k + 1)))).to (C' := (rc (.slice (some ⟨b, off, none⟩) ln cp) (.slice (some ⟨gg, 0, none⟩) gl.length vc) (.slice a5 (wl.length + 1) c5) tr 2 (k + 1) 0 (tr - left) bn 0 (p + 1))) rfl
    have hM10 := hM9.setFar (p := ⟨o, 3, none⟩) hom (.int .i64 ((k + 1)))
    generalize hv10 : v9.setCell ⟨o, 3, none⟩ (.int .i64 ((k + 1))) = v10 at R10 hM10
    have lo10 := R10.bk.lt
    have lw10 := R10.row.lt
    have e10_2 := R10.bk.cell (i := 2) (v := .int .i64 (2)) rfl
    have z10_2 := R10.bk.frozen 2
    have R11 := (R10.put 2 (.int .i64 (3))).to (C' := (rc (.slice (some ⟨b, off, none⟩) ln cp) (.slice (some ⟨gg, 0, none⟩) gl.length vc) (.slice a5 (wl.length + 1) c5) tr 3 (k + 1) 0 (tr - left) bn 0 (p + 1))) rfl
    have hM11 := hM10.setFar (p := ⟨o, 2, none⟩) hom (.int .i64 (3))
    generalize hv11 : v10.setCell ⟨o, 2, none⟩ (.int .i64 (3)) = v11 at R11 hM11
    have lo11 := R11.bk.lt
    have lw11 := R11.row.lt
    have e11_3 := R11.bk.cell (i := 3) (v := .int .i64 ((k + 1))) rfl
    have z11_3 := R11.bk.frozen 3
    have R12 := (R11.put 3 (.int .i64 (0))).to (C' := (rc (.slice (some ⟨b, off, none⟩) ln cp) (.slice (some ⟨gg, 0, none⟩) gl.length vc) (.slice a5 (wl.length + 1) c5) tr 3 0 0 (tr - left) bn 0 (p + 1))) rfl
    have hM12 := hM11.setFar (p := ⟨o, 3, none⟩) hom (.int .i64 (0))
    generalize hv12 : v11.setCell ⟨o, 3, none⟩ (.int .i64 (0)) = v12 at R12 hM12
    have HR12 := Lib.hid R12
    clear R8 hM8 R9 hM9 R10 hM10 R11 hM11 R12 hM12
    go_wp2
    go_end0
    exact (HR12.out.to (show _ = rfc (.slice (some ⟨b, off, none⟩) ln cp) (.slice (some ⟨gg, 0, none⟩) gl.length vc) (.slice a5 (wl.length + 1) c5) tr ⟨0, 2, 0, 0, left, (p + 1), bn, (tl ++ [v])⟩ from by simp [rfc, rc]; try omega)).post Hlen.out (fun _ => rows1 HtlL.out Hgw.out)
end
end Go.Proofs.Ytflgggfomhifeaa
