/- The walk of the law QueueLazy. -/
import Derived.Test.YtkkkicinlghikaaLzA
namespace Go.Proofs.Ytkkkicinlghikaa
open Go.RowKit

attribute [local go_sem] eql27 neq27
set_option maxRecDepth 100000 in
set_option maxHeartbeats 2000000 in
theorem lazy_T (n c g l a b : Int) (hab : a ≤ b) (h : Rgt n c) (hl : W64 l) (ha : Gen a) (hb : Gen b) (hq : qd n c b ≠ 0) (w : World) : Calls Try.prog 5 #[cu n c g l, .int .u64 a, .int .u64 b] w (Ret (.bool true) w) := by
  have q0 : same4 0 0 0 0 0 0 0 0 = true := rfl
  have HA := Lib.hid (fun w => see_ok n c g l a h hl ha w)
  have HB := Lib.hid (fun w => see_ok n c g l b h hl hb w)
  have hR1 := rgt_lo h ha
  have hR2 := rgt_lo h hb
  have hab' : a ≤ b := by omega
  have e1 : n + lo n c a + lo (n + lo n c a) c b = n + lo n c b := by rw [Int.add_assoc, lo_lo h hab']
  have e2 : u6 (u6 (l + lo n c a) + lo (n + lo n c a) c b) = u6 (l + lo n c b) := by rw [u6_u6, lo_lo h hab']
  have e3 : n + lo n c b + lo (n + lo n c b) c b = n + lo n c b := by rw [lo_end h, Int.add_zero]
  have e4 : u6 (u6 (l + lo n c b) + lo (n + lo n c b) c b) = u6 (l + lo n c b) := by rw [u6_u6, lo_end h, Int.add_zero]
  have q1 : qd (n + lo n c a) c b = qd n c b := qd_lo h hab'
  have q2 : qd (n + lo n c b) c b = qd n c b := qd_lo h (Int.le_refl b)
  have hC := fun w => see_ok (n + lo n c a) c g (u6 (l + lo n c a)) b hR1 (u6_w64 _) hb w
  simp only [e1, e2] at hC
  have HC := Lib.hid hC
  have K0 := Lib.hid (fun w => count_ok n c g l b h hb w)
  have hK1 := fun w => count_ok (n + lo n c a) c g (u6 (l + lo n c a)) b hR1 hb w
  have hK2 := fun w => count_ok (n + lo n c b) c g (u6 (l + lo n c b)) b hR2 hb w
  simp only [q1] at hK1
  simp only [q2] at hK2
  have K1 := Lib.hid hK1
  have K2 := Lib.hid hK2
  have T0 := Lib.hid (fun w => take_ok n c g l b h hl hb hq w)
  have hT1 := fun w => take_ok (n + lo n c a) c g (u6 (l + lo n c a)) b hR1 (u6_w64 _) hb (by rw [q1]; exact hq) w
  simp only [e1, e2] at hT1
  have T1 := Lib.hid hT1
  have hT2 := fun w => take_ok (n + lo n c b) c g (u6 (l + lo n c b)) b hR2 (u6_w64 _) hb (by rw [q2]; exact hq) w
  simp only [e3, e4] at hT2
  have T2 := Lib.hid hT2
  clear hT1 hT2
  clear hab' hC hK1 hK2 hR1 hR2 e1 e2 e3 e4 q1 q2 h hl ha hb hq
  generalize n + lo n c a = N1 at *
  generalize u6 (l + lo n c a) = L1 at *
  generalize n + lo n c b = N2 at *
  generalize u6 (l + lo n c b) = L2 at *
  generalize qd n c b = q at *
  generalize u6 (g + 1) = G at *
  have q3 : same4 N2 c g L2 N2 c g L2 = true := same4_self _ _ _ _
  have q4 : same4 (N2 + 1) c G L2 (N2 + 1) c G L2 = true := same4_self _ _ _ _
  have H0 := Lib.hid ((Cs.nil w).new n c g l)
  simp only [List.nil_append] at H0
  have a0 := (H0.out.blk 0 rfl).cell (i := 0) rfl
  have a1 := (H0.out.blk 0 rfl).cell (i := 1) rfl
  have a2 := (H0.out.blk 0 rfl).cell (i := 2) rfl
  have a3 := (H0.out.blk 0 rfl).cell (i := 3) rfl
  go_enter Try.func5, Try.ntmps5
  go_wp2_with fail
  refine (HA.out _).mono ?_
  rintro e w1 ⟨rfl, hb⟩
  have H1 := Lib.hid ((H0.out.next hb).new N1 c g L1)
  clear hb H0 a0 a1 a2 a3
  have a0 := (H1.out.blk 0 rfl).cell (i := 0) rfl
  have a1 := (H1.out.blk 0 rfl).cell (i := 1) rfl
  have a2 := (H1.out.blk 0 rfl).cell (i := 2) rfl
  have a3 := (H1.out.blk 0 rfl).cell (i := 3) rfl
  go_wp2_with fail
  refine (HB.out _).mono ?_
  rintro e w2 ⟨rfl, hb⟩
  have H2 := Lib.hid ((H1.out.next hb).new N2 c g L2)
  clear hb H1 a0 a1 a2 a3
  have a0 := (H2.out.blk 1 rfl).cell (i := 0) rfl
  have a1 := (H2.out.blk 1 rfl).cell (i := 1) rfl
  have a2 := (H2.out.blk 1 rfl).cell (i := 2) rfl
  have a3 := (H2.out.blk 1 rfl).cell (i := 3) rfl
  have b0 := (H2.out.blk 2 rfl).cell (i := 0) rfl
  have b1 := (H2.out.blk 2 rfl).cell (i := 1) rfl
  have b2 := (H2.out.blk 2 rfl).cell (i := 2) rfl
  have b3 := (H2.out.blk 2 rfl).cell (i := 3) rfl
  go_wp2_with fail
  refine (HC.out _).mono ?_
  rintro e w3 ⟨rfl, hb⟩
  have H3 := Lib.hid ((H2.out.next hb).new N2 c g L2)
  clear hb H2 a0 a1 a2 a3 b0 b1 b2 b3
  have H3 := Lib.hid (show Cs w [(w.heap.size, n, c, g, l), (w1.heap.size, N1, c, g, L1), (w2.heap.size, N2, c, g, L2), (w3.heap.size, N2, c, g, L2)] _ from H3.out)
  go_wp2_with fail
  refine wp_region_held_drew (S := Cs w [(w.heap.size, n, c, g, l), (w1.heap.size, N1, c, g, L1), (w2.heap.size, N2, c, g, L2), (w3.heap.size, N2, c, g, L2)]) (by kernel_rfl) (H3.out.drew) (fun hHeld => ?_)
  refine wpAnyH_take (i := 0) (v := ?v51) rfl (by kernel_rfl) (by kernel_rfl) (by kernel_rfl) (fun _ _ _ h => h) (Or.inl ⟨by rfl, ?y51⟩) hHeld ?r51
  case y51 => (intro w hSw; have a0 := (Cs.blk hSw 0 rfl).cell (i := 0) rfl; have a1 := (Cs.blk hSw 0 rfl).cell (i := 1) rfl; have a2 := (Cs.blk hSw 0 rfl).cell (i := 2) rfl; have a3 := (Cs.blk hSw 0 rfl).cell (i := 3) rfl; have b0 := (Cs.blk hSw 1 rfl).cell (i := 0) rfl; have b1 := (Cs.blk hSw 1 rfl).cell (i := 1) rfl; have b2 := (Cs.blk hSw 1 rfl).cell (i := 2) rfl; have b3 := (Cs.blk hSw 1 rfl).cell (i := 3) rfl; have d0 := (Cs.blk hSw 2 rfl).cell (i := 0) rfl; have d1 := (Cs.blk hSw 2 rfl).cell (i := 1) rfl; have d2 := (Cs.blk hSw 2 rfl).cell (i := 2) rfl; have d3 := (Cs.blk hSw 2 rfl).cell (i := 3) rfl; have e0 := (Cs.blk hSw 3 rfl).cell (i := 0) rfl; have e1 := (Cs.blk hSw 3 rfl).cell (i := 1) rfl; have e2 := (Cs.blk hSw 3 rfl).cell (i := 2) rfl; have e3 := (Cs.blk hSw 3 rfl).cell (i := 3) rfl; clear hSw; go_simp; try with_reducible rfl)
  simp only [List.getElem_toArray, List.getElem_cons_zero, Act.put, List.setIfInBounds_toArray, List.set_cons_zero, List.set_cons_succ]
  refine wpAnyH_take (i := 1) (v := ?v52) rfl (by kernel_rfl) (by kernel_rfl) (by kernel_rfl) (fun _ _ _ h => h) (Or.inl ⟨by rfl, ?y52⟩) hHeld ?r52
  case y52 => (intro w hSw; have a0 := (Cs.blk hSw 0 rfl).cell (i := 0) rfl; have a1 := (Cs.blk hSw 0 rfl).cell (i := 1) rfl; have a2 := (Cs.blk hSw 0 rfl).cell (i := 2) rfl; have a3 := (Cs.blk hSw 0 rfl).cell (i := 3) rfl; have b0 := (Cs.blk hSw 1 rfl).cell (i := 0) rfl; have b1 := (Cs.blk hSw 1 rfl).cell (i := 1) rfl; have b2 := (Cs.blk hSw 1 rfl).cell (i := 2) rfl; have b3 := (Cs.blk hSw 1 rfl).cell (i := 3) rfl; have d0 := (Cs.blk hSw 2 rfl).cell (i := 0) rfl; have d1 := (Cs.blk hSw 2 rfl).cell (i := 1) rfl; have d2 := (Cs.blk hSw 2 rfl).cell (i := 2) rfl; have d3 := (Cs.blk hSw 2 rfl).cell (i := 3) rfl; have e0 := (Cs.blk hSw 3 rfl).cell (i := 0) rfl; have e1 := (Cs.blk hSw 3 rfl).cell (i := 1) rfl; have e2 := (Cs.blk hSw 3 rfl).cell (i := 2) rfl; have e3 := (Cs.blk hSw 3 rfl).cell (i := 3) rfl; clear hSw; go_simp; try with_reducible rfl)
  simp only [List.getElem_toArray, List.getElem_cons_zero, List.getElem_cons_succ, Act.put, List.setIfInBounds_toArray, List.set_cons_zero, List.set_cons_succ]
  refine wpAnyH_take (i := 2) (v := ?v53) rfl (by kernel_rfl) (by kernel_rfl) (by kernel_rfl) (fun _ _ _ h => h) (Or.inl ⟨by rfl, ?y53⟩) hHeld ?r53
  case y53 => (intro w hSw; have a0 := (Cs.blk hSw 0 rfl).cell (i := 0) rfl; have a1 := (Cs.blk hSw 0 rfl).cell (i := 1) rfl; have a2 := (Cs.blk hSw 0 rfl).cell (i := 2) rfl; have a3 := (Cs.blk hSw 0 rfl).cell (i := 3) rfl; have b0 := (Cs.blk hSw 1 rfl).cell (i := 0) rfl; have b1 := (Cs.blk hSw 1 rfl).cell (i := 1) rfl; have b2 := (Cs.blk hSw 1 rfl).cell (i := 2) rfl; have b3 := (Cs.blk hSw 1 rfl).cell (i := 3) rfl; have d0 := (Cs.blk hSw 2 rfl).cell (i := 0) rfl; have d1 := (Cs.blk hSw 2 rfl).cell (i := 1) rfl; have d2 := (Cs.blk hSw 2 rfl).cell (i := 2) rfl; have d3 := (Cs.blk hSw 2 rfl).cell (i := 3) rfl; have e0 := (Cs.blk hSw 3 rfl).cell (i := 0) rfl; have e1 := (Cs.blk hSw 3 rfl).cell (i := 1) rfl; have e2 := (Cs.blk hSw 3 rfl).cell (i := 2) rfl; have e3 := (Cs.blk hSw 3 rfl).cell (i := 3) rfl; clear hSw; go_simp; try with_reducible rfl)
  simp only [List.getElem_toArray, List.getElem_cons_zero, List.getElem_cons_succ, Act.put, List.setIfInBounds_toArray, List.set_cons_zero, List.set_cons_succ]
  refine wpAnyH_take (i := 3) (v := ?v54) rfl (by kernel_rfl) (by kernel_rfl) (by kernel_rfl) (fun _ _ _ h => h) (Or.inl ⟨by rfl, ?y54⟩) hHeld ?r54
  case y54 => (intro w hSw; have a0 := (Cs.blk hSw 0 rfl).cell (i := 0) rfl; have a1 := (Cs.blk hSw 0 rfl).cell (i := 1) rfl; have a2 := (Cs.blk hSw 0 rfl).cell (i := 2) rfl; have a3 := (Cs.blk hSw 0 rfl).cell (i := 3) rfl; have b0 := (Cs.blk hSw 1 rfl).cell (i := 0) rfl; have b1 := (Cs.blk hSw 1 rfl).cell (i := 1) rfl; have b2 := (Cs.blk hSw 1 rfl).cell (i := 2) rfl; have b3 := (Cs.blk hSw 1 rfl).cell (i := 3) rfl; have d0 := (Cs.blk hSw 2 rfl).cell (i := 0) rfl; have d1 := (Cs.blk hSw 2 rfl).cell (i := 1) rfl; have d2 := (Cs.blk hSw 2 rfl).cell (i := 2) rfl; have d3 := (Cs.blk hSw 2 rfl).cell (i := 3) rfl; have e0 := (Cs.blk hSw 3 rfl).cell (i := 0) rfl; have e1 := (Cs.blk hSw 3 rfl).cell (i := 1) rfl; have e2 := (Cs.blk hSw 3 rfl).cell (i := 2) rfl; have e3 := (Cs.blk hSw 3 rfl).cell (i := 3) rfl; clear hSw; go_simp; try with_reducible rfl)
  simp only [List.getElem_toArray, List.getElem_cons_zero, List.getElem_cons_succ, Act.put, List.setIfInBounds_toArray, List.set_cons_zero, List.set_cons_succ]
  refine wpAnyH_take (i := 4) (v := ?v55) rfl (by kernel_rfl) (by kernel_rfl) (by kernel_rfl) (fun _ _ _ h => h) (Or.inl ⟨by rfl, ?y55⟩) hHeld ?r55
  case y55 => (intro w hSw; have a0 := (Cs.blk hSw 0 rfl).cell (i := 0) rfl; have a1 := (Cs.blk hSw 0 rfl).cell (i := 1) rfl; have a2 := (Cs.blk hSw 0 rfl).cell (i := 2) rfl; have a3 := (Cs.blk hSw 0 rfl).cell (i := 3) rfl; have b0 := (Cs.blk hSw 1 rfl).cell (i := 0) rfl; have b1 := (Cs.blk hSw 1 rfl).cell (i := 1) rfl; have b2 := (Cs.blk hSw 1 rfl).cell (i := 2) rfl; have b3 := (Cs.blk hSw 1 rfl).cell (i := 3) rfl; have d0 := (Cs.blk hSw 2 rfl).cell (i := 0) rfl; have d1 := (Cs.blk hSw 2 rfl).cell (i := 1) rfl; have d2 := (Cs.blk hSw 2 rfl).cell (i := 2) rfl; have d3 := (Cs.blk hSw 2 rfl).cell (i := 3) rfl; have e0 := (Cs.blk hSw 3 rfl).cell (i := 0) rfl; have e1 := (Cs.blk hSw 3 rfl).cell (i := 1) rfl; have e2 := (Cs.blk hSw 3 rfl).cell (i := 2) rfl; have e3 := (Cs.blk hSw 3 rfl).cell (i := 3) rfl; clear hSw; go_simp; try with_reducible rfl)
  simp only [List.getElem_toArray, List.getElem_cons_zero, List.getElem_cons_succ, Act.put, List.setIfInBounds_toArray, List.set_cons_zero, List.set_cons_succ]
  refine wpAnyH_take (i := 5) (v := ?v56) rfl (by kernel_rfl) (by kernel_rfl) (by kernel_rfl) (fun _ _ _ h => h) (Or.inl ⟨by rfl, ?y56⟩) hHeld ?r56
  case y56 => (intro w hSw; have a0 := (Cs.blk hSw 0 rfl).cell (i := 0) rfl; have a1 := (Cs.blk hSw 0 rfl).cell (i := 1) rfl; have a2 := (Cs.blk hSw 0 rfl).cell (i := 2) rfl; have a3 := (Cs.blk hSw 0 rfl).cell (i := 3) rfl; have b0 := (Cs.blk hSw 1 rfl).cell (i := 0) rfl; have b1 := (Cs.blk hSw 1 rfl).cell (i := 1) rfl; have b2 := (Cs.blk hSw 1 rfl).cell (i := 2) rfl; have b3 := (Cs.blk hSw 1 rfl).cell (i := 3) rfl; have d0 := (Cs.blk hSw 2 rfl).cell (i := 0) rfl; have d1 := (Cs.blk hSw 2 rfl).cell (i := 1) rfl; have d2 := (Cs.blk hSw 2 rfl).cell (i := 2) rfl; have d3 := (Cs.blk hSw 2 rfl).cell (i := 3) rfl; have e0 := (Cs.blk hSw 3 rfl).cell (i := 0) rfl; have e1 := (Cs.blk hSw 3 rfl).cell (i := 1) rfl; have e2 := (Cs.blk hSw 3 rfl).cell (i := 2) rfl; have e3 := (Cs.blk hSw 3 rfl).cell (i := 3) rfl; clear hSw; go_simp; try with_reducible rfl)
  simp only [List.getElem_toArray, List.getElem_cons_zero, List.getElem_cons_succ, Act.put, List.setIfInBounds_toArray, List.set_cons_zero, List.set_cons_succ]
  refine wpAnyH_take (i := 6) (v := ?v57) rfl (by kernel_rfl) (by kernel_rfl) (by kernel_rfl) (fun _ _ _ h => h) (Or.inl ⟨by rfl, ?y57⟩) hHeld ?r57
  case y57 => (intro w hSw; have a0 := (Cs.blk hSw 0 rfl).cell (i := 0) rfl; have a1 := (Cs.blk hSw 0 rfl).cell (i := 1) rfl; have a2 := (Cs.blk hSw 0 rfl).cell (i := 2) rfl; have a3 := (Cs.blk hSw 0 rfl).cell (i := 3) rfl; have b0 := (Cs.blk hSw 1 rfl).cell (i := 0) rfl; have b1 := (Cs.blk hSw 1 rfl).cell (i := 1) rfl; have b2 := (Cs.blk hSw 1 rfl).cell (i := 2) rfl; have b3 := (Cs.blk hSw 1 rfl).cell (i := 3) rfl; have d0 := (Cs.blk hSw 2 rfl).cell (i := 0) rfl; have d1 := (Cs.blk hSw 2 rfl).cell (i := 1) rfl; have d2 := (Cs.blk hSw 2 rfl).cell (i := 2) rfl; have d3 := (Cs.blk hSw 2 rfl).cell (i := 3) rfl; have e0 := (Cs.blk hSw 3 rfl).cell (i := 0) rfl; have e1 := (Cs.blk hSw 3 rfl).cell (i := 1) rfl; have e2 := (Cs.blk hSw 3 rfl).cell (i := 2) rfl; have e3 := (Cs.blk hSw 3 rfl).cell (i := 3) rfl; clear hSw; go_simp; try with_reducible rfl)
  simp only [List.getElem_toArray, List.getElem_cons_zero, List.getElem_cons_succ, Act.put, List.setIfInBounds_toArray, List.set_cons_zero, List.set_cons_succ]
  refine wpAnyH_take (i := 7) (v := ?v58) rfl (by kernel_rfl) (by kernel_rfl) (by kernel_rfl) (fun _ _ _ h => h) (Or.inl ⟨by rfl, ?y58⟩) hHeld ?r58
  case y58 => (intro w hSw; have a0 := (Cs.blk hSw 0 rfl).cell (i := 0) rfl; have a1 := (Cs.blk hSw 0 rfl).cell (i := 1) rfl; have a2 := (Cs.blk hSw 0 rfl).cell (i := 2) rfl; have a3 := (Cs.blk hSw 0 rfl).cell (i := 3) rfl; have b0 := (Cs.blk hSw 1 rfl).cell (i := 0) rfl; have b1 := (Cs.blk hSw 1 rfl).cell (i := 1) rfl; have b2 := (Cs.blk hSw 1 rfl).cell (i := 2) rfl; have b3 := (Cs.blk hSw 1 rfl).cell (i := 3) rfl; have d0 := (Cs.blk hSw 2 rfl).cell (i := 0) rfl; have d1 := (Cs.blk hSw 2 rfl).cell (i := 1) rfl; have d2 := (Cs.blk hSw 2 rfl).cell (i := 2) rfl; have d3 := (Cs.blk hSw 2 rfl).cell (i := 3) rfl; have e0 := (Cs.blk hSw 3 rfl).cell (i := 0) rfl; have e1 := (Cs.blk hSw 3 rfl).cell (i := 1) rfl; have e2 := (Cs.blk hSw 3 rfl).cell (i := 2) rfl; have e3 := (Cs.blk hSw 3 rfl).cell (i := 3) rfl; clear hSw; go_simp; try with_reducible rfl)
  simp only [List.getElem_toArray, List.getElem_cons_zero, List.getElem_cons_succ, Act.put, List.setIfInBounds_toArray, List.set_cons_zero, List.set_cons_succ]
  refine wpAnyH_take (i := 8) (v := ?v59) rfl (by kernel_rfl) (by kernel_rfl) (by kernel_rfl) (fun _ _ _ h => h) (Or.inl ⟨by rfl, ?y59⟩) hHeld ?r59
  case y59 => (intro w hSw; have a0 := (Cs.blk hSw 0 rfl).cell (i := 0) rfl; have a1 := (Cs.blk hSw 0 rfl).cell (i := 1) rfl; have a2 := (Cs.blk hSw 0 rfl).cell (i := 2) rfl; have a3 := (Cs.blk hSw 0 rfl).cell (i := 3) rfl; have b0 := (Cs.blk hSw 1 rfl).cell (i := 0) rfl; have b1 := (Cs.blk hSw 1 rfl).cell (i := 1) rfl; have b2 := (Cs.blk hSw 1 rfl).cell (i := 2) rfl; have b3 := (Cs.blk hSw 1 rfl).cell (i := 3) rfl; have d0 := (Cs.blk hSw 2 rfl).cell (i := 0) rfl; have d1 := (Cs.blk hSw 2 rfl).cell (i := 1) rfl; have d2 := (Cs.blk hSw 2 rfl).cell (i := 2) rfl; have d3 := (Cs.blk hSw 2 rfl).cell (i := 3) rfl; have e0 := (Cs.blk hSw 3 rfl).cell (i := 0) rfl; have e1 := (Cs.blk hSw 3 rfl).cell (i := 1) rfl; have e2 := (Cs.blk hSw 3 rfl).cell (i := 2) rfl; have e3 := (Cs.blk hSw 3 rfl).cell (i := 3) rfl; clear hSw; go_simp; try with_reducible rfl)
  simp only [List.getElem_toArray, List.getElem_cons_zero, List.getElem_cons_succ, Act.put, List.setIfInBounds_toArray, List.set_cons_zero, List.set_cons_succ]
  refine wpAnyH_take (i := 9) (v := ?v60) rfl (by kernel_rfl) (by kernel_rfl) (by kernel_rfl) (fun _ _ _ h => h) (Or.inl ⟨by rfl, ?y60⟩) hHeld ?r60
  case y60 => (intro w hSw; have a0 := (Cs.blk hSw 0 rfl).cell (i := 0) rfl; have a1 := (Cs.blk hSw 0 rfl).cell (i := 1) rfl; have a2 := (Cs.blk hSw 0 rfl).cell (i := 2) rfl; have a3 := (Cs.blk hSw 0 rfl).cell (i := 3) rfl; have b0 := (Cs.blk hSw 1 rfl).cell (i := 0) rfl; have b1 := (Cs.blk hSw 1 rfl).cell (i := 1) rfl; have b2 := (Cs.blk hSw 1 rfl).cell (i := 2) rfl; have b3 := (Cs.blk hSw 1 rfl).cell (i := 3) rfl; have d0 := (Cs.blk hSw 2 rfl).cell (i := 0) rfl; have d1 := (Cs.blk hSw 2 rfl).cell (i := 1) rfl; have d2 := (Cs.blk hSw 2 rfl).cell (i := 2) rfl; have d3 := (Cs.blk hSw 2 rfl).cell (i := 3) rfl; have e0 := (Cs.blk hSw 3 rfl).cell (i := 0) rfl; have e1 := (Cs.blk hSw 3 rfl).cell (i := 1) rfl; have e2 := (Cs.blk hSw 3 rfl).cell (i := 2) rfl; have e3 := (Cs.blk hSw 3 rfl).cell (i := 3) rfl; clear hSw; go_simp; try with_reducible rfl)
  simp only [List.getElem_toArray, List.getElem_cons_zero, List.getElem_cons_succ, Act.put, List.setIfInBounds_toArray, List.set_cons_zero, List.set_cons_succ]
  refine wpAnyH_take (i := 11) (v := ?v61) rfl (by kernel_rfl) (by kernel_rfl) (by kernel_rfl) (fun _ _ _ h => h) (Or.inl ⟨by rfl, ?y61⟩) hHeld ?r61
  case y61 => (intro w hSw; have a0 := (Cs.blk hSw 0 rfl).cell (i := 0) rfl; have a1 := (Cs.blk hSw 0 rfl).cell (i := 1) rfl; have a2 := (Cs.blk hSw 0 rfl).cell (i := 2) rfl; have a3 := (Cs.blk hSw 0 rfl).cell (i := 3) rfl; have b0 := (Cs.blk hSw 1 rfl).cell (i := 0) rfl; have b1 := (Cs.blk hSw 1 rfl).cell (i := 1) rfl; have b2 := (Cs.blk hSw 1 rfl).cell (i := 2) rfl; have b3 := (Cs.blk hSw 1 rfl).cell (i := 3) rfl; have d0 := (Cs.blk hSw 2 rfl).cell (i := 0) rfl; have d1 := (Cs.blk hSw 2 rfl).cell (i := 1) rfl; have d2 := (Cs.blk hSw 2 rfl).cell (i := 2) rfl; have d3 := (Cs.blk hSw 2 rfl).cell (i := 3) rfl; have e0 := (Cs.blk hSw 3 rfl).cell (i := 0) rfl; have e1 := (Cs.blk hSw 3 rfl).cell (i := 1) rfl; have e2 := (Cs.blk hSw 3 rfl).cell (i := 2) rfl; have e3 := (Cs.blk hSw 3 rfl).cell (i := 3) rfl; clear hSw; go_simp; try with_reducible rfl)
  simp only [List.getElem_toArray, List.getElem_cons_zero, List.getElem_cons_succ, Act.put, List.setIfInBounds_toArray, List.set_cons_zero, List.set_cons_succ]
  refine wpAnyH_take (i := 12) (v := ?v62) rfl (by kernel_rfl) (by kernel_rfl) (by kernel_rfl) (fun _ _ _ h => h) (Or.inl ⟨by rfl, ?y62⟩) hHeld ?r62
  case y62 => (intro w hSw; have a0 := (Cs.blk hSw 0 rfl).cell (i := 0) rfl; have a1 := (Cs.blk hSw 0 rfl).cell (i := 1) rfl; have a2 := (Cs.blk hSw 0 rfl).cell (i := 2) rfl; have a3 := (Cs.blk hSw 0 rfl).cell (i := 3) rfl; have b0 := (Cs.blk hSw 1 rfl).cell (i := 0) rfl; have b1 := (Cs.blk hSw 1 rfl).cell (i := 1) rfl; have b2 := (Cs.blk hSw 1 rfl).cell (i := 2) rfl; have b3 := (Cs.blk hSw 1 rfl).cell (i := 3) rfl; have d0 := (Cs.blk hSw 2 rfl).cell (i := 0) rfl; have d1 := (Cs.blk hSw 2 rfl).cell (i := 1) rfl; have d2 := (Cs.blk hSw 2 rfl).cell (i := 2) rfl; have d3 := (Cs.blk hSw 2 rfl).cell (i := 3) rfl; have e0 := (Cs.blk hSw 3 rfl).cell (i := 0) rfl; have e1 := (Cs.blk hSw 3 rfl).cell (i := 1) rfl; have e2 := (Cs.blk hSw 3 rfl).cell (i := 2) rfl; have e3 := (Cs.blk hSw 3 rfl).cell (i := 3) rfl; clear hSw; go_simp; try with_reducible rfl)
  simp only [List.getElem_toArray, List.getElem_cons_zero, List.getElem_cons_succ, Act.put, List.setIfInBounds_toArray, List.set_cons_zero, List.set_cons_succ]
  refine wpAnyH_ready (rs := [10]) (by kernel_rfl) (by simp) (AllReadyH.cons rfl (fun K hK => ?_) AllReadyH.nil)
  go_simp
  refine (K1.out _).mono ?_
  rintro e x1 ⟨rfl, hb⟩
  have X1 := Lib.hid (hHeld.next hb)
  clear hb
  go_wp2_with fail
  refine hK.out _ _ (X1.out) (fun hHeld => ?_)
  clear hK K
  refine wpAnyH_ready (rs := [13]) (by kernel_rfl) (by simp) (AllReadyH.cons rfl (fun K hK => ?_) AllReadyH.nil)
  go_simp
  refine (K0.out _).mono ?_
  rintro e x2 ⟨rfl, hb⟩
  have X2 := Lib.hid (hHeld.next hb)
  clear hb
  go_wp2_with fail
  refine hK.out _ _ (X2.out) (fun hHeld => ?_)
  clear hK K
  refine wpAnyH_take (i := 14) (v := ?v65) rfl (by kernel_rfl) (by kernel_rfl) (by kernel_rfl) (fun _ _ _ h => h) (Or.inl ⟨by rfl, ?y65⟩) hHeld ?r65
  case y65 => (intro w hSw; have a0 := (Cs.blk hSw 0 rfl).cell (i := 0) rfl; have a1 := (Cs.blk hSw 0 rfl).cell (i := 1) rfl; have a2 := (Cs.blk hSw 0 rfl).cell (i := 2) rfl; have a3 := (Cs.blk hSw 0 rfl).cell (i := 3) rfl; have b0 := (Cs.blk hSw 1 rfl).cell (i := 0) rfl; have b1 := (Cs.blk hSw 1 rfl).cell (i := 1) rfl; have b2 := (Cs.blk hSw 1 rfl).cell (i := 2) rfl; have b3 := (Cs.blk hSw 1 rfl).cell (i := 3) rfl; have d0 := (Cs.blk hSw 2 rfl).cell (i := 0) rfl; have d1 := (Cs.blk hSw 2 rfl).cell (i := 1) rfl; have d2 := (Cs.blk hSw 2 rfl).cell (i := 2) rfl; have d3 := (Cs.blk hSw 2 rfl).cell (i := 3) rfl; have e0 := (Cs.blk hSw 3 rfl).cell (i := 0) rfl; have e1 := (Cs.blk hSw 3 rfl).cell (i := 1) rfl; have e2 := (Cs.blk hSw 3 rfl).cell (i := 2) rfl; have e3 := (Cs.blk hSw 3 rfl).cell (i := 3) rfl; clear hSw; go_simp; try with_reducible rfl)
  simp only [List.getElem_toArray, List.getElem_cons_zero, List.getElem_cons_succ, Act.put, List.setIfInBounds_toArray, List.set_cons_zero, List.set_cons_succ]
  refine wpAnyH_take (i := 15) (v := ?v66) rfl (by kernel_rfl) (by kernel_rfl) (by kernel_rfl) (fun _ _ _ h => h) (Or.inl ⟨by rfl, ?y66⟩) hHeld ?r66
  case y66 => (intro w hSw; have a0 := (Cs.blk hSw 0 rfl).cell (i := 0) rfl; have a1 := (Cs.blk hSw 0 rfl).cell (i := 1) rfl; have a2 := (Cs.blk hSw 0 rfl).cell (i := 2) rfl; have a3 := (Cs.blk hSw 0 rfl).cell (i := 3) rfl; have b0 := (Cs.blk hSw 1 rfl).cell (i := 0) rfl; have b1 := (Cs.blk hSw 1 rfl).cell (i := 1) rfl; have b2 := (Cs.blk hSw 1 rfl).cell (i := 2) rfl; have b3 := (Cs.blk hSw 1 rfl).cell (i := 3) rfl; have d0 := (Cs.blk hSw 2 rfl).cell (i := 0) rfl; have d1 := (Cs.blk hSw 2 rfl).cell (i := 1) rfl; have d2 := (Cs.blk hSw 2 rfl).cell (i := 2) rfl; have d3 := (Cs.blk hSw 2 rfl).cell (i := 3) rfl; have e0 := (Cs.blk hSw 3 rfl).cell (i := 0) rfl; have e1 := (Cs.blk hSw 3 rfl).cell (i := 1) rfl; have e2 := (Cs.blk hSw 3 rfl).cell (i := 2) rfl; have e3 := (Cs.blk hSw 3 rfl).cell (i := 3) rfl; clear hSw; go_simp; try with_reducible rfl)
  simp only [List.getElem_toArray, List.getElem_cons_zero, List.getElem_cons_succ, Act.put, List.setIfInBounds_toArray, List.set_cons_zero, List.set_cons_succ]
  refine wpAnyH_take (i := 16) (v := ?v67) rfl (by kernel_rfl) (by kernel_rfl) (by kernel_rfl) (fun _ _ _ h => h) (Or.inl ⟨by rfl, ?y67⟩) hHeld ?r67
  case y67 => (intro w hSw; have a0 := (Cs.blk hSw 0 rfl).cell (i := 0) rfl; have a1 := (Cs.blk hSw 0 rfl).cell (i := 1) rfl; have a2 := (Cs.blk hSw 0 rfl).cell (i := 2) rfl; have a3 := (Cs.blk hSw 0 rfl).cell (i := 3) rfl; have b0 := (Cs.blk hSw 1 rfl).cell (i := 0) rfl; have b1 := (Cs.blk hSw 1 rfl).cell (i := 1) rfl; have b2 := (Cs.blk hSw 1 rfl).cell (i := 2) rfl; have b3 := (Cs.blk hSw 1 rfl).cell (i := 3) rfl; have d0 := (Cs.blk hSw 2 rfl).cell (i := 0) rfl; have d1 := (Cs.blk hSw 2 rfl).cell (i := 1) rfl; have d2 := (Cs.blk hSw 2 rfl).cell (i := 2) rfl; have d3 := (Cs.blk hSw 2 rfl).cell (i := 3) rfl; have e0 := (Cs.blk hSw 3 rfl).cell (i := 0) rfl; have e1 := (Cs.blk hSw 3 rfl).cell (i := 1) rfl; have e2 := (Cs.blk hSw 3 rfl).cell (i := 2) rfl; have e3 := (Cs.blk hSw 3 rfl).cell (i := 3) rfl; clear hSw; go_simp; try with_reducible rfl)
  simp only [List.getElem_toArray, List.getElem_cons_zero, List.getElem_cons_succ, Act.put, List.setIfInBounds_toArray, List.set_cons_zero, List.set_cons_succ]
  refine wpAnyH_take (i := 17) (v := ?v68) rfl (by kernel_rfl) (by kernel_rfl) (by kernel_rfl) (fun _ _ _ h => h) (Or.inl ⟨by rfl, ?y68⟩) hHeld ?r68
  case y68 => (intro w hSw; have a0 := (Cs.blk hSw 0 rfl).cell (i := 0) rfl; have a1 := (Cs.blk hSw 0 rfl).cell (i := 1) rfl; have a2 := (Cs.blk hSw 0 rfl).cell (i := 2) rfl; have a3 := (Cs.blk hSw 0 rfl).cell (i := 3) rfl; have b0 := (Cs.blk hSw 1 rfl).cell (i := 0) rfl; have b1 := (Cs.blk hSw 1 rfl).cell (i := 1) rfl; have b2 := (Cs.blk hSw 1 rfl).cell (i := 2) rfl; have b3 := (Cs.blk hSw 1 rfl).cell (i := 3) rfl; have d0 := (Cs.blk hSw 2 rfl).cell (i := 0) rfl; have d1 := (Cs.blk hSw 2 rfl).cell (i := 1) rfl; have d2 := (Cs.blk hSw 2 rfl).cell (i := 2) rfl; have d3 := (Cs.blk hSw 2 rfl).cell (i := 3) rfl; have e0 := (Cs.blk hSw 3 rfl).cell (i := 0) rfl; have e1 := (Cs.blk hSw 3 rfl).cell (i := 1) rfl; have e2 := (Cs.blk hSw 3 rfl).cell (i := 2) rfl; have e3 := (Cs.blk hSw 3 rfl).cell (i := 3) rfl; clear hSw; go_simp; try with_reducible rfl)
  simp only [List.getElem_toArray, List.getElem_cons_zero, List.getElem_cons_succ, Act.put, List.setIfInBounds_toArray, List.set_cons_zero, List.set_cons_succ]
  refine wpAnyH_take (i := 18) (v := ?v69) rfl (by kernel_rfl) (by kernel_rfl) (by kernel_rfl) (fun _ _ _ h => h) (Or.inl ⟨by rfl, ?y69⟩) hHeld ?r69
  case y69 => (intro w hSw; have a0 := (Cs.blk hSw 0 rfl).cell (i := 0) rfl; have a1 := (Cs.blk hSw 0 rfl).cell (i := 1) rfl; have a2 := (Cs.blk hSw 0 rfl).cell (i := 2) rfl; have a3 := (Cs.blk hSw 0 rfl).cell (i := 3) rfl; have b0 := (Cs.blk hSw 1 rfl).cell (i := 0) rfl; have b1 := (Cs.blk hSw 1 rfl).cell (i := 1) rfl; have b2 := (Cs.blk hSw 1 rfl).cell (i := 2) rfl; have b3 := (Cs.blk hSw 1 rfl).cell (i := 3) rfl; have d0 := (Cs.blk hSw 2 rfl).cell (i := 0) rfl; have d1 := (Cs.blk hSw 2 rfl).cell (i := 1) rfl; have d2 := (Cs.blk hSw 2 rfl).cell (i := 2) rfl; have d3 := (Cs.blk hSw 2 rfl).cell (i := 3) rfl; have e0 := (Cs.blk hSw 3 rfl).cell (i := 0) rfl; have e1 := (Cs.blk hSw 3 rfl).cell (i := 1) rfl; have e2 := (Cs.blk hSw 3 rfl).cell (i := 2) rfl; have e3 := (Cs.blk hSw 3 rfl).cell (i := 3) rfl; clear hSw; go_simp; try with_reducible rfl)
  simp only [List.getElem_toArray, List.getElem_cons_zero, List.getElem_cons_succ, Act.put, List.setIfInBounds_toArray, List.set_cons_zero, List.set_cons_succ]
  refine wpAnyH_take (i := 20) (v := ?v70) rfl (by kernel_rfl) (by kernel_rfl) (by kernel_rfl) (fun _ _ _ h => h) (Or.inl ⟨by rfl, ?y70⟩) hHeld ?r70
  case y70 => (intro w hSw; have a0 := (Cs.blk hSw 0 rfl).cell (i := 0) rfl; have a1 := (Cs.blk hSw 0 rfl).cell (i := 1) rfl; have a2 := (Cs.blk hSw 0 rfl).cell (i := 2) rfl; have a3 := (Cs.blk hSw 0 rfl).cell (i := 3) rfl; have b0 := (Cs.blk hSw 1 rfl).cell (i := 0) rfl; have b1 := (Cs.blk hSw 1 rfl).cell (i := 1) rfl; have b2 := (Cs.blk hSw 1 rfl).cell (i := 2) rfl; have b3 := (Cs.blk hSw 1 rfl).cell (i := 3) rfl; have d0 := (Cs.blk hSw 2 rfl).cell (i := 0) rfl; have d1 := (Cs.blk hSw 2 rfl).cell (i := 1) rfl; have d2 := (Cs.blk hSw 2 rfl).cell (i := 2) rfl; have d3 := (Cs.blk hSw 2 rfl).cell (i := 3) rfl; have e0 := (Cs.blk hSw 3 rfl).cell (i := 0) rfl; have e1 := (Cs.blk hSw 3 rfl).cell (i := 1) rfl; have e2 := (Cs.blk hSw 3 rfl).cell (i := 2) rfl; have e3 := (Cs.blk hSw 3 rfl).cell (i := 3) rfl; clear hSw; go_simp; try with_reducible rfl)
  simp only [List.getElem_toArray, List.getElem_cons_zero, List.getElem_cons_succ, Act.put, List.setIfInBounds_toArray, List.set_cons_zero, List.set_cons_succ]
  refine wpAnyH_take (i := 21) (v := ?v71) rfl (by kernel_rfl) (by kernel_rfl) (by kernel_rfl) (fun _ _ _ h => h) (Or.inl ⟨by rfl, ?y71⟩) hHeld ?r71
  case y71 => (intro w hSw; have a0 := (Cs.blk hSw 0 rfl).cell (i := 0) rfl; have a1 := (Cs.blk hSw 0 rfl).cell (i := 1) rfl; have a2 := (Cs.blk hSw 0 rfl).cell (i := 2) rfl; have a3 := (Cs.blk hSw 0 rfl).cell (i := 3) rfl; have b0 := (Cs.blk hSw 1 rfl).cell (i := 0) rfl; have b1 := (Cs.blk hSw 1 rfl).cell (i := 1) rfl; have b2 := (Cs.blk hSw 1 rfl).cell (i := 2) rfl; have b3 := (Cs.blk hSw 1 rfl).cell (i := 3) rfl; have d0 := (Cs.blk hSw 2 rfl).cell (i := 0) rfl; have d1 := (Cs.blk hSw 2 rfl).cell (i := 1) rfl; have d2 := (Cs.blk hSw 2 rfl).cell (i := 2) rfl; have d3 := (Cs.blk hSw 2 rfl).cell (i := 3) rfl; have e0 := (Cs.blk hSw 3 rfl).cell (i := 0) rfl; have e1 := (Cs.blk hSw 3 rfl).cell (i := 1) rfl; have e2 := (Cs.blk hSw 3 rfl).cell (i := 2) rfl; have e3 := (Cs.blk hSw 3 rfl).cell (i := 3) rfl; clear hSw; go_simp; try with_reducible rfl)
  simp only [List.getElem_toArray, List.getElem_cons_zero, List.getElem_cons_succ, Act.put, List.setIfInBounds_toArray, List.set_cons_zero, List.set_cons_succ]
  refine wpAnyH_ready (rs := [19]) (by kernel_rfl) (by simp) (AllReadyH.cons rfl (fun K hK => ?_) AllReadyH.nil)
  go_simp
  refine (K2.out _).mono ?_
  rintro e x3 ⟨rfl, hb⟩
  have X3 := Lib.hid (hHeld.next hb)
  clear hb
  go_wp2_with fail
  refine hK.out _ _ (X3.out) (fun hHeld => ?_)
  clear hK K
  refine wpAnyH_ready (rs := [22]) (by kernel_rfl) (by simp) (AllReadyH.cons rfl (fun K hK => ?_) AllReadyH.nil)
  go_simp
  refine (K0.out _).mono ?_
  rintro e x4 ⟨rfl, hb⟩
  have X4 := Lib.hid (hHeld.next hb)
  clear hb
  go_wp2_with fail
  refine hK.out _ _ (X4.out) (fun hHeld => ?_)
  clear hK K
  refine wpAnyH_take (i := 23) (v := ?v74) rfl (by kernel_rfl) (by kernel_rfl) (by kernel_rfl) (fun _ _ _ h => h) (Or.inl ⟨by rfl, ?y74⟩) hHeld ?r74
  case y74 => (intro w hSw; have a0 := (Cs.blk hSw 0 rfl).cell (i := 0) rfl; have a1 := (Cs.blk hSw 0 rfl).cell (i := 1) rfl; have a2 := (Cs.blk hSw 0 rfl).cell (i := 2) rfl; have a3 := (Cs.blk hSw 0 rfl).cell (i := 3) rfl; have b0 := (Cs.blk hSw 1 rfl).cell (i := 0) rfl; have b1 := (Cs.blk hSw 1 rfl).cell (i := 1) rfl; have b2 := (Cs.blk hSw 1 rfl).cell (i := 2) rfl; have b3 := (Cs.blk hSw 1 rfl).cell (i := 3) rfl; have d0 := (Cs.blk hSw 2 rfl).cell (i := 0) rfl; have d1 := (Cs.blk hSw 2 rfl).cell (i := 1) rfl; have d2 := (Cs.blk hSw 2 rfl).cell (i := 2) rfl; have d3 := (Cs.blk hSw 2 rfl).cell (i := 3) rfl; have e0 := (Cs.blk hSw 3 rfl).cell (i := 0) rfl; have e1 := (Cs.blk hSw 3 rfl).cell (i := 1) rfl; have e2 := (Cs.blk hSw 3 rfl).cell (i := 2) rfl; have e3 := (Cs.blk hSw 3 rfl).cell (i := 3) rfl; clear hSw; go_simp; try with_reducible rfl)
  simp only [List.getElem_toArray, List.getElem_cons_zero, List.getElem_cons_succ, Act.put, List.setIfInBounds_toArray, List.set_cons_zero, List.set_cons_succ]
  refine wpAnyH_take (i := 24) (v := ?v75) rfl (by kernel_rfl) (by kernel_rfl) (by kernel_rfl) (fun _ _ _ h => h) (Or.inl ⟨by rfl, ?y75⟩) hHeld ?r75
  case y75 => (intro w hSw; have a0 := (Cs.blk hSw 0 rfl).cell (i := 0) rfl; have a1 := (Cs.blk hSw 0 rfl).cell (i := 1) rfl; have a2 := (Cs.blk hSw 0 rfl).cell (i := 2) rfl; have a3 := (Cs.blk hSw 0 rfl).cell (i := 3) rfl; have b0 := (Cs.blk hSw 1 rfl).cell (i := 0) rfl; have b1 := (Cs.blk hSw 1 rfl).cell (i := 1) rfl; have b2 := (Cs.blk hSw 1 rfl).cell (i := 2) rfl; have b3 := (Cs.blk hSw 1 rfl).cell (i := 3) rfl; have d0 := (Cs.blk hSw 2 rfl).cell (i := 0) rfl; have d1 := (Cs.blk hSw 2 rfl).cell (i := 1) rfl; have d2 := (Cs.blk hSw 2 rfl).cell (i := 2) rfl; have d3 := (Cs.blk hSw 2 rfl).cell (i := 3) rfl; have e0 := (Cs.blk hSw 3 rfl).cell (i := 0) rfl; have e1 := (Cs.blk hSw 3 rfl).cell (i := 1) rfl; have e2 := (Cs.blk hSw 3 rfl).cell (i := 2) rfl; have e3 := (Cs.blk hSw 3 rfl).cell (i := 3) rfl; clear hSw; go_simp; try with_reducible rfl)
  simp only [List.getElem_toArray, List.getElem_cons_zero, List.getElem_cons_succ, Act.put, List.setIfInBounds_toArray, List.set_cons_zero, List.set_cons_succ]
  refine wpAnyH_done (by kernel_rfl) ?_ _
  have H4 := X4
  clear X1 X2 X3 X4 hHeld H3
  have a0 := (H4.out.blk 0 rfl).cell (i := 0) rfl
  have a1 := (H4.out.blk 0 rfl).cell (i := 1) rfl
  have a2 := (H4.out.blk 0 rfl).cell (i := 2) rfl
  have a3 := (H4.out.blk 0 rfl).cell (i := 3) rfl
  go_wp2_with fail
  refine (T0.out _).mono ?_
  rintro e w4 ⟨rfl, hb⟩
  have H5 := Lib.hid ((H4.out.next hb).new (N2 + 1) c G L2)
  clear hb H4 a0 a1 a2 a3
  have a0 := (H5.out.blk 1 rfl).cell (i := 0) rfl
  have a1 := (H5.out.blk 1 rfl).cell (i := 1) rfl
  have a2 := (H5.out.blk 1 rfl).cell (i := 2) rfl
  have a3 := (H5.out.blk 1 rfl).cell (i := 3) rfl
  go_wp2_with fail
  refine (T1.out _).mono ?_
  rintro e w5 ⟨rfl, hb⟩
  have H6 := Lib.hid ((H5.out.next hb).new (N2 + 1) c G L2)
  clear hb H5 a0 a1 a2 a3
  have a0 := (H6.out.blk 2 rfl).cell (i := 0) rfl
  have a1 := (H6.out.blk 2 rfl).cell (i := 1) rfl
  have a2 := (H6.out.blk 2 rfl).cell (i := 2) rfl
  have a3 := (H6.out.blk 2 rfl).cell (i := 3) rfl
  go_wp2_with fail
  refine (T2.out _).mono ?_
  rintro e w6 ⟨rfl, hb⟩
  have H7 := Lib.hid ((H6.out.next hb).new (N2 + 1) c G L2)
  clear hb H6 a0 a1 a2 a3
  have a0 := (H7.out.blk 4 rfl).cell (i := 0) rfl
  have a1 := (H7.out.blk 4 rfl).cell (i := 1) rfl
  have a2 := (H7.out.blk 4 rfl).cell (i := 2) rfl
  have a3 := (H7.out.blk 4 rfl).cell (i := 3) rfl
  have b0 := (H7.out.blk 5 rfl).cell (i := 0) rfl
  have b1 := (H7.out.blk 5 rfl).cell (i := 1) rfl
  have b2 := (H7.out.blk 5 rfl).cell (i := 2) rfl
  have b3 := (H7.out.blk 5 rfl).cell (i := 3) rfl
  have d0 := (H7.out.blk 6 rfl).cell (i := 0) rfl
  have d1 := (H7.out.blk 6 rfl).cell (i := 1) rfl
  have d2 := (H7.out.blk 6 rfl).cell (i := 2) rfl
  have d3 := (H7.out.blk 6 rfl).cell (i := 3) rfl
  go_wp2_with fail
  refine (awake_any _).mono ?_
  rintro e w7 ⟨rfl, hb⟩
  have H8 := Lib.hid (H7.out.next hb)
  clear hb
  go_wp2
  go_ret
  exact ⟨rfl, H8.out.1⟩
set_option maxRecDepth 100000 in
set_option maxHeartbeats 2000000 in
theorem lazy_Ts (n c g l a b : Int) (hab : a < b) (h : Rgt n c) (hl : W64 l) (ha : Gen a) (hb : Gen b) (hq : qd n c b ≠ 0) (w : World) : Calls Try.prog 5 #[cu n c g l, .int .u64 b, .int .u64 a] w (Ret (.bool true) w) := by
  have q0 : same4 0 0 0 0 0 0 0 0 = true := rfl
  have HA := Lib.hid (fun w => see_ok n c g l a h hl ha w)
  have HB := Lib.hid (fun w => see_ok n c g l b h hl hb w)
  have hR1 := rgt_lo h ha
  have hR2 := rgt_lo h hb
  have hab' : a ≤ b := by omega
  have e1 : n + lo n c a + lo (n + lo n c a) c b = n + lo n c b := by rw [Int.add_assoc, lo_lo h hab']
  have e2 : u6 (u6 (l + lo n c a) + lo (n + lo n c a) c b) = u6 (l + lo n c b) := by rw [u6_u6, lo_lo h hab']
  have e3 : n + lo n c b + lo (n + lo n c b) c b = n + lo n c b := by rw [lo_end h, Int.add_zero]
  have e4 : u6 (u6 (l + lo n c b) + lo (n + lo n c b) c b) = u6 (l + lo n c b) := by rw [u6_u6, lo_end h, Int.add_zero]
  have q1 : qd (n + lo n c a) c b = qd n c b := qd_lo h hab'
  have q2 : qd (n + lo n c b) c b = qd n c b := qd_lo h (Int.le_refl b)
  have hC := fun w => see_ok (n + lo n c a) c g (u6 (l + lo n c a)) b hR1 (u6_w64 _) hb w
  simp only [e1, e2] at hC
  have HC := Lib.hid hC
  have K0 := Lib.hid (fun w => count_ok n c g l b h hb w)
  have hK1 := fun w => count_ok (n + lo n c a) c g (u6 (l + lo n c a)) b hR1 hb w
  have hK2 := fun w => count_ok (n + lo n c b) c g (u6 (l + lo n c b)) b hR2 hb w
  simp only [q1] at hK1
  simp only [q2] at hK2
  have K1 := Lib.hid hK1
  have K2 := Lib.hid hK2
  have T0 := Lib.hid (fun w => take_ok n c g l b h hl hb hq w)
  have hT1 := fun w => take_ok (n + lo n c a) c g (u6 (l + lo n c a)) b hR1 (u6_w64 _) hb (by rw [q1]; exact hq) w
  simp only [e1, e2] at hT1
  have T1 := Lib.hid hT1
  have hT2 := fun w => take_ok (n + lo n c b) c g (u6 (l + lo n c b)) b hR2 (u6_w64 _) hb (by rw [q2]; exact hq) w
  simp only [e3, e4] at hT2
  have T2 := Lib.hid hT2
  clear hT1 hT2
  clear hab' hC hK1 hK2 hR1 hR2 e1 e2 e3 e4 q1 q2 h hl ha hb hq
  generalize n + lo n c a = N1 at *
  generalize u6 (l + lo n c a) = L1 at *
  generalize n + lo n c b = N2 at *
  generalize u6 (l + lo n c b) = L2 at *
  generalize qd n c b = q at *
  generalize u6 (g + 1) = G at *
  have q3 : same4 N2 c g L2 N2 c g L2 = true := same4_self _ _ _ _
  have q4 : same4 (N2 + 1) c G L2 (N2 + 1) c G L2 = true := same4_self _ _ _ _
  have H0 := Lib.hid ((Cs.nil w).new n c g l)
  simp only [List.nil_append] at H0
  have a0 := (H0.out.blk 0 rfl).cell (i := 0) rfl
  have a1 := (H0.out.blk 0 rfl).cell (i := 1) rfl
  have a2 := (H0.out.blk 0 rfl).cell (i := 2) rfl
  have a3 := (H0.out.blk 0 rfl).cell (i := 3) rfl
  go_enter Try.func5, Try.ntmps5
  go_wp2_with fail
  refine (HA.out _).mono ?_
  rintro e w1 ⟨rfl, hb⟩
  have H1 := Lib.hid ((H0.out.next hb).new N1 c g L1)
  clear hb H0 a0 a1 a2 a3
  have a0 := (H1.out.blk 0 rfl).cell (i := 0) rfl
  have a1 := (H1.out.blk 0 rfl).cell (i := 1) rfl
  have a2 := (H1.out.blk 0 rfl).cell (i := 2) rfl
  have a3 := (H1.out.blk 0 rfl).cell (i := 3) rfl
  go_wp2_with fail
  refine (HB.out _).mono ?_
  rintro e w2 ⟨rfl, hb⟩
  have H2 := Lib.hid ((H1.out.next hb).new N2 c g L2)
  clear hb H1 a0 a1 a2 a3
  have a0 := (H2.out.blk 1 rfl).cell (i := 0) rfl
  have a1 := (H2.out.blk 1 rfl).cell (i := 1) rfl
  have a2 := (H2.out.blk 1 rfl).cell (i := 2) rfl
  have a3 := (H2.out.blk 1 rfl).cell (i := 3) rfl
  have b0 := (H2.out.blk 2 rfl).cell (i := 0) rfl
  have b1 := (H2.out.blk 2 rfl).cell (i := 1) rfl
  have b2 := (H2.out.blk 2 rfl).cell (i := 2) rfl
  have b3 := (H2.out.blk 2 rfl).cell (i := 3) rfl
  go_wp2_with fail
  refine (HC.out _).mono ?_
  rintro e w3 ⟨rfl, hb⟩
  have H3 := Lib.hid ((H2.out.next hb).new N2 c g L2)
  clear hb H2 a0 a1 a2 a3 b0 b1 b2 b3
  have H3 := Lib.hid (show Cs w [(w.heap.size, n, c, g, l), (w1.heap.size, N1, c, g, L1), (w2.heap.size, N2, c, g, L2), (w3.heap.size, N2, c, g, L2)] _ from H3.out)
  go_wp2_with fail
  refine wp_region_held_drew (S := Cs w [(w.heap.size, n, c, g, l), (w1.heap.size, N1, c, g, L1), (w2.heap.size, N2, c, g, L2), (w3.heap.size, N2, c, g, L2)]) (by kernel_rfl) (H3.out.drew) (fun hHeld => ?_)
  refine wpAnyH_take (i := 0) (v := ?v76) rfl (by kernel_rfl) (by kernel_rfl) (by kernel_rfl) (fun _ _ _ h => h) (Or.inl ⟨by rfl, ?y76⟩) hHeld ?r76
  case y76 => (intro w hSw; have a0 := (Cs.blk hSw 0 rfl).cell (i := 0) rfl; have a1 := (Cs.blk hSw 0 rfl).cell (i := 1) rfl; have a2 := (Cs.blk hSw 0 rfl).cell (i := 2) rfl; have a3 := (Cs.blk hSw 0 rfl).cell (i := 3) rfl; have b0 := (Cs.blk hSw 1 rfl).cell (i := 0) rfl; have b1 := (Cs.blk hSw 1 rfl).cell (i := 1) rfl; have b2 := (Cs.blk hSw 1 rfl).cell (i := 2) rfl; have b3 := (Cs.blk hSw 1 rfl).cell (i := 3) rfl; have d0 := (Cs.blk hSw 2 rfl).cell (i := 0) rfl; have d1 := (Cs.blk hSw 2 rfl).cell (i := 1) rfl; have d2 := (Cs.blk hSw 2 rfl).cell (i := 2) rfl; have d3 := (Cs.blk hSw 2 rfl).cell (i := 3) rfl; have e0 := (Cs.blk hSw 3 rfl).cell (i := 0) rfl; have e1 := (Cs.blk hSw 3 rfl).cell (i := 1) rfl; have e2 := (Cs.blk hSw 3 rfl).cell (i := 2) rfl; have e3 := (Cs.blk hSw 3 rfl).cell (i := 3) rfl; clear hSw; go_simp; try with_reducible rfl)
  simp only [List.getElem_toArray, List.getElem_cons_zero, Act.put, List.setIfInBounds_toArray, List.set_cons_zero, List.set_cons_succ]
  refine wpAnyH_take (i := 1) (v := ?v77) rfl (by kernel_rfl) (by kernel_rfl) (by kernel_rfl) (fun _ _ _ h => h) (Or.inl ⟨by rfl, ?y77⟩) hHeld ?r77
  case y77 => (intro w hSw; have a0 := (Cs.blk hSw 0 rfl).cell (i := 0) rfl; have a1 := (Cs.blk hSw 0 rfl).cell (i := 1) rfl; have a2 := (Cs.blk hSw 0 rfl).cell (i := 2) rfl; have a3 := (Cs.blk hSw 0 rfl).cell (i := 3) rfl; have b0 := (Cs.blk hSw 1 rfl).cell (i := 0) rfl; have b1 := (Cs.blk hSw 1 rfl).cell (i := 1) rfl; have b2 := (Cs.blk hSw 1 rfl).cell (i := 2) rfl; have b3 := (Cs.blk hSw 1 rfl).cell (i := 3) rfl; have d0 := (Cs.blk hSw 2 rfl).cell (i := 0) rfl; have d1 := (Cs.blk hSw 2 rfl).cell (i := 1) rfl; have d2 := (Cs.blk hSw 2 rfl).cell (i := 2) rfl; have d3 := (Cs.blk hSw 2 rfl).cell (i := 3) rfl; have e0 := (Cs.blk hSw 3 rfl).cell (i := 0) rfl; have e1 := (Cs.blk hSw 3 rfl).cell (i := 1) rfl; have e2 := (Cs.blk hSw 3 rfl).cell (i := 2) rfl; have e3 := (Cs.blk hSw 3 rfl).cell (i := 3) rfl; clear hSw; go_simp; try with_reducible rfl)
  simp only [List.getElem_toArray, List.getElem_cons_zero, List.getElem_cons_succ, Act.put, List.setIfInBounds_toArray, List.set_cons_zero, List.set_cons_succ]
  refine wpAnyH_take (i := 2) (v := ?v78) rfl (by kernel_rfl) (by kernel_rfl) (by kernel_rfl) (fun _ _ _ h => h) (Or.inl ⟨by rfl, ?y78⟩) hHeld ?r78
  case y78 => (intro w hSw; have a0 := (Cs.blk hSw 0 rfl).cell (i := 0) rfl; have a1 := (Cs.blk hSw 0 rfl).cell (i := 1) rfl; have a2 := (Cs.blk hSw 0 rfl).cell (i := 2) rfl; have a3 := (Cs.blk hSw 0 rfl).cell (i := 3) rfl; have b0 := (Cs.blk hSw 1 rfl).cell (i := 0) rfl; have b1 := (Cs.blk hSw 1 rfl).cell (i := 1) rfl; have b2 := (Cs.blk hSw 1 rfl).cell (i := 2) rfl; have b3 := (Cs.blk hSw 1 rfl).cell (i := 3) rfl; have d0 := (Cs.blk hSw 2 rfl).cell (i := 0) rfl; have d1 := (Cs.blk hSw 2 rfl).cell (i := 1) rfl; have d2 := (Cs.blk hSw 2 rfl).cell (i := 2) rfl; have d3 := (Cs.blk hSw 2 rfl).cell (i := 3) rfl; have e0 := (Cs.blk hSw 3 rfl).cell (i := 0) rfl; have e1 := (Cs.blk hSw 3 rfl).cell (i := 1) rfl; have e2 := (Cs.blk hSw 3 rfl).cell (i := 2) rfl; have e3 := (Cs.blk hSw 3 rfl).cell (i := 3) rfl; clear hSw; go_simp; try with_reducible rfl)
  simp only [List.getElem_toArray, List.getElem_cons_zero, List.getElem_cons_succ, Act.put, List.setIfInBounds_toArray, List.set_cons_zero, List.set_cons_succ]
  refine wpAnyH_take (i := 3) (v := ?v79) rfl (by kernel_rfl) (by kernel_rfl) (by kernel_rfl) (fun _ _ _ h => h) (Or.inl ⟨by rfl, ?y79⟩) hHeld ?r79
  case y79 => (intro w hSw; have a0 := (Cs.blk hSw 0 rfl).cell (i := 0) rfl; have a1 := (Cs.blk hSw 0 rfl).cell (i := 1) rfl; have a2 := (Cs.blk hSw 0 rfl).cell (i := 2) rfl; have a3 := (Cs.blk hSw 0 rfl).cell (i := 3) rfl; have b0 := (Cs.blk hSw 1 rfl).cell (i := 0) rfl; have b1 := (Cs.blk hSw 1 rfl).cell (i := 1) rfl; have b2 := (Cs.blk hSw 1 rfl).cell (i := 2) rfl; have b3 := (Cs.blk hSw 1 rfl).cell (i := 3) rfl; have d0 := (Cs.blk hSw 2 rfl).cell (i := 0) rfl; have d1 := (Cs.blk hSw 2 rfl).cell (i := 1) rfl; have d2 := (Cs.blk hSw 2 rfl).cell (i := 2) rfl; have d3 := (Cs.blk hSw 2 rfl).cell (i := 3) rfl; have e0 := (Cs.blk hSw 3 rfl).cell (i := 0) rfl; have e1 := (Cs.blk hSw 3 rfl).cell (i := 1) rfl; have e2 := (Cs.blk hSw 3 rfl).cell (i := 2) rfl; have e3 := (Cs.blk hSw 3 rfl).cell (i := 3) rfl; clear hSw; go_simp; try with_reducible rfl)
  simp only [List.getElem_toArray, List.getElem_cons_zero, List.getElem_cons_succ, Act.put, List.setIfInBounds_toArray, List.set_cons_zero, List.set_cons_succ]
  refine wpAnyH_take (i := 4) (v := ?v80) rfl (by kernel_rfl) (by kernel_rfl) (by kernel_rfl) (fun _ _ _ h => h) (Or.inl ⟨by rfl, ?y80⟩) hHeld ?r80
  case y80 => (intro w hSw; have a0 := (Cs.blk hSw 0 rfl).cell (i := 0) rfl; have a1 := (Cs.blk hSw 0 rfl).cell (i := 1) rfl; have a2 := (Cs.blk hSw 0 rfl).cell (i := 2) rfl; have a3 := (Cs.blk hSw 0 rfl).cell (i := 3) rfl; have b0 := (Cs.blk hSw 1 rfl).cell (i := 0) rfl; have b1 := (Cs.blk hSw 1 rfl).cell (i := 1) rfl; have b2 := (Cs.blk hSw 1 rfl).cell (i := 2) rfl; have b3 := (Cs.blk hSw 1 rfl).cell (i := 3) rfl; have d0 := (Cs.blk hSw 2 rfl).cell (i := 0) rfl; have d1 := (Cs.blk hSw 2 rfl).cell (i := 1) rfl; have d2 := (Cs.blk hSw 2 rfl).cell (i := 2) rfl; have d3 := (Cs.blk hSw 2 rfl).cell (i := 3) rfl; have e0 := (Cs.blk hSw 3 rfl).cell (i := 0) rfl; have e1 := (Cs.blk hSw 3 rfl).cell (i := 1) rfl; have e2 := (Cs.blk hSw 3 rfl).cell (i := 2) rfl; have e3 := (Cs.blk hSw 3 rfl).cell (i := 3) rfl; clear hSw; go_simp; try with_reducible rfl)
  simp only [List.getElem_toArray, List.getElem_cons_zero, List.getElem_cons_succ, Act.put, List.setIfInBounds_toArray, List.set_cons_zero, List.set_cons_succ]
  refine wpAnyH_take (i := 5) (v := ?v81) rfl (by kernel_rfl) (by kernel_rfl) (by kernel_rfl) (fun _ _ _ h => h) (Or.inl ⟨by rfl, ?y81⟩) hHeld ?r81
  case y81 => (intro w hSw; have a0 := (Cs.blk hSw 0 rfl).cell (i := 0) rfl; have a1 := (Cs.blk hSw 0 rfl).cell (i := 1) rfl; have a2 := (Cs.blk hSw 0 rfl).cell (i := 2) rfl; have a3 := (Cs.blk hSw 0 rfl).cell (i := 3) rfl; have b0 := (Cs.blk hSw 1 rfl).cell (i := 0) rfl; have b1 := (Cs.blk hSw 1 rfl).cell (i := 1) rfl; have b2 := (Cs.blk hSw 1 rfl).cell (i := 2) rfl; have b3 := (Cs.blk hSw 1 rfl).cell (i := 3) rfl; have d0 := (Cs.blk hSw 2 rfl).cell (i := 0) rfl; have d1 := (Cs.blk hSw 2 rfl).cell (i := 1) rfl; have d2 := (Cs.blk hSw 2 rfl).cell (i := 2) rfl; have d3 := (Cs.blk hSw 2 rfl).cell (i := 3) rfl; have e0 := (Cs.blk hSw 3 rfl).cell (i := 0) rfl; have e1 := (Cs.blk hSw 3 rfl).cell (i := 1) rfl; have e2 := (Cs.blk hSw 3 rfl).cell (i := 2) rfl; have e3 := (Cs.blk hSw 3 rfl).cell (i := 3) rfl; clear hSw; go_simp; try with_reducible rfl)
  simp only [List.getElem_toArray, List.getElem_cons_zero, List.getElem_cons_succ, Act.put, List.setIfInBounds_toArray, List.set_cons_zero, List.set_cons_succ]
  refine wpAnyH_take (i := 6) (v := ?v82) rfl (by kernel_rfl) (by kernel_rfl) (by kernel_rfl) (fun _ _ _ h => h) (Or.inl ⟨by rfl, ?y82⟩) hHeld ?r82
  case y82 => (intro w hSw; have a0 := (Cs.blk hSw 0 rfl).cell (i := 0) rfl; have a1 := (Cs.blk hSw 0 rfl).cell (i := 1) rfl; have a2 := (Cs.blk hSw 0 rfl).cell (i := 2) rfl; have a3 := (Cs.blk hSw 0 rfl).cell (i := 3) rfl; have b0 := (Cs.blk hSw 1 rfl).cell (i := 0) rfl; have b1 := (Cs.blk hSw 1 rfl).cell (i := 1) rfl; have b2 := (Cs.blk hSw 1 rfl).cell (i := 2) rfl; have b3 := (Cs.blk hSw 1 rfl).cell (i := 3) rfl; have d0 := (Cs.blk hSw 2 rfl).cell (i := 0) rfl; have d1 := (Cs.blk hSw 2 rfl).cell (i := 1) rfl; have d2 := (Cs.blk hSw 2 rfl).cell (i := 2) rfl; have d3 := (Cs.blk hSw 2 rfl).cell (i := 3) rfl; have e0 := (Cs.blk hSw 3 rfl).cell (i := 0) rfl; have e1 := (Cs.blk hSw 3 rfl).cell (i := 1) rfl; have e2 := (Cs.blk hSw 3 rfl).cell (i := 2) rfl; have e3 := (Cs.blk hSw 3 rfl).cell (i := 3) rfl; clear hSw; go_simp; try with_reducible rfl)
  simp only [List.getElem_toArray, List.getElem_cons_zero, List.getElem_cons_succ, Act.put, List.setIfInBounds_toArray, List.set_cons_zero, List.set_cons_succ]
  refine wpAnyH_take (i := 7) (v := ?v83) rfl (by kernel_rfl) (by kernel_rfl) (by kernel_rfl) (fun _ _ _ h => h) (Or.inl ⟨by rfl, ?y83⟩) hHeld ?r83
  case y83 => (intro w hSw; have a0 := (Cs.blk hSw 0 rfl).cell (i := 0) rfl; have a1 := (Cs.blk hSw 0 rfl).cell (i := 1) rfl; have a2 := (Cs.blk hSw 0 rfl).cell (i := 2) rfl; have a3 := (Cs.blk hSw 0 rfl).cell (i := 3) rfl; have b0 := (Cs.blk hSw 1 rfl).cell (i := 0) rfl; have b1 := (Cs.blk hSw 1 rfl).cell (i := 1) rfl; have b2 := (Cs.blk hSw 1 rfl).cell (i := 2) rfl; have b3 := (Cs.blk hSw 1 rfl).cell (i := 3) rfl; have d0 := (Cs.blk hSw 2 rfl).cell (i := 0) rfl; have d1 := (Cs.blk hSw 2 rfl).cell (i := 1) rfl; have d2 := (Cs.blk hSw 2 rfl).cell (i := 2) rfl; have d3 := (Cs.blk hSw 2 rfl).cell (i := 3) rfl; have e0 := (Cs.blk hSw 3 rfl).cell (i := 0) rfl; have e1 := (Cs.blk hSw 3 rfl).cell (i := 1) rfl; have e2 := (Cs.blk hSw 3 rfl).cell (i := 2) rfl; have e3 := (Cs.blk hSw 3 rfl).cell (i := 3) rfl; clear hSw; go_simp; try with_reducible rfl)
  simp only [List.getElem_toArray, List.getElem_cons_zero, List.getElem_cons_succ, Act.put, List.setIfInBounds_toArray, List.set_cons_zero, List.set_cons_succ]
  refine wpAnyH_take (i := 8) (v := ?v84) rfl (by kernel_rfl) (by kernel_rfl) (by kernel_rfl) (fun _ _ _ h => h) (Or.inl ⟨by rfl, ?y84⟩) hHeld ?r84
  case y84 => (intro w hSw; have a0 := (Cs.blk hSw 0 rfl).cell (i := 0) rfl; have a1 := (Cs.blk hSw 0 rfl).cell (i := 1) rfl; have a2 := (Cs.blk hSw 0 rfl).cell (i := 2) rfl; have a3 := (Cs.blk hSw 0 rfl).cell (i := 3) rfl; have b0 := (Cs.blk hSw 1 rfl).cell (i := 0) rfl; have b1 := (Cs.blk hSw 1 rfl).cell (i := 1) rfl; have b2 := (Cs.blk hSw 1 rfl).cell (i := 2) rfl; have b3 := (Cs.blk hSw 1 rfl).cell (i := 3) rfl; have d0 := (Cs.blk hSw 2 rfl).cell (i := 0) rfl; have d1 := (Cs.blk hSw 2 rfl).cell (i := 1) rfl; have d2 := (Cs.blk hSw 2 rfl).cell (i := 2) rfl; have d3 := (Cs.blk hSw 2 rfl).cell (i := 3) rfl; have e0 := (Cs.blk hSw 3 rfl).cell (i := 0) rfl; have e1 := (Cs.blk hSw 3 rfl).cell (i := 1) rfl; have e2 := (Cs.blk hSw 3 rfl).cell (i := 2) rfl; have e3 := (Cs.blk hSw 3 rfl).cell (i := 3) rfl; clear hSw; go_simp; try with_reducible rfl)
  simp only [List.getElem_toArray, List.getElem_cons_zero, List.getElem_cons_succ, Act.put, List.setIfInBounds_toArray, List.set_cons_zero, List.set_cons_succ]
  refine wpAnyH_take (i := 9) (v := ?v85) rfl (by kernel_rfl) (by kernel_rfl) (by kernel_rfl) (fun _ _ _ h => h) (Or.inl ⟨by rfl, ?y85⟩) hHeld ?r85
  case y85 => (intro w hSw; have a0 := (Cs.blk hSw 0 rfl).cell (i := 0) rfl; have a1 := (Cs.blk hSw 0 rfl).cell (i := 1) rfl; have a2 := (Cs.blk hSw 0 rfl).cell (i := 2) rfl; have a3 := (Cs.blk hSw 0 rfl).cell (i := 3) rfl; have b0 := (Cs.blk hSw 1 rfl).cell (i := 0) rfl; have b1 := (Cs.blk hSw 1 rfl).cell (i := 1) rfl; have b2 := (Cs.blk hSw 1 rfl).cell (i := 2) rfl; have b3 := (Cs.blk hSw 1 rfl).cell (i := 3) rfl; have d0 := (Cs.blk hSw 2 rfl).cell (i := 0) rfl; have d1 := (Cs.blk hSw 2 rfl).cell (i := 1) rfl; have d2 := (Cs.blk hSw 2 rfl).cell (i := 2) rfl; have d3 := (Cs.blk hSw 2 rfl).cell (i := 3) rfl; have e0 := (Cs.blk hSw 3 rfl).cell (i := 0) rfl; have e1 := (Cs.blk hSw 3 rfl).cell (i := 1) rfl; have e2 := (Cs.blk hSw 3 rfl).cell (i := 2) rfl; have e3 := (Cs.blk hSw 3 rfl).cell (i := 3) rfl; clear hSw; go_simp; try with_reducible rfl)
  simp only [List.getElem_toArray, List.getElem_cons_zero, List.getElem_cons_succ, Act.put, List.setIfInBounds_toArray, List.set_cons_zero, List.set_cons_succ]
  refine wpAnyH_take (i := 11) (v := ?v86) rfl (by kernel_rfl) (by kernel_rfl) (by kernel_rfl) (fun _ _ _ h => h) (Or.inl ⟨by rfl, ?y86⟩) hHeld ?r86
  case y86 => (intro w hSw; have a0 := (Cs.blk hSw 0 rfl).cell (i := 0) rfl; have a1 := (Cs.blk hSw 0 rfl).cell (i := 1) rfl; have a2 := (Cs.blk hSw 0 rfl).cell (i := 2) rfl; have a3 := (Cs.blk hSw 0 rfl).cell (i := 3) rfl; have b0 := (Cs.blk hSw 1 rfl).cell (i := 0) rfl; have b1 := (Cs.blk hSw 1 rfl).cell (i := 1) rfl; have b2 := (Cs.blk hSw 1 rfl).cell (i := 2) rfl; have b3 := (Cs.blk hSw 1 rfl).cell (i := 3) rfl; have d0 := (Cs.blk hSw 2 rfl).cell (i := 0) rfl; have d1 := (Cs.blk hSw 2 rfl).cell (i := 1) rfl; have d2 := (Cs.blk hSw 2 rfl).cell (i := 2) rfl; have d3 := (Cs.blk hSw 2 rfl).cell (i := 3) rfl; have e0 := (Cs.blk hSw 3 rfl).cell (i := 0) rfl; have e1 := (Cs.blk hSw 3 rfl).cell (i := 1) rfl; have e2 := (Cs.blk hSw 3 rfl).cell (i := 2) rfl; have e3 := (Cs.blk hSw 3 rfl).cell (i := 3) rfl; clear hSw; go_simp; try with_reducible rfl)
  simp only [List.getElem_toArray, List.getElem_cons_zero, List.getElem_cons_succ, Act.put, List.setIfInBounds_toArray, List.set_cons_zero, List.set_cons_succ]
  refine wpAnyH_take (i := 12) (v := ?v87) rfl (by kernel_rfl) (by kernel_rfl) (by kernel_rfl) (fun _ _ _ h => h) (Or.inl ⟨by rfl, ?y87⟩) hHeld ?r87
  case y87 => (intro w hSw; have a0 := (Cs.blk hSw 0 rfl).cell (i := 0) rfl; have a1 := (Cs.blk hSw 0 rfl).cell (i := 1) rfl; have a2 := (Cs.blk hSw 0 rfl).cell (i := 2) rfl; have a3 := (Cs.blk hSw 0 rfl).cell (i := 3) rfl; have b0 := (Cs.blk hSw 1 rfl).cell (i := 0) rfl; have b1 := (Cs.blk hSw 1 rfl).cell (i := 1) rfl; have b2 := (Cs.blk hSw 1 rfl).cell (i := 2) rfl; have b3 := (Cs.blk hSw 1 rfl).cell (i := 3) rfl; have d0 := (Cs.blk hSw 2 rfl).cell (i := 0) rfl; have d1 := (Cs.blk hSw 2 rfl).cell (i := 1) rfl; have d2 := (Cs.blk hSw 2 rfl).cell (i := 2) rfl; have d3 := (Cs.blk hSw 2 rfl).cell (i := 3) rfl; have e0 := (Cs.blk hSw 3 rfl).cell (i := 0) rfl; have e1 := (Cs.blk hSw 3 rfl).cell (i := 1) rfl; have e2 := (Cs.blk hSw 3 rfl).cell (i := 2) rfl; have e3 := (Cs.blk hSw 3 rfl).cell (i := 3) rfl; clear hSw; go_simp; try with_reducible rfl)
  simp only [List.getElem_toArray, List.getElem_cons_zero, List.getElem_cons_succ, Act.put, List.setIfInBounds_toArray, List.set_cons_zero, List.set_cons_succ]
  refine wpAnyH_ready (rs := [10]) (by kernel_rfl) (by simp) (AllReadyH.cons rfl (fun K hK => ?_) AllReadyH.nil)
  go_simp
  refine (K1.out _).mono ?_
  rintro e x1 ⟨rfl, hb⟩
  have X1 := Lib.hid (hHeld.next hb)
  clear hb
  go_wp2_with fail
  refine hK.out _ _ (X1.out) (fun hHeld => ?_)
  clear hK K
  refine wpAnyH_ready (rs := [13]) (by kernel_rfl) (by simp) (AllReadyH.cons rfl (fun K hK => ?_) AllReadyH.nil)
  go_simp
  refine (K0.out _).mono ?_
  rintro e x2 ⟨rfl, hb⟩
  have X2 := Lib.hid (hHeld.next hb)
  clear hb
  go_wp2_with fail
  refine hK.out _ _ (X2.out) (fun hHeld => ?_)
  clear hK K
  refine wpAnyH_take (i := 14) (v := ?v90) rfl (by kernel_rfl) (by kernel_rfl) (by kernel_rfl) (fun _ _ _ h => h) (Or.inl ⟨by rfl, ?y90⟩) hHeld ?r90
  case y90 => (intro w hSw; have a0 := (Cs.blk hSw 0 rfl).cell (i := 0) rfl; have a1 := (Cs.blk hSw 0 rfl).cell (i := 1) rfl; have a2 := (Cs.blk hSw 0 rfl).cell (i := 2) rfl; have a3 := (Cs.blk hSw 0 rfl).cell (i := 3) rfl; have b0 := (Cs.blk hSw 1 rfl).cell (i := 0) rfl; have b1 := (Cs.blk hSw 1 rfl).cell (i := 1) rfl; have b2 := (Cs.blk hSw 1 rfl).cell (i := 2) rfl; have b3 := (Cs.blk hSw 1 rfl).cell (i := 3) rfl; have d0 := (Cs.blk hSw 2 rfl).cell (i := 0) rfl; have d1 := (Cs.blk hSw 2 rfl).cell (i := 1) rfl; have d2 := (Cs.blk hSw 2 rfl).cell (i := 2) rfl; have d3 := (Cs.blk hSw 2 rfl).cell (i := 3) rfl; have e0 := (Cs.blk hSw 3 rfl).cell (i := 0) rfl; have e1 := (Cs.blk hSw 3 rfl).cell (i := 1) rfl; have e2 := (Cs.blk hSw 3 rfl).cell (i := 2) rfl; have e3 := (Cs.blk hSw 3 rfl).cell (i := 3) rfl; clear hSw; go_simp; try with_reducible rfl)
  simp only [List.getElem_toArray, List.getElem_cons_zero, List.getElem_cons_succ, Act.put, List.setIfInBounds_toArray, List.set_cons_zero, List.set_cons_succ]
  refine wpAnyH_take (i := 15) (v := ?v91) rfl (by kernel_rfl) (by kernel_rfl) (by kernel_rfl) (fun _ _ _ h => h) (Or.inl ⟨by rfl, ?y91⟩) hHeld ?r91
  case y91 => (intro w hSw; have a0 := (Cs.blk hSw 0 rfl).cell (i := 0) rfl; have a1 := (Cs.blk hSw 0 rfl).cell (i := 1) rfl; have a2 := (Cs.blk hSw 0 rfl).cell (i := 2) rfl; have a3 := (Cs.blk hSw 0 rfl).cell (i := 3) rfl; have b0 := (Cs.blk hSw 1 rfl).cell (i := 0) rfl; have b1 := (Cs.blk hSw 1 rfl).cell (i := 1) rfl; have b2 := (Cs.blk hSw 1 rfl).cell (i := 2) rfl; have b3 := (Cs.blk hSw 1 rfl).cell (i := 3) rfl; have d0 := (Cs.blk hSw 2 rfl).cell (i := 0) rfl; have d1 := (Cs.blk hSw 2 rfl).cell (i := 1) rfl; have d2 := (Cs.blk hSw 2 rfl).cell (i := 2) rfl; have d3 := (Cs.blk hSw 2 rfl).cell (i := 3) rfl; have e0 := (Cs.blk hSw 3 rfl).cell (i := 0) rfl; have e1 := (Cs.blk hSw 3 rfl).cell (i := 1) rfl; have e2 := (Cs.blk hSw 3 rfl).cell (i := 2) rfl; have e3 := (Cs.blk hSw 3 rfl).cell (i := 3) rfl; clear hSw; go_simp; try with_reducible rfl)
  simp only [List.getElem_toArray, List.getElem_cons_zero, List.getElem_cons_succ, Act.put, List.setIfInBounds_toArray, List.set_cons_zero, List.set_cons_succ]
  refine wpAnyH_take (i := 16) (v := ?v92) rfl (by kernel_rfl) (by kernel_rfl) (by kernel_rfl) (fun _ _ _ h => h) (Or.inl ⟨by rfl, ?y92⟩) hHeld ?r92
  case y92 => (intro w hSw; have a0 := (Cs.blk hSw 0 rfl).cell (i := 0) rfl; have a1 := (Cs.blk hSw 0 rfl).cell (i := 1) rfl; have a2 := (Cs.blk hSw 0 rfl).cell (i := 2) rfl; have a3 := (Cs.blk hSw 0 rfl).cell (i := 3) rfl; have b0 := (Cs.blk hSw 1 rfl).cell (i := 0) rfl; have b1 := (Cs.blk hSw 1 rfl).cell (i := 1) rfl; have b2 := (Cs.blk hSw 1 rfl).cell (i := 2) rfl; have b3 := (Cs.blk hSw 1 rfl).cell (i := 3) rfl; have d0 := (Cs.blk hSw 2 rfl).cell (i := 0) rfl; have d1 := (Cs.blk hSw 2 rfl).cell (i := 1) rfl; have d2 := (Cs.blk hSw 2 rfl).cell (i := 2) rfl; have d3 := (Cs.blk hSw 2 rfl).cell (i := 3) rfl; have e0 := (Cs.blk hSw 3 rfl).cell (i := 0) rfl; have e1 := (Cs.blk hSw 3 rfl).cell (i := 1) rfl; have e2 := (Cs.blk hSw 3 rfl).cell (i := 2) rfl; have e3 := (Cs.blk hSw 3 rfl).cell (i := 3) rfl; clear hSw; go_simp; try with_reducible rfl)
  simp only [List.getElem_toArray, List.getElem_cons_zero, List.getElem_cons_succ, Act.put, List.setIfInBounds_toArray, List.set_cons_zero, List.set_cons_succ]
  refine wpAnyH_take (i := 17) (v := ?v93) rfl (by kernel_rfl) (by kernel_rfl) (by kernel_rfl) (fun _ _ _ h => h) (Or.inl ⟨by rfl, ?y93⟩) hHeld ?r93
  case y93 => (intro w hSw; have a0 := (Cs.blk hSw 0 rfl).cell (i := 0) rfl; have a1 := (Cs.blk hSw 0 rfl).cell (i := 1) rfl; have a2 := (Cs.blk hSw 0 rfl).cell (i := 2) rfl; have a3 := (Cs.blk hSw 0 rfl).cell (i := 3) rfl; have b0 := (Cs.blk hSw 1 rfl).cell (i := 0) rfl; have b1 := (Cs.blk hSw 1 rfl).cell (i := 1) rfl; have b2 := (Cs.blk hSw 1 rfl).cell (i := 2) rfl; have b3 := (Cs.blk hSw 1 rfl).cell (i := 3) rfl; have d0 := (Cs.blk hSw 2 rfl).cell (i := 0) rfl; have d1 := (Cs.blk hSw 2 rfl).cell (i := 1) rfl; have d2 := (Cs.blk hSw 2 rfl).cell (i := 2) rfl; have d3 := (Cs.blk hSw 2 rfl).cell (i := 3) rfl; have e0 := (Cs.blk hSw 3 rfl).cell (i := 0) rfl; have e1 := (Cs.blk hSw 3 rfl).cell (i := 1) rfl; have e2 := (Cs.blk hSw 3 rfl).cell (i := 2) rfl; have e3 := (Cs.blk hSw 3 rfl).cell (i := 3) rfl; clear hSw; go_simp; try with_reducible rfl)
  simp only [List.getElem_toArray, List.getElem_cons_zero, List.getElem_cons_succ, Act.put, List.setIfInBounds_toArray, List.set_cons_zero, List.set_cons_succ]
  refine wpAnyH_take (i := 18) (v := ?v94) rfl (by kernel_rfl) (by kernel_rfl) (by kernel_rfl) (fun _ _ _ h => h) (Or.inl ⟨by rfl, ?y94⟩) hHeld ?r94
  case y94 => (intro w hSw; have a0 := (Cs.blk hSw 0 rfl).cell (i := 0) rfl; have a1 := (Cs.blk hSw 0 rfl).cell (i := 1) rfl; have a2 := (Cs.blk hSw 0 rfl).cell (i := 2) rfl; have a3 := (Cs.blk hSw 0 rfl).cell (i := 3) rfl; have b0 := (Cs.blk hSw 1 rfl).cell (i := 0) rfl; have b1 := (Cs.blk hSw 1 rfl).cell (i := 1) rfl; have b2 := (Cs.blk hSw 1 rfl).cell (i := 2) rfl; have b3 := (Cs.blk hSw 1 rfl).cell (i := 3) rfl; have d0 := (Cs.blk hSw 2 rfl).cell (i := 0) rfl; have d1 := (Cs.blk hSw 2 rfl).cell (i := 1) rfl; have d2 := (Cs.blk hSw 2 rfl).cell (i := 2) rfl; have d3 := (Cs.blk hSw 2 rfl).cell (i := 3) rfl; have e0 := (Cs.blk hSw 3 rfl).cell (i := 0) rfl; have e1 := (Cs.blk hSw 3 rfl).cell (i := 1) rfl; have e2 := (Cs.blk hSw 3 rfl).cell (i := 2) rfl; have e3 := (Cs.blk hSw 3 rfl).cell (i := 3) rfl; clear hSw; go_simp; try with_reducible rfl)
  simp only [List.getElem_toArray, List.getElem_cons_zero, List.getElem_cons_succ, Act.put, List.setIfInBounds_toArray, List.set_cons_zero, List.set_cons_succ]
  refine wpAnyH_take (i := 20) (v := ?v95) rfl (by kernel_rfl) (by kernel_rfl) (by kernel_rfl) (fun _ _ _ h => h) (Or.inl ⟨by rfl, ?y95⟩) hHeld ?r95
  case y95 => (intro w hSw; have a0 := (Cs.blk hSw 0 rfl).cell (i := 0) rfl; have a1 := (Cs.blk hSw 0 rfl).cell (i := 1) rfl; have a2 := (Cs.blk hSw 0 rfl).cell (i := 2) rfl; have a3 := (Cs.blk hSw 0 rfl).cell (i := 3) rfl; have b0 := (Cs.blk hSw 1 rfl).cell (i := 0) rfl; have b1 := (Cs.blk hSw 1 rfl).cell (i := 1) rfl; have b2 := (Cs.blk hSw 1 rfl).cell (i := 2) rfl; have b3 := (Cs.blk hSw 1 rfl).cell (i := 3) rfl; have d0 := (Cs.blk hSw 2 rfl).cell (i := 0) rfl; have d1 := (Cs.blk hSw 2 rfl).cell (i := 1) rfl; have d2 := (Cs.blk hSw 2 rfl).cell (i := 2) rfl; have d3 := (Cs.blk hSw 2 rfl).cell (i := 3) rfl; have e0 := (Cs.blk hSw 3 rfl).cell (i := 0) rfl; have e1 := (Cs.blk hSw 3 rfl).cell (i := 1) rfl; have e2 := (Cs.blk hSw 3 rfl).cell (i := 2) rfl; have e3 := (Cs.blk hSw 3 rfl).cell (i := 3) rfl; clear hSw; go_simp; try with_reducible rfl)
  simp only [List.getElem_toArray, List.getElem_cons_zero, List.getElem_cons_succ, Act.put, List.setIfInBounds_toArray, List.set_cons_zero, List.set_cons_succ]
  refine wpAnyH_take (i := 21) (v := ?v96) rfl (by kernel_rfl) (by kernel_rfl) (by kernel_rfl) (fun _ _ _ h => h) (Or.inl ⟨by rfl, ?y96⟩) hHeld ?r96
  case y96 => (intro w hSw; have a0 := (Cs.blk hSw 0 rfl).cell (i := 0) rfl; have a1 := (Cs.blk hSw 0 rfl).cell (i := 1) rfl; have a2 := (Cs.blk hSw 0 rfl).cell (i := 2) rfl; have a3 := (Cs.blk hSw 0 rfl).cell (i := 3) rfl; have b0 := (Cs.blk hSw 1 rfl).cell (i := 0) rfl; have b1 := (Cs.blk hSw 1 rfl).cell (i := 1) rfl; have b2 := (Cs.blk hSw 1 rfl).cell (i := 2) rfl; have b3 := (Cs.blk hSw 1 rfl).cell (i := 3) rfl; have d0 := (Cs.blk hSw 2 rfl).cell (i := 0) rfl; have d1 := (Cs.blk hSw 2 rfl).cell (i := 1) rfl; have d2 := (Cs.blk hSw 2 rfl).cell (i := 2) rfl; have d3 := (Cs.blk hSw 2 rfl).cell (i := 3) rfl; have e0 := (Cs.blk hSw 3 rfl).cell (i := 0) rfl; have e1 := (Cs.blk hSw 3 rfl).cell (i := 1) rfl; have e2 := (Cs.blk hSw 3 rfl).cell (i := 2) rfl; have e3 := (Cs.blk hSw 3 rfl).cell (i := 3) rfl; clear hSw; go_simp; try with_reducible rfl)
  simp only [List.getElem_toArray, List.getElem_cons_zero, List.getElem_cons_succ, Act.put, List.setIfInBounds_toArray, List.set_cons_zero, List.set_cons_succ]
  refine wpAnyH_ready (rs := [19]) (by kernel_rfl) (by simp) (AllReadyH.cons rfl (fun K hK => ?_) AllReadyH.nil)
  go_simp
  refine (K2.out _).mono ?_
  rintro e x3 ⟨rfl, hb⟩
  have X3 := Lib.hid (hHeld.next hb)
  clear hb
  go_wp2_with fail
  refine hK.out _ _ (X3.out) (fun hHeld => ?_)
  clear hK K
  refine wpAnyH_ready (rs := [22]) (by kernel_rfl) (by simp) (AllReadyH.cons rfl (fun K hK => ?_) AllReadyH.nil)
  go_simp
  refine (K0.out _).mono ?_
  rintro e x4 ⟨rfl, hb⟩
  have X4 := Lib.hid (hHeld.next hb)
  clear hb
  go_wp2_with fail
  refine hK.out _ _ (X4.out) (fun hHeld => ?_)
  clear hK K
  refine wpAnyH_take (i := 23) (v := ?v99) rfl (by kernel_rfl) (by kernel_rfl) (by kernel_rfl) (fun _ _ _ h => h) (Or.inl ⟨by rfl, ?y99⟩) hHeld ?r99
  case y99 => (intro w hSw; have a0 := (Cs.blk hSw 0 rfl).cell (i := 0) rfl; have a1 := (Cs.blk hSw 0 rfl).cell (i := 1) rfl; have a2 := (Cs.blk hSw 0 rfl).cell (i := 2) rfl; have a3 := (Cs.blk hSw 0 rfl).cell (i := 3) rfl; have b0 := (Cs.blk hSw 1 rfl).cell (i := 0) rfl; have b1 := (Cs.blk hSw 1 rfl).cell (i := 1) rfl; have b2 := (Cs.blk hSw 1 rfl).cell (i := 2) rfl; have b3 := (Cs.blk hSw 1 rfl).cell (i := 3) rfl; have d0 := (Cs.blk hSw 2 rfl).cell (i := 0) rfl; have d1 := (Cs.blk hSw 2 rfl).cell (i := 1) rfl; have d2 := (Cs.blk hSw 2 rfl).cell (i := 2) rfl; have d3 := (Cs.blk hSw 2 rfl).cell (i := 3) rfl; have e0 := (Cs.blk hSw 3 rfl).cell (i := 0) rfl; have e1 := (Cs.blk hSw 3 rfl).cell (i := 1) rfl; have e2 := (Cs.blk hSw 3 rfl).cell (i := 2) rfl; have e3 := (Cs.blk hSw 3 rfl).cell (i := 3) rfl; clear hSw; go_simp; try with_reducible rfl)
  simp only [List.getElem_toArray, List.getElem_cons_zero, List.getElem_cons_succ, Act.put, List.setIfInBounds_toArray, List.set_cons_zero, List.set_cons_succ]
  refine wpAnyH_take (i := 24) (v := ?v100) rfl (by kernel_rfl) (by kernel_rfl) (by kernel_rfl) (fun _ _ _ h => h) (Or.inl ⟨by rfl, ?y100⟩) hHeld ?r100
  case y100 => (intro w hSw; have a0 := (Cs.blk hSw 0 rfl).cell (i := 0) rfl; have a1 := (Cs.blk hSw 0 rfl).cell (i := 1) rfl; have a2 := (Cs.blk hSw 0 rfl).cell (i := 2) rfl; have a3 := (Cs.blk hSw 0 rfl).cell (i := 3) rfl; have b0 := (Cs.blk hSw 1 rfl).cell (i := 0) rfl; have b1 := (Cs.blk hSw 1 rfl).cell (i := 1) rfl; have b2 := (Cs.blk hSw 1 rfl).cell (i := 2) rfl; have b3 := (Cs.blk hSw 1 rfl).cell (i := 3) rfl; have d0 := (Cs.blk hSw 2 rfl).cell (i := 0) rfl; have d1 := (Cs.blk hSw 2 rfl).cell (i := 1) rfl; have d2 := (Cs.blk hSw 2 rfl).cell (i := 2) rfl; have d3 := (Cs.blk hSw 2 rfl).cell (i := 3) rfl; have e0 := (Cs.blk hSw 3 rfl).cell (i := 0) rfl; have e1 := (Cs.blk hSw 3 rfl).cell (i := 1) rfl; have e2 := (Cs.blk hSw 3 rfl).cell (i := 2) rfl; have e3 := (Cs.blk hSw 3 rfl).cell (i := 3) rfl; clear hSw; go_simp; try with_reducible rfl)
  simp only [List.getElem_toArray, List.getElem_cons_zero, List.getElem_cons_succ, Act.put, List.setIfInBounds_toArray, List.set_cons_zero, List.set_cons_succ]
  refine wpAnyH_done (by kernel_rfl) ?_ _
  have H4 := X4
  clear X1 X2 X3 X4 hHeld H3
  have a0 := (H4.out.blk 0 rfl).cell (i := 0) rfl
  have a1 := (H4.out.blk 0 rfl).cell (i := 1) rfl
  have a2 := (H4.out.blk 0 rfl).cell (i := 2) rfl
  have a3 := (H4.out.blk 0 rfl).cell (i := 3) rfl
  go_wp2_with fail
  refine (T0.out _).mono ?_
  rintro e w4 ⟨rfl, hb⟩
  have H5 := Lib.hid ((H4.out.next hb).new (N2 + 1) c G L2)
  clear hb H4 a0 a1 a2 a3
  have a0 := (H5.out.blk 1 rfl).cell (i := 0) rfl
  have a1 := (H5.out.blk 1 rfl).cell (i := 1) rfl
  have a2 := (H5.out.blk 1 rfl).cell (i := 2) rfl
  have a3 := (H5.out.blk 1 rfl).cell (i := 3) rfl
  go_wp2_with fail
  refine (T1.out _).mono ?_
  rintro e w5 ⟨rfl, hb⟩
  have H6 := Lib.hid ((H5.out.next hb).new (N2 + 1) c G L2)
  clear hb H5 a0 a1 a2 a3
  have a0 := (H6.out.blk 2 rfl).cell (i := 0) rfl
  have a1 := (H6.out.blk 2 rfl).cell (i := 1) rfl
  have a2 := (H6.out.blk 2 rfl).cell (i := 2) rfl
  have a3 := (H6.out.blk 2 rfl).cell (i := 3) rfl
  go_wp2_with fail
  refine (T2.out _).mono ?_
  rintro e w6 ⟨rfl, hb⟩
  have H7 := Lib.hid ((H6.out.next hb).new (N2 + 1) c G L2)
  clear hb H6 a0 a1 a2 a3
  have a0 := (H7.out.blk 4 rfl).cell (i := 0) rfl
  have a1 := (H7.out.blk 4 rfl).cell (i := 1) rfl
  have a2 := (H7.out.blk 4 rfl).cell (i := 2) rfl
  have a3 := (H7.out.blk 4 rfl).cell (i := 3) rfl
  have b0 := (H7.out.blk 5 rfl).cell (i := 0) rfl
  have b1 := (H7.out.blk 5 rfl).cell (i := 1) rfl
  have b2 := (H7.out.blk 5 rfl).cell (i := 2) rfl
  have b3 := (H7.out.blk 5 rfl).cell (i := 3) rfl
  have d0 := (H7.out.blk 6 rfl).cell (i := 0) rfl
  have d1 := (H7.out.blk 6 rfl).cell (i := 1) rfl
  have d2 := (H7.out.blk 6 rfl).cell (i := 2) rfl
  have d3 := (H7.out.blk 6 rfl).cell (i := 3) rfl
  go_wp2_with fail
  refine (awake_any _).mono ?_
  rintro e w7 ⟨rfl, hb⟩
  have H8 := Lib.hid (H7.out.next hb)
  clear hb
  go_wp2
  go_ret
  exact ⟨rfl, H8.out.1⟩
end Go.Proofs.Ytkkkicinlghikaa
