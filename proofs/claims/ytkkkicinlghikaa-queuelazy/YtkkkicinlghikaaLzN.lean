/- The walk of the law QueueLazy. -/
import Derived.Test.YtkkkicinlghikaaLzA
namespace Go.Proofs.Ytkkkicinlghikaa
open Go.RowKit

attribute [local go_sem] eql27 neq27
set_option maxRecDepth 100000 in
set_option maxHeartbeats 2000000 in
theorem lazy_N (n c g l a b : Int) (hab : a ≤ b) (h : Rgt n c) (hl : W64 l) (ha : Gen a) (hb : Gen b) (hq : qd n c b = 0) (w : World) : Calls Try.prog 5 #[cu n c g l, .int .u64 a, .int .u64 b] w (Ret (.bool true) w) := by
  have q0 : same4 0 0 0 0 0 0 0 0 = true := rfl
  have HA := Lib.hid (fun w => see_ok n c g l a h hl ha w)
  have HB := Lib.hid (fun w => see_ok n c g l b h hl hb w)
  have hR1 := rgt_lo h ha
  have hR2 := rgt_lo h hb
  have hab' : a ≤ b := by omega
  have e1 : n + lo n c a + lo (n + lo n c a) c b = n + lo n c b := by rw [Int.add_assoc, lo_lo h hab']
  have e2 : u6 (u6 (l + lo n c a) + lo (n + lo n c a) c b) = u6 (l + lo n c b) := by rw [u6_u6, lo_lo h hab']
  have e3 : n + lo n c b + lo (n + lo n c b) c b = n + lo n c b := by rw [lo_end h, Int.add_zero]
  have e4 : u6 (u6 (l + lo n c b) + lo (n + lo n c b) c b) = u6 (l + lo n c b) := by rw [u6_u6, lo_end h, Int.add_zero]
  have q1 : qd (n + lo n c a) c b = qd n c b := qd_lo h hab'
  have q2 : qd (n + lo n c b) c b = qd n c b := qd_lo h (Int.le_refl b)
  have hC := fun w => see_ok (n + lo n c a) c g (u6 (l + lo n c a)) b hR1 (u6_w64 _) hb w
  simp only [e1, e2] at hC
  have HC := Lib.hid hC
  have K0 := Lib.hid (fun w => count_ok n c g l b h hb w)
  have hK1 := fun w => count_ok (n + lo n c a) c g (u6 (l + lo n c a)) b hR1 hb w
  have hK2 := fun w => count_ok (n + lo n c b) c g (u6 (l + lo n c b)) b hR2 hb w
  simp only [q1] at hK1
  simp only [q2] at hK2
  have K1 := Lib.hid hK1
  have K2 := Lib.hid hK2
  have T0 := Lib.hid (fun w => take_none n c g l b h hl hb hq w)
  have T1 := Lib.hid (fun w => take_none (n + lo n c a) c g (u6 (l + lo n c a)) b hR1 (u6_w64 _) hb (q1.trans hq) w)
  have T2 := Lib.hid (fun w => take_none (n + lo n c b) c g (u6 (l + lo n c b)) b hR2 (u6_w64 _) hb (q2.trans hq) w)
  clear hab' hC hK1 hK2 hR1 hR2 e1 e2 e3 e4 q1 q2 h hl ha hb hq
  generalize n + lo n c a = N1 at *
  generalize u6 (l + lo n c a) = L1 at *
  generalize n + lo n c b = N2 at *
  generalize u6 (l + lo n c b) = L2 at *
  generalize qd n c b = q at *
  have q3 : same4 N2 c g L2 N2 c g L2 = true := same4_self _ _ _ _
  have H0 := Lib.hid ((Cs.nil w).new n c g l)
  simp only [List.nil_append] at H0
  have a0 := (H0.out.blk 0 rfl).cell (i := 0) rfl
  have a1 := (H0.out.blk 0 rfl).cell (i := 1) rfl
  have a2 := (H0.out.blk 0 rfl).cell (i := 2) rfl
  have a3 := (H0.out.blk 0 rfl).cell (i := 3) rfl
  go_enter Try.func5, Try.ntmps5
  go_wp2_with fail
  refine (HA.out _).mono ?_
  rintro e w1 ⟨rfl, hb⟩
  have H1 := Lib.hid ((H0.out.next hb).new N1 c g L1)
  clear hb H0 a0 a1 a2 a3
  have a0 := (H1.out.blk 0 rfl).cell (i := 0) rfl
  have a1 := (H1.out.blk 0 rfl).cell (i := 1) rfl
  have a2 := (H1.out.blk 0 rfl).cell (i := 2) rfl
  have a3 := (H1.out.blk 0 rfl).cell (i := 3) rfl
  go_wp2_with fail
  refine (HB.out _).mono ?_
  rintro e w2 ⟨rfl, hb⟩
  have H2 := Lib.hid ((H1.out.next hb).new N2 c g L2)
  clear hb H1 a0 a1 a2 a3
  have a0 := (H2.out.blk 1 rfl).cell (i := 0) rfl
  have a1 := (H2.out.blk 1 rfl).cell (i := 1) rfl
  have a2 := (H2.out.blk 1 rfl).cell (i := 2) rfl
  have a3 := (H2.out.blk 1 rfl).cell (i := 3) rfl
  have b0 := (H2.out.blk 2 rfl).cell (i := 0) rfl
  have b1 := (H2.out.blk 2 rfl).cell (i := 1) rfl
  have b2 := (H2.out.blk 2 rfl).cell (i := 2) rfl
  have b3 := (H2.out.blk 2 rfl).cell (i := 3) rfl
  go_wp2_with fail
  refine (HC.out _).mono ?_
  rintro e w3 ⟨rfl, hb⟩
  have H3 := Lib.hid ((H2.out.next hb).new N2 c g L2)
  clear hb H2 a0 a1 a2 a3 b0 b1 b2 b3
  have H3 := Lib.hid (show Cs w [(w.heap.size, n, c, g, l), (w1.heap.size, N1, c, g, L1), (w2.heap.size, N2, c, g, L2), (w3.heap.size, N2, c, g, L2)] _ from H3.out)
  go_wp2_with fail
  refine wp_region_held_drew (S := Cs w [(w.heap.size, n, c, g, l), (w1.heap.size, N1, c, g, L1), (w2.heap.size, N2, c, g, L2), (w3.heap.size, N2, c, g, L2)]) (by kernel_rfl) (H3.out.drew) (fun hHeld => ?_)
  refine wpAnyH_take (i := 0) (v := ?v1) rfl (by kernel_rfl) (by kernel_rfl) (by kernel_rfl) (fun _ _ _ h => h) (Or.inl ⟨by rfl, ?y1⟩) hHeld ?r1
  case y1 => (intro w hSw; have a0 := (Cs.blk hSw 0 rfl).cell (i := 0) rfl; have a1 := (Cs.blk hSw 0 rfl).cell (i := 1) rfl; have a2 := (Cs.blk hSw 0 rfl).cell (i := 2) rfl; have a3 := (Cs.blk hSw 0 rfl).cell (i := 3) rfl; have b0 := (Cs.blk hSw 1 rfl).cell (i := 0) rfl; have b1 := (Cs.blk hSw 1 rfl).cell (i := 1) rfl; have b2 := (Cs.blk hSw 1 rfl).cell (i := 2) rfl; have b3 := (Cs.blk hSw 1 rfl).cell (i := 3) rfl; have d0 := (Cs.blk hSw 2 rfl).cell (i := 0) rfl; have d1 := (Cs.blk hSw 2 rfl).cell (i := 1) rfl; have d2 := (Cs.blk hSw 2 rfl).cell (i := 2) rfl; have d3 := (Cs.blk hSw 2 rfl).cell (i := 3) rfl; have e0 := (Cs.blk hSw 3 rfl).cell (i := 0) rfl; have e1 := (Cs.blk hSw 3 rfl).cell (i := 1) rfl; have e2 := (Cs.blk hSw 3 rfl).cell (i := 2) rfl; have e3 := (Cs.blk hSw 3 rfl).cell (i := 3) rfl; clear hSw; go_simp; try with_reducible rfl)
  simp only [List.getElem_toArray, List.getElem_cons_zero, Act.put, List.setIfInBounds_toArray, List.set_cons_zero, List.set_cons_succ]
  refine wpAnyH_take (i := 1) (v := ?v2) rfl (by kernel_rfl) (by kernel_rfl) (by kernel_rfl) (fun _ _ _ h => h) (Or.inl ⟨by rfl, ?y2⟩) hHeld ?r2
  case y2 => (intro w hSw; have a0 := (Cs.blk hSw 0 rfl).cell (i := 0) rfl; have a1 := (Cs.blk hSw 0 rfl).cell (i := 1) rfl; have a2 := (Cs.blk hSw 0 rfl).cell (i := 2) rfl; have a3 := (Cs.blk hSw 0 rfl).cell (i := 3) rfl; have b0 := (Cs.blk hSw 1 rfl).cell (i := 0) rfl; have b1 := (Cs.blk hSw 1 rfl).cell (i := 1) rfl; have b2 := (Cs.blk hSw 1 rfl).cell (i := 2) rfl; have b3 := (Cs.blk hSw 1 rfl).cell (i := 3) rfl; have d0 := (Cs.blk hSw 2 rfl).cell (i := 0) rfl; have d1 := (Cs.blk hSw 2 rfl).cell (i := 1) rfl; have d2 := (Cs.blk hSw 2 rfl).cell (i := 2) rfl; have d3 := (Cs.blk hSw 2 rfl).cell (i := 3) rfl; have e0 := (Cs.blk hSw 3 rfl).cell (i := 0) rfl; have e1 := (Cs.blk hSw 3 rfl).cell (i := 1) rfl; have e2 := (Cs.blk hSw 3 rfl).cell (i := 2) rfl; have e3 := (Cs.blk hSw 3 rfl).cell (i := 3) rfl; clear hSw; go_simp; try with_reducible rfl)
  simp only [List.getElem_toArray, List.getElem_cons_zero, List.getElem_cons_succ, Act.put, List.setIfInBounds_toArray, List.set_cons_zero, List.set_cons_succ]
  refine wpAnyH_take (i := 2) (v := ?v3) rfl (by kernel_rfl) (by kernel_rfl) (by kernel_rfl) (fun _ _ _ h => h) (Or.inl ⟨by rfl, ?y3⟩) hHeld ?r3
  case y3 => (intro w hSw; have a0 := (Cs.blk hSw 0 rfl).cell (i := 0) rfl; have a1 := (Cs.blk hSw 0 rfl).cell (i := 1) rfl; have a2 := (Cs.blk hSw 0 rfl).cell (i := 2) rfl; have a3 := (Cs.blk hSw 0 rfl).cell (i := 3) rfl; have b0 := (Cs.blk hSw 1 rfl).cell (i := 0) rfl; have b1 := (Cs.blk hSw 1 rfl).cell (i := 1) rfl; have b2 := (Cs.blk hSw 1 rfl).cell (i := 2) rfl; have b3 := (Cs.blk hSw 1 rfl).cell (i := 3) rfl; have d0 := (Cs.blk hSw 2 rfl).cell (i := 0) rfl; have d1 := (Cs.blk hSw 2 rfl).cell (i := 1) rfl; have d2 := (Cs.blk hSw 2 rfl).cell (i := 2) rfl; have d3 := (Cs.blk hSw 2 rfl).cell (i := 3) rfl; have e0 := (Cs.blk hSw 3 rfl).cell (i := 0) rfl; have e1 := (Cs.blk hSw 3 rfl).cell (i := 1) rfl; have e2 := (Cs.blk hSw 3 rfl).cell (i := 2) rfl; have e3 := (Cs.blk hSw 3 rfl).cell (i := 3) rfl; clear hSw; go_simp; try with_reducible rfl)
  simp only [List.getElem_toArray, List.getElem_cons_zero, List.getElem_cons_succ, Act.put, List.setIfInBounds_toArray, List.set_cons_zero, List.set_cons_succ]
  refine wpAnyH_take (i := 3) (v := ?v4) rfl (by kernel_rfl) (by kernel_rfl) (by kernel_rfl) (fun _ _ _ h => h) (Or.inl ⟨by rfl, ?y4⟩) hHeld ?r4
  case y4 => (intro w hSw; have a0 := (Cs.blk hSw 0 rfl).cell (i := 0) rfl; have a1 := (Cs.blk hSw 0 rfl).cell (i := 1) rfl; have a2 := (Cs.blk hSw 0 rfl).cell (i := 2) rfl; have a3 := (Cs.blk hSw 0 rfl).cell (i := 3) rfl; have b0 := (Cs.blk hSw 1 rfl).cell (i := 0) rfl; have b1 := (Cs.blk hSw 1 rfl).cell (i := 1) rfl; have b2 := (Cs.blk hSw 1 rfl).cell (i := 2) rfl; have b3 := (Cs.blk hSw 1 rfl).cell (i := 3) rfl; have d0 := (Cs.blk hSw 2 rfl).cell (i := 0) rfl; have d1 := (Cs.blk hSw 2 rfl).cell (i := 1) rfl; have d2 := (Cs.blk hSw 2 rfl).cell (i := 2) rfl; have d3 := (Cs.blk hSw 2 rfl).cell (i := 3) rfl; have e0 := (Cs.blk hSw 3 rfl).cell (i := 0) rfl; have e1 := (Cs.blk hSw 3 rfl).cell (i := 1) rfl; have e2 := (Cs.blk hSw 3 rfl).cell (i := 2) rfl; have e3 := (Cs.blk hSw 3 rfl).cell (i := 3) rfl; clear hSw; go_simp; try with_reducible rfl)
  simp only [List.getElem_toArray, List.getElem_cons_zero, List.getElem_cons_succ, Act.put, List.setIfInBounds_toArray, List.set_cons_zero, List.set_cons_succ]
  refine wpAnyH_take (i := 4) (v := ?v5) rfl (by kernel_rfl) (by kernel_rfl) (by kernel_rfl) (fun _ _ _ h => h) (Or.inl ⟨by rfl, ?y5⟩) hHeld ?r5
  case y5 => (intro w hSw; have a0 := (Cs.blk hSw 0 rfl).cell (i := 0) rfl; have a1 := (Cs.blk hSw 0 rfl).cell (i := 1) rfl; have a2 := (Cs.blk hSw 0 rfl).cell (i := 2) rfl; have a3 := (Cs.blk hSw 0 rfl).cell (i := 3) rfl; have b0 := (Cs.blk hSw 1 rfl).cell (i := 0) rfl; have b1 := (Cs.blk hSw 1 rfl).cell (i := 1) rfl; have b2 := (Cs.blk hSw 1 rfl).cell (i := 2) rfl; have b3 := (Cs.blk hSw 1 rfl).cell (i := 3) rfl; have d0 := (Cs.blk hSw 2 rfl).cell (i := 0) rfl; have d1 := (Cs.blk hSw 2 rfl).cell (i := 1) rfl; have d2 := (Cs.blk hSw 2 rfl).cell (i := 2) rfl; have d3 := (Cs.blk hSw 2 rfl).cell (i := 3) rfl; have e0 := (Cs.blk hSw 3 rfl).cell (i := 0) rfl; have e1 := (Cs.blk hSw 3 rfl).cell (i := 1) rfl; have e2 := (Cs.blk hSw 3 rfl).cell (i := 2) rfl; have e3 := (Cs.blk hSw 3 rfl).cell (i := 3) rfl; clear hSw; go_simp; try with_reducible rfl)
  simp only [List.getElem_toArray, List.getElem_cons_zero, List.getElem_cons_succ, Act.put, List.setIfInBounds_toArray, List.set_cons_zero, List.set_cons_succ]
  refine wpAnyH_take (i := 5) (v := ?v6) rfl (by kernel_rfl) (by kernel_rfl) (by kernel_rfl) (fun _ _ _ h => h) (Or.inl ⟨by rfl, ?y6⟩) hHeld ?r6
  case y6 => (intro w hSw; have a0 := (Cs.blk hSw 0 rfl).cell (i := 0) rfl; have a1 := (Cs.blk hSw 0 rfl).cell (i := 1) rfl; have a2 := (Cs.blk hSw 0 rfl).cell (i := 2) rfl; have a3 := (Cs.blk hSw 0 rfl).cell (i := 3) rfl; have b0 := (Cs.blk hSw 1 rfl).cell (i := 0) rfl; have b1 := (Cs.blk hSw 1 rfl).cell (i := 1) rfl; have b2 := (Cs.blk hSw 1 rfl).cell (i := 2) rfl; have b3 := (Cs.blk hSw 1 rfl).cell (i := 3) rfl; have d0 := (Cs.blk hSw 2 rfl).cell (i := 0) rfl; have d1 := (Cs.blk hSw 2 rfl).cell (i := 1) rfl; have d2 := (Cs.blk hSw 2 rfl).cell (i := 2) rfl; have d3 := (Cs.blk hSw 2 rfl).cell (i := 3) rfl; have e0 := (Cs.blk hSw 3 rfl).cell (i := 0) rfl; have e1 := (Cs.blk hSw 3 rfl).cell (i := 1) rfl; have e2 := (Cs.blk hSw 3 rfl).cell (i := 2) rfl; have e3 := (Cs.blk hSw 3 rfl).cell (i := 3) rfl; clear hSw; go_simp; try with_reducible rfl)
  simp only [List.getElem_toArray, List.getElem_cons_zero, List.getElem_cons_succ, Act.put, List.setIfInBounds_toArray, List.set_cons_zero, List.set_cons_succ]
  refine wpAnyH_take (i := 6) (v := ?v7) rfl (by kernel_rfl) (by kernel_rfl) (by kernel_rfl) (fun _ _ _ h => h) (Or.inl ⟨by rfl, ?y7⟩) hHeld ?r7
  case y7 => (intro w hSw; have a0 := (Cs.blk hSw 0 rfl).cell (i := 0) rfl; have a1 := (Cs.blk hSw 0 rfl).cell (i := 1) rfl; have a2 := (Cs.blk hSw 0 rfl).cell (i := 2) rfl; have a3 := (Cs.blk hSw 0 rfl).cell (i := 3) rfl; have b0 := (Cs.blk hSw 1 rfl).cell (i := 0) rfl; have b1 := (Cs.blk hSw 1 rfl).cell (i := 1) rfl; have b2 := (Cs.blk hSw 1 rfl).cell (i := 2) rfl; have b3 := (Cs.blk hSw 1 rfl).cell (i := 3) rfl; have d0 := (Cs.blk hSw 2 rfl).cell (i := 0) rfl; have d1 := (Cs.blk hSw 2 rfl).cell (i := 1) rfl; have d2 := (Cs.blk hSw 2 rfl).cell (i := 2) rfl; have d3 := (Cs.blk hSw 2 rfl).cell (i := 3) rfl; have e0 := (Cs.blk hSw 3 rfl).cell (i := 0) rfl; have e1 := (Cs.blk hSw 3 rfl).cell (i := 1) rfl; have e2 := (Cs.blk hSw 3 rfl).cell (i := 2) rfl; have e3 := (Cs.blk hSw 3 rfl).cell (i := 3) rfl; clear hSw; go_simp; try with_reducible rfl)
  simp only [List.getElem_toArray, List.getElem_cons_zero, List.getElem_cons_succ, Act.put, List.setIfInBounds_toArray, List.set_cons_zero, List.set_cons_succ]
  refine wpAnyH_take (i := 7) (v := ?v8) rfl (by kernel_rfl) (by kernel_rfl) (by kernel_rfl) (fun _ _ _ h => h) (Or.inl ⟨by rfl, ?y8⟩) hHeld ?r8
  case y8 => (intro w hSw; have a0 := (Cs.blk hSw 0 rfl).cell (i := 0) rfl; have a1 := (Cs.blk hSw 0 rfl).cell (i := 1) rfl; have a2 := (Cs.blk hSw 0 rfl).cell (i := 2) rfl; have a3 := (Cs.blk hSw 0 rfl).cell (i := 3) rfl; have b0 := (Cs.blk hSw 1 rfl).cell (i := 0) rfl; have b1 := (Cs.blk hSw 1 rfl).cell (i := 1) rfl; have b2 := (Cs.blk hSw 1 rfl).cell (i := 2) rfl; have b3 := (Cs.blk hSw 1 rfl).cell (i := 3) rfl; have d0 := (Cs.blk hSw 2 rfl).cell (i := 0) rfl; have d1 := (Cs.blk hSw 2 rfl).cell (i := 1) rfl; have d2 := (Cs.blk hSw 2 rfl).cell (i := 2) rfl; have d3 := (Cs.blk hSw 2 rfl).cell (i := 3) rfl; have e0 := (Cs.blk hSw 3 rfl).cell (i := 0) rfl; have e1 := (Cs.blk hSw 3 rfl).cell (i := 1) rfl; have e2 := (Cs.blk hSw 3 rfl).cell (i := 2) rfl; have e3 := (Cs.blk hSw 3 rfl).cell (i := 3) rfl; clear hSw; go_simp; try with_reducible rfl)
  simp only [List.getElem_toArray, List.getElem_cons_zero, List.getElem_cons_succ, Act.put, List.setIfInBounds_toArray, List.set_cons_zero, List.set_cons_succ]
  refine wpAnyH_take (i := 8) (v := ?v9) rfl (by kernel_rfl) (by kernel_rfl) (by kernel_rfl) (fun _ _ _ h => h) (Or.inl ⟨by rfl, ?y9⟩) hHeld ?r9
  case y9 => (intro w hSw; have a0 := (Cs.blk hSw 0 rfl).cell (i := 0) rfl; have a1 := (Cs.blk hSw 0 rfl).cell (i := 1) rfl; have a2 := (Cs.blk hSw 0 rfl).cell (i := 2) rfl; have a3 := (Cs.blk hSw 0 rfl).cell (i := 3) rfl; have b0 := (Cs.blk hSw 1 rfl).cell (i := 0) rfl; have b1 := (Cs.blk hSw 1 rfl).cell (i := 1) rfl; have b2 := (Cs.blk hSw 1 rfl).cell (i := 2) rfl; have b3 := (Cs.blk hSw 1 rfl).cell (i := 3) rfl; have d0 := (Cs.blk hSw 2 rfl).cell (i := 0) rfl; have d1 := (Cs.blk hSw 2 rfl).cell (i := 1) rfl; have d2 := (Cs.blk hSw 2 rfl).cell (i := 2) rfl; have d3 := (Cs.blk hSw 2 rfl).cell (i := 3) rfl; have e0 := (Cs.blk hSw 3 rfl).cell (i := 0) rfl; have e1 := (Cs.blk hSw 3 rfl).cell (i := 1) rfl; have e2 := (Cs.blk hSw 3 rfl).cell (i := 2) rfl; have e3 := (Cs.blk hSw 3 rfl).cell (i := 3) rfl; clear hSw; go_simp; try with_reducible rfl)
  simp only [List.getElem_toArray, List.getElem_cons_zero, List.getElem_cons_succ, Act.put, List.setIfInBounds_toArray, List.set_cons_zero, List.set_cons_succ]
  refine wpAnyH_take (i := 9) (v := ?v10) rfl (by kernel_rfl) (by kernel_rfl) (by kernel_rfl) (fun _ _ _ h => h) (Or.inl ⟨by rfl, ?y10⟩) hHeld ?r10
  case y10 => (intro w hSw; have a0 := (Cs.blk hSw 0 rfl).cell (i := 0) rfl; have a1 := (Cs.blk hSw 0 rfl).cell (i := 1) rfl; have a2 := (Cs.blk hSw 0 rfl).cell (i := 2) rfl; have a3 := (Cs.blk hSw 0 rfl).cell (i := 3) rfl; have b0 := (Cs.blk hSw 1 rfl).cell (i := 0) rfl; have b1 := (Cs.blk hSw 1 rfl).cell (i := 1) rfl; have b2 := (Cs.blk hSw 1 rfl).cell (i := 2) rfl; have b3 := (Cs.blk hSw 1 rfl).cell (i := 3) rfl; have d0 := (Cs.blk hSw 2 rfl).cell (i := 0) rfl; have d1 := (Cs.blk hSw 2 rfl).cell (i := 1) rfl; have d2 := (Cs.blk hSw 2 rfl).cell (i := 2) rfl; have d3 := (Cs.blk hSw 2 rfl).cell (i := 3) rfl; have e0 := (Cs.blk hSw 3 rfl).cell (i := 0) rfl; have e1 := (Cs.blk hSw 3 rfl).cell (i := 1) rfl; have e2 := (Cs.blk hSw 3 rfl).cell (i := 2) rfl; have e3 := (Cs.blk hSw 3 rfl).cell (i := 3) rfl; clear hSw; go_simp; try with_reducible rfl)
  simp only [List.getElem_toArray, List.getElem_cons_zero, List.getElem_cons_succ, Act.put, List.setIfInBounds_toArray, List.set_cons_zero, List.set_cons_succ]
  refine wpAnyH_take (i := 11) (v := ?v11) rfl (by kernel_rfl) (by kernel_rfl) (by kernel_rfl) (fun _ _ _ h => h) (Or.inl ⟨by rfl, ?y11⟩) hHeld ?r11
  case y11 => (intro w hSw; have a0 := (Cs.blk hSw 0 rfl).cell (i := 0) rfl; have a1 := (Cs.blk hSw 0 rfl).cell (i := 1) rfl; have a2 := (Cs.blk hSw 0 rfl).cell (i := 2) rfl; have a3 := (Cs.blk hSw 0 rfl).cell (i := 3) rfl; have b0 := (Cs.blk hSw 1 rfl).cell (i := 0) rfl; have b1 := (Cs.blk hSw 1 rfl).cell (i := 1) rfl; have b2 := (Cs.blk hSw 1 rfl).cell (i := 2) rfl; have b3 := (Cs.blk hSw 1 rfl).cell (i := 3) rfl; have d0 := (Cs.blk hSw 2 rfl).cell (i := 0) rfl; have d1 := (Cs.blk hSw 2 rfl).cell (i := 1) rfl; have d2 := (Cs.blk hSw 2 rfl).cell (i := 2) rfl; have d3 := (Cs.blk hSw 2 rfl).cell (i := 3) rfl; have e0 := (Cs.blk hSw 3 rfl).cell (i := 0) rfl; have e1 := (Cs.blk hSw 3 rfl).cell (i := 1) rfl; have e2 := (Cs.blk hSw 3 rfl).cell (i := 2) rfl; have e3 := (Cs.blk hSw 3 rfl).cell (i := 3) rfl; clear hSw; go_simp; try with_reducible rfl)
  simp only [List.getElem_toArray, List.getElem_cons_zero, List.getElem_cons_succ, Act.put, List.setIfInBounds_toArray, List.set_cons_zero, List.set_cons_succ]
  refine wpAnyH_take (i := 12) (v := ?v12) rfl (by kernel_rfl) (by kernel_rfl) (by kernel_rfl) (fun _ _ _ h => h) (Or.inl ⟨by rfl, ?y12⟩) hHeld ?r12
  case y12 => (intro w hSw; have a0 := (Cs.blk hSw 0 rfl).cell (i := 0) rfl; have a1 := (Cs.blk hSw 0 rfl).cell (i := 1) rfl; have a2 := (Cs.blk hSw 0 rfl).cell (i := 2) rfl; have a3 := (Cs.blk hSw 0 rfl).cell (i := 3) rfl; have b0 := (Cs.blk hSw 1 rfl).cell (i := 0) rfl; have b1 := (Cs.blk hSw 1 rfl).cell (i := 1) rfl; have b2 := (Cs.blk hSw 1 rfl).cell (i := 2) rfl; have b3 := (Cs.blk hSw 1 rfl).cell (i := 3) rfl; have d0 := (Cs.blk hSw 2 rfl).cell (i := 0) rfl; have d1 := (Cs.blk hSw 2 rfl).cell (i := 1) rfl; have d2 := (Cs.blk hSw 2 rfl).cell (i := 2) rfl; have d3 := (Cs.blk hSw 2 rfl).cell (i := 3) rfl; have e0 := (Cs.blk hSw 3 rfl).cell (i := 0) rfl; have e1 := (Cs.blk hSw 3 rfl).cell (i := 1) rfl; have e2 := (Cs.blk hSw 3 rfl).cell (i := 2) rfl; have e3 := (Cs.blk hSw 3 rfl).cell (i := 3) rfl; clear hSw; go_simp; try with_reducible rfl)
  simp only [List.getElem_toArray, List.getElem_cons_zero, List.getElem_cons_succ, Act.put, List.setIfInBounds_toArray, List.set_cons_zero, List.set_cons_succ]
  refine wpAnyH_ready (rs := [10]) (by kernel_rfl) (by simp) (AllReadyH.cons rfl (fun K hK => ?_) AllReadyH.nil)
  go_simp
  refine (K1.out _).mono ?_
  rintro e x1 ⟨rfl, hb⟩
  have X1 := Lib.hid (hHeld.next hb)
  clear hb
  go_wp2_with fail
  refine hK.out _ _ (X1.out) (fun hHeld => ?_)
  clear hK K
  refine wpAnyH_ready (rs := [13]) (by kernel_rfl) (by simp) (AllReadyH.cons rfl (fun K hK => ?_) AllReadyH.nil)
  go_simp
  refine (K0.out _).mono ?_
  rintro e x2 ⟨rfl, hb⟩
  have X2 := Lib.hid (hHeld.next hb)
  clear hb
  go_wp2_with fail
  refine hK.out _ _ (X2.out) (fun hHeld => ?_)
  clear hK K
  refine wpAnyH_take (i := 14) (v := ?v15) rfl (by kernel_rfl) (by kernel_rfl) (by kernel_rfl) (fun _ _ _ h => h) (Or.inl ⟨by rfl, ?y15⟩) hHeld ?r15
  case y15 => (intro w hSw; have a0 := (Cs.blk hSw 0 rfl).cell (i := 0) rfl; have a1 := (Cs.blk hSw 0 rfl).cell (i := 1) rfl; have a2 := (Cs.blk hSw 0 rfl).cell (i := 2) rfl; have a3 := (Cs.blk hSw 0 rfl).cell (i := 3) rfl; have b0 := (Cs.blk hSw 1 rfl).cell (i := 0) rfl; have b1 := (Cs.blk hSw 1 rfl).cell (i := 1) rfl; have b2 := (Cs.blk hSw 1 rfl).cell (i := 2) rfl; have b3 := (Cs.blk hSw 1 rfl).cell (i := 3) rfl; have d0 := (Cs.blk hSw 2 rfl).cell (i := 0) rfl; have d1 := (Cs.blk hSw 2 rfl).cell (i := 1) rfl; have d2 := (Cs.blk hSw 2 rfl).cell (i := 2) rfl; have d3 := (Cs.blk hSw 2 rfl).cell (i := 3) rfl; have e0 := (Cs.blk hSw 3 rfl).cell (i := 0) rfl; have e1 := (Cs.blk hSw 3 rfl).cell (i := 1) rfl; have e2 := (Cs.blk hSw 3 rfl).cell (i := 2) rfl; have e3 := (Cs.blk hSw 3 rfl).cell (i := 3) rfl; clear hSw; go_simp; try with_reducible rfl)
  simp only [List.getElem_toArray, List.getElem_cons_zero, List.getElem_cons_succ, Act.put, List.setIfInBounds_toArray, List.set_cons_zero, List.set_cons_succ]
  refine wpAnyH_take (i := 15) (v := ?v16) rfl (by kernel_rfl) (by kernel_rfl) (by kernel_rfl) (fun _ _ _ h => h) (Or.inl ⟨by rfl, ?y16⟩) hHeld ?r16
  case y16 => (intro w hSw; have a0 := (Cs.blk hSw 0 rfl).cell (i := 0) rfl; have a1 := (Cs.blk hSw 0 rfl).cell (i := 1) rfl; have a2 := (Cs.blk hSw 0 rfl).cell (i := 2) rfl; have a3 := (Cs.blk hSw 0 rfl).cell (i := 3) rfl; have b0 := (Cs.blk hSw 1 rfl).cell (i := 0) rfl; have b1 := (Cs.blk hSw 1 rfl).cell (i := 1) rfl; have b2 := (Cs.blk hSw 1 rfl).cell (i := 2) rfl; have b3 := (Cs.blk hSw 1 rfl).cell (i := 3) rfl; have d0 := (Cs.blk hSw 2 rfl).cell (i := 0) rfl; have d1 := (Cs.blk hSw 2 rfl).cell (i := 1) rfl; have d2 := (Cs.blk hSw 2 rfl).cell (i := 2) rfl; have d3 := (Cs.blk hSw 2 rfl).cell (i := 3) rfl; have e0 := (Cs.blk hSw 3 rfl).cell (i := 0) rfl; have e1 := (Cs.blk hSw 3 rfl).cell (i := 1) rfl; have e2 := (Cs.blk hSw 3 rfl).cell (i := 2) rfl; have e3 := (Cs.blk hSw 3 rfl).cell (i := 3) rfl; clear hSw; go_simp; try with_reducible rfl)
  simp only [List.getElem_toArray, List.getElem_cons_zero, List.getElem_cons_succ, Act.put, List.setIfInBounds_toArray, List.set_cons_zero, List.set_cons_succ]
  refine wpAnyH_take (i := 16) (v := ?v17) rfl (by kernel_rfl) (by kernel_rfl) (by kernel_rfl) (fun _ _ _ h => h) (Or.inl ⟨by rfl, ?y17⟩) hHeld ?r17
  case y17 => (intro w hSw; have a0 := (Cs.blk hSw 0 rfl).cell (i := 0) rfl; have a1 := (Cs.blk hSw 0 rfl).cell (i := 1) rfl; have a2 := (Cs.blk hSw 0 rfl).cell (i := 2) rfl; have a3 := (Cs.blk hSw 0 rfl).cell (i := 3) rfl; have b0 := (Cs.blk hSw 1 rfl).cell (i := 0) rfl; have b1 := (Cs.blk hSw 1 rfl).cell (i := 1) rfl; have b2 := (Cs.blk hSw 1 rfl).cell (i := 2) rfl; have b3 := (Cs.blk hSw 1 rfl).cell (i := 3) rfl; have d0 := (Cs.blk hSw 2 rfl).cell (i := 0) rfl; have d1 := (Cs.blk hSw 2 rfl).cell (i := 1) rfl; have d2 := (Cs.blk hSw 2 rfl).cell (i := 2) rfl; have d3 := (Cs.blk hSw 2 rfl).cell (i := 3) rfl; have e0 := (Cs.blk hSw 3 rfl).cell (i := 0) rfl; have e1 := (Cs.blk hSw 3 rfl).cell (i := 1) rfl; have e2 := (Cs.blk hSw 3 rfl).cell (i := 2) rfl; have e3 := (Cs.blk hSw 3 rfl).cell (i := 3) rfl; clear hSw; go_simp; try with_reducible rfl)
  simp only [List.getElem_toArray, List.getElem_cons_zero, List.getElem_cons_succ, Act.put, List.setIfInBounds_toArray, List.set_cons_zero, List.set_cons_succ]
  refine wpAnyH_take (i := 17) (v := ?v18) rfl (by kernel_rfl) (by kernel_rfl) (by kernel_rfl) (fun _ _ _ h => h) (Or.inl ⟨by rfl, ?y18⟩) hHeld ?r18
  case y18 => (intro w hSw; have a0 := (Cs.blk hSw 0 rfl).cell (i := 0) rfl; have a1 := (Cs.blk hSw 0 rfl).cell (i := 1) rfl; have a2 := (Cs.blk hSw 0 rfl).cell (i := 2) rfl; have a3 := (Cs.blk hSw 0 rfl).cell (i := 3) rfl; have b0 := (Cs.blk hSw 1 rfl).cell (i := 0) rfl; have b1 := (Cs.blk hSw 1 rfl).cell (i := 1) rfl; have b2 := (Cs.blk hSw 1 rfl).cell (i := 2) rfl; have b3 := (Cs.blk hSw 1 rfl).cell (i := 3) rfl; have d0 := (Cs.blk hSw 2 rfl).cell (i := 0) rfl; have d1 := (Cs.blk hSw 2 rfl).cell (i := 1) rfl; have d2 := (Cs.blk hSw 2 rfl).cell (i := 2) rfl; have d3 := (Cs.blk hSw 2 rfl).cell (i := 3) rfl; have e0 := (Cs.blk hSw 3 rfl).cell (i := 0) rfl; have e1 := (Cs.blk hSw 3 rfl).cell (i := 1) rfl; have e2 := (Cs.blk hSw 3 rfl).cell (i := 2) rfl; have e3 := (Cs.blk hSw 3 rfl).cell (i := 3) rfl; clear hSw; go_simp; try with_reducible rfl)
  simp only [List.getElem_toArray, List.getElem_cons_zero, List.getElem_cons_succ, Act.put, List.setIfInBounds_toArray, List.set_cons_zero, List.set_cons_succ]
  refine wpAnyH_take (i := 18) (v := ?v19) rfl (by kernel_rfl) (by kernel_rfl) (by kernel_rfl) (fun _ _ _ h => h) (Or.inl ⟨by rfl, ?y19⟩) hHeld ?r19
  case y19 => (intro w hSw; have a0 := (Cs.blk hSw 0 rfl).cell (i := 0) rfl; have a1 := (Cs.blk hSw 0 rfl).cell (i := 1) rfl; have a2 := (Cs.blk hSw 0 rfl).cell (i := 2) rfl; have a3 := (Cs.blk hSw 0 rfl).cell (i := 3) rfl; have b0 := (Cs.blk hSw 1 rfl).cell (i := 0) rfl; have b1 := (Cs.blk hSw 1 rfl).cell (i := 1) rfl; have b2 := (Cs.blk hSw 1 rfl).cell (i := 2) rfl; have b3 := (Cs.blk hSw 1 rfl).cell (i := 3) rfl; have d0 := (Cs.blk hSw 2 rfl).cell (i := 0) rfl; have d1 := (Cs.blk hSw 2 rfl).cell (i := 1) rfl; have d2 := (Cs.blk hSw 2 rfl).cell (i := 2) rfl; have d3 := (Cs.blk hSw 2 rfl).cell (i := 3) rfl; have e0 := (Cs.blk hSw 3 rfl).cell (i := 0) rfl; have e1 := (Cs.blk hSw 3 rfl).cell (i := 1) rfl; have e2 := (Cs.blk hSw 3 rfl).cell (i := 2) rfl; have e3 := (Cs.blk hSw 3 rfl).cell (i := 3) rfl; clear hSw; go_simp; try with_reducible rfl)
  simp only [List.getElem_toArray, List.getElem_cons_zero, List.getElem_cons_succ, Act.put, List.setIfInBounds_toArray, List.set_cons_zero, List.set_cons_succ]
  refine wpAnyH_take (i := 20) (v := ?v20) rfl (by kernel_rfl) (by kernel_rfl) (by kernel_rfl) (fun _ _ _ h => h) (Or.inl ⟨by rfl, ?y20⟩) hHeld ?r20
  case y20 => (intro w hSw; have a0 := (Cs.blk hSw 0 rfl).cell (i := 0) rfl; have a1 := (Cs.blk hSw 0 rfl).cell (i := 1) rfl; have a2 := (Cs.blk hSw 0 rfl).cell (i := 2) rfl; have a3 := (Cs.blk hSw 0 rfl).cell (i := 3) rfl; have b0 := (Cs.blk hSw 1 rfl).cell (i := 0) rfl; have b1 := (Cs.blk hSw 1 rfl).cell (i := 1) rfl; have b2 := (Cs.blk hSw 1 rfl).cell (i := 2) rfl; have b3 := (Cs.blk hSw 1 rfl).cell (i := 3) rfl; have d0 := (Cs.blk hSw 2 rfl).cell (i := 0) rfl; have d1 := (Cs.blk hSw 2 rfl).cell (i := 1) rfl; have d2 := (Cs.blk hSw 2 rfl).cell (i := 2) rfl; have d3 := (Cs.blk hSw 2 rfl).cell (i := 3) rfl; have e0 := (Cs.blk hSw 3 rfl).cell (i := 0) rfl; have e1 := (Cs.blk hSw 3 rfl).cell (i := 1) rfl; have e2 := (Cs.blk hSw 3 rfl).cell (i := 2) rfl; have e3 := (Cs.blk hSw 3 rfl).cell (i := 3) rfl; clear hSw; go_simp; try with_reducible rfl)
  simp only [List.getElem_toArray, List.getElem_cons_zero, List.getElem_cons_succ, Act.put, List.setIfInBounds_toArray, List.set_cons_zero, List.set_cons_succ]
  refine wpAnyH_take (i := 21) (v := ?v21) rfl (by kernel_rfl) (by kernel_rfl) (by kernel_rfl) (fun _ _ _ h => h) (Or.inl ⟨by rfl, ?y21⟩) hHeld ?r21
  case y21 => (intro w hSw; have a0 := (Cs.blk hSw 0 rfl).cell (i := 0) rfl; have a1 := (Cs.blk hSw 0 rfl).cell (i := 1) rfl; have a2 := (Cs.blk hSw 0 rfl).cell (i := 2) rfl; have a3 := (Cs.blk hSw 0 rfl).cell (i := 3) rfl; have b0 := (Cs.blk hSw 1 rfl).cell (i := 0) rfl; have b1 := (Cs.blk hSw 1 rfl).cell (i := 1) rfl; have b2 := (Cs.blk hSw 1 rfl).cell (i := 2) rfl; have b3 := (Cs.blk hSw 1 rfl).cell (i := 3) rfl; have d0 := (Cs.blk hSw 2 rfl).cell (i := 0) rfl; have d1 := (Cs.blk hSw 2 rfl).cell (i := 1) rfl; have d2 := (Cs.blk hSw 2 rfl).cell (i := 2) rfl; have d3 := (Cs.blk hSw 2 rfl).cell (i := 3) rfl; have e0 := (Cs.blk hSw 3 rfl).cell (i := 0) rfl; have e1 := (Cs.blk hSw 3 rfl).cell (i := 1) rfl; have e2 := (Cs.blk hSw 3 rfl).cell (i := 2) rfl; have e3 := (Cs.blk hSw 3 rfl).cell (i := 3) rfl; clear hSw; go_simp; try with_reducible rfl)
  simp only [List.getElem_toArray, List.getElem_cons_zero, List.getElem_cons_succ, Act.put, List.setIfInBounds_toArray, List.set_cons_zero, List.set_cons_succ]
  refine wpAnyH_ready (rs := [19]) (by kernel_rfl) (by simp) (AllReadyH.cons rfl (fun K hK => ?_) AllReadyH.nil)
  go_simp
  refine (K2.out _).mono ?_
  rintro e x3 ⟨rfl, hb⟩
  have X3 := Lib.hid (hHeld.next hb)
  clear hb
  go_wp2_with fail
  refine hK.out _ _ (X3.out) (fun hHeld => ?_)
  clear hK K
  refine wpAnyH_ready (rs := [22]) (by kernel_rfl) (by simp) (AllReadyH.cons rfl (fun K hK => ?_) AllReadyH.nil)
  go_simp
  refine (K0.out _).mono ?_
  rintro e x4 ⟨rfl, hb⟩
  have X4 := Lib.hid (hHeld.next hb)
  clear hb
  go_wp2_with fail
  refine hK.out _ _ (X4.out) (fun hHeld => ?_)
  clear hK K
  refine wpAnyH_take (i := 23) (v := ?v24) rfl (by kernel_rfl) (by kernel_rfl) (by kernel_rfl) (fun _ _ _ h => h) (Or.inl ⟨by rfl, ?y24⟩) hHeld ?r24
  case y24 => (intro w hSw; have a0 := (Cs.blk hSw 0 rfl).cell (i := 0) rfl; have a1 := (Cs.blk hSw 0 rfl).cell (i := 1) rfl; have a2 := (Cs.blk hSw 0 rfl).cell (i := 2) rfl; have a3 := (Cs.blk hSw 0 rfl).cell (i := 3) rfl; have b0 := (Cs.blk hSw 1 rfl).cell (i := 0) rfl; have b1 := (Cs.blk hSw 1 rfl).cell (i := 1) rfl; have b2 := (Cs.blk hSw 1 rfl).cell (i := 2) rfl; have b3 := (Cs.blk hSw 1 rfl).cell (i := 3) rfl; have d0 := (Cs.blk hSw 2 rfl).cell (i := 0) rfl; have d1 := (Cs.blk hSw 2 rfl).cell (i := 1) rfl; have d2 := (Cs.blk hSw 2 rfl).cell (i := 2) rfl; have d3 := (Cs.blk hSw 2 rfl).cell (i := 3) rfl; have e0 := (Cs.blk hSw 3 rfl).cell (i := 0) rfl; have e1 := (Cs.blk hSw 3 rfl).cell (i := 1) rfl; have e2 := (Cs.blk hSw 3 rfl).cell (i := 2) rfl; have e3 := (Cs.blk hSw 3 rfl).cell (i := 3) rfl; clear hSw; go_simp; try with_reducible rfl)
  simp only [List.getElem_toArray, List.getElem_cons_zero, List.getElem_cons_succ, Act.put, List.setIfInBounds_toArray, List.set_cons_zero, List.set_cons_succ]
  refine wpAnyH_take (i := 24) (v := ?v25) rfl (by kernel_rfl) (by kernel_rfl) (by kernel_rfl) (fun _ _ _ h => h) (Or.inl ⟨by rfl, ?y25⟩) hHeld ?r25
  case y25 => (intro w hSw; have a0 := (Cs.blk hSw 0 rfl).cell (i := 0) rfl; have a1 := (Cs.blk hSw 0 rfl).cell (i := 1) rfl; have a2 := (Cs.blk hSw 0 rfl).cell (i := 2) rfl; have a3 := (Cs.blk hSw 0 rfl).cell (i := 3) rfl; have b0 := (Cs.blk hSw 1 rfl).cell (i := 0) rfl; have b1 := (Cs.blk hSw 1 rfl).cell (i := 1) rfl; have b2 := (Cs.blk hSw 1 rfl).cell (i := 2) rfl; have b3 := (Cs.blk hSw 1 rfl).cell (i := 3) rfl; have d0 := (Cs.blk hSw 2 rfl).cell (i := 0) rfl; have d1 := (Cs.blk hSw 2 rfl).cell (i := 1) rfl; have d2 := (Cs.blk hSw 2 rfl).cell (i := 2) rfl; have d3 := (Cs.blk hSw 2 rfl).cell (i := 3) rfl; have e0 := (Cs.blk hSw 3 rfl).cell (i := 0) rfl; have e1 := (Cs.blk hSw 3 rfl).cell (i := 1) rfl; have e2 := (Cs.blk hSw 3 rfl).cell (i := 2) rfl; have e3 := (Cs.blk hSw 3 rfl).cell (i := 3) rfl; clear hSw; go_simp; try with_reducible rfl)
  simp only [List.getElem_toArray, List.getElem_cons_zero, List.getElem_cons_succ, Act.put, List.setIfInBounds_toArray, List.set_cons_zero, List.set_cons_succ]
  refine wpAnyH_done (by kernel_rfl) ?_ _
  have H4 := X4
  clear X1 X2 X3 X4 hHeld H3
  have a0 := (H4.out.blk 0 rfl).cell (i := 0) rfl
  have a1 := (H4.out.blk 0 rfl).cell (i := 1) rfl
  have a2 := (H4.out.blk 0 rfl).cell (i := 2) rfl
  have a3 := (H4.out.blk 0 rfl).cell (i := 3) rfl
  go_wp2_with fail
  refine (T0.out _).mono ?_
  rintro e w4 ⟨rfl, hb⟩
  have H5 := Lib.hid ((H4.out.next hb).new 0 0 0 0)
  clear hb H4 a0 a1 a2 a3
  have a0 := (H5.out.blk 1 rfl).cell (i := 0) rfl
  have a1 := (H5.out.blk 1 rfl).cell (i := 1) rfl
  have a2 := (H5.out.blk 1 rfl).cell (i := 2) rfl
  have a3 := (H5.out.blk 1 rfl).cell (i := 3) rfl
  go_wp2_with fail
  refine (T1.out _).mono ?_
  rintro e w5 ⟨rfl, hb⟩
  have H6 := Lib.hid ((H5.out.next hb).new 0 0 0 0)
  clear hb H5 a0 a1 a2 a3
  have a0 := (H6.out.blk 2 rfl).cell (i := 0) rfl
  have a1 := (H6.out.blk 2 rfl).cell (i := 1) rfl
  have a2 := (H6.out.blk 2 rfl).cell (i := 2) rfl
  have a3 := (H6.out.blk 2 rfl).cell (i := 3) rfl
  go_wp2_with fail
  refine (T2.out _).mono ?_
  rintro e w6 ⟨rfl, hb⟩
  have H7 := Lib.hid ((H6.out.next hb).new 0 0 0 0)
  clear hb H6 a0 a1 a2 a3
  have a0 := (H7.out.blk 4 rfl).cell (i := 0) rfl
  have a1 := (H7.out.blk 4 rfl).cell (i := 1) rfl
  have a2 := (H7.out.blk 4 rfl).cell (i := 2) rfl
  have a3 := (H7.out.blk 4 rfl).cell (i := 3) rfl
  have b0 := (H7.out.blk 5 rfl).cell (i := 0) rfl
  have b1 := (H7.out.blk 5 rfl).cell (i := 1) rfl
  have b2 := (H7.out.blk 5 rfl).cell (i := 2) rfl
  have b3 := (H7.out.blk 5 rfl).cell (i := 3) rfl
  have d0 := (H7.out.blk 6 rfl).cell (i := 0) rfl
  have d1 := (H7.out.blk 6 rfl).cell (i := 1) rfl
  have d2 := (H7.out.blk 6 rfl).cell (i := 2) rfl
  have d3 := (H7.out.blk 6 rfl).cell (i := 3) rfl
  go_wp2_with fail
  refine (awake_any _).mono ?_
  rintro e w7 ⟨rfl, hb⟩
  have H8 := Lib.hid (H7.out.next hb)
  clear hb
  go_wp2
  go_ret
  exact ⟨rfl, H8.out.1⟩
set_option maxRecDepth 100000 in
set_option maxHeartbeats 2000000 in
theorem lazy_Ns (n c g l a b : Int) (hab : a < b) (h : Rgt n c) (hl : W64 l) (ha : Gen a) (hb : Gen b) (hq : qd n c b = 0) (w : World) : Calls Try.prog 5 #[cu n c g l, .int .u64 b, .int .u64 a] w (Ret (.bool true) w) := by
  have q0 : same4 0 0 0 0 0 0 0 0 = true := rfl
  have HA := Lib.hid (fun w => see_ok n c g l a h hl ha w)
  have HB := Lib.hid (fun w => see_ok n c g l b h hl hb w)
  have hR1 := rgt_lo h ha
  have hR2 := rgt_lo h hb
  have hab' : a ≤ b := by omega
  have e1 : n + lo n c a + lo (n + lo n c a) c b = n + lo n c b := by rw [Int.add_assoc, lo_lo h hab']
  have e2 : u6 (u6 (l + lo n c a) + lo (n + lo n c a) c b) = u6 (l + lo n c b) := by rw [u6_u6, lo_lo h hab']
  have e3 : n + lo n c b + lo (n + lo n c b) c b = n + lo n c b := by rw [lo_end h, Int.add_zero]
  have e4 : u6 (u6 (l + lo n c b) + lo (n + lo n c b) c b) = u6 (l + lo n c b) := by rw [u6_u6, lo_end h, Int.add_zero]
  have q1 : qd (n + lo n c a) c b = qd n c b := qd_lo h hab'
  have q2 : qd (n + lo n c b) c b = qd n c b := qd_lo h (Int.le_refl b)
  have hC := fun w => see_ok (n + lo n c a) c g (u6 (l + lo n c a)) b hR1 (u6_w64 _) hb w
  simp only [e1, e2] at hC
  have HC := Lib.hid hC
  have K0 := Lib.hid (fun w => count_ok n c g l b h hb w)
  have hK1 := fun w => count_ok (n + lo n c a) c g (u6 (l + lo n c a)) b hR1 hb w
  have hK2 := fun w => count_ok (n + lo n c b) c g (u6 (l + lo n c b)) b hR2 hb w
  simp only [q1] at hK1
  simp only [q2] at hK2
  have K1 := Lib.hid hK1
  have K2 := Lib.hid hK2
  have T0 := Lib.hid (fun w => take_none n c g l b h hl hb hq w)
  have T1 := Lib.hid (fun w => take_none (n + lo n c a) c g (u6 (l + lo n c a)) b hR1 (u6_w64 _) hb (q1.trans hq) w)
  have T2 := Lib.hid (fun w => take_none (n + lo n c b) c g (u6 (l + lo n c b)) b hR2 (u6_w64 _) hb (q2.trans hq) w)
  clear hab' hC hK1 hK2 hR1 hR2 e1 e2 e3 e4 q1 q2 h hl ha hb hq
  generalize n + lo n c a = N1 at *
  generalize u6 (l + lo n c a) = L1 at *
  generalize n + lo n c b = N2 at *
  generalize u6 (l + lo n c b) = L2 at *
  generalize qd n c b = q at *
  have q3 : same4 N2 c g L2 N2 c g L2 = true := same4_self _ _ _ _
  have H0 := Lib.hid ((Cs.nil w).new n c g l)
  simp only [List.nil_append] at H0
  have a0 := (H0.out.blk 0 rfl).cell (i := 0) rfl
  have a1 := (H0.out.blk 0 rfl).cell (i := 1) rfl
  have a2 := (H0.out.blk 0 rfl).cell (i := 2) rfl
  have a3 := (H0.out.blk 0 rfl).cell (i := 3) rfl
  go_enter Try.func5, Try.ntmps5
  go_wp2_with fail
  refine (HA.out _).mono ?_
  rintro e w1 ⟨rfl, hb⟩
  have H1 := Lib.hid ((H0.out.next hb).new N1 c g L1)
  clear hb H0 a0 a1 a2 a3
  have a0 := (H1.out.blk 0 rfl).cell (i := 0) rfl
  have a1 := (H1.out.blk 0 rfl).cell (i := 1) rfl
  have a2 := (H1.out.blk 0 rfl).cell (i := 2) rfl
  have a3 := (H1.out.blk 0 rfl).cell (i := 3) rfl
  go_wp2_with fail
  refine (HB.out _).mono ?_
  rintro e w2 ⟨rfl, hb⟩
  have H2 := Lib.hid ((H1.out.next hb).new N2 c g L2)
  clear hb H1 a0 a1 a2 a3
  have a0 := (H2.out.blk 1 rfl).cell (i := 0) rfl
  have a1 := (H2.out.blk 1 rfl).cell (i := 1) rfl
  have a2 := (H2.out.blk 1 rfl).cell (i := 2) rfl
  have a3 := (H2.out.blk 1 rfl).cell (i := 3) rfl
  have b0 := (H2.out.blk 2 rfl).cell (i := 0) rfl
  have b1 := (H2.out.blk 2 rfl).cell (i := 1) rfl
  have b2 := (H2.out.blk 2 rfl).cell (i := 2) rfl
  have b3 := (H2.out.blk 2 rfl).cell (i := 3) rfl
  go_wp2_with fail
  refine (HC.out _).mono ?_
  rintro e w3 ⟨rfl, hb⟩
  have H3 := Lib.hid ((H2.out.next hb).new N2 c g L2)
  clear hb H2 a0 a1 a2 a3 b0 b1 b2 b3
  have H3 := Lib.hid (show Cs w [(w.heap.size, n, c, g, l), (w1.heap.size, N1, c, g, L1), (w2.heap.size, N2, c, g, L2), (w3.heap.size, N2, c, g, L2)] _ from H3.out)
  go_wp2_with fail
  refine wp_region_held_drew (S := Cs w [(w.heap.size, n, c, g, l), (w1.heap.size, N1, c, g, L1), (w2.heap.size, N2, c, g, L2), (w3.heap.size, N2, c, g, L2)]) (by kernel_rfl) (H3.out.drew) (fun hHeld => ?_)
  refine wpAnyH_take (i := 0) (v := ?v26) rfl (by kernel_rfl) (by kernel_rfl) (by kernel_rfl) (fun _ _ _ h => h) (Or.inl ⟨by rfl, ?y26⟩) hHeld ?r26
  case y26 => (intro w hSw; have a0 := (Cs.blk hSw 0 rfl).cell (i := 0) rfl; have a1 := (Cs.blk hSw 0 rfl).cell (i := 1) rfl; have a2 := (Cs.blk hSw 0 rfl).cell (i := 2) rfl; have a3 := (Cs.blk hSw 0 rfl).cell (i := 3) rfl; have b0 := (Cs.blk hSw 1 rfl).cell (i := 0) rfl; have b1 := (Cs.blk hSw 1 rfl).cell (i := 1) rfl; have b2 := (Cs.blk hSw 1 rfl).cell (i := 2) rfl; have b3 := (Cs.blk hSw 1 rfl).cell (i := 3) rfl; have d0 := (Cs.blk hSw 2 rfl).cell (i := 0) rfl; have d1 := (Cs.blk hSw 2 rfl).cell (i := 1) rfl; have d2 := (Cs.blk hSw 2 rfl).cell (i := 2) rfl; have d3 := (Cs.blk hSw 2 rfl).cell (i := 3) rfl; have e0 := (Cs.blk hSw 3 rfl).cell (i := 0) rfl; have e1 := (Cs.blk hSw 3 rfl).cell (i := 1) rfl; have e2 := (Cs.blk hSw 3 rfl).cell (i := 2) rfl; have e3 := (Cs.blk hSw 3 rfl).cell (i := 3) rfl; clear hSw; go_simp; try with_reducible rfl)
  simp only [List.getElem_toArray, List.getElem_cons_zero, Act.put, List.setIfInBounds_toArray, List.set_cons_zero, List.set_cons_succ]
  refine wpAnyH_take (i := 1) (v := ?v27) rfl (by kernel_rfl) (by kernel_rfl) (by kernel_rfl) (fun _ _ _ h => h) (Or.inl ⟨by rfl, ?y27⟩) hHeld ?r27
  case y27 => (intro w hSw; have a0 := (Cs.blk hSw 0 rfl).cell (i := 0) rfl; have a1 := (Cs.blk hSw 0 rfl).cell (i := 1) rfl; have a2 := (Cs.blk hSw 0 rfl).cell (i := 2) rfl; have a3 := (Cs.blk hSw 0 rfl).cell (i := 3) rfl; have b0 := (Cs.blk hSw 1 rfl).cell (i := 0) rfl; have b1 := (Cs.blk hSw 1 rfl).cell (i := 1) rfl; have b2 := (Cs.blk hSw 1 rfl).cell (i := 2) rfl; have b3 := (Cs.blk hSw 1 rfl).cell (i := 3) rfl; have d0 := (Cs.blk hSw 2 rfl).cell (i := 0) rfl; have d1 := (Cs.blk hSw 2 rfl).cell (i := 1) rfl; have d2 := (Cs.blk hSw 2 rfl).cell (i := 2) rfl; have d3 := (Cs.blk hSw 2 rfl).cell (i := 3) rfl; have e0 := (Cs.blk hSw 3 rfl).cell (i := 0) rfl; have e1 := (Cs.blk hSw 3 rfl).cell (i := 1) rfl; have e2 := (Cs.blk hSw 3 rfl).cell (i := 2) rfl; have e3 := (Cs.blk hSw 3 rfl).cell (i := 3) rfl; clear hSw; go_simp; try with_reducible rfl)
  simp only [List.getElem_toArray, List.getElem_cons_zero, List.getElem_cons_succ, Act.put, List.setIfInBounds_toArray, List.set_cons_zero, List.set_cons_succ]
  refine wpAnyH_take (i := 2) (v := ?v28) rfl (by kernel_rfl) (by kernel_rfl) (by kernel_rfl) (fun _ _ _ h => h) (Or.inl ⟨by rfl, ?y28⟩) hHeld ?r28
  case y28 => (intro w hSw; have a0 := (Cs.blk hSw 0 rfl).cell (i := 0) rfl; have a1 := (Cs.blk hSw 0 rfl).cell (i := 1) rfl; have a2 := (Cs.blk hSw 0 rfl).cell (i := 2) rfl; have a3 := (Cs.blk hSw 0 rfl).cell (i := 3) rfl; have b0 := (Cs.blk hSw 1 rfl).cell (i := 0) rfl; have b1 := (Cs.blk hSw 1 rfl).cell (i := 1) rfl; have b2 := (Cs.blk hSw 1 rfl).cell (i := 2) rfl; have b3 := (Cs.blk hSw 1 rfl).cell (i := 3) rfl; have d0 := (Cs.blk hSw 2 rfl).cell (i := 0) rfl; have d1 := (Cs.blk hSw 2 rfl).cell (i := 1) rfl; have d2 := (Cs.blk hSw 2 rfl).cell (i := 2) rfl; have d3 := (Cs.blk hSw 2 rfl).cell (i := 3) rfl; have e0 := (Cs.blk hSw 3 rfl).cell (i := 0) rfl; have e1 := (Cs.blk hSw 3 rfl).cell (i := 1) rfl; have e2 := (Cs.blk hSw 3 rfl).cell (i := 2) rfl; have e3 := (Cs.blk hSw 3 rfl).cell (i := 3) rfl; clear hSw; go_simp; try with_reducible rfl)
  simp only [List.getElem_toArray, List.getElem_cons_zero, List.getElem_cons_succ, Act.put, List.setIfInBounds_toArray, List.set_cons_zero, List.set_cons_succ]
  refine wpAnyH_take (i := 3) (v := ?v29) rfl (by kernel_rfl) (by kernel_rfl) (by kernel_rfl) (fun _ _ _ h => h) (Or.inl ⟨by rfl, ?y29⟩) hHeld ?r29
  case y29 => (intro w hSw; have a0 := (Cs.blk hSw 0 rfl).cell (i := 0) rfl; have a1 := (Cs.blk hSw 0 rfl).cell (i := 1) rfl; have a2 := (Cs.blk hSw 0 rfl).cell (i := 2) rfl; have a3 := (Cs.blk hSw 0 rfl).cell (i := 3) rfl; have b0 := (Cs.blk hSw 1 rfl).cell (i := 0) rfl; have b1 := (Cs.blk hSw 1 rfl).cell (i := 1) rfl; have b2 := (Cs.blk hSw 1 rfl).cell (i := 2) rfl; have b3 := (Cs.blk hSw 1 rfl).cell (i := 3) rfl; have d0 := (Cs.blk hSw 2 rfl).cell (i := 0) rfl; have d1 := (Cs.blk hSw 2 rfl).cell (i := 1) rfl; have d2 := (Cs.blk hSw 2 rfl).cell (i := 2) rfl; have d3 := (Cs.blk hSw 2 rfl).cell (i := 3) rfl; have e0 := (Cs.blk hSw 3 rfl).cell (i := 0) rfl; have e1 := (Cs.blk hSw 3 rfl).cell (i := 1) rfl; have e2 := (Cs.blk hSw 3 rfl).cell (i := 2) rfl; have e3 := (Cs.blk hSw 3 rfl).cell (i := 3) rfl; clear hSw; go_simp; try with_reducible rfl)
  simp only [List.getElem_toArray, List.getElem_cons_zero, List.getElem_cons_succ, Act.put, List.setIfInBounds_toArray, List.set_cons_zero, List.set_cons_succ]
  refine wpAnyH_take (i := 4) (v := ?v30) rfl (by kernel_rfl) (by kernel_rfl) (by kernel_rfl) (fun _ _ _ h => h) (Or.inl ⟨by rfl, ?y30⟩) hHeld ?r30
  case y30 => (intro w hSw; have a0 := (Cs.blk hSw 0 rfl).cell (i := 0) rfl; have a1 := (Cs.blk hSw 0 rfl).cell (i := 1) rfl; have a2 := (Cs.blk hSw 0 rfl).cell (i := 2) rfl; have a3 := (Cs.blk hSw 0 rfl).cell (i := 3) rfl; have b0 := (Cs.blk hSw 1 rfl).cell (i := 0) rfl; have b1 := (Cs.blk hSw 1 rfl).cell (i := 1) rfl; have b2 := (Cs.blk hSw 1 rfl).cell (i := 2) rfl; have b3 := (Cs.blk hSw 1 rfl).cell (i := 3) rfl; have d0 := (Cs.blk hSw 2 rfl).cell (i := 0) rfl; have d1 := (Cs.blk hSw 2 rfl).cell (i := 1) rfl; have d2 := (Cs.blk hSw 2 rfl).cell (i := 2) rfl; have d3 := (Cs.blk hSw 2 rfl).cell (i := 3) rfl; have e0 := (Cs.blk hSw 3 rfl).cell (i := 0) rfl; have e1 := (Cs.blk hSw 3 rfl).cell (i := 1) rfl; have e2 := (Cs.blk hSw 3 rfl).cell (i := 2) rfl; have e3 := (Cs.blk hSw 3 rfl).cell (i := 3) rfl; clear hSw; go_simp; try with_reducible rfl)
  simp only [List.getElem_toArray, List.getElem_cons_zero, List.getElem_cons_succ, Act.put, List.setIfInBounds_toArray, List.set_cons_zero, List.set_cons_succ]
  refine wpAnyH_take (i := 5) (v := ?v31) rfl (by kernel_rfl) (by kernel_rfl) (by kernel_rfl) (fun _ _ _ h => h) (Or.inl ⟨by rfl, ?y31⟩) hHeld ?r31
  case y31 => (intro w hSw; have a0 := (Cs.blk hSw 0 rfl).cell (i := 0) rfl; have a1 := (Cs.blk hSw 0 rfl).cell (i := 1) rfl; have a2 := (Cs.blk hSw 0 rfl).cell (i := 2) rfl; have a3 := (Cs.blk hSw 0 rfl).cell (i := 3) rfl; have b0 := (Cs.blk hSw 1 rfl).cell (i := 0) rfl; have b1 := (Cs.blk hSw 1 rfl).cell (i := 1) rfl; have b2 := (Cs.blk hSw 1 rfl).cell (i := 2) rfl; have b3 := (Cs.blk hSw 1 rfl).cell (i := 3) rfl; have d0 := (Cs.blk hSw 2 rfl).cell (i := 0) rfl; have d1 := (Cs.blk hSw 2 rfl).cell (i := 1) rfl; have d2 := (Cs.blk hSw 2 rfl).cell (i := 2) rfl; have d3 := (Cs.blk hSw 2 rfl).cell (i := 3) rfl; have e0 := (Cs.blk hSw 3 rfl).cell (i := 0) rfl; have e1 := (Cs.blk hSw 3 rfl).cell (i := 1) rfl; have e2 := (Cs.blk hSw 3 rfl).cell (i := 2) rfl; have e3 := (Cs.blk hSw 3 rfl).cell (i := 3) rfl; clear hSw; go_simp; try with_reducible rfl)
  simp only [List.getElem_toArray, List.getElem_cons_zero, List.getElem_cons_succ, Act.put, List.setIfInBounds_toArray, List.set_cons_zero, List.set_cons_succ]
  refine wpAnyH_take (i := 6) (v := ?v32) rfl (by kernel_rfl) (by kernel_rfl) (by kernel_rfl) (fun _ _ _ h => h) (Or.inl ⟨by rfl, ?y32⟩) hHeld ?r32
  case y32 => (intro w hSw; have a0 := (Cs.blk hSw 0 rfl).cell (i := 0) rfl; have a1 := (Cs.blk hSw 0 rfl).cell (i := 1) rfl; have a2 := (Cs.blk hSw 0 rfl).cell (i := 2) rfl; have a3 := (Cs.blk hSw 0 rfl).cell (i := 3) rfl; have b0 := (Cs.blk hSw 1 rfl).cell (i := 0) rfl; have b1 := (Cs.blk hSw 1 rfl).cell (i := 1) rfl; have b2 := (Cs.blk hSw 1 rfl).cell (i := 2) rfl; have b3 := (Cs.blk hSw 1 rfl).cell (i := 3) rfl; have d0 := (Cs.blk hSw 2 rfl).cell (i := 0) rfl; have d1 := (Cs.blk hSw 2 rfl).cell (i := 1) rfl; have d2 := (Cs.blk hSw 2 rfl).cell (i := 2) rfl; have d3 := (Cs.blk hSw 2 rfl).cell (i := 3) rfl; have e0 := (Cs.blk hSw 3 rfl).cell (i := 0) rfl; have e1 := (Cs.blk hSw 3 rfl).cell (i := 1) rfl; have e2 := (Cs.blk hSw 3 rfl).cell (i := 2) rfl; have e3 := (Cs.blk hSw 3 rfl).cell (i := 3) rfl; clear hSw; go_simp; try with_reducible rfl)
  simp only [List.getElem_toArray, List.getElem_cons_zero, List.getElem_cons_succ, Act.put, List.setIfInBounds_toArray, List.set_cons_zero, List.set_cons_succ]
  refine wpAnyH_take (i := 7) (v := ?v33) rfl (by kernel_rfl) (by kernel_rfl) (by kernel_rfl) (fun _ _ _ h => h) (Or.inl ⟨by rfl, ?y33⟩) hHeld ?r33
  case y33 => (intro w hSw; have a0 := (Cs.blk hSw 0 rfl).cell (i := 0) rfl; have a1 := (Cs.blk hSw 0 rfl).cell (i := 1) rfl; have a2 := (Cs.blk hSw 0 rfl).cell (i := 2) rfl; have a3 := (Cs.blk hSw 0 rfl).cell (i := 3) rfl; have b0 := (Cs.blk hSw 1 rfl).cell (i := 0) rfl; have b1 := (Cs.blk hSw 1 rfl).cell (i := 1) rfl; have b2 := (Cs.blk hSw 1 rfl).cell (i := 2) rfl; have b3 := (Cs.blk hSw 1 rfl).cell (i := 3) rfl; have d0 := (Cs.blk hSw 2 rfl).cell (i := 0) rfl; have d1 := (Cs.blk hSw 2 rfl).cell (i := 1) rfl; have d2 := (Cs.blk hSw 2 rfl).cell (i := 2) rfl; have d3 := (Cs.blk hSw 2 rfl).cell (i := 3) rfl; have e0 := (Cs.blk hSw 3 rfl).cell (i := 0) rfl; have e1 := (Cs.blk hSw 3 rfl).cell (i := 1) rfl; have e2 := (Cs.blk hSw 3 rfl).cell (i := 2) rfl; have e3 := (Cs.blk hSw 3 rfl).cell (i := 3) rfl; clear hSw; go_simp; try with_reducible rfl)
  simp only [List.getElem_toArray, List.getElem_cons_zero, List.getElem_cons_succ, Act.put, List.setIfInBounds_toArray, List.set_cons_zero, List.set_cons_succ]
  refine wpAnyH_take (i := 8) (v := ?v34) rfl (by kernel_rfl) (by kernel_rfl) (by kernel_rfl) (fun _ _ _ h => h) (Or.inl ⟨by rfl, ?y34⟩) hHeld ?r34
  case y34 => (intro w hSw; have a0 := (Cs.blk hSw 0 rfl).cell (i := 0) rfl; have a1 := (Cs.blk hSw 0 rfl).cell (i := 1) rfl; have a2 := (Cs.blk hSw 0 rfl).cell (i := 2) rfl; have a3 := (Cs.blk hSw 0 rfl).cell (i := 3) rfl; have b0 := (Cs.blk hSw 1 rfl).cell (i := 0) rfl; have b1 := (Cs.blk hSw 1 rfl).cell (i := 1) rfl; have b2 := (Cs.blk hSw 1 rfl).cell (i := 2) rfl; have b3 := (Cs.blk hSw 1 rfl).cell (i := 3) rfl; have d0 := (Cs.blk hSw 2 rfl).cell (i := 0) rfl; have d1 := (Cs.blk hSw 2 rfl).cell (i := 1) rfl; have d2 := (Cs.blk hSw 2 rfl).cell (i := 2) rfl; have d3 := (Cs.blk hSw 2 rfl).cell (i := 3) rfl; have e0 := (Cs.blk hSw 3 rfl).cell (i := 0) rfl; have e1 := (Cs.blk hSw 3 rfl).cell (i := 1) rfl; have e2 := (Cs.blk hSw 3 rfl).cell (i := 2) rfl; have e3 := (Cs.blk hSw 3 rfl).cell (i := 3) rfl; clear hSw; go_simp; try with_reducible rfl)
  simp only [List.getElem_toArray, List.getElem_cons_zero, List.getElem_cons_succ, Act.put, List.setIfInBounds_toArray, List.set_cons_zero, List.set_cons_succ]
  refine wpAnyH_take (i := 9) (v := ?v35) rfl (by kernel_rfl) (by kernel_rfl) (by kernel_rfl) (fun _ _ _ h => h) (Or.inl ⟨by rfl, ?y35⟩) hHeld ?r35
  case y35 => (intro w hSw; have a0 := (Cs.blk hSw 0 rfl).cell (i := 0) rfl; have a1 := (Cs.blk hSw 0 rfl).cell (i := 1) rfl; have a2 := (Cs.blk hSw 0 rfl).cell (i := 2) rfl; have a3 := (Cs.blk hSw 0 rfl).cell (i := 3) rfl; have b0 := (Cs.blk hSw 1 rfl).cell (i := 0) rfl; have b1 := (Cs.blk hSw 1 rfl).cell (i := 1) rfl; have b2 := (Cs.blk hSw 1 rfl).cell (i := 2) rfl; have b3 := (Cs.blk hSw 1 rfl).cell (i := 3) rfl; have d0 := (Cs.blk hSw 2 rfl).cell (i := 0) rfl; have d1 := (Cs.blk hSw 2 rfl).cell (i := 1) rfl; have d2 := (Cs.blk hSw 2 rfl).cell (i := 2) rfl; have d3 := (Cs.blk hSw 2 rfl).cell (i := 3) rfl; have e0 := (Cs.blk hSw 3 rfl).cell (i := 0) rfl; have e1 := (Cs.blk hSw 3 rfl).cell (i := 1) rfl; have e2 := (Cs.blk hSw 3 rfl).cell (i := 2) rfl; have e3 := (Cs.blk hSw 3 rfl).cell (i := 3) rfl; clear hSw; go_simp; try with_reducible rfl)
  simp only [List.getElem_toArray, List.getElem_cons_zero, List.getElem_cons_succ, Act.put, List.setIfInBounds_toArray, List.set_cons_zero, List.set_cons_succ]
  refine wpAnyH_take (i := 11) (v := ?v36) rfl (by kernel_rfl) (by kernel_rfl) (by kernel_rfl) (fun _ _ _ h => h) (Or.inl ⟨by rfl, ?y36⟩) hHeld ?r36
  case y36 => (intro w hSw; have a0 := (Cs.blk hSw 0 rfl).cell (i := 0) rfl; have a1 := (Cs.blk hSw 0 rfl).cell (i := 1) rfl; have a2 := (Cs.blk hSw 0 rfl).cell (i := 2) rfl; have a3 := (Cs.blk hSw 0 rfl).cell (i := 3) rfl; have b0 := (Cs.blk hSw 1 rfl).cell (i := 0) rfl; have b1 := (Cs.blk hSw 1 rfl).cell (i := 1) rfl; have b2 := (Cs.blk hSw 1 rfl).cell (i := 2) rfl; have b3 := (Cs.blk hSw 1 rfl).cell (i := 3) rfl; have d0 := (Cs.blk hSw 2 rfl).cell (i := 0) rfl; have d1 := (Cs.blk hSw 2 rfl).cell (i := 1) rfl; have d2 := (Cs.blk hSw 2 rfl).cell (i := 2) rfl; have d3 := (Cs.blk hSw 2 rfl).cell (i := 3) rfl; have e0 := (Cs.blk hSw 3 rfl).cell (i := 0) rfl; have e1 := (Cs.blk hSw 3 rfl).cell (i := 1) rfl; have e2 := (Cs.blk hSw 3 rfl).cell (i := 2) rfl; have e3 := (Cs.blk hSw 3 rfl).cell (i := 3) rfl; clear hSw; go_simp; try with_reducible rfl)
  simp only [List.getElem_toArray, List.getElem_cons_zero, List.getElem_cons_succ, Act.put, List.setIfInBounds_toArray, List.set_cons_zero, List.set_cons_succ]
  refine wpAnyH_take (i := 12) (v := ?v37) rfl (by kernel_rfl) (by kernel_rfl) (by kernel_rfl) (fun _ _ _ h => h) (Or.inl ⟨by rfl, ?y37⟩) hHeld ?r37
  case y37 => (intro w hSw; have a0 := (Cs.blk hSw 0 rfl).cell (i := 0) rfl; have a1 := (Cs.blk hSw 0 rfl).cell (i := 1) rfl; have a2 := (Cs.blk hSw 0 rfl).cell (i := 2) rfl; have a3 := (Cs.blk hSw 0 rfl).cell (i := 3) rfl; have b0 := (Cs.blk hSw 1 rfl).cell (i := 0) rfl; have b1 := (Cs.blk hSw 1 rfl).cell (i := 1) rfl; have b2 := (Cs.blk hSw 1 rfl).cell (i := 2) rfl; have b3 := (Cs.blk hSw 1 rfl).cell (i := 3) rfl; have d0 := (Cs.blk hSw 2 rfl).cell (i := 0) rfl; have d1 := (Cs.blk hSw 2 rfl).cell (i := 1) rfl; have d2 := (Cs.blk hSw 2 rfl).cell (i := 2) rfl; have d3 := (Cs.blk hSw 2 rfl).cell (i := 3) rfl; have e0 := (Cs.blk hSw 3 rfl).cell (i := 0) rfl; have e1 := (Cs.blk hSw 3 rfl).cell (i := 1) rfl; have e2 := (Cs.blk hSw 3 rfl).cell (i := 2) rfl; have e3 := (Cs.blk hSw 3 rfl).cell (i := 3) rfl; clear hSw; go_simp; try with_reducible rfl)
  simp only [List.getElem_toArray, List.getElem_cons_zero, List.getElem_cons_succ, Act.put, List.setIfInBounds_toArray, List.set_cons_zero, List.set_cons_succ]
  refine wpAnyH_ready (rs := [10]) (by kernel_rfl) (by simp) (AllReadyH.cons rfl (fun K hK => ?_) AllReadyH.nil)
  go_simp
  refine (K1.out _).mono ?_
  rintro e x1 ⟨rfl, hb⟩
  have X1 := Lib.hid (hHeld.next hb)
  clear hb
  go_wp2_with fail
  refine hK.out _ _ (X1.out) (fun hHeld => ?_)
  clear hK K
  refine wpAnyH_ready (rs := [13]) (by kernel_rfl) (by simp) (AllReadyH.cons rfl (fun K hK => ?_) AllReadyH.nil)
  go_simp
  refine (K0.out _).mono ?_
  rintro e x2 ⟨rfl, hb⟩
  have X2 := Lib.hid (hHeld.next hb)
  clear hb
  go_wp2_with fail
  refine hK.out _ _ (X2.out) (fun hHeld => ?_)
  clear hK K
  refine wpAnyH_take (i := 14) (v := ?v40) rfl (by kernel_rfl) (by kernel_rfl) (by kernel_rfl) (fun _ _ _ h => h) (Or.inl ⟨by rfl, ?y40⟩) hHeld ?r40
  case y40 => (intro w hSw; have a0 := (Cs.blk hSw 0 rfl).cell (i := 0) rfl; have a1 := (Cs.blk hSw 0 rfl).cell (i := 1) rfl; have a2 := (Cs.blk hSw 0 rfl).cell (i := 2) rfl; have a3 := (Cs.blk hSw 0 rfl).cell (i := 3) rfl; have b0 := (Cs.blk hSw 1 rfl).cell (i := 0) rfl; have b1 := (Cs.blk hSw 1 rfl).cell (i := 1) rfl; have b2 := (Cs.blk hSw 1 rfl).cell (i := 2) rfl; have b3 := (Cs.blk hSw 1 rfl).cell (i := 3) rfl; have d0 := (Cs.blk hSw 2 rfl).cell (i := 0) rfl; have d1 := (Cs.blk hSw 2 rfl).cell (i := 1) rfl; have d2 := (Cs.blk hSw 2 rfl).cell (i := 2) rfl; have d3 := (Cs.blk hSw 2 rfl).cell (i := 3) rfl; have e0 := (Cs.blk hSw 3 rfl).cell (i := 0) rfl; have e1 := (Cs.blk hSw 3 rfl).cell (i := 1) rfl; have e2 := (Cs.blk hSw 3 rfl).cell (i := 2) rfl; have e3 := (Cs.blk hSw 3 rfl).cell (i := 3) rfl; clear hSw; go_simp; try with_reducible rfl)
  simp only [List.getElem_toArray, List.getElem_cons_zero, List.getElem_cons_succ, Act.put, List.setIfInBounds_toArray, List.set_cons_zero, List.set_cons_succ]
  refine wpAnyH_take (i := 15) (v := ?v41) rfl (by kernel_rfl) (by kernel_rfl) (by kernel_rfl) (fun _ _ _ h => h) (Or.inl ⟨by rfl, ?y41⟩) hHeld ?r41
  case y41 => (intro w hSw; have a0 := (Cs.blk hSw 0 rfl).cell (i := 0) rfl; have a1 := (Cs.blk hSw 0 rfl).cell (i := 1) rfl; have a2 := (Cs.blk hSw 0 rfl).cell (i := 2) rfl; have a3 := (Cs.blk hSw 0 rfl).cell (i := 3) rfl; have b0 := (Cs.blk hSw 1 rfl).cell (i := 0) rfl; have b1 := (Cs.blk hSw 1 rfl).cell (i := 1) rfl; have b2 := (Cs.blk hSw 1 rfl).cell (i := 2) rfl; have b3 := (Cs.blk hSw 1 rfl).cell (i := 3) rfl; have d0 := (Cs.blk hSw 2 rfl).cell (i := 0) rfl; have d1 := (Cs.blk hSw 2 rfl).cell (i := 1) rfl; have d2 := (Cs.blk hSw 2 rfl).cell (i := 2) rfl; have d3 := (Cs.blk hSw 2 rfl).cell (i := 3) rfl; have e0 := (Cs.blk hSw 3 rfl).cell (i := 0) rfl; have e1 := (Cs.blk hSw 3 rfl).cell (i := 1) rfl; have e2 := (Cs.blk hSw 3 rfl).cell (i := 2) rfl; have e3 := (Cs.blk hSw 3 rfl).cell (i := 3) rfl; clear hSw; go_simp; try with_reducible rfl)
  simp only [List.getElem_toArray, List.getElem_cons_zero, List.getElem_cons_succ, Act.put, List.setIfInBounds_toArray, List.set_cons_zero, List.set_cons_succ]
  refine wpAnyH_take (i := 16) (v := ?v42) rfl (by kernel_rfl) (by kernel_rfl) (by kernel_rfl) (fun _ _ _ h => h) (Or.inl ⟨by rfl, ?y42⟩) hHeld ?r42
  case y42 => (intro w hSw; have a0 := (Cs.blk hSw 0 rfl).cell (i := 0) rfl; have a1 := (Cs.blk hSw 0 rfl).cell (i := 1) rfl; have a2 := (Cs.blk hSw 0 rfl).cell (i := 2) rfl; have a3 := (Cs.blk hSw 0 rfl).cell (i := 3) rfl; have b0 := (Cs.blk hSw 1 rfl).cell (i := 0) rfl; have b1 := (Cs.blk hSw 1 rfl).cell (i := 1) rfl; have b2 := (Cs.blk hSw 1 rfl).cell (i := 2) rfl; have b3 := (Cs.blk hSw 1 rfl).cell (i := 3) rfl; have d0 := (Cs.blk hSw 2 rfl).cell (i := 0) rfl; have d1 := (Cs.blk hSw 2 rfl).cell (i := 1) rfl; have d2 := (Cs.blk hSw 2 rfl).cell (i := 2) rfl; have d3 := (Cs.blk hSw 2 rfl).cell (i := 3) rfl; have e0 := (Cs.blk hSw 3 rfl).cell (i := 0) rfl; have e1 := (Cs.blk hSw 3 rfl).cell (i := 1) rfl; have e2 := (Cs.blk hSw 3 rfl).cell (i := 2) rfl; have e3 := (Cs.blk hSw 3 rfl).cell (i := 3) rfl; clear hSw; go_simp; try with_reducible rfl)
  simp only [List.getElem_toArray, List.getElem_cons_zero, List.getElem_cons_succ, Act.put, List.setIfInBounds_toArray, List.set_cons_zero, List.set_cons_succ]
  refine wpAnyH_take (i := 17) (v := ?v43) rfl (by kernel_rfl) (by kernel_rfl) (by kernel_rfl) (fun _ _ _ h => h) (Or.inl ⟨by rfl, ?y43⟩) hHeld ?r43
  case y43 => (intro w hSw; have a0 := (Cs.blk hSw 0 rfl).cell (i := 0) rfl; have a1 := (Cs.blk hSw 0 rfl).cell (i := 1) rfl; have a2 := (Cs.blk hSw 0 rfl).cell (i := 2) rfl; have a3 := (Cs.blk hSw 0 rfl).cell (i := 3) rfl; have b0 := (Cs.blk hSw 1 rfl).cell (i := 0) rfl; have b1 := (Cs.blk hSw 1 rfl).cell (i := 1) rfl; have b2 := (Cs.blk hSw 1 rfl).cell (i := 2) rfl; have b3 := (Cs.blk hSw 1 rfl).cell (i := 3) rfl; have d0 := (Cs.blk hSw 2 rfl).cell (i := 0) rfl; have d1 := (Cs.blk hSw 2 rfl).cell (i := 1) rfl; have d2 := (Cs.blk hSw 2 rfl).cell (i := 2) rfl; have d3 := (Cs.blk hSw 2 rfl).cell (i := 3) rfl; have e0 := (Cs.blk hSw 3 rfl).cell (i := 0) rfl; have e1 := (Cs.blk hSw 3 rfl).cell (i := 1) rfl; have e2 := (Cs.blk hSw 3 rfl).cell (i := 2) rfl; have e3 := (Cs.blk hSw 3 rfl).cell (i := 3) rfl; clear hSw; go_simp; try with_reducible rfl)
  simp only [List.getElem_toArray, List.getElem_cons_zero, List.getElem_cons_succ, Act.put, List.setIfInBounds_toArray, List.set_cons_zero, List.set_cons_succ]
  refine wpAnyH_take (i := 18) (v := ?v44) rfl (by kernel_rfl) (by kernel_rfl) (by kernel_rfl) (fun _ _ _ h => h) (Or.inl ⟨by rfl, ?y44⟩) hHeld ?r44
  case y44 => (intro w hSw; have a0 := (Cs.blk hSw 0 rfl).cell (i := 0) rfl; have a1 := (Cs.blk hSw 0 rfl).cell (i := 1) rfl; have a2 := (Cs.blk hSw 0 rfl).cell (i := 2) rfl; have a3 := (Cs.blk hSw 0 rfl).cell (i := 3) rfl; have b0 := (Cs.blk hSw 1 rfl).cell (i := 0) rfl; have b1 := (Cs.blk hSw 1 rfl).cell (i := 1) rfl; have b2 := (Cs.blk hSw 1 rfl).cell (i := 2) rfl; have b3 := (Cs.blk hSw 1 rfl).cell (i := 3) rfl; have d0 := (Cs.blk hSw 2 rfl).cell (i := 0) rfl; have d1 := (Cs.blk hSw 2 rfl).cell (i := 1) rfl; have d2 := (Cs.blk hSw 2 rfl).cell (i := 2) rfl; have d3 := (Cs.blk hSw 2 rfl).cell (i := 3) rfl; have e0 := (Cs.blk hSw 3 rfl).cell (i := 0) rfl; have e1 := (Cs.blk hSw 3 rfl).cell (i := 1) rfl; have e2 := (Cs.blk hSw 3 rfl).cell (i := 2) rfl; have e3 := (Cs.blk hSw 3 rfl).cell (i := 3) rfl; clear hSw; go_simp; try with_reducible rfl)
  simp only [List.getElem_toArray, List.getElem_cons_zero, List.getElem_cons_succ, Act.put, List.setIfInBounds_toArray, List.set_cons_zero, List.set_cons_succ]
  refine wpAnyH_take (i := 20) (v := ?v45) rfl (by kernel_rfl) (by kernel_rfl) (by kernel_rfl) (fun _ _ _ h => h) (Or.inl ⟨by rfl, ?y45⟩) hHeld ?r45
  case y45 => (intro w hSw; have a0 := (Cs.blk hSw 0 rfl).cell (i := 0) rfl; have a1 := (Cs.blk hSw 0 rfl).cell (i := 1) rfl; have a2 := (Cs.blk hSw 0 rfl).cell (i := 2) rfl; have a3 := (Cs.blk hSw 0 rfl).cell (i := 3) rfl; have b0 := (Cs.blk hSw 1 rfl).cell (i := 0) rfl; have b1 := (Cs.blk hSw 1 rfl).cell (i := 1) rfl; have b2 := (Cs.blk hSw 1 rfl).cell (i := 2) rfl; have b3 := (Cs.blk hSw 1 rfl).cell (i := 3) rfl; have d0 := (Cs.blk hSw 2 rfl).cell (i := 0) rfl; have d1 := (Cs.blk hSw 2 rfl).cell (i := 1) rfl; have d2 := (Cs.blk hSw 2 rfl).cell (i := 2) rfl; have d3 := (Cs.blk hSw 2 rfl).cell (i := 3) rfl; have e0 := (Cs.blk hSw 3 rfl).cell (i := 0) rfl; have e1 := (Cs.blk hSw 3 rfl).cell (i := 1) rfl; have e2 := (Cs.blk hSw 3 rfl).cell (i := 2) rfl; have e3 := (Cs.blk hSw 3 rfl).cell (i := 3) rfl; clear hSw; go_simp; try with_reducible rfl)
  simp only [List.getElem_toArray, List.getElem_cons_zero, List.getElem_cons_succ, Act.put, List.setIfInBounds_toArray, List.set_cons_zero, List.set_cons_succ]
  refine wpAnyH_take (i := 21) (v := ?v46) rfl (by kernel_rfl) (by kernel_rfl) (by kernel_rfl) (fun _ _ _ h => h) (Or.inl ⟨by rfl, ?y46⟩) hHeld ?r46
  case y46 => (intro w hSw; have a0 := (Cs.blk hSw 0 rfl).cell (i := 0) rfl; have a1 := (Cs.blk hSw 0 rfl).cell (i := 1) rfl; have a2 := (Cs.blk hSw 0 rfl).cell (i := 2) rfl; have a3 := (Cs.blk hSw 0 rfl).cell (i := 3) rfl; have b0 := (Cs.blk hSw 1 rfl).cell (i := 0) rfl; have b1 := (Cs.blk hSw 1 rfl).cell (i := 1) rfl; have b2 := (Cs.blk hSw 1 rfl).cell (i := 2) rfl; have b3 := (Cs.blk hSw 1 rfl).cell (i := 3) rfl; have d0 := (Cs.blk hSw 2 rfl).cell (i := 0) rfl; have d1 := (Cs.blk hSw 2 rfl).cell (i := 1) rfl; have d2 := (Cs.blk hSw 2 rfl).cell (i := 2) rfl; have d3 := (Cs.blk hSw 2 rfl).cell (i := 3) rfl; have e0 := (Cs.blk hSw 3 rfl).cell (i := 0) rfl; have e1 := (Cs.blk hSw 3 rfl).cell (i := 1) rfl; have e2 := (Cs.blk hSw 3 rfl).cell (i := 2) rfl; have e3 := (Cs.blk hSw 3 rfl).cell (i := 3) rfl; clear hSw; go_simp; try with_reducible rfl)
  simp only [List.getElem_toArray, List.getElem_cons_zero, List.getElem_cons_succ, Act.put, List.setIfInBounds_toArray, List.set_cons_zero, List.set_cons_succ]
  refine wpAnyH_ready (rs := [19]) (by kernel_rfl) (by simp) (AllReadyH.cons rfl (fun K hK => ?_) AllReadyH.nil)
  go_simp
  refine (K2.out _).mono ?_
  rintro e x3 ⟨rfl, hb⟩
  have X3 := Lib.hid (hHeld.next hb)
  clear hb
  go_wp2_with fail
  refine hK.out _ _ (X3.out) (fun hHeld => ?_)
  clear hK K
  refine wpAnyH_ready (rs := [22]) (by kernel_rfl) (by simp) (AllReadyH.cons rfl (fun K hK => ?_) AllReadyH.nil)
  go_simp
  refine (K0.out _).mono ?_
  rintro e x4 ⟨rfl, hb⟩
  have X4 := Lib.hid (hHeld.next hb)
  clear hb
  go_wp2_with fail
  refine hK.out _ _ (X4.out) (fun hHeld => ?_)
  clear hK K
  refine wpAnyH_take (i := 23) (v := ?v49) rfl (by kernel_rfl) (by kernel_rfl) (by kernel_rfl) (fun _ _ _ h => h) (Or.inl ⟨by rfl, ?y49⟩) hHeld ?r49
  case y49 => (intro w hSw; have a0 := (Cs.blk hSw 0 rfl).cell (i := 0) rfl; have a1 := (Cs.blk hSw 0 rfl).cell (i := 1) rfl; have a2 := (Cs.blk hSw 0 rfl).cell (i := 2) rfl; have a3 := (Cs.blk hSw 0 rfl).cell (i := 3) rfl; have b0 := (Cs.blk hSw 1 rfl).cell (i := 0) rfl; have b1 := (Cs.blk hSw 1 rfl).cell (i := 1) rfl; have b2 := (Cs.blk hSw 1 rfl).cell (i := 2) rfl; have b3 := (Cs.blk hSw 1 rfl).cell (i := 3) rfl; have d0 := (Cs.blk hSw 2 rfl).cell (i := 0) rfl; have d1 := (Cs.blk hSw 2 rfl).cell (i := 1) rfl; have d2 := (Cs.blk hSw 2 rfl).cell (i := 2) rfl; have d3 := (Cs.blk hSw 2 rfl).cell (i := 3) rfl; have e0 := (Cs.blk hSw 3 rfl).cell (i := 0) rfl; have e1 := (Cs.blk hSw 3 rfl).cell (i := 1) rfl; have e2 := (Cs.blk hSw 3 rfl).cell (i := 2) rfl; have e3 := (Cs.blk hSw 3 rfl).cell (i := 3) rfl; clear hSw; go_simp; try with_reducible rfl)
  simp only [List.getElem_toArray, List.getElem_cons_zero, List.getElem_cons_succ, Act.put, List.setIfInBounds_toArray, List.set_cons_zero, List.set_cons_succ]
  refine wpAnyH_take (i := 24) (v := ?v50) rfl (by kernel_rfl) (by kernel_rfl) (by kernel_rfl) (fun _ _ _ h => h) (Or.inl ⟨by rfl, ?y50⟩) hHeld ?r50
  case y50 => (intro w hSw; have a0 := (Cs.blk hSw 0 rfl).cell (i := 0) rfl; have a1 := (Cs.blk hSw 0 rfl).cell (i := 1) rfl; have a2 := (Cs.blk hSw 0 rfl).cell (i := 2) rfl; have a3 := (Cs.blk hSw 0 rfl).cell (i := 3) rfl; have b0 := (Cs.blk hSw 1 rfl).cell (i := 0) rfl; have b1 := (Cs.blk hSw 1 rfl).cell (i := 1) rfl; have b2 := (Cs.blk hSw 1 rfl).cell (i := 2) rfl; have b3 := (Cs.blk hSw 1 rfl).cell (i := 3) rfl; have d0 := (Cs.blk hSw 2 rfl).cell (i := 0) rfl; have d1 := (Cs.blk hSw 2 rfl).cell (i := 1) rfl; have d2 := (Cs.blk hSw 2 rfl).cell (i := 2) rfl; have d3 := (Cs.blk hSw 2 rfl).cell (i := 3) rfl; have e0 := (Cs.blk hSw 3 rfl).cell (i := 0) rfl; have e1 := (Cs.blk hSw 3 rfl).cell (i := 1) rfl; have e2 := (Cs.blk hSw 3 rfl).cell (i := 2) rfl; have e3 := (Cs.blk hSw 3 rfl).cell (i := 3) rfl; clear hSw; go_simp; try with_reducible rfl)
  simp only [List.getElem_toArray, List.getElem_cons_zero, List.getElem_cons_succ, Act.put, List.setIfInBounds_toArray, List.set_cons_zero, List.set_cons_succ]
  refine wpAnyH_done (by kernel_rfl) ?_ _
  have H4 := X4
  clear X1 X2 X3 X4 hHeld H3
  have a0 := (H4.out.blk 0 rfl).cell (i := 0) rfl
  have a1 := (H4.out.blk 0 rfl).cell (i := 1) rfl
  have a2 := (H4.out.blk 0 rfl).cell (i := 2) rfl
  have a3 := (H4.out.blk 0 rfl).cell (i := 3) rfl
  go_wp2_with fail
  refine (T0.out _).mono ?_
  rintro e w4 ⟨rfl, hb⟩
  have H5 := Lib.hid ((H4.out.next hb).new 0 0 0 0)
  clear hb H4 a0 a1 a2 a3
  have a0 := (H5.out.blk 1 rfl).cell (i := 0) rfl
  have a1 := (H5.out.blk 1 rfl).cell (i := 1) rfl
  have a2 := (H5.out.blk 1 rfl).cell (i := 2) rfl
  have a3 := (H5.out.blk 1 rfl).cell (i := 3) rfl
  go_wp2_with fail
  refine (T1.out _).mono ?_
  rintro e w5 ⟨rfl, hb⟩
  have H6 := Lib.hid ((H5.out.next hb).new 0 0 0 0)
  clear hb H5 a0 a1 a2 a3
  have a0 := (H6.out.blk 2 rfl).cell (i := 0) rfl
  have a1 := (H6.out.blk 2 rfl).cell (i := 1) rfl
  have a2 := (H6.out.blk 2 rfl).cell (i := 2) rfl
  have a3 := (H6.out.blk 2 rfl).cell (i := 3) rfl
  go_wp2_with fail
  refine (T2.out _).mono ?_
  rintro e w6 ⟨rfl, hb⟩
  have H7 := Lib.hid ((H6.out.next hb).new 0 0 0 0)
  clear hb H6 a0 a1 a2 a3
  have a0 := (H7.out.blk 4 rfl).cell (i := 0) rfl
  have a1 := (H7.out.blk 4 rfl).cell (i := 1) rfl
  have a2 := (H7.out.blk 4 rfl).cell (i := 2) rfl
  have a3 := (H7.out.blk 4 rfl).cell (i := 3) rfl
  have b0 := (H7.out.blk 5 rfl).cell (i := 0) rfl
  have b1 := (H7.out.blk 5 rfl).cell (i := 1) rfl
  have b2 := (H7.out.blk 5 rfl).cell (i := 2) rfl
  have b3 := (H7.out.blk 5 rfl).cell (i := 3) rfl
  have d0 := (H7.out.blk 6 rfl).cell (i := 0) rfl
  have d1 := (H7.out.blk 6 rfl).cell (i := 1) rfl
  have d2 := (H7.out.blk 6 rfl).cell (i := 2) rfl
  have d3 := (H7.out.blk 6 rfl).cell (i := 3) rfl
  go_wp2_with fail
  refine (awake_any _).mono ?_
  rintro e w7 ⟨rfl, hb⟩
  have H8 := Lib.hid (H7.out.next hb)
  clear hb
  go_wp2
  go_ret
  exact ⟨rfl, H8.out.1⟩
end Go.Proofs.Ytkkkicinlghikaa
