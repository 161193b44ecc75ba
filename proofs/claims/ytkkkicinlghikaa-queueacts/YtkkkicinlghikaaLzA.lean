/- The walk of the law QueueLazy: those that are wrong. -/
import Derived.Test.YtkkkicinlghikaaQdM
namespace Go.Proofs.Ytkkkicinlghikaa
open Go.RowKit

attribute [local go_sem] eql27 neq27
/-- What was seen ahead makes no difference. -/
theorem lo_lo {n c a b : Int} (h : Rgt n c) (hab : a ≤ b) : lo n c a + lo (n + lo n c a) c b = lo n c b := by
  obtain ⟨h0, h1, h2, h3⟩ := h
  have e : ∀ m y, lo m c y = if c < y - m + 1 then y - m + 1 - c else 0 := fun m y => by
    unfold lo wt
    by_cases k : y < m
    · rw [if_pos k, if_neg (by omega), if_neg (by omega)]
    · rw [if_neg k]
  rw [e n a, e n b, e _ b]
  by_cases k : c < a - n + 1
  · rw [if_pos k, if_pos (show c < b - n + 1 by omega)]
    split <;> omega
  · rw [if_neg k, Int.add_zero, Int.zero_add]
theorem lo_end {n c b : Int} (h : Rgt n c) : lo (n + lo n c b) c b = 0 := by
  have := lo_lo h (Int.le_refl b)
  omega
theorem qd_lo {n c a b : Int} (h : Rgt n c) (hab : a ≤ b) : qd (n + lo n c a) c b = qd n c b := by
  obtain ⟨h0, h1, h2, h3⟩ := h
  have e : ∀ m y, qd m c y = if c < y - m + 1 then c else if y < m then 0 else y - m + 1 := fun m y => by
    unfold qd wt
    by_cases k : y < m
    · simp only [if_pos k]
      rw [if_neg (by omega), if_neg (by omega)]
    · simp only [if_neg k]
  have e2 : lo n c a = if c < a - n + 1 then a - n + 1 - c else 0 := by
    unfold lo wt
    by_cases k : a < n
    · rw [if_pos k, if_neg (by omega), if_neg (by omega)]
    · rw [if_neg k]
  rw [e, e, e2]
  by_cases k : c < a - n + 1
  · rw [if_pos k, if_pos (show c < b - n + 1 by omega)]
    by_cases k2 : c < b - (n + (a - n + 1 - c)) + 1
    · rw [if_pos k2]
    · rw [if_neg k2, if_neg (by omega)]
      omega
  · rw [if_neg k, Int.add_zero]
theorem rgt_lo {n c a : Int} (h : Rgt n c) (ha : Gen a) : Rgt (n + lo n c a) c := by
  have h1 := see_le h ha
  have h2 : 0 ≤ lo n c a := by unfold lo; split <;> omega
  obtain ⟨h3, h4, h5, h6⟩ := h
  exact ⟨by omega, h1, h5, h6⟩
theorem u6_u6 (l x y : Int) : u6 (u6 (l + x) + y) = u6 (l + (x + y)) := by
  rw [u6_mod, u6_mod, u6_mod]
  omega
set_option maxRecDepth 100000 in
set_option maxHeartbeats 2000000 in
theorem lazy_E (n c g l a b : Int) (hab : a ≤ b) (E : Int) (hE : (E == 0) = false) (hA : ∀ w, Calls Try.prog 15 #[cu n c g l, .int .u64 a] w (Ret (.tuple #[cu 0 0 0 0, .int .i64 E]) w)) (hB : ∀ w, Calls Try.prog 15 #[cu n c g l, .int .u64 b] w (Ret (.tuple #[cu 0 0 0 0, .int .i64 E]) w)) (w : World) : Calls Try.prog 5 #[cu n c g l, .int .u64 a, .int .u64 b] w (Ret (.bool true) w) := by
  have q0 : same4 0 0 0 0 0 0 0 0 = true := rfl
  have HA := Lib.hid hA
  have HB := Lib.hid hB
  have hE2 : (E != 0) = true := by rw [bne, hE]; rfl
  clear hA hB
  have H0 := Lib.hid ((Cs.nil w).new n c g l)
  simp only [List.nil_append] at H0
  have a0 := (H0.out.blk 0 rfl).cell (i := 0) rfl
  have a1 := (H0.out.blk 0 rfl).cell (i := 1) rfl
  have a2 := (H0.out.blk 0 rfl).cell (i := 2) rfl
  have a3 := (H0.out.blk 0 rfl).cell (i := 3) rfl
  go_enter Try.func5, Try.ntmps5
  go_wp2_with fail
  refine (HA.out _).mono ?_
  rintro e w1 ⟨rfl, hb⟩
  have H1 := Lib.hid ((H0.out.next hb).new 0 0 0 0)
  clear hb H0 a0 a1 a2 a3
  have a0 := (H1.out.blk 0 rfl).cell (i := 0) rfl
  have a1 := (H1.out.blk 0 rfl).cell (i := 1) rfl
  have a2 := (H1.out.blk 0 rfl).cell (i := 2) rfl
  have a3 := (H1.out.blk 0 rfl).cell (i := 3) rfl
  go_wp2_with fail
  refine (HB.out _).mono ?_
  rintro e w2 ⟨rfl, hb⟩
  have H2 := Lib.hid ((H1.out.next hb).new 0 0 0 0)
  clear hb H1 a0 a1 a2 a3
  have a0 := (H2.out.blk 1 rfl).cell (i := 0) rfl
  have a1 := (H2.out.blk 1 rfl).cell (i := 1) rfl
  have a2 := (H2.out.blk 1 rfl).cell (i := 2) rfl
  have a3 := (H2.out.blk 1 rfl).cell (i := 3) rfl
  have b0 := (H2.out.blk 2 rfl).cell (i := 0) rfl
  have b1 := (H2.out.blk 2 rfl).cell (i := 1) rfl
  have b2 := (H2.out.blk 2 rfl).cell (i := 2) rfl
  have b3 := (H2.out.blk 2 rfl).cell (i := 3) rfl
  go_wp2_with fail
  refine (awake_any _).mono ?_
  rintro e w3 ⟨rfl, hb⟩
  have H3 := Lib.hid (H2.out.next hb)
  clear hb
  go_wp2
  go_ret
  exact ⟨rfl, H3.out.1⟩
set_option maxRecDepth 100000 in
set_option maxHeartbeats 2000000 in
theorem lazy_Es (n c g l a b : Int) (hab : a < b) (E : Int) (hE : (E == 0) = false) (hA : ∀ w, Calls Try.prog 15 #[cu n c g l, .int .u64 a] w (Ret (.tuple #[cu 0 0 0 0, .int .i64 E]) w)) (hB : ∀ w, Calls Try.prog 15 #[cu n c g l, .int .u64 b] w (Ret (.tuple #[cu 0 0 0 0, .int .i64 E]) w)) (w : World) : Calls Try.prog 5 #[cu n c g l, .int .u64 b, .int .u64 a] w (Ret (.bool true) w) := by
  have q0 : same4 0 0 0 0 0 0 0 0 = true := rfl
  have HA := Lib.hid hA
  have HB := Lib.hid hB
  have hE2 : (E != 0) = true := by rw [bne, hE]; rfl
  clear hA hB
  have H0 := Lib.hid ((Cs.nil w).new n c g l)
  simp only [List.nil_append] at H0
  have a0 := (H0.out.blk 0 rfl).cell (i := 0) rfl
  have a1 := (H0.out.blk 0 rfl).cell (i := 1) rfl
  have a2 := (H0.out.blk 0 rfl).cell (i := 2) rfl
  have a3 := (H0.out.blk 0 rfl).cell (i := 3) rfl
  go_enter Try.func5, Try.ntmps5
  go_wp2_with fail
  refine (HA.out _).mono ?_
  rintro e w1 ⟨rfl, hb⟩
  have H1 := Lib.hid ((H0.out.next hb).new 0 0 0 0)
  clear hb H0 a0 a1 a2 a3
  have a0 := (H1.out.blk 0 rfl).cell (i := 0) rfl
  have a1 := (H1.out.blk 0 rfl).cell (i := 1) rfl
  have a2 := (H1.out.blk 0 rfl).cell (i := 2) rfl
  have a3 := (H1.out.blk 0 rfl).cell (i := 3) rfl
  go_wp2_with fail
  refine (HB.out _).mono ?_
  rintro e w2 ⟨rfl, hb⟩
  have H2 := Lib.hid ((H1.out.next hb).new 0 0 0 0)
  clear hb H1 a0 a1 a2 a3
  have a0 := (H2.out.blk 1 rfl).cell (i := 0) rfl
  have a1 := (H2.out.blk 1 rfl).cell (i := 1) rfl
  have a2 := (H2.out.blk 1 rfl).cell (i := 2) rfl
  have a3 := (H2.out.blk 1 rfl).cell (i := 3) rfl
  have b0 := (H2.out.blk 2 rfl).cell (i := 0) rfl
  have b1 := (H2.out.blk 2 rfl).cell (i := 1) rfl
  have b2 := (H2.out.blk 2 rfl).cell (i := 2) rfl
  have b3 := (H2.out.blk 2 rfl).cell (i := 3) rfl
  go_wp2_with fail
  refine (awake_any _).mono ?_
  rintro e w3 ⟨rfl, hb⟩
  have H3 := Lib.hid (H2.out.next hb)
  clear hb
  go_wp2
  go_ret
  exact ⟨rfl, H3.out.1⟩
set_option maxRecDepth 100000 in
set_option maxHeartbeats 2000000 in
theorem lazy_F (n c g l a b : Int) (hab : a ≤ b) (h : Rgt n c) (hl : W64 l) (ha : Gen a) (hb : 9223372036854775807 < b) (w : World) : Calls Try.prog 5 #[cu n c g l, .int .u64 a, .int .u64 b] w (Ret (.bool true) w) := by
  have q0 : same4 0 0 0 0 0 0 0 0 = true := rfl
  have HA := Lib.hid (fun w => see_ok n c g l a h hl ha w)
  have HB := Lib.hid (fun w => see_range n c g l b h hb w)
  clear h hl ha hb
  generalize n + lo n c a = N1 at *
  generalize u6 (l + lo n c a) = L1 at *
  have H0 := Lib.hid ((Cs.nil w).new n c g l)
  simp only [List.nil_append] at H0
  have a0 := (H0.out.blk 0 rfl).cell (i := 0) rfl
  have a1 := (H0.out.blk 0 rfl).cell (i := 1) rfl
  have a2 := (H0.out.blk 0 rfl).cell (i := 2) rfl
  have a3 := (H0.out.blk 0 rfl).cell (i := 3) rfl
  go_enter Try.func5, Try.ntmps5
  go_wp2_with fail
  refine (HA.out _).mono ?_
  rintro e w1 ⟨rfl, hb⟩
  have H1 := Lib.hid ((H0.out.next hb).new N1 c g L1)
  clear hb H0 a0 a1 a2 a3
  have a0 := (H1.out.blk 0 rfl).cell (i := 0) rfl
  have a1 := (H1.out.blk 0 rfl).cell (i := 1) rfl
  have a2 := (H1.out.blk 0 rfl).cell (i := 2) rfl
  have a3 := (H1.out.blk 0 rfl).cell (i := 3) rfl
  go_wp2_with fail
  refine (HB.out _).mono ?_
  rintro e w2 ⟨rfl, hb⟩
  have H2 := Lib.hid ((H1.out.next hb).new 0 0 0 0)
  clear hb H1 a0 a1 a2 a3
  have a0 := (H2.out.blk 1 rfl).cell (i := 0) rfl
  have a1 := (H2.out.blk 1 rfl).cell (i := 1) rfl
  have a2 := (H2.out.blk 1 rfl).cell (i := 2) rfl
  have a3 := (H2.out.blk 1 rfl).cell (i := 3) rfl
  have b0 := (H2.out.blk 2 rfl).cell (i := 0) rfl
  have b1 := (H2.out.blk 2 rfl).cell (i := 1) rfl
  have b2 := (H2.out.blk 2 rfl).cell (i := 2) rfl
  have b3 := (H2.out.blk 2 rfl).cell (i := 3) rfl
  go_wp2_with fail
  refine (awake_any _).mono ?_
  rintro e w3 ⟨rfl, hb⟩
  have H3 := Lib.hid (H2.out.next hb)
  clear hb
  go_wp2
  go_ret
  exact ⟨rfl, H3.out.1⟩
set_option maxRecDepth 100000 in
set_option maxHeartbeats 2000000 in
theorem lazy_Fs (n c g l a b : Int) (hab : a < b) (h : Rgt n c) (hl : W64 l) (ha : Gen a) (hb : 9223372036854775807 < b) (w : World) : Calls Try.prog 5 #[cu n c g l, .int .u64 b, .int .u64 a] w (Ret (.bool true) w) := by
  have q0 : same4 0 0 0 0 0 0 0 0 = true := rfl
  have HA := Lib.hid (fun w => see_ok n c g l a h hl ha w)
  have HB := Lib.hid (fun w => see_range n c g l b h hb w)
  clear h hl ha hb
  generalize n + lo n c a = N1 at *
  generalize u6 (l + lo n c a) = L1 at *
  have H0 := Lib.hid ((Cs.nil w).new n c g l)
  simp only [List.nil_append] at H0
  have a0 := (H0.out.blk 0 rfl).cell (i := 0) rfl
  have a1 := (H0.out.blk 0 rfl).cell (i := 1) rfl
  have a2 := (H0.out.blk 0 rfl).cell (i := 2) rfl
  have a3 := (H0.out.blk 0 rfl).cell (i := 3) rfl
  go_enter Try.func5, Try.ntmps5
  go_wp2_with fail
  refine (HA.out _).mono ?_
  rintro e w1 ⟨rfl, hb⟩
  have H1 := Lib.hid ((H0.out.next hb).new N1 c g L1)
  clear hb H0 a0 a1 a2 a3
  have a0 := (H1.out.blk 0 rfl).cell (i := 0) rfl
  have a1 := (H1.out.blk 0 rfl).cell (i := 1) rfl
  have a2 := (H1.out.blk 0 rfl).cell (i := 2) rfl
  have a3 := (H1.out.blk 0 rfl).cell (i := 3) rfl
  go_wp2_with fail
  refine (HB.out _).mono ?_
  rintro e w2 ⟨rfl, hb⟩
  have H2 := Lib.hid ((H1.out.next hb).new 0 0 0 0)
  clear hb H1 a0 a1 a2 a3
  have a0 := (H2.out.blk 1 rfl).cell (i := 0) rfl
  have a1 := (H2.out.blk 1 rfl).cell (i := 1) rfl
  have a2 := (H2.out.blk 1 rfl).cell (i := 2) rfl
  have a3 := (H2.out.blk 1 rfl).cell (i := 3) rfl
  have b0 := (H2.out.blk 2 rfl).cell (i := 0) rfl
  have b1 := (H2.out.blk 2 rfl).cell (i := 1) rfl
  have b2 := (H2.out.blk 2 rfl).cell (i := 2) rfl
  have b3 := (H2.out.blk 2 rfl).cell (i := 3) rfl
  go_wp2_with fail
  refine (awake_any _).mono ?_
  rintro e w3 ⟨rfl, hb⟩
  have H3 := Lib.hid (H2.out.next hb)
  clear hb
  go_wp2
  go_ret
  exact ⟨rfl, H3.out.1⟩
end Go.Proofs.Ytkkkicinlghikaa
