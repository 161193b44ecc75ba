/- The walk of the law QueueCursors: generations that are none. -/
import Derived.Test.YtkkkicinlghikaaCs
namespace Go.Proofs.Ytkkkicinlghikaa
open Go.RowKit

attribute [local go_sem] eql27 neq27
theorem see_le {n c x : Int} (h : Rgt n c) (hx : Gen x) : n + lo n c x ≤ 9223372036854775808 := by
  obtain ⟨h0, h1, h2, h3⟩ := h
  obtain ⟨h4, h5⟩ := hx
  unfold lo wt
  split <;> split at * <;> omega
theorem wt_nn (n x : Int) : 0 ≤ wt n x := by unfold wt; split <;> omega
theorem qd_nn {n c x : Int} (h : Rgt n c) : 0 ≤ qd n c x := by
  obtain ⟨h0, h1, h2, h3⟩ := h
  have := wt_nn n x
  unfold qd
  split <;> omega
theorem qd_lt {n c x : Int} (h : Rgt n c) : qd n c x < 16 := by
  obtain ⟨h0, h1, h2, h3⟩ := h
  unfold qd
  split <;> omega
set_option maxRecDepth 100000 in
set_option maxHeartbeats 2000000 in
theorem cursors_GB (n c g l x r : Int) (hx : 9223372036854775807 < x) (E : Int) (hE : (E == 0) = false) (hM : may n c x = E) (hS : ∀ w, Calls Try.prog 15 #[cu n c g l, .int .u64 x] w (Ret (.tuple #[cu 0 0 0 0, .int .i64 E]) w)) (hC : ∀ w, Calls Try.prog 16 #[cu n c g l, .int .u64 x] w (Ret (.int .i64 0) w)) (w : World) : Calls Try.prog 6 #[cu n c g l, .int .u64 x, .int .i64 r] w (Ret (.bool true) w) := by
  have HN := Lib.hid (fun w => new_gen x r hx w)
  have hi := fun w => is_any x w
  simp only [decide_eq_false (show ¬ x < 9223372036854775808 by omega)] at hi
  have HI := Lib.hid hi
  clear hi
  have q0 : same4 0 0 0 0 0 0 0 0 = true := rfl
  have hm := fun w => may_any n c g l x w
  rw [hM] at hm
  have HM := Lib.hid hm
  have HS := Lib.hid hS
  have HT := Lib.hid (fun w => take_bad n c g l x E hE hS w)
  have HC := Lib.hid hC
  have hE2 : (E != 0) = true := by rw [bne, hE]; rfl
  clear hm hM hS hC
  have H0 := Lib.hid (Cs.two w n c g l)
  go_enter Try.func6, Try.ntmps6
  go_wp2_with fail
  refine (HN.out _).mono ?_
  rintro e w1 ⟨rfl, hb⟩
  have H1 := Lib.hid ((H0.out.next hb).new 0 0 0 0)
  clear hb H0
  have a0 := (H1.out.blk 0 rfl).cell (i := 0) rfl
  have a1 := (H1.out.blk 0 rfl).cell (i := 1) rfl
  have a2 := (H1.out.blk 0 rfl).cell (i := 2) rfl
  have a3 := (H1.out.blk 0 rfl).cell (i := 3) rfl
  have b0 := (H1.out.blk 2 rfl).cell (i := 0) rfl
  have b1 := (H1.out.blk 2 rfl).cell (i := 1) rfl
  have b2 := (H1.out.blk 2 rfl).cell (i := 2) rfl
  have b3 := (H1.out.blk 2 rfl).cell (i := 3) rfl
  go_wp2_with fail
  refine (HI.out _).mono ?_
  rintro e w' ⟨rfl, rfl⟩
  go_wp2_with fail
  refine (HS.out _).mono ?_
  rintro e w2 ⟨rfl, hb⟩
  have H2 := Lib.hid ((H1.out.next hb).new 0 0 0 0)
  clear hb H1 a0 a1 a2 a3 b0 b1 b2 b3
  have a0 := (H2.out.blk 0 rfl).cell (i := 0) rfl
  have a1 := (H2.out.blk 0 rfl).cell (i := 1) rfl
  have a2 := (H2.out.blk 0 rfl).cell (i := 2) rfl
  have a3 := (H2.out.blk 0 rfl).cell (i := 3) rfl
  go_wp2_with fail
  refine (HT.out _).mono ?_
  rintro e w3 ⟨rfl, hb⟩
  have H3 := Lib.hid ((H2.out.next hb).new 0 0 0 0)
  clear hb H2 a0 a1 a2 a3
  have a0 := (H3.out.blk 1 rfl).cell (i := 0) rfl
  have a1 := (H3.out.blk 1 rfl).cell (i := 1) rfl
  have a2 := (H3.out.blk 1 rfl).cell (i := 2) rfl
  have a3 := (H3.out.blk 1 rfl).cell (i := 3) rfl
  go_wp2_with fail
  refine (HM.out _).mono ?_
  rintro e w4 ⟨rfl, hb⟩
  have H4 := Lib.hid (H3.out.next hb)
  clear hb H3 a0 a1 a2 a3
  have a0 := (H4.out.blk 0 rfl).cell (i := 0) rfl
  have a1 := (H4.out.blk 0 rfl).cell (i := 1) rfl
  have a2 := (H4.out.blk 0 rfl).cell (i := 2) rfl
  have a3 := (H4.out.blk 0 rfl).cell (i := 3) rfl
  have b0 := (H4.out.blk 3 rfl).cell (i := 0) rfl
  have b1 := (H4.out.blk 3 rfl).cell (i := 1) rfl
  have b2 := (H4.out.blk 3 rfl).cell (i := 2) rfl
  have b3 := (H4.out.blk 3 rfl).cell (i := 3) rfl
  have c0 := (H4.out.blk 4 rfl).cell (i := 0) rfl
  have c1 := (H4.out.blk 4 rfl).cell (i := 1) rfl
  have c2 := (H4.out.blk 4 rfl).cell (i := 2) rfl
  have c3 := (H4.out.blk 4 rfl).cell (i := 3) rfl
  go_wp2_with fail
  refine (HC.out _).mono ?_
  rintro e w5 ⟨rfl, hb⟩
  have H5 := Lib.hid (H4.out.next hb)
  clear hb
  go_wp2_with fail
  refine (awake_any _).mono ?_
  rintro e w6 ⟨rfl, hb⟩
  have H6 := Lib.hid (H5.out.next hb)
  clear hb
  go_wp2
  go_ret
  exact ⟨rfl, H6.out.1⟩
end Go.Proofs.Ytkkkicinlghikaa
