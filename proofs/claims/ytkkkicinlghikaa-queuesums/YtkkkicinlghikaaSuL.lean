/- The walk of the law QueueSums: all its branches. -/
import Derived.Test.YtkkkicinlghikaaSuW
namespace Go.Proofs.Ytkkkicinlghikaa
open Go.RowKit

attribute [local go_sem] eql27 neq27
set_option maxRecDepth 100000 in
theorem sums_not (beg r : Int) (a : Option Addr) (n cap : Nat) (w : World) (hW : Calls Try.prog 9 #[.int .u64 beg, .slice a n cap] w (Pur (.bool false) w)) :
    Calls Try.prog 4 #[.int .u64 beg, .int .i64 r, .slice a n cap] w (Ret (.bool true) w) := by
  have Hw := Lib.hid hW
  clear hW
  go_enter Try.func4, Try.ntmps4
  go_wp2_with fail
  refine Hw.out.mono ?_
  rintro e w' ⟨rfl, rfl⟩
  go_wp2_with fail
  refine (awake_any _).mono ?_
  rintro e w1 ⟨rfl, hb⟩
  go_wp2
  go_ret
  exact ⟨rfl, hb⟩
set_option maxRecDepth 100000 in
set_option maxHeartbeats 1000000 in
theorem sums_room (beg r : Int) (a : Option Addr) (n cap : Nat) (w : World) (hW : Calls Try.prog 9 #[.int .u64 beg, .slice a n cap] w (Pur (.bool true) w)) (hx : Gen beg) (hr : r < 1 ∨ 15 < r) :
    Calls Try.prog 4 #[.int .u64 beg, .int .i64 r, .slice a n cap] w (Ret (.bool true) w) := by
  have Hw := Lib.hid hW
  have HN := Lib.hid (fun w => new_room beg r hx (by omega) w)
  have q0 : same4 0 0 0 0 0 0 0 0 = true := rfl
  clear hW hx
  rcases hr with hr | hr
  · go_enter Try.func4, Try.ntmps4
    go_wp2_with fail
    refine Hw.out.mono ?_
    rintro e w' ⟨rfl, rfl⟩
    go_wp2_with fail
    refine (HN.out _).mono ?_
    rintro e w1 ⟨rfl, hb⟩
    have HC := Lib.hid (((Cs.nil w).next hb).new 0 0 0 0)
    have a0 := (HC.out.blk 0 rfl).cell (i := 0) rfl
    have a1 := (HC.out.blk 0 rfl).cell (i := 1) rfl
    have a2 := (HC.out.blk 0 rfl).cell (i := 2) rfl
    have a3 := (HC.out.blk 0 rfl).cell (i := 3) rfl
    clear hb
    go_wp2_with fail
    refine (awake_any _).mono ?_
    rintro e w2 ⟨rfl, hb⟩
    have H2 := Lib.hid (HC.out.next hb)
    clear hb
    go_wp2
    go_ret
    exact ⟨rfl, H2.out.1⟩
  · go_enter Try.func4, Try.ntmps4
    go_wp2_with fail
    refine Hw.out.mono ?_
    rintro e w' ⟨rfl, rfl⟩
    go_wp2_with fail
    refine (HN.out _).mono ?_
    rintro e w1 ⟨rfl, hb⟩
    have HC := Lib.hid (((Cs.nil w).next hb).new 0 0 0 0)
    have a0 := (HC.out.blk 0 rfl).cell (i := 0) rfl
    have a1 := (HC.out.blk 0 rfl).cell (i := 1) rfl
    have a2 := (HC.out.blk 0 rfl).cell (i := 2) rfl
    have a3 := (HC.out.blk 0 rfl).cell (i := 3) rfl
    clear hb
    go_wp2_with fail
    refine (awake_any _).mono ?_
    rintro e w2 ⟨rfl, hb⟩
    have H2 := Lib.hid (HC.out.next hb)
    clear hb
    go_wp2
    go_ret
    exact ⟨rfl, H2.out.1⟩
theorem sums_law {w : World} (beg r : Int) (a : Option Addr) (l : List (Int × Int)) (cap : Nat) (hu : W64 beg) (hA : Ats w.heap.size w a l) :
    Calls Try.prog 4 #[.int .u64 beg, .int .i64 r, .slice a l.length cap] w (Ret (.bool true) w) := by
  have hw := whole_any beg a cap l w hA
  by_cases h : Whl beg l
  · rw [whl_t h] at hw
    by_cases hr : 1 ≤ r ∧ r ≤ 15
    · exact sums_ok beg r a cap l w hA hu.1 h hr.1 hr.2
    · exact sums_room beg r a _ cap w hw ⟨hu.1, by have := h.1; omega⟩ (by omega)
  · rw [whl_f h] at hw
    exact sums_not beg r a _ cap w hw
end Go.Proofs.Ytkkkicinlghikaa
