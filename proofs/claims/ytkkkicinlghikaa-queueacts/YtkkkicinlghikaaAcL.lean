/- The walk of the law QueueActs: all its branches. -/
import Derived.Test.YtkkkicinlghikaaAcW
namespace Go.Proofs.Ytkkkicinlghikaa
open Go.RowKit

set_option maxRecDepth 100000 in
theorem acts_not (beg r : Int) (a : Option Addr) (n cap : Nat) (w : World) (hW : Calls Try.prog 9 #[.int .u64 beg, .slice a n cap] w (Pur (.bool false) w)) :
    Calls Try.prog 3 #[.int .u64 beg, .int .i64 r, .slice a n cap] w (Ret (.bool true) w) := by
  have Hw := Lib.hid hW
  clear hW
  go_enter Try.func3, Try.ntmps3
  go_wp2_with fail
  refine Hw.out.mono ?_
  rintro e w' ⟨rfl, rfl⟩
  go_wp2_with fail
  refine (awake_any _).mono ?_
  rintro e w1 ⟨rfl, hb⟩
  go_wp2
  go_ret
  exact ⟨rfl, hb⟩
set_option maxRecDepth 100000 in
theorem acts_room (beg r : Int) (a : Option Addr) (n cap : Nat) (w : World) (hW : Calls Try.prog 9 #[.int .u64 beg, .slice a n cap] w (Pur (.bool true) w)) (hr : r < 1 ∨ 15 < r) :
    Calls Try.prog 3 #[.int .u64 beg, .int .i64 r, .slice a n cap] w (Ret (.bool true) w) := by
  have Hw := Lib.hid hW
  clear hW
  rcases hr with hr | hr
  · go_enter Try.func3, Try.ntmps3
    go_wp2_with fail
    refine Hw.out.mono ?_
    rintro e w' ⟨rfl, rfl⟩
    go_wp2_with fail
    refine (awake_any _).mono ?_
    rintro e w1 ⟨rfl, hb⟩
    go_wp2
    go_ret
    exact ⟨rfl, hb⟩
  · go_enter Try.func3, Try.ntmps3
    go_wp2_with fail
    refine Hw.out.mono ?_
    rintro e w' ⟨rfl, rfl⟩
    go_wp2_with fail
    refine (awake_any _).mono ?_
    rintro e w1 ⟨rfl, hb⟩
    go_wp2
    go_ret
    exact ⟨rfl, hb⟩
theorem acts_law {w : World} (beg r : Int) (a : Option Addr) (l : List (Int × Int)) (cap : Nat) (hu : W64 beg) (hA : Ats w.heap.size w a l) :
    Calls Try.prog 3 #[.int .u64 beg, .int .i64 r, .slice a l.length cap] w (Ret (.bool true) w) := by
  have hw := whole_any beg a cap l w hA
  by_cases h : Whl beg l
  · rw [whl_t h] at hw
    by_cases hr : 1 ≤ r ∧ r ≤ 15
    · exact acts_ok beg r a cap l w hA hu.1 h hr.1 hr.2
    · exact acts_room beg r a _ cap w hw (by omega)
  · rw [whl_f h] at hw
    exact acts_not beg r a _ cap w hw
end Go.Proofs.Ytkkkicinlghikaa
