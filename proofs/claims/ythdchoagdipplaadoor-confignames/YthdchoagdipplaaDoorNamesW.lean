/- The walk of the law ConfigNames. -/
import Derived.Test.YthdchoagdipplaaDoorAwk
import Derived.Test.YthdchoagdipplaaDoorRNam
namespace Go.Proofs.YthdchoagdipplaaDoor
open Go.RowKit

set_option maxHeartbeats 1000000 in
theorem names_law (s : ByteArray) (w : World) (hM : ML w) : Calls Tryd.prog 4 #[.string s] w (Ret (.bool true) w) := by
  by_cases h : 100 < s.size
  · have hd : decide ((100 : Int) < (s.size : Int)) = true := decide_eq_true (by omega)
    go_enter Tryd.func4, Tryd.ntmps4
    go_wp2_with fail
    refine (awake_any w hM).mono ?_
    rintro e w1 ⟨rfl, hb1⟩
    go_wp2
    go_ret
    exact ⟨rfl, hb1⟩
  · have hd : decide ((100 : Int) < (s.size : Int)) = false := decide_eq_false (by omega)
    go_enter Tryd.func4, Tryd.ntmps4
    go_wp2_with fail
    refine (name_any s w (by omega)).mono ?_
    rintro e w1 ⟨rfl, rfl⟩
    go_wp2_with fail
    refine (rname_any s w (by omega)).mono ?_
    rintro e w1 ⟨rfl, rfl⟩
    generalize nmB (bs s) = b
    have hbb : (b == b) = true := by cases b <;> rfl
    go_wp2_with fail
    refine (awake_any w hM).mono ?_
    rintro e w1 ⟨rfl, hb1⟩
    go_wp2
    go_ret
    exact ⟨rfl, hb1⟩
end Go.Proofs.YthdchoagdipplaaDoor
