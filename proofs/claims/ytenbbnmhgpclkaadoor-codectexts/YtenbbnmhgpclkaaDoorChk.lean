/- codec.Check: its contract. -/
import Derived.Test.YtenbbnmhgpclkaaDoorPla
namespace Go.Proofs.YtenbbnmhgpclkaaDoor
open Go.RowKit
theorem check_any (a : Option Addr) (len cap : Nat) (l : List (Int × Int)) (w : World) (hl : len = l.length) (hP : Prs w.heap.size w a l) (hK : KD w) :
    Calls Tryd.prog 13 #[.slice a len cap] w (Ret (.int .i64 (plErr l)) w) := by
  subst hl
  go_enter Tryd.func13, Tryd.ntmps13
  go_wp2_with fail
  refine (places_any a _ cap l w rfl hP hK).mono ?_
  rintro e w1 ⟨a1, c1, rfl, hb, _⟩
  go_wp2
  go_ret
  exact ⟨rfl, hb⟩
end Go.Proofs.YtenbbnmhgpclkaaDoor
