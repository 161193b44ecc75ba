/- SnapTwo returns true. -/
import Derived.Test.YtflgggfomhifeaaTwW
namespace Go.Proofs.Ytflgggfomhifeaa
open Go.RowKit
theorem two_law (a : Option Addr) (l : List Tp) (cap : Nat) (pa : Option Addr) (ps : List Int) (pc : Nat) (w : World) (hT : Tps w.heap.size w a l) (hM : Ids w.heap.size w pa ps) :
    Calls Try.prog 6 #[.slice a l.length cap, .slice pa ps.length pc] w (Ret (.bool true) w) := by
  by_cases h : okL l
  · by_cases hp : ps.length ≤ 200
    · exact two_walk a l cap pa ps pc w hT hM h hp
    · exact two_many a l cap pa ps.length pc w hT h (by omega)
  · exact two_bad a l cap pa ps.length pc w hT h
end Go.Proofs.Ytflgggfomhifeaa
