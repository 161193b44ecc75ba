/- SnapWhole: all inputs. -/
import Derived.Test.YtflgggfomhifeaaWsW
namespace Go.Proofs.Ytflgggfomhifeaa
open Go.RowKit
theorem whole_law (a : Option Addr) (l : List Tp) (cap : Nat) (fi tr : Int) (pa : Option Addr) (ps : List Int) (pc : Nat) (w : World) (hT : Tps w.heap.size w a l) (hM : Ids w.heap.size w pa ps) (hfi : U64 fi) :
    Calls Try.prog 4 #[.slice a l.length cap, .agg #[.int .u64 fi, .int .i64 tr], .slice pa ps.length pc] w (Ret (.bool true) w) := by
  by_cases h : okL l
  · by_cases hp : 1 ≤ tr ∧ tr ≤ 16 ∧ ps.length ≤ 400
    · exact whole_walk a l cap fi tr pa ps pc w hT hM h hfi hp.1 hp.2.1 hp.2.2
    · exact whole_many a l cap fi tr pa ps.length pc w hT h hp
  · exact whole_bad a l cap fi tr pa ps.length pc w hT h
end Go.Proofs.Ytflgggfomhifeaa
