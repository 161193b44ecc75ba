/- SnapAlone returns true. -/
import Derived.Test.YtflgggfomhifeaaAloW
namespace Go.Proofs.Ytflgggfomhifeaa
open Go.RowKit
theorem alone_law (a : Option Addr) (l : List Tp) (cap : Nat) (pa : Option Addr) (ms : List Int) (pc : Nat) (st : Int) (bt : Bool) (w : World) (hT : Tps w.heap.size w a l) (hM : Ids w.heap.size w pa ms) (hml : ms.length ≤ maxLen) (hi : I64 st) :
    Calls Try.prog 5 #[.slice a l.length cap, .slice pa ms.length pc, .agg #[.int .i64 st, .bool bt]] w (Ret (.bool true) w) := by
  by_cases h : okL l
  · obtain ⟨B0, n0, d0, t0⟩ := tn_of h (show 0 < l.length from h.1)
    have hB0 : B0 = 0 := by have := t0.lo; simp [tot] at this; omega
    subst hB0
    by_cases hs : 0 ≤ st ∧ st ≤ 6 ∧ st ≤ (n0 : Int) + 2
    · exact alo_walk a l cap pa ms pc st bt w hT hM hml h t0 hs.1 hs.2.1 hs.2.2
    · exact alo_many a l cap pa ms.length pc st bt w hT h t0 (by omega) hi
  · exact alo_bad a l cap pa ms.length pc st bt w hT h
end Go.Proofs.Ytflgggfomhifeaa
