/- WriteSteps: the walk, whatever came in. -/
import Derived.Test.YtbfelghfimcenaaSpW
namespace Go.Proofs.Ytbfelghfimcenaa
open Go.RowKit
theorem steps_law (n : Int) (S : Sp) (J : Nat → Jb) (aa : Option Addr) (acl : List (Int × Int × Int)) (ac : Nat) (w : World) (hJ : ∀ k, k < 3 → Wds w.heap.size w (J k).1 (J k).2.2.1) (hA : Acs w.heap.size w aa acl) :
    Calls Try.prog 3 #[.int .i64 n, spV S, .agg (jbc J (.slice aa acl.length ac)).toArray] w (True1 w) := by
  by_cases h : 1 ≤ n ∧ n ≤ 60 ∧ acl.length ≤ 200 ∧ lnB (J 0).2.2.1.length (J 1).2.2.1.length (J 2).2.2.1.length = false
  · obtain ⟨n1, n2, hm, hl⟩ := h
    obtain ⟨e, rfl⟩ := Int.eq_ofNat_of_zero_le (by omega : 0 ≤ n)
    exact steps_walk e S J aa acl ac w hJ hA (by omega) (by omega) hm hl
  · exact steps_bad n S _ _ _ _ _ _ _ _ _ _ _ _ aa acl.length ac w h
end Go.Proofs.Ytbfelghfimcenaa
