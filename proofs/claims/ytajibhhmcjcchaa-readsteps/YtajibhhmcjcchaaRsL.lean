/- ReadSteps: all inputs. -/
import Derived.Test.YtajibhhmcjcchaaRsW
namespace Go.Proofs.Ytajibhhmcjcchaa
open Go.RowKit
theorem steps_law (n : Int) (S : Sp) (tr : Int) (aa : Option Addr) (acl : List Ac) (ac : Nat) (w : World) (hA : Acs w.heap.size w aa acl) : Calls Try.prog 3 #[.int .i64 n, .agg (jbx S tr).toArray, .slice aa acl.length ac] w (True1 w) := by
  by_cases h : 1 ≤ n ∧ n ≤ 60 ∧ acl.length ≤ 200
  · obtain ⟨h1, h2, h3⟩ := h
    obtain ⟨k, rfl⟩ := Int.eq_ofNat_of_zero_le (by omega : 0 ≤ n)
    cases hm : mb S tr with
    | false => exact steps_no k S tr aa acl.length ac w (by omega) (by omega) h3 hm
    | true => exact steps_walk k S tr aa acl ac w (by omega) (by omega) hA h3 hm
  · exact steps_bad n S tr aa acl.length ac w h
end Go.Proofs.Ytajibhhmcjcchaa
