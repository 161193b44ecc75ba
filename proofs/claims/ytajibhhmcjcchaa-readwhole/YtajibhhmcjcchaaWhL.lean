/- ReadWhole: all inputs. -/
import Derived.Test.YtajibhhmcjcchaaWhW
namespace Go.Proofs.Ytajibhhmcjcchaa
open Go.RowKit
theorem who_law (a : Option Addr) (rs : List Rw) (cap : Nat) (d t : Int) (pa : Option Addr) (ps : List Int) (pc : Nat) (w : World) (hR : Rws w.heap.size w a rs) (hP : Ids w.heap.size w pa ps) : Calls Try.prog 5 #[.slice a rs.length cap, .agg #[.int .i64 d, .int .i64 t], .slice pa ps.length pc] w (True1 w) := by
  by_cases h : 1 ≤ rs.length ∧ rs.length ≤ 40
  · obtain ⟨r0, hr0⟩ : ∃ r, rs[0]? = some r := ⟨_, List.getElem?_eq_getElem (by omega)⟩
    obtain ⟨_, lb, loff, rfl, hlt, hc⟩ := hR 0 r0 hr0
    by_cases h2 : 1 ≤ r0.2.2.length ∧ r0.2.2.length ≤ 6 ∧ 2 ≤ d ∧ d ≤ 16 ∧ 1 ≤ t ∧ t ≤ 16 ∧ ps.length ≤ 400
    · obtain ⟨a1, a2, a3, a4, a5, a6, a7⟩ := h2
      obtain ⟨dn, rfl⟩ := Int.eq_ofNat_of_zero_le (by omega : 0 ≤ d)
      obtain ⟨tn, rfl⟩ := Int.eq_ofNat_of_zero_le (by omega : 0 ≤ t)
      exact who_walk lb loff rs cap dn tn pa ps pc w hR hP h.1 h.2 r0 hr0 _ rfl a1 a2 (by omega) (by omega) (by omega) (by omega) a7
    · exact who_bad lb loff rs.length cap d t pa ps.length pc w _ _ _ h.1 h.2 hlt hc h2
  · exact who_few a _ cap d t pa ps.length pc w (by omega)
end Go.Proofs.Ytajibhhmcjcchaa
