/- Bounds of what is queued. -/
import Derived.Test.YtkkkicinlghikaaCs
namespace Go.Proofs.Ytkkkicinlghikaa
open Go.RowKit

theorem see_le {n c x : Int} (h : Rgt n c) (hx : Gen x) : n + lo n c x ≤ 9223372036854775808 := by
  obtain ⟨h0, h1, h2, h3⟩ := h
  obtain ⟨h4, h5⟩ := hx
  unfold lo wt
  split <;> split at * <;> omega
theorem wt_nn (n x : Int) : 0 ≤ wt n x := by unfold wt; split <;> omega
theorem qd_nn {n c x : Int} (h : Rgt n c) : 0 ≤ qd n c x := by
  obtain ⟨h0, h1, h2, h3⟩ := h
  have := wt_nn n x
  unfold qd
  split <;> omega
theorem qd_lt {n c x : Int} (h : Rgt n c) : qd n c x < 16 := by
  obtain ⟨h0, h1, h2, h3⟩ := h
  unfold qd
  split <;> omega
end Go.Proofs.Ytkkkicinlghikaa
