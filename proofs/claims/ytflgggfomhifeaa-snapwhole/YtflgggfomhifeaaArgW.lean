/- What came in: slices of words, of ints; slices of slices. -/
import Derived.Test.YtflgggfomhifeaaArgs
import Derived.Test.YtflgggfomhifeaaNewO
import Derived.OpenShut
import Derived.ChangeOld
namespace Go.Proofs.Ytflgggfomhifeaa
open Go.RowKit Go.Deep Go.ChangeShapes Go.WideShapes Go.ChangeAt

/-- A slice of words that came in. -/
theorem words_trod {H : Type} {enc : TypeId × Value → H} {W : World} {base fuel : Nat} {spare : Nat → Bool} {held : Bool} {v : Value} {x : DataW H × List MemPlace}
    (hf : DataW.trod enc Try.prog W base spare held fuel 41 [v] = some x) : ∃ (a : Option Addr) (cap : Nat) (xs : List Int), v = .slice a xs.length cap ∧ Wds W.heap.size W a xs ∧ xs.length ≤ maxLen := by
  obtain ⟨rows, hlies, hrow⟩ := lies_of (n := 1) Try.underlying41 (by kernel_rfl) (by omega) hf
  obtain ⟨l, rfl, hl⟩ := list_map (fun z : Int => [Value.int .u64 z]) U64 rows (fun r hr => by
    obtain ⟨m, y, hy⟩ := hrow r hr
    obtain ⟨n0, e0, _, w0⟩ := DataW.trod_int Try.underlying42 hy
    exact ⟨n0, e0, u64_of_wf w0⟩)
  rcases hlies with ⟨a, cap, rfl, h0⟩ | ⟨b, off, cap', hs, hc1, hc2, hlt, hc⟩
  · have : l = [] := by simpa using h0
    subst this
    exact ⟨a, cap, [], rfl, fun j x hx => by simp at hx, by simp⟩
  · refine ⟨some ⟨b, off, none⟩, cap', l, by rw [hs]; simp, fun j z hz => ⟨hl z (List.mem_of_getElem? hz), b, off, rfl, hlt, ?_⟩, by simp at hc1; omega⟩
    have := (hc j [Value.int .u64 z] (by simp [hz])).2 0 _ rfl
    simpa using this
theorem words_of {H : Type} {enc : TypeId × Value → H} {W : World} {base : Nat} {spare : Nat → Bool} {held : Bool} {a : Option Addr} {len cap : Nat} {d : DataW H} {p : List MemPlace}
    (h : DataW.Trod enc Try.prog W base spare held 41 (.slice a len cap) d p) : ∃ xs : List Int, len = xs.length ∧ Wds W.heap.size W a xs := by
  obtain ⟨fuel, hf⟩ := h
  obtain ⟨a', cap', xs, e, hw, _⟩ := words_trod (v := .slice a len cap) (by simpa [Value.cells] using hf)
  cases e
  exact ⟨xs, rfl, hw⟩
end Go.Proofs.Ytflgggfomhifeaa
