/- What a walk is told of a slice of words that came in. -/
import Derived.Test.YtenbbnmhgpclkaaDoorLift
import Derived.Test.YtenbbnmhgpclkaaDoorDecM
namespace Go.Proofs.YtenbbnmhgpclkaaDoor
open Go.RowKit Go.Deep Go.ChangeShapes Go.WideShapes Go.ChangeAt

/-- A slice of words that came in. -/
theorem words_of {H : Type} {enc : TypeId × Value → H} {W : World} {base : Nat} {spare : Nat → Bool} {held : Bool} {a : Option Addr} {len cap : Nat} {d : DataW H} {p : List MemPlace}
    (h : DataW.Trod enc Tryd.prog W base spare held 34 (.slice a len cap) d p) : ∃ xs : List Nat, len = xs.length ∧ Words W.heap.size W a xs := by
  obtain ⟨fuel, hf⟩ := h
  obtain ⟨rows, hlies, hrow⟩ := lies_of (n := 1) Tryd.underlying34 (by kernel_rfl) (by omega) (by simpa [Value.cells] using hf)
  obtain ⟨l, rfl, hl⟩ := list_map (fun z : Nat => [Value.int .u64 (z : Int)]) W64 rows (fun r hr => by
    obtain ⟨m, y, hy⟩ := hrow r hr
    obtain ⟨n0, e0, _, w0⟩ := DataW.trod_int Tryd.underlying61 hy
    obtain ⟨k, rfl, hk⟩ := u64_nat w0
    exact ⟨k, e0, hk⟩)
  refine ⟨l, by have := hlies.len.1; simpa using this, fun j z hz => ⟨hl z (List.mem_of_getElem? hz), ?_⟩⟩
  have hj : (l.map fun z : Nat => [Value.int .u64 (z : Int)])[j]? = some [Value.int .u64 (z : Int)] := by simp [hz]
  rcases hlies with ⟨_, _, _, h0⟩ | ⟨b, off, cap', hs, _, _, hlt, hc⟩
  · simp at h0; subst h0; simp at hz
  · simp only [Value.slice.injEq] at hs
    refine ⟨b, off, hs.1, hlt, ?_⟩
    have := (hc j _ hj).2 0 _ rfl
    simpa using this
end Go.Proofs.YtenbbnmhgpclkaaDoor
