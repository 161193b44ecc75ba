/- What came in: topics. -/
import Derived.Test.YtflgggfomhifeaaTpM
import Derived.Test.YtflgggfomhifeaaArgW
namespace Go.Proofs.Ytflgggfomhifeaa
open Go.RowKit Go.Deep Go.ChangeShapes Go.WideShapes Go.ChangeAt

theorem tps_of {H : Type} {enc : TypeId × Value → H} {W : World} {base : Nat} {spare : Nat → Bool} {held : Bool} {a : Option Addr} {len cap : Nat} {d : DataW H} {p : List MemPlace}
    (h : DataW.Trod enc Try.prog W base spare held 56 (.slice a len cap) d p) : ∃ l : List Tp, len = l.length ∧ Tps W.heap.size W a l := by
  obtain ⟨fuel, hf⟩ := h
  obtain ⟨rows, hlies, hrow⟩ := lies_of (n := 2) (v := .slice a len cap) Try.underlying56 (by kernel_rfl) (by omega) (by simpa [Value.cells] using hf)
  obtain ⟨l, rfl, hl⟩ := list_map (fun z : Tp => [Value.int .i64 z.1, Value.int .i64 z.2]) (fun z => I64 z.1 ∧ I64 z.2) rows (fun r hr => by
    obtain ⟨m, y, hy⟩ := hrow r hr
    obtain ⟨hlen, h0⟩ := row_fields Try.underlying72 (by kernel_rfl) hy (j := 0) rfl
    obtain ⟨_, h1⟩ := row_fields Try.underlying72 (by kernel_rfl) hy (j := 1) rfl
    have hl2 : r.length = 2 := hlen.trans (by kernel_rfl)
    match r, hl2 with
    | [v0, v1], _ =>
      obtain ⟨m0, z0, k0⟩ := h0 v0 rfl
      obtain ⟨m1, z1, k1⟩ := h1 v1 rfl
      obtain ⟨n0, e0, _, w0⟩ := DataW.trod_int Try.underlying3 k0
      obtain ⟨n1, e1, _, w1⟩ := DataW.trod_int Try.underlying3 k1
      simp only [List.cons.injEq, and_true] at e0 e1
      exact ⟨(n0, n1), by rw [e0, e1], i64_of_wf w0, i64_of_wf w1⟩)
  rcases hlies with ⟨a', cap', hs, h0⟩ | ⟨b, off, cap', hs, hc1, hc2, hlt, hc⟩
  · have h00 : l = [] := by simpa using h0
    subst h00
    cases hs
    exact ⟨[], rfl, fun j x hx => by simp at hx⟩
  · have hs' : (Value.slice a len cap) = .slice (some ⟨b, off, none⟩) (l.map (fun z : Tp => [Value.int .i64 z.1, Value.int .i64 z.2])).length cap' := hs
    cases hs'
    refine ⟨l, by simp, fun j z hz => ?_⟩
    obtain ⟨h2, h3⟩ := hl z (List.mem_of_getElem? hz)
    have := (hc j [Value.int .i64 z.1, Value.int .i64 z.2] (by simp only [List.getElem?_map, hz, Option.map_some])).2
    exact ⟨b, off, rfl, hlt, by simpa using this 0 _ rfl, this 1 _ rfl, h2, h3⟩
end Go.Proofs.Ytflgggfomhifeaa
