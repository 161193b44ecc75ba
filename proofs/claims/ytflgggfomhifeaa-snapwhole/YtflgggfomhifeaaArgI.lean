/- What came in: ints; how many steps a writer does ahead. -/
import Derived.Test.YtflgggfomhifeaaAloM
import Derived.Test.YtflgggfomhifeaaArgW
namespace Go.Proofs.Ytflgggfomhifeaa
open Go.RowKit Go.Deep Go.ChangeShapes Go.WideShapes Go.ChangeAt

theorem ints_of {H : Type} {enc : TypeId × Value → H} {W : World} {base : Nat} {spare : Nat → Bool} {held : Bool} {a : Option Addr} {len cap : Nat} {d : DataW H} {p : List MemPlace}
    (h : DataW.Trod enc Try.prog W base spare held 59 (.slice a len cap) d p) : ∃ xs : List Int, len = xs.length ∧ Ids W.heap.size W a xs ∧ xs.length ≤ maxLen := by
  obtain ⟨fuel, hf⟩ := h
  obtain ⟨rows, hlies, hrow⟩ := lies_of (n := 1) (v := .slice a len cap) Try.underlying59 (by kernel_rfl) (by omega) (by simpa [Value.cells] using hf)
  obtain ⟨l, rfl, hl⟩ := list_map (fun z : Int => [Value.int .i64 z]) I64 rows (fun r hr => by
    obtain ⟨m, y, hy⟩ := hrow r hr
    obtain ⟨n0, e0, _, w0⟩ := DataW.trod_int Try.underlying3 hy
    exact ⟨n0, e0, i64_of_wf w0⟩)
  have hll := hlies.len
  refine ⟨l, ?_, fun j r hr => ⟨hl r (List.mem_of_getElem? hr), ?_⟩, ?_⟩
  · simpa using hll.1
  · obtain ⟨b, off, e1, _, hc⟩ := hlies.at (Below.refl _ _) (i := j) (r := [Value.int .i64 r]) (by simp [hr])
    have hc0 := hc 0 _ rfl
    refine ⟨b, off, e1, ?_, by simpa using hc0⟩
    exact World.block_lt_of_cell? _ _ hc0
  · have h1 : len = l.length := by simpa using hll.1
    rw [← h1]
    exact hll.2
set_option maxRecDepth 100000 in
theorem ahd_of {H : Type} {enc : TypeId × Value → H} {W : World} {base b0 : Nat} {r : Reach} {spare : Nat → Bool} {held : Bool} {v : Value} {d : DataW H} {p : List MemPlace}
    (hv : Value.okWide Try.prog W r b0 76 v) (h : DataW.Trod enc Try.prog W base spare held 76 v d p) : ∃ (st : Int) (bt : Bool), v = .agg #[.int .i64 st, .bool bt] ∧ I64 st := by
  obtain ⟨cs, rfl, hsz⟩ := okWide_struct Try.underlying76 hv
  obtain ⟨fuel, hf⟩ := h
  have hy : DataW.trod enc Try.prog W base spare held fuel 76 cs.toList = some (d, p) := by simpa [Value.cells] using hf
  obtain ⟨hlen, h0⟩ := row_fields Try.underlying76 (by kernel_rfl) hy (j := 0) rfl
  obtain ⟨_, h1⟩ := row_fields Try.underlying76 (by kernel_rfl) hy (j := 1) rfl
  have hl2 : cs.toList.length = 2 := hlen.trans (by kernel_rfl)
  obtain ⟨ls⟩ := cs
  match ls, hl2 with
  | [v0, v1], _ =>
    obtain ⟨m0, z0, k0⟩ := h0 v0 rfl
    obtain ⟨m1, z1, k1⟩ := h1 v1 rfl
    obtain ⟨n0, e0, _, w0⟩ := DataW.trod_int Try.underlying3 k0
    obtain ⟨n1, e1, _⟩ := DataW.trod_bool Try.underlying4 k1
    simp only [List.cons.injEq, and_true] at e0 e1
    exact ⟨n0, n1, by rw [e0, e1], i64_of_wf w0⟩
end Go.Proofs.Ytflgggfomhifeaa
