/- What came in: two ints by value; a slice of ints. -/
import Derived.Test.YtajibhhmcjcchaaWhB
import Derived.Test.YtajibhhmcjcchaaArgW
namespace Go.Proofs.Ytajibhhmcjcchaa
open Go.RowKit Go.Deep Go.ChangeShapes Go.WideShapes Go.ChangeAt

theorem okWide_array {P : Program} {w : World} {r : Reach} {base : Nat} {t : TypeId} {v : Value} {n : Nat} {e : TypeId} (ht : P.underlying t = some (.array n e)) (h : Value.okWide P w r base t v) : ∃ cs, v = .agg cs ∧ cs.size = P.cellsOf t := by
  simp only [Value.okWide, ht] at h
  obtain ⟨cs, h1, h2, _⟩ := h
  exact ⟨cs, h1, h2⟩
set_option maxRecDepth 100000 in
theorem arr2_of {H : Type} {enc : TypeId × Value → H} {W : World} {base b0 : Nat} {r : Reach} {spare : Nat → Bool} {held : Bool} {v : Value} {d : DataW H} {p : List MemPlace}
    (hv : Value.okWide Try.prog W r b0 66 v) (h : DataW.Trod enc Try.prog W base spare held 66 v d p) : ∃ x y : Int, v = .agg #[.int .i64 x, .int .i64 y] := by
  obtain ⟨cs, rfl, hsz⟩ := okWide_array Try.underlying66 hv
  obtain ⟨fuel, hf⟩ := h
  have hy : DataW.trod enc Try.prog W base spare held fuel 66 cs.toList = some (d, p) := by simpa [Value.cells] using hf
  obtain ⟨xs, m, _, _, hlen, hxl, hq⟩ := DataW.trod_array Try.underlying66 hy
  have hlen2 : cs.toList.length = 2 := hlen.trans (by kernel_rfl)
  rw [show Try.prog.cellsOf 3 = 1 from by kernel_rfl] at hq
  obtain ⟨ls⟩ := cs
  match ls, hlen2 with
  | [v0, v1], _ =>
    have a0 := hq 0 (by omega)
    have a1 := hq 1 (by omega)
    rw [List.getElem?_eq_getElem (by omega)] at a0 a1
    obtain ⟨n0, e0, _, _⟩ := DataW.trod_int Try.underlying3 (show DataW.trod enc Try.prog W base spare held m 3 [v0] = some _ from by simpa using a0)
    obtain ⟨n1, e1, _, _⟩ := DataW.trod_int Try.underlying3 (show DataW.trod enc Try.prog W base spare held m 3 [v1] = some _ from by simpa using a1)
    simp only [List.cons.injEq, and_true] at e0 e1
    exact ⟨n0, n1, by rw [e0, e1]⟩
theorem ints_of {H : Type} {enc : TypeId × Value → H} {W : World} {base : Nat} {spare : Nat → Bool} {held : Bool} {a : Option Addr} {len cap : Nat} {d : DataW H} {p : List MemPlace}
    (h : DataW.Trod enc Try.prog W base spare held 67 (.slice a len cap) d p) : ∃ xs : List Int, len = xs.length ∧ Ids W.heap.size W a xs := by
  obtain ⟨fuel, hf⟩ := h
  obtain ⟨rows, hlies, hrow⟩ := lies_of (n := 1) (v := .slice a len cap) Try.underlying67 (by kernel_rfl) (by omega) (by simpa [Value.cells] using hf)
  obtain ⟨l, rfl, hl⟩ := list_map (fun z : Int => [Value.int .i64 z]) I64 rows (fun r hr => by
    obtain ⟨m, y, hy⟩ := hrow r hr
    obtain ⟨n0, e0, _, w0⟩ := DataW.trod_int Try.underlying3 hy
    exact ⟨n0, e0, i64_of_wf w0⟩)
  refine ⟨l, ?_, fun j r hr => ⟨hl r (List.mem_of_getElem? hr), ?_⟩⟩
  · have := hlies.len
    simpa using this.1
  · obtain ⟨b, off, e1, _, hc⟩ := hlies.at (Below.refl _ _) (i := j) (r := [Value.int .i64 r]) (by simp [hr])
    have hc0 := hc 0 _ rfl
    refine ⟨b, off, e1, ?_, by simpa using hc0⟩
    exact World.block_lt_of_cell? _ _ hc0
end Go.Proofs.Ytajibhhmcjcchaa
