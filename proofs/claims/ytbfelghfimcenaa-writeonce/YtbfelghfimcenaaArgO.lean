/- What came in: three slices of words by value; a slice of ints. -/
import Derived.Test.YtbfelghfimcenaaOnB
namespace Go.Proofs.Ytbfelghfimcenaa
open Go.RowKit Go.Deep Go.ChangeShapes Go.WideShapes Go.ChangeAt

theorem okWide_array {P : Program} {w : World} {r : Reach} {base : Nat} {t : TypeId} {v : Value} {n : Nat} {e : TypeId} (ht : P.underlying t = some (.array n e)) (h : Value.okWide P w r base t v) : ∃ cs, v = .agg cs ∧ cs.size = P.cellsOf t := by
  simp only [Value.okWide, ht] at h
  obtain ⟨cs, h1, h2, _⟩ := h
  exact ⟨cs, h1, h2⟩
set_option maxRecDepth 100000 in
theorem arr3_of {H : Type} {enc : TypeId × Value → H} {W : World} {base b0 : Nat} {r : Reach} {spare : Nat → Bool} {held : Bool} {v : Value} {d : DataW H} {p : List MemPlace}
    (hv : Value.okWide Try.prog W r b0 67 v) (h : DataW.Trod enc Try.prog W base spare held 67 v d p) :
    ∃ R : Nat → Rw, v = .agg #[rwv (R 0), rwv (R 1), rwv (R 2)] ∧ ∀ k, k < 3 → Wds W.heap.size W (R k).1 (R k).2.2 := by
  obtain ⟨cs, rfl, hsz⟩ := okWide_array Try.underlying67 hv
  obtain ⟨fuel, hf⟩ := h
  have hy : DataW.trod enc Try.prog W base spare held fuel 67 cs.toList = some (d, p) := by simpa [Value.cells] using hf
  obtain ⟨xs, m, _, _, hlen, hxl, hq⟩ := DataW.trod_array Try.underlying67 hy
  have hlen3 : cs.toList.length = 3 := hlen.trans (by kernel_rfl)
  rw [show Try.prog.cellsOf 24 = 1 from by kernel_rfl] at hq
  obtain ⟨ls⟩ := cs
  match ls, hlen3 with
  | [v0, v1, v2], _ =>
    have a0 := hq 0 (by omega)
    have a1 := hq 1 (by omega)
    have a2 := hq 2 (by omega)
    rw [List.getElem?_eq_getElem (by omega)] at a0 a1 a2
    obtain ⟨q0, c0, w0, rfl, h0, _⟩ := words_trod (v := v0) (by simpa using a0)
    obtain ⟨q1, c1, w1, rfl, h1, _⟩ := words_trod (v := v1) (by simpa using a1)
    obtain ⟨q2, c2, w2, rfl, h2, _⟩ := words_trod (v := v2) (by simpa using a2)
    refine ⟨fun k => if k = 0 then (q0, c0, w0) else if k = 1 then (q1, c1, w1) else (q2, c2, w2), rfl, fun k hk => ?_⟩
    match k, hk with
    | 0, _ => exact h0
    | 1, _ => exact h1
    | 2, _ => exact h2
theorem ints_of {H : Type} {enc : TypeId × Value → H} {W : World} {base : Nat} {spare : Nat → Bool} {held : Bool} {a : Option Addr} {len cap : Nat} {d : DataW H} {p : List MemPlace}
    (h : DataW.Trod enc Try.prog W base spare held 68 (.slice a len cap) d p) : ∃ xs : List Int, len = xs.length ∧ Ids W.heap.size W a xs := by
  obtain ⟨fuel, hf⟩ := h
  obtain ⟨rows, hlies, hrow⟩ := lies_of (n := 1) (v := .slice a len cap) Try.underlying68 (by kernel_rfl) (by omega) (by simpa [Value.cells] using hf)
  obtain ⟨l, rfl, hl⟩ := list_map (fun z : Int => [Value.int .i64 z]) I64 rows (fun r hr => by
    obtain ⟨m, y, hy⟩ := hrow r hr
    obtain ⟨n0, e0, _, w0⟩ := DataW.trod_int Try.underlying3 hy
    exact ⟨n0, e0, i64_of_wf w0⟩)
  refine ⟨l, ?_, fun j r hr => ⟨hl r (List.mem_of_getElem? hr), ?_⟩⟩
  · have := hlies.len
    simpa using this.1
  · obtain ⟨b, off, e1, _, hc⟩ := hlies.at (Below.refl _ _) (i := j) (r := [Value.int .i64 r]) (by simp [hr])
    have hc0 := hc 0 _ rfl
    refine ⟨b, off, e1, ?_, by simpa using hc0⟩
    exact World.block_lt_of_cell? _ _ hc0
end Go.Proofs.Ytbfelghfimcenaa
