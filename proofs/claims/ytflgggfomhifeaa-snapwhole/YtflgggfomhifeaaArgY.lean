/- What came in: what records are made of, and how often a snapshot may try. -/
import Derived.Test.YtflgggfomhifeaaArgI
namespace Go.Proofs.Ytflgggfomhifeaa
open Go.RowKit Go.Deep Go.ChangeShapes Go.WideShapes Go.ChangeAt

set_option maxRecDepth 100000 in
theorem try_of {H : Type} {enc : TypeId × Value → H} {W : World} {base b0 : Nat} {r : Reach} {spare : Nat → Bool} {held : Bool} {v : Value} {d : DataW H} {p : List MemPlace}
    (hv : Value.okWide Try.prog W r b0 58 v) (h : DataW.Trod enc Try.prog W base spare held 58 v d p) : ∃ (fi tr : Int), v = .agg #[.int .u64 fi, .int .i64 tr] ∧ U64 fi := by
  obtain ⟨cs, rfl, hsz⟩ := okWide_struct Try.underlying58 hv
  obtain ⟨fuel, hf⟩ := h
  have hy : DataW.trod enc Try.prog W base spare held fuel 58 cs.toList = some (d, p) := by simpa [Value.cells] using hf
  obtain ⟨hlen, h0⟩ := row_fields Try.underlying58 (by kernel_rfl) hy (j := 0) rfl
  obtain ⟨_, h1⟩ := row_fields Try.underlying58 (by kernel_rfl) hy (j := 1) rfl
  have hl2 : cs.toList.length = 2 := hlen.trans (by kernel_rfl)
  obtain ⟨ls⟩ := cs
  match ls, hl2 with
  | [v0, v1], _ =>
    obtain ⟨m0, z0, k0⟩ := h0 v0 rfl
    obtain ⟨m1, z1, k1⟩ := h1 v1 rfl
    obtain ⟨n0, e0, _, w0⟩ := DataW.trod_int Try.underlying42 k0
    obtain ⟨n1, e1, _, _⟩ := DataW.trod_int Try.underlying3 k1
    simp only [List.cons.injEq, and_true] at e0 e1
    exact ⟨n0, n1, by rw [e0, e1], u64_of_wf w0⟩
end Go.Proofs.Ytflgggfomhifeaa
