/- What came in: numbers of 64 bits, and a pair of them. -/
import Derived.Test.YtejkhalenedeoaaMem
import Derived.Test.YtejkhalenedeoaaChecked
import Derived.ProofKit
import Derived.Deep.Slices
import Derived.Deep.Fields
import Derived.Lib.SmallJoins
import Derived.OpenShut
import Derived.ChangeOld
namespace Go.Proofs.Ytejkhalenedeoaa
open Go.ChangeShapes Go.WideShapes Go.ChangeAt Go.RowKit

theorem u64_bd {x : Int} (h : (Lit.int .u64 x).wf = true) : W64 x := by
  have := bounds_u64 h
  unfold W64
  omega
/-- A pair of numbers of 64 bits that came in. -/
theorem u2_of {H : Type} {enc : TypeId × Value → H} {W : World} {base b0 : Nat} {r : Reach} {spare : Nat → Bool} {held : Bool} {v : Value} {d : DataW H} {p : List MemPlace}
    (hv : Value.okWide Try.prog W r b0 36 v) (h : DataW.Trod enc Try.prog W base spare held 36 v d p) :
    ∃ x x' : Int, v = .agg #[.int .u64 x, .int .u64 x'] ∧ W64 x ∧ W64 x' := by
  simp only [Value.okWide, Try.underlying36] at hv
  obtain ⟨cs, rfl, hsz, _⟩ := hv
  obtain ⟨fuel, hf⟩ := h
  rw [show Try.prog.cellsOf 36 = 2 from by kernel_rfl] at hsz
  obtain ⟨xs, m, _, _, _, hxl, hg⟩ := DataW.trod_array Try.underlying36 hf
  rw [show Try.prog.cellsOf 22 = 1 from by kernel_rfl] at hg
  obtain ⟨l⟩ := cs
  match l, hsz with
  | [c0, c1], _ =>
    have g0 := hg 0 (by omega)
    have g1 := hg 1 (by omega)
    rw [List.getElem?_eq_getElem (by omega)] at g0 g1
    obtain ⟨x0, e0, _, w0⟩ := DataW.trod_int Try.underlying22 (by simpa [Value.cells] using g0)
    obtain ⟨x1, e1, _, w1⟩ := DataW.trod_int Try.underlying22 (by simpa [Value.cells] using g1)
    simp only [List.cons.injEq, and_true] at e0 e1
    exact ⟨x0, x1, by rw [e0, e1], u64_bd w0, u64_bd w1⟩
end Go.Proofs.Ytejkhalenedeoaa
