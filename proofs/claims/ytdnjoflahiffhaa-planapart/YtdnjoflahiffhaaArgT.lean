/- Pairs of pairs that came in. -/
import Derived.Test.YtdnjoflahiffhaaArgs
namespace Go.Proofs.Ytdnjoflahiffhaa
open Go.RowKit Go.Deep Go.ChangeShapes Go.WideShapes Go.ChangeAt

/-- Two generations and two words that came in. -/
theorem two_of {H : Type} {enc : TypeId × Value → H} {W : World} {base b0 : Nat} {r : Reach} {spare : Nat → Bool} {held : Bool} {v : Value} {d : DataW H} {p : List MemPlace}
    (hv : Value.okWide Try.prog W r b0 54 v) (h : DataW.Trod enc Try.prog W base spare held 54 v d p) :
    ∃ a a' x x' : Int, v = .agg #[.int .u64 a, .int .u64 a', .int .i64 x, .int .i64 x'] ∧ 0 ≤ a ∧ a < 18446744073709551616 ∧ 0 ≤ a' ∧ a' < 18446744073709551616 := by
  obtain ⟨cs, rfl, hsz⟩ := okWide_struct Try.underlying54 hv
  obtain ⟨fuel, hf⟩ := h
  have hy : DataW.trod enc Try.prog W base spare held fuel 54 cs.toList = some (d, p) := by simpa [Value.cells] using hf
  obtain ⟨xs, n, _, _, hlen, hxl, hg⟩ := DataW.trod_struct Try.underlying54 hy
  have hlen4 : cs.toList.length = 4 := hlen.trans (by kernel_rfl)
  have k0 := hg 0 _ rfl
  have k1 := hg 1 _ rfl
  have c52 : Try.prog.cellsOf 52 = 2 := by kernel_rfl
  have c44 : Try.prog.cellsOf 44 = 2 := by kernel_rfl
  have hx2 : xs.length = 2 := hxl
  rw [List.getElem?_eq_getElem (by omega)] at k0 k1
  obtain ⟨ls⟩ := cs
  match ls, hlen4 with
  | [v0, v1, v2, v3], _ =>
    have m0 : DataW.trod enc Try.prog W base spare held n 52 [v0, v1] = some (xs[0]'(by omega)) := k0
    have m1 : DataW.trod enc Try.prog W base spare held n 44 [v2, v3] = some (xs[1]'(by omega)) := k1
    obtain ⟨ys, m, _, _, _, hyl, hq⟩ := DataW.trod_array Try.underlying52 m0
    obtain ⟨zs, m', _, _, _, hzl, hq'⟩ := DataW.trod_array Try.underlying44 m1
    rw [show Try.prog.cellsOf 45 = 1 from by kernel_rfl] at hq
    rw [show Try.prog.cellsOf 3 = 1 from by kernel_rfl] at hq'
    have a0 := hq 0 (by omega)
    have a1 := hq 1 (by omega)
    have b0 := hq' 0 (by omega)
    have b1 := hq' 1 (by omega)
    rw [List.getElem?_eq_getElem (by omega)] at a0 a1 b0 b1
    obtain ⟨x0, e0, _, u0⟩ := DataW.trod_int Try.underlying45 (by simpa using a0)
    obtain ⟨x1, e1, _, u1⟩ := DataW.trod_int Try.underlying45 (by simpa using a1)
    obtain ⟨y0, e2, _, _⟩ := DataW.trod_int Try.underlying3 (by simpa using b0)
    obtain ⟨y1, e3, _, _⟩ := DataW.trod_int Try.underlying3 (by simpa using b1)
    simp only [List.cons.injEq, and_true] at e0 e1 e2 e3
    have h0 := u64_bd u0
    have h1 := u64_bd u1
    exact ⟨x0, x1, y0, y1, by rw [e0, e1, e2, e3], h0.1, h0.2, h1.1, h1.2⟩
end Go.Proofs.Ytdnjoflahiffhaa
