/- What a walk is told of a config that came in: its room too. -/
import Derived.Test.YthdchoagdipplaaDoorLift
namespace Go.Proofs.YthdchoagdipplaaDoor
open Go.RowKit Go.Deep Go.ChangeShapes Go.WideShapes Go.ChangeAt

set_option maxRecDepth 100000 in
/-- A config that came in has room for its topics. -/
theorem cfg_cap {H : Type} {enc : TypeId × Value → H} {W : World} {base : Nat} {spare : Nat → Bool} {held : Bool} {T R L : Int} {a : Option Addr} {n cap : Nat} {d : DataW H} {p : List MemPlace}
    (h : DataW.Trod enc Tryd.prog W base spare held 24 (cfg T a n cap R L) d p) : n ≤ cap := by
  obtain ⟨fuel, hf⟩ := h
  have hy : DataW.trod enc Tryd.prog W base spare held fuel 24 [.int .i64 T, .slice a n cap, .int .i64 R, .int .i64 L] = some (d, p) := by simpa [Value.cells] using hf
  obtain ⟨_, h1⟩ := row_fields Tryd.underlying24 (by kernel_rfl) hy (j := 1) rfl
  obtain ⟨_, _, g1⟩ := h1 _ rfl
  obtain ⟨rows, hlies, _⟩ := lies_of (n := 3) Tryd.underlying22 (by kernel_rfl) (by omega) g1
  rcases hlies with ⟨_, _, hs, _⟩ | ⟨b, off, cap', hs, hc, _, _, _⟩
  · simp only [Value.slice.injEq] at hs
    omega
  · simp only [Value.slice.injEq] at hs
    omega
end Go.Proofs.YthdchoagdipplaaDoor
