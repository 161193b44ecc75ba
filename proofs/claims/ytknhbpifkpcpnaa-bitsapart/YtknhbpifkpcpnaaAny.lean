/- Contracts over every field: the code's and the document's answers are one. -/
import Derived.Test.YtknhbpifkpcpnaaAwake
namespace Go.Proofs.Ytknhbpifkpcpnaa
open Go.RowKit

/-- A field in two boxes. -/
structure TwoS (w : World) (b b2 : Nat) (a n : Int) (w' : World) : Prop where
  fs : FS w b a n w'
  blk2 : Blk w' b2 (fcells a n)
  d0 : w'.cell? ⟨b2, 0, none⟩ = some (.int .i64 a)
  d1 : w'.cell? ⟨b2, 1, none⟩ = some (.int .i64 n)
theorem TwoS.of {w w' : World} {b b2 : Nat} {a n : Int} (h : FS w b a n w') (k : Blk w' b2 (fcells a n)) : TwoS w b b2 a n w' := ⟨h, k, k.cell (i := 0) rfl, k.cell (i := 1) rfl⟩
theorem TwoS.next {w w' w'' : World} {b b2 : Nat} {a n : Int} (h : TwoS w b b2 a n w') (u : Below w'.heap.size w' w'') : TwoS w b b2 a n w'' := TwoS.of (h.fs.next u) (h.blk2.low u)
theorem TwoS.drew {w w' : World} {b b2 : Nat} {a n : Int} (h : TwoS w b b2 a n w') : TwoS w b b2 a n w'.drew := TwoS.of h.fs.drew h.blk2.drew

/-- What Put tells. -/
def putR (a n : Int) (x y : Nat) : Nat × Int := if May a n ∧ y ≤ mx n.toNat then (pt a.toNat n.toNat x y, 0) else (0, 10)
/-- What PutSigned tells. -/
def putS (a n : Int) (x : Nat) (y : Int) : Nat × Int := if May a n ∧ -(2 ^ (n.toNat - 1) : Nat) ≤ y ∧ y < (2 ^ (n.toNat - 1) : Nat) then (pt a.toNat n.toNat x (lo n.toNat y), 0) else (0, 10)
def mxI (a n : Int) : Nat := if May a n then mx n.toNat else 0
def sgI (a n : Int) (x : Nat) : Int := if May a n then sg n.toNat (gt a.toNat n.toNat x) else 0

theorem may_any (a n : Int) (w : World) : Calls Try.prog 12 #[fld a n] w (Ret (.bool (decide (May a n))) w) := by
  by_cases h : May a n
  · rw [decide_eq_true h]; exact may_in a n w h
  · rw [decide_eq_false h]; exact may_out a n w h
theorem rmay_any (a n : Int) (w : World) : Calls Try.prog 13 #[fld a n] w (Ret (.bool (decide (May a n))) w) := by
  by_cases h : May a n
  · rw [decide_eq_true h]; exact rmay_in a n w h
  · rw [decide_eq_false h]; exact rmay_out a n w h
theorem max_any (a n : Int) (w : World) : Calls Try.prog 14 #[fld a n] w (Ret (.int .u64 (mxI a n)) w) := by
  unfold mxI
  by_cases h : May a n
  · rw [if_pos h]
    obtain ⟨p, q, rfl, rfl, h1, h2⟩ := may_split h
    exact max_in p q w h1 h2
  · rw [if_neg h]; exact max_out a n w h
theorem rmax_any (a n : Int) (w : World) : Calls Try.prog 15 #[fld a n] w (Ret (.int .u64 (mxI a n)) w) := by
  unfold mxI
  by_cases h : May a n
  · rw [if_pos h]
    obtain ⟨p, q, rfl, rfl, h1, h2⟩ := may_split h
    have := rmax_in p q w h1 h2
    rw [wordMax (by omega)] at this
    exact this
  · rw [if_neg h]; exact rmax_out a n w h
theorem rget_any (a n : Int) (x : Nat) (w : World) (hx : W64 x) : Calls Try.prog 17 #[fld a n, .int .u64 x] w (Ret (.int .u64 (gtI a n x)) w) := by
  unfold gtI
  by_cases h : May a n
  · rw [if_pos h]
    obtain ⟨p, q, rfl, rfl, h1, h2⟩ := may_split h
    have := rget_in p q x w h1 h2 hx
    rw [wordGet h2] at this
    exact this
  · rw [if_neg h]; exact rget_out a n _ w h
theorem signed_any (a n : Int) (x : Nat) (w : World) (hx : W64 x) : Calls Try.prog 18 #[fld a n, .int .u64 x] w (Ret (.int .i64 (sgI a n x)) w) := by
  unfold sgI
  by_cases h : May a n
  · rw [if_pos h]
    obtain ⟨p, q, rfl, rfl, h1, h2⟩ := may_split h
    exact signed_in p q x w h1 h2 hx
  · rw [if_neg h]; exact signed_out a n _ w h
theorem rsigned_any (a n : Int) (x : Nat) (w : World) (hx : W64 x) : Calls Try.prog 19 #[fld a n, .int .u64 x] w (Ret (.int .i64 (sgI a n x)) w) := by
  unfold sgI
  by_cases h : May a n
  · rw [if_pos h]
    obtain ⟨p, q, rfl, rfl, h1, h2⟩ := may_split h
    exact rsigned_in p q x w h1 h2 hx
  · rw [if_neg h]; exact rsigned_out a n _ w h
theorem put_any (a n : Int) (x y : Nat) (w : World) (hx : W64 x) : Calls Try.prog 21 #[fld a n, .int .u64 x, .int .u64 y] w (Ret (.tuple #[.int .u64 (putR a n x y).1, .int .i64 (putR a n x y).2]) w) := by
  unfold putR
  by_cases h : May a n
  · obtain ⟨p, q, rfl, rfl, h1, h2⟩ := may_split h
    by_cases hy : y ≤ mx q
    · rw [if_pos ⟨h, by simpa using hy⟩]
      exact put_in p q x y w h1 h2 hx hy
    · rw [if_neg (fun c => hy (by simpa using c.2))]
      exact put_big p q y _ w h1 h2 (by omega)
  · rw [if_neg (fun c => h c.1)]
    exact put_out a n _ _ w h
theorem rput_any (a n : Int) (x y : Nat) (w : World) (hx : W64 x) : Calls Try.prog 22 #[fld a n, .int .u64 x, .int .u64 y] w (Ret (.tuple #[.int .u64 (putR a n x y).1, .int .i64 (putR a n x y).2]) w) := by
  unfold putR
  by_cases h : May a n
  · obtain ⟨p, q, rfl, rfl, h1, h2⟩ := may_split h
    by_cases hy : y ≤ mx q
    · rw [if_pos ⟨h, by simpa using hy⟩]
      exact rput_in p q x y w h1 h2 hx hy
    · rw [if_neg (fun c => hy (by simpa using c.2))]
      exact rput_big p q y _ w h1 h2 (by omega)
  · rw [if_neg (fun c => h c.1)]
    exact rput_out a n _ _ w h
theorem putS_any (a n : Int) (x : Nat) (y : Int) (w : World) (hx : W64 x) : Calls Try.prog 23 #[fld a n, .int .u64 x, .int .i64 y] w (Ret (.tuple #[.int .u64 (putS a n x y).1, .int .i64 (putS a n x y).2]) w) := by
  unfold putS
  by_cases h : May a n
  · obtain ⟨p, q, rfl, rfl, h1, h2⟩ := may_split h
    by_cases hy : -(2 ^ (q - 1) : Nat) ≤ y ∧ y < (2 ^ (q - 1) : Nat)
    · rw [if_pos ⟨h, hy⟩]
      exact putS_in p q x y w h1 h2 hx hy
    · rw [if_neg (fun c => hy c.2)]
      exact putS_big p q _ y w h1 h2 hy
  · rw [if_neg (fun c => h c.1)]
    exact putS_out a n _ _ w h
theorem rputS_any (a n : Int) (x : Nat) (y : Int) (w : World) (hx : W64 x) : Calls Try.prog 24 #[fld a n, .int .u64 x, .int .i64 y] w (Ret (.tuple #[.int .u64 (putS a n x y).1, .int .i64 (putS a n x y).2]) w) := by
  unfold putS
  by_cases h : May a n
  · obtain ⟨p, q, rfl, rfl, h1, h2⟩ := may_split h
    by_cases hy : -(2 ^ (q - 1) : Nat) ≤ y ∧ y < (2 ^ (q - 1) : Nat)
    · rw [if_pos ⟨h, hy⟩]
      exact rputS_in p q x y w h1 h2 hx hy
    · rw [if_neg (fun c => hy c.2)]
      exact rputS_big p q x y w h1 h2 hx hy
  · rw [if_neg (fun c => h c.1)]
    exact rputS_out a n _ _ w h
end Go.Proofs.Ytknhbpifkpcpnaa
