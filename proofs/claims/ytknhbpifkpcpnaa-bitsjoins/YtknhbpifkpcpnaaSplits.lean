/- What a Split tells, as words. -/
import Derived.Test.YtknhbpifkpcpnaaRSplit
namespace Go.Proofs.Ytknhbpifkpcpnaa
open Go.RowKit
theorem gtI_w (a n : Int) (x : Nat) : W64 (gtI a n x) := by
  unfold gtI
  by_cases h : May a n
  · rw [if_pos h]
    obtain ⟨p, q, rfl, rfl, h1, h2⟩ := may_split h
    simp only [Int.toNat_natCast]
    exact gt_w (by omega) p x
  · rw [if_neg h]
    decide
/-- The words that a Split tells. -/
def splitL (zs : List Int) (x : Nat) : List Nat := if rowE 0 zs = 0 then (rowF 0 zs).map fun y => gtI y.1 y.2 x else []
/-- The row that a Split tells, as words. -/
theorem split_words {zs : List Int} {x : Nat} {w W' : World} {v : Value} (h0 : rowE 0 zs ≠ 0 → v = .slice none 0 0)
    (h1 : rowE 0 zs = 0 → W'.ownsRow w.heap.size 24 1 v (rowF 0 zs).length (wcl ((rowF 0 zs).map fun y => gtI y.1 y.2 x))) :
    ∃ a c, v = .slice a (splitL zs x).length c ∧ Words W'.heap.size W' a (splitL zs x) := by
  unfold splitL
  by_cases he : rowE 0 zs = 0
  · rw [if_pos he]
    have h := h1 he
    have hl : (rowF 0 zs).length = ((rowF 0 zs).map fun y => gtI y.1 y.2 x).length := by simp
    rw [hl] at h
    exact owns_words h (fun z hz => by
      obtain ⟨y, _, rfl⟩ := List.mem_map.1 hz
      exact gtI_w _ _ _)
  · rw [if_neg he]
    exact ⟨none, 0, h0 he, fun j z hz => by simp at hz⟩
theorem split_len (zs : List Int) (x : Nat) (h : zs.length ≤ 80) : (splitL zs x).length ≤ 80 := by
  unfold splitL
  by_cases he : rowE 0 zs = 0
  · rw [if_pos he]
    have := rowF_len zs 0
    simp
    omega
  · rw [if_neg he]
    simp

end Go.Proofs.Ytknhbpifkpcpnaa
