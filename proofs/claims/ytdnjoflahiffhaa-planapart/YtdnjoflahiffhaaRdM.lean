/- Rounds of places: plain mathematics. -/
import Derived.Test.YtdnjoflahiffhaaPlM
namespace Go.Proofs.Ytdnjoflahiffhaa
open Go.RowKit

theorem rem_ne {g i j d : Int} (hj : 0 ≤ j) (hji : j < i) (hi : i < d) : (g + j) % d ≠ (g + i) % d := by
  intro e
  have h := (Int.emod_eq_emod_iff_emod_sub_eq_zero).1 e.symm
  rw [show g + i - (g + j) = i - j by omega, Int.emod_eq_of_lt (by omega) (by omega)] at h
  omega
theorem mul_apart {a b x : Int} (hx : 1 ≤ x) (h : a ≠ b) : a * x + x ≤ b * x ∨ b * x + x ≤ a * x := by
  rcases Int.lt_or_gt_of_ne h with h | h
  · left
    have : (a + 1) * x ≤ b * x := Int.mul_le_mul_of_nonneg_right (by omega) (by omega)
    rw [Int.add_mul] at this
    omega
  · right
    have : (b + 1) * x ≤ a * x := Int.mul_le_mul_of_nonneg_right (by omega) (by omega)
    rw [Int.add_mul] at this
    omega
/-- Two generations' places have no word in common. -/
theorem at_apart {f x d g i j : Int} (h : okS f x d) (hj : 0 ≤ j) (hji : j < i) (hi : i < d) : atv f x d (g + j) + x ≤ atv f x d (g + i) ∨ atv f x d (g + i) + x ≤ atv f x d (g + j) := by
  rw [atv_ok h, atv_ok h]
  have := mul_apart h.1 (rem_ne (g := g) hj hji hi)
  omega
theorem at_in {f x d g : Int} (h : okS f x d) (hg : 0 ≤ g) : f ≤ atv f x d g ∧ atv f x d g + x ≤ f + x * d ∧ x * d ≤ 1024 := by
  rw [atv_ok h]
  obtain ⟨h1, h2, h3, h4, h5, h6⟩ := h
  obtain ⟨r1, r2, _⟩ := rem_fits (d := d) hg h3 (by omega)
  have m1 := Int.mul_nonneg r1 (by omega : 0 ≤ x)
  have m2 : (g % d + 1) * x ≤ d * x := Int.mul_le_mul_of_nonneg_right (by omega) (by omega)
  rw [Int.add_mul] at m2
  have m3 := (mul_bd (m := 64) (n := 16) (by omega : 0 ≤ x) h2 (by omega : 0 ≤ d) h4).2
  have := Int.mul_comm d x
  omega
theorem at_again {f x d g : Int} : atv f x d (g + d) = atv f x d g := by
  unfold atv
  rw [Int.add_emod_right]
theorem env_again {o n g : Int} : env o n (g + n) = env o n g := by
  unfold env
  rw [Int.add_emod_right]
theorem env_in {o n g : Int} (h : okE o n) (hg : 0 ≤ g) : o ≤ env o n g ∧ env o n g < o + n := by
  rw [env_ok h]
  obtain ⟨r1, r2, _⟩ := rem_fits (d := n) hg h.1 h.2.1
  omega
/-- The first places. -/
def ats (f x d g : Int) : Nat → List Int
  | 0 => []
  | k + 1 => ats f x d g k ++ [atv f x d (g + k)]
theorem ats_len (f x d g : Int) : ∀ k, (ats f x d g k).length = k
  | 0 => rfl
  | k + 1 => by simp [ats, ats_len f x d g k]
theorem ats_at (f x d g : Int) : ∀ (k j : Nat), j < k → (ats f x d g k)[j]? = some (atv f x d (g + j))
  | 0, j, h => by omega
  | k + 1, j, h => by
    unfold ats
    by_cases hj : j < k
    · rw [List.getElem?_append_left (by rw [ats_len]; exact hj)]
      exact ats_at f x d g k j hj
    · obtain rfl : j = k := by omega
      rw [List.getElem?_append_right (by rw [ats_len]; omega), ats_len]
      simp
/-- Ints in cells. -/
def icl (l : List Int) : List Value := l.map (fun z => .int .i64 z)
theorem icl_snoc (l : List Int) (z : Int) : icl (l ++ [z]) = icl l ++ [.int .i64 z] := by simp [icl]
theorem icl_at {l : List Int} {j : Nat} {z : Int} (h : l[j]? = some z) : (icl l)[j]? = some (.int .i64 z) := by simp [icl, h]
end Go.Proofs.Ytdnjoflahiffhaa
