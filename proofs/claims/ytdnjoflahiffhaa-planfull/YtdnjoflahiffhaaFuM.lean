/- How many words each has: plain mathematics. -/
import Derived.Test.YtdnjoflahiffhaaWhM
namespace Go.Proofs.Ytdnjoflahiffhaa
open Go.RowKit

theorem count_rep (n : Nat) (a b : Int) : (List.replicate n a).count b = if a = b then n else 0 := by
  rw [List.count_replicate]
  by_cases h : a = b <;> simp [h]
theorem tw_low : ∀ (l : List Tp) (i v : Int), v < i → (tw i l).count v = 0
  | [], _, _, _ => rfl
  | t :: r, i, v, h => by
    simp only [tw, List.count_append, count_rep, tw_low r (i + 1) v (by omega)]
    rw [if_neg (by omega)]
theorem tw_count : ∀ (l : List Tp) (i : Int) (j : Nat) (t : Tp), l[j]? = some t → (tw i l).count (i + j) = (wl t).toNat
  | [], _, j, t, h => by simp at h
  | x :: r, i, 0, t, h => by
    simp at h
    subst h
    simp only [tw, List.count_append, count_rep]
    rw [if_pos (by simp), tw_low r (i + 1) _ (by simp; omega)]
    rfl
  | x :: r, i, j + 1, t, h => by
    simp only [tw, List.count_append, count_rep]
    rw [if_neg (by omega), show i + ((j + 1 : Nat) : Int) = (i + 1) + (j : Int) by omega, tw_count r (i + 1) j t (by simpa using h), Nat.zero_add]
theorem tw_mem : ∀ (l : List Tp) (i x : Int), x ∈ tw i l → i ≤ x ∧ x < i + l.length
  | [], _, _, h => by cases h
  | t :: r, i, x, h => by
    simp only [tw, List.mem_append] at h
    simp only [List.length_cons]
    rcases h with h | h
    · have := (List.mem_replicate.1 h).2
      omega
    · have := tw_mem r (i + 1) x h
      omega
theorem wdl_mem {L : Int} {l : List Tp} {x : Int} (h : x ∈ wdl L l) : x = -1 ∨ x = -2 ∨ ∃ j : Nat, j < l.length ∧ x = j := by
  simp only [wdl, List.mem_append] at h
  rcases h with (h | h) | h
  · exact .inl (List.mem_replicate.1 h).2
  · exact .inr (.inl (List.mem_replicate.1 h).2)
  · have := tw_mem l 0 x h
    exact .inr (.inr ⟨x.toNat, by omega, by omega⟩)
theorem wdl_reg {L : Int} {l : List Tp} : (wdl L l).count (-1) = 1 := by
  simp only [wdl, List.count_append, count_rep, tw_low l 0 (-1) (by omega)]
  simp
theorem wdl_log {L : Int} {l : List Tp} (hL : 1 ≤ L) : (((wdl L l).count (-2) : Nat) : Int) = L := by
  simp only [wdl, List.count_append, count_rep, tw_low l 0 (-2) (by omega)]
  simp
  omega
theorem wdl_top {L : Int} {l : List Tp} (j : Nat) (t : Tp) (h : l[j]? = some t) (ht : okT t) : (((wdl L l).count (j : Int) : Nat) : Int) = 2 + t.2.1 * t.2.2 := by
  have h1 := tw_count l 0 j t h
  rw [Int.zero_add] at h1
  have h2 := wl_bd ht
  simp only [wdl, List.count_append, count_rep, h1]
  rw [if_neg (by omega), if_neg (by omega)]
  unfold wl at h2 ⊢
  omega

/-- How many of the first words are somebody's. -/
def cn (L : Int) (l : List Tp) (k : Nat) (v : Int) : Int := (((wdl L l).take k).count v : Nat)
theorem cn_zero (L : Int) (l : List Tp) (v : Int) : cn L l 0 v = 0 := by simp [cn]
theorem cn_next {L : Int} {l : List Tp} {k : Nat} {x : Int} (h : (wdl L l)[k]? = some x) (v : Int) : cn L l (k + 1) v = cn L l k v + (if x = v then 1 else 0) := by
  have e := (drop_at h).2
  unfold cn
  rw [e, List.count_append, List.count_singleton]
  by_cases hx : x = v
  · simp [hx]
  · simp [hx]
theorem cn_bd (L : Int) (l : List Tp) (k : Nat) (v : Int) : 0 ≤ cn L l k v ∧ cn L l k v ≤ k := by
  unfold cn
  have h1 := List.count_le_length (a := v) (l := (wdl L l).take k)
  have h2 := List.length_take_le k (wdl L l)
  omega
theorem cn_all (L : Int) (l : List Tp) (v : Int) : cn L l (wdl L l).length v = ((wdl L l).count v : Nat) := by
  unfold cn
  rw [List.take_length]
/-- The counts of the topics. -/
def cts (L : Int) (l : List Tp) (k : Nat) : List Int := (List.range l.length).map (fun (i : Nat) => cn L l k (i : Int))
theorem cts_len (L : Int) (l : List Tp) (k : Nat) : (cts L l k).length = l.length := by simp [cts]
theorem cts_at {L : Int} {l : List Tp} {k j : Nat} (h : j < l.length) : (cts L l k)[j]? = some (cn L l k (j : Int)) := by simp [cts, h]
theorem cts_zero (L : Int) (l : List Tp) : cts L l 0 = List.replicate l.length 0 := by
  apply List.ext_getElem?
  intro j
  by_cases h : j < l.length
  · rw [cts_at h, cn_zero, List.getElem?_replicate_of_lt h]
  · rw [List.getElem?_eq_none (by rw [cts_len]; omega), List.getElem?_eq_none (by simp; omega)]
theorem cts_next {L : Int} {l : List Tp} {k j : Nat} (h : (wdl L l)[k]? = some (j : Int)) (hj : j < l.length) : cts L l (k + 1) = (cts L l k).set j (cn L l k (j : Int) + 1) := by
  apply List.ext_getElem?
  intro i
  by_cases hi : i < l.length
  · rw [cts_at hi, cn_next h, List.getElem?_set]
    by_cases hij : j = i
    · subst hij
      rw [if_pos rfl, if_pos rfl, if_pos (by rw [cts_len]; exact hj)]
    · rw [if_neg (by omega), if_neg hij, cts_at hi, Int.add_zero]
  · rw [List.getElem?_eq_none (by rw [cts_len]; omega), List.getElem?_eq_none (by rw [List.length_set, cts_len]; omega)]
theorem cts_same {L : Int} {l : List Tp} {k : Nat} {x : Int} (h : (wdl L l)[k]? = some x) (hx : x < 0) : cts L l (k + 1) = cts L l k := by
  apply List.ext_getElem?
  intro i
  by_cases hi : i < l.length
  · rw [cts_at hi, cts_at hi, cn_next h, if_neg (by omega), Int.add_zero]
  · rw [List.getElem?_eq_none (by rw [cts_len]; omega), List.getElem?_eq_none (by rw [cts_len]; omega)]
end Go.Proofs.Ytdnjoflahiffhaa
