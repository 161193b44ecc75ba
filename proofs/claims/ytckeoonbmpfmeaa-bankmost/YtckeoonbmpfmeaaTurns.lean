/- Four tasks that raise one word by compare-and-swap: the plain mathematics. No Go here. -/
namespace Go.Proofs.Ytckeoonbmpfmeaa.bankMost

/-- The word, what each task saw, and whether it has looked. -/
structure St where
  W : Int
  saw : List Int
  ld : List Bool

/-- A turn of task k, whose number is x. -/
def turn (x : Int) (k : Nat) (s : St) : St :=
  if s.ld.getD k false = false then ⟨s.W, s.saw.set k s.W, s.ld.set k true⟩
  else if s.saw.getD k 0 < x then (if s.W = s.saw.getD k 0 then ⟨x, s.saw, s.ld.set k false⟩ else ⟨s.W, s.saw, s.ld.set k false⟩)
  else s

/-- How many turns of its own task k wants, at most, till the word is its number or more. -/
def dist (x : Int) (k : Nat) (s : St) : Nat :=
  if x ≤ s.W then 0 else if s.ld.getD k false = false then 2 else if s.saw.getD k 0 = s.W then 1 else 3

theorem dist_le (x : Int) (k : Nat) (s : St) : dist x k s ≤ 3 := by
  unfold dist
  split
  · omega
  · split
    · omega
    · split <;> omega

structure Ok (xs : List Int) (most : Int) (len i : Nat) (s : St) : Prop where
  sl : s.saw.length = 4
  ll : s.ld.length = 4
  w0 : 0 ≤ s.W
  wm : s.W ≤ most
  seen : ∀ k, k < 4 → s.ld.getD k false = true → s.saw.getD k 0 ≤ s.W
  near : ∀ k, k < 4 → dist (xs.getD k 0) k s ≤ 3 - (i - (len + 10 * k))

theorem turn_W (x : Int) (k : Nat) (s : St) : s.W ≤ (turn x k s).W := by
  unfold turn
  split
  · exact Int.le_refl _
  · split
    · split
      · rename_i h1 h2 h3
        show s.W ≤ x
        omega
      · exact Int.le_refl _
    · exact Int.le_refl _

/-- A turn brings the one whose turn it is nearer. -/
theorem turn_near (x : Int) (k : Nat) (s : St) (hk : k < 4) (hs : s.saw.length = 4) (hl : s.ld.length = 4) (hseen : s.ld.getD k false = true → s.saw.getD k 0 ≤ s.W) :
    dist x k (turn x k s) ≤ dist x k s - 1 := by
  have g1 : (s.saw.set k s.W).getD k 0 = s.W := by simp [List.getD, hs, hk]
  have g2 : (s.ld.set k true).getD k false = true := by simp [List.getD, hl, hk]
  have g3 : (s.ld.set k false).getD k false = false := by simp [List.getD, hl, hk]
  by_cases hx : x ≤ s.W
  · have := turn_W x k s
    have h1 : dist x k (turn x k s) = 0 := by unfold dist; rw [if_pos (by omega)]
    omega
  · by_cases hld : s.ld.getD k false = false
    · have e1 : turn x k s = ⟨s.W, s.saw.set k s.W, s.ld.set k true⟩ := by unfold turn; rw [if_pos hld]
      have e2 : dist x k s = 2 := by unfold dist; rw [if_neg hx, if_pos hld]
      rw [e1, e2]
      unfold dist
      simp only [g1, g2]
      rw [if_neg hx]
      simp
    · have ht : s.ld.getD k false = true := by simpa using hld
      have hle := hseen ht
      have hlt : s.saw.getD k 0 < x := by omega
      by_cases he : s.W = s.saw.getD k 0
      · have e1 : turn x k s = ⟨x, s.saw, s.ld.set k false⟩ := by unfold turn; rw [if_neg hld, if_pos hlt, if_pos he]
        rw [e1]
        unfold dist
        simp
      · have e1 : turn x k s = ⟨s.W, s.saw, s.ld.set k false⟩ := by unfold turn; rw [if_neg hld, if_pos hlt, if_neg he]
        have e2 : dist x k s = 3 := by unfold dist; rw [if_neg hx, if_neg hld, if_neg (fun h => he h.symm)]
        rw [e1, e2]
        unfold dist
        simp only [g3]
        rw [if_neg hx]
        simp

theorem getD_set_ne (l : List Int) (k j : Nat) (v d : Int) (h : k ≠ j) : (l.set k v).getD j d = l.getD j d := by simp [List.getD, h]
theorem getD_set_neB (l : List Bool) (k j : Nat) (v d : Bool) (h : k ≠ j) : (l.set k v).getD j d = l.getD j d := by simp [List.getD, h]

theorem Ok.turn {xs : List Int} {most : Int} {len i k : Nat} {s : St} (h : Ok xs most len i s) (hk : k < 4) (hx : xs.getD k 0 ≤ most) (hi : len ≤ i → k = (i - len) / 10) :
    Ok xs most len (i + 1) (turn (xs.getD k 0) k s) := by
  have hW := turn_W (xs.getD k 0) k s
  refine ⟨?_, ?_, ?_, ?_, ?_, ?_⟩
  · unfold bankMost.turn
    have := h.sl
    split
    · simpa using this
    · split
      · split <;> exact this
      · exact this
  · unfold bankMost.turn
    have := h.ll
    split
    · simpa using this
    · split
      · split <;> simpa using this
      · exact this
  · have := h.w0; omega
  · unfold bankMost.turn
    have := h.wm
    split
    · exact this
    · split
      · split
        · exact hx
        · exact this
      · exact this
  · intro j hj hld
    by_cases hjk : k = j
    · subst hjk
      have e := h.seen k hk
      revert hld
      unfold bankMost.turn
      have hs := h.sl
      have hl := h.ll
      split
      · intro _
        simp [List.getD, hs, hk]
      · split
        · split
          · intro hld
            simp [List.getD, hl, hk] at hld
          · intro hld
            simp [List.getD, hl, hk] at hld
        · intro hld
          exact e hld
    · have e := h.seen j hj
      have e1 : (bankMost.turn (xs.getD k 0) k s).saw.getD j 0 = s.saw.getD j 0 := by
        unfold bankMost.turn
        split
        · exact getD_set_ne _ _ _ _ _ hjk
        · split
          · split <;> rfl
          · rfl
      have e2 : (bankMost.turn (xs.getD k 0) k s).ld.getD j false = s.ld.getD j false := by
        unfold bankMost.turn
        split
        · exact getD_set_neB _ _ _ _ _ hjk
        · split
          · split <;> exact getD_set_neB _ _ _ _ _ hjk
          · rfl
      rw [e1]
      rw [e2] at hld
      have := e hld
      omega
  · intro j hj
    have hn := h.near j hj
    by_cases hjk : k = j
    · subst hjk
      have := turn_near (xs.getD k 0) k s hk h.sl h.ll (h.seen k hk)
      omega
    · have hd : dist (xs.getD j 0) j (bankMost.turn (xs.getD k 0) k s) ≤ 3 := dist_le _ _ _
      by_cases h1 : i + 1 ≤ len + 10 * j
      · omega
      · have h2 : len + 10 * j + 10 ≤ i := by
          have := hi (by omega)
          omega
        have h3 : dist (xs.getD j 0) j s = 0 := by omega
        have h4 : xs.getD j 0 ≤ s.W := by
          unfold dist at h3
          split at h3
          · assumption
          · split at h3
            · omega
            · split at h3 <;> omega
        have h5 : dist (xs.getD j 0) j (bankMost.turn (xs.getD k 0) k s) = 0 := by
          unfold dist
          rw [if_pos (by omega)]
        omega

theorem Ok.fin {xs : List Int} {most : Int} {len : Nat} {s : St} (h : Ok xs most len (len + 40) s) {k : Nat} (hk : k < 4) : xs.getD k 0 ≤ s.W := by
  have h1 := h.near k hk
  have h2 : dist (xs.getD k 0) k s = 0 := by omega
  unfold dist at h2
  split at h2
  · assumption
  · split at h2
    · omega
    · split at h2 <;> omega

theorem Ok.start (xs : List Int) (most : Int) (len : Nat) (hm : 0 ≤ most) : Ok xs most len 0 ⟨0, [0, 0, 0, 0], [false, false, false, false]⟩ := by
  refine ⟨rfl, rfl, Int.le_refl _, hm, ?_, ?_⟩
  · intro k hk h
    match k, hk with
    | 0, _ | 1, _ | 2, _ | 3, _ => simp at h
  · intro k hk
    have := dist_le (xs.getD k 0) k ⟨0, [0, 0, 0, 0], [false, false, false, false]⟩
    omega
end Go.Proofs.Ytckeoonbmpfmeaa.bankMost
