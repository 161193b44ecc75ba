/- What is joined is split, and what is split is joined: plain arithmetic. -/
import Derived.Test.YtknhbpifkpcpnaaSplits
namespace Go.Proofs.Ytknhbpifkpcpnaa
open Go.RowKit

theorem gtI_nat {p q : Nat} (h1 : 1 ≤ q) (h2 : p + q ≤ 64) (x : Nat) : gtI (p : Int) (q : Int) x = gt p q x := by
  unfold gtI
  rw [if_pos (may_nat h1 h2)]
  simp

theorem join_split : ∀ (zs : List Int) (t : Nat) (xs : List Nat) (y r : Nat), t ≤ 64 → xs.length = (rowF t zs).length → joinS (rowF t zs) xs y = (r, 0) → W64 y →
    W64 r ∧ (∀ b m : Nat, b + m ≤ t → gt b m r = gt b m y) ∧ (rowF t zs).map (fun f => gtI f.1 f.2 r) = xs
  | [], t, xs, y, r, _, hl, hj, hy => by
    have hx : xs = [] := by simpa [rowF] using hl
    subst hx
    simp [rowF, joinS] at hj
    subst hj
    exact ⟨hy, fun _ _ _ => rfl, rfl⟩
  | n :: zs, t, xs, y, r, ht, hl, hj, hy => by
    by_cases hbad : n < 1 ∨ 64 < n
    · have e : rowF (t : Int) (n :: zs) = [] := by simp only [rowF, if_pos hbad]
      rw [e] at hl hj ⊢
      have hx : xs = [] := by simpa using hl
      subst hx
      simp [joinS] at hj
      subst hj
      exact ⟨hy, fun _ _ _ => rfl, rfl⟩
    · by_cases hlong : 64 - (t : Int) < n
      · have e : rowF (t : Int) (n :: zs) = [] := by simp only [rowF, if_neg hbad, if_pos hlong]
        rw [e] at hl hj ⊢
        have hx : xs = [] := by simpa using hl
        subst hx
        simp [joinS] at hj
        subst hj
        exact ⟨hy, fun _ _ _ => rfl, rfl⟩
      · obtain ⟨q, rfl⟩ : ∃ q : Nat, n = q := ⟨n.toNat, by omega⟩
        have hq1 : 1 ≤ q := by omega
        have hq2 : t + q ≤ 64 := by omega
        have e : rowF (t : Int) ((q : Int) :: zs) = ((t : Int), (q : Int)) :: rowF ((t + q : Nat) : Int) zs := by
          simp only [rowF, if_neg hbad, if_neg hlong]
          rfl
        rw [e] at hl hj ⊢
        cases xs with
        | nil => simp at hl
        | cons x xs =>
          have hl' : xs.length = (rowF ((t + q : Nat) : Int) zs).length := by simpa using hl
          simp only [joinS, Int.toNat_natCast] at hj
          by_cases hbig : mx q < x
          · rw [if_pos hbig] at hj
            exact absurd (congrArg Prod.snd hj) (by simp)
          · rw [if_neg hbig] at hj
            have hx : x ≤ mx q := Nat.le_of_not_lt hbig
            obtain ⟨i1, i2, i3⟩ := join_split zs (t + q) xs (pt t q y x) r hq2 hl' hj (pt_w hq2 hx y)
            refine ⟨i1, fun b m hbm => ?_, ?_⟩
            · rw [i2 b m (by omega)]
              exact gt_pt_far hq2 (le_mx.1 hx) hy (Or.inr hbm)
            · rw [List.map_cons, i3, gtI_nat hq1 hq2, i2 t q (Nat.le_refl _), gt_pt hq2 (le_mx.1 hx) hy]

theorem pt_low {t q w : Nat} (h : t + q ≤ 64) (hw : W64 w) : pt t q (w % 2 ^ t) (gt t q w) = w % 2 ^ (t + q) := by
  apply Nat.eq_of_testBit_eq
  intro k
  have hl : W64 (w % 2 ^ t) := Nat.lt_of_le_of_lt (Nat.mod_le _ _) hw
  rw [testBit_pt _ h (gt_lt t q w) hl, testBit_gt, Nat.testBit_mod_two_pow, Nat.testBit_mod_two_pow]
  by_cases h1 : t ≤ k ∧ k < t + q
  · have h2 : k - t < q := by omega
    have h3 : t + (k - t) = k := by omega
    simp [h1, h2, h3]
  · rw [if_neg h1]
    by_cases h2 : k < t
    · have h3 : k < t + q := by omega
      simp [h2, h3]
    · have h3 : ¬ k < t + q := by omega
      simp [h2, h3]

theorem split_join : ∀ (zs : List Int) (t w : Nat), t ≤ 64 → rowE t zs = 0 → W64 w →
    ∃ s : Nat, zs.sum = s ∧ t + s ≤ 64 ∧ joinS (rowF t zs) ((rowF t zs).map fun f => gtI f.1 f.2 w) (w % 2 ^ t) = (w % 2 ^ (t + s), 0)
  | [], t, w, ht, _, _ => ⟨0, rfl, by omega, by simp [rowF, joinS]⟩
  | n :: zs, t, w, ht, he, hw => by
    by_cases hbad : n < 1 ∨ 64 < n
    · simp only [rowE, if_pos hbad] at he
      exact absurd he (by decide)
    · by_cases hlong : 64 - (t : Int) < n
      · simp only [rowE, if_neg hbad, if_pos hlong] at he
        exact absurd he (by decide)
      · obtain ⟨q, rfl⟩ : ∃ q : Nat, n = q := ⟨n.toNat, by omega⟩
        have hq1 : 1 ≤ q := by omega
        have hq2 : t + q ≤ 64 := by omega
        have e : rowF (t : Int) ((q : Int) :: zs) = ((t : Int), (q : Int)) :: rowF ((t + q : Nat) : Int) zs := by
          simp only [rowF, if_neg hbad, if_neg hlong]
          rfl
        have he' : rowE ((t + q : Nat) : Int) zs = 0 := by
          simp only [rowE, if_neg hbad, if_neg hlong] at he
          exact he
        obtain ⟨s, hs, hs64, hj⟩ := split_join zs (t + q) w hq2 he' hw
        refine ⟨q + s, by rw [List.sum_cons, hs]; rfl, by omega, ?_⟩
        rw [e, List.map_cons, joinS, gtI_nat hq1 hq2]
        simp only [Int.toNat_natCast]
        rw [if_neg (by have := gt_le t q w; omega), pt_low hq2 hw, hj, Nat.add_assoc]

/-- What is joined is split. -/
theorem whole_a {zs : List Int} {xs : List Nat} (h : (joinE zs xs).2 = 0) : rowE 0 zs = 0 ∧ W64 (joinE zs xs).1 ∧ splitL zs (joinE zs xs).1 = xs := by
  unfold joinE at h ⊢
  by_cases he : rowE 0 zs = 0
  · rw [if_neg (by simp [he])] at h ⊢
    by_cases hl : xs.length = (rowF 0 zs).length
    · rw [if_neg (by simp [hl])] at h ⊢
      obtain ⟨i1, _, i3⟩ := join_split zs 0 xs 0 (joinS (rowF 0 zs) xs 0).1 (by omega) hl (Prod.ext rfl h) (by decide)
      refine ⟨he, i1, ?_⟩
      unfold splitL
      rw [if_pos he]
      exact i3
    · rw [if_pos hl] at h
      exact absurd h (by decide)
  · rw [if_pos he] at h
    exact absurd h he
/-- What is split is joined. -/
theorem whole_b {zs : List Int} {w : Nat} (he : rowE 0 zs = 0) (hw : W64 w) : ∃ s : Nat, zs.sum = s ∧ s ≤ 64 ∧ joinE zs (splitL zs w) = (w % 2 ^ s, 0) := by
  obtain ⟨s, hs, hs64, hj⟩ := split_join zs 0 w (by omega) he hw
  refine ⟨s, hs, by omega, ?_⟩
  unfold joinE splitL
  rw [if_neg (by simp [he]), if_pos he, if_neg (by simp)]
  have e0 : w % 2 ^ 0 = 0 := by simp [Nat.mod_one]
  rw [e0] at hj
  have hj' : joinS (rowF 0 zs) ((rowF 0 zs).map fun f => gtI f.1 f.2 w) 0 = (w % 2 ^ (0 + s), 0) := hj
  rw [hj', Nat.zero_add]
theorem joinE_err {zs : List Int} {xs : List Nat} (he : rowE 0 zs ≠ 0) : joinE zs xs = (0, rowE 0 zs) := by unfold joinE; rw [if_pos he]
/-- Sums of the first lengths. -/
theorem sums : ∀ (zs : List Int) (t : Int), 0 ≤ t → t ≤ 64 → rowE t zs = 0 → ∀ k, t ≤ t + (zs.take k).sum ∧ t + (zs.take k).sum ≤ 64
  | [], t, _, _, _, k => by simp; omega
  | n :: zs, t, h0, h1, he, 0 => by simp; omega
  | n :: zs, t, h0, h1, he, k + 1 => by
    by_cases hbad : n < 1 ∨ 64 < n
    · simp only [rowE, if_pos hbad] at he
      exact absurd he (by decide)
    · by_cases hlong : 64 - t < n
      · simp only [rowE, if_neg hbad, if_pos hlong] at he
        exact absurd he (by decide)
      · simp only [rowE, if_neg hbad, if_neg hlong] at he
        obtain ⟨i1, i2⟩ := sums zs (t + n) (by omega) (by omega) he k
        rw [List.take_succ_cons, List.sum_cons]
        omega
end Go.Proofs.Ytknhbpifkpcpnaa
