/- One publishing alone in a bank that may be too small: how it stands behind each step. -/
import Derived.Test.YtbfelghfimcenaaAwk
namespace Go.Proofs.Ytbfelghfimcenaa
open Go.RowKit

def nlS (n : Nat) : Sp := ⟨0, 1, 2, n, 2⟩
/-- Behind k steps, each of which left it busy, in a bank of n words. -/
def NilInv (n : Nat) (ws : List Int) (k : Nat) (x : St) (xs : List Int) : Prop :=
  xs.length = n ∧ k ≤ 2 + ws.length ∧
  ((k = 0 ∧ x = st0 3 ∧ xs = List.replicate n 0) ∨ (k = 1 ∧ 2 ≤ n ∧ x = ⟨0, 1, 3, 1, 0, 0⟩ ∧ xs = List.replicate n 0) ∨
    ∃ j : Nat, k = 2 + j ∧ 2 ≤ n ∧ j ≤ ws.length ∧ (j = 0 ∨ 2 + ws.length + j ≤ n) ∧ x = ⟨0, 2 + j, 3, if j = ws.length then 3 else 2, j, 0⟩ ∧ xs[1]? = some 1)
/-- How it has ended. -/
def EndInv (n : Nat) (ws : List Int) (x : St) (xs : List Int) : Prop :=
  (n < 2 ∧ x.how = 3 ∧ x.steps = 0) ∨ (2 ≤ n ∧ 2 + 2 * ws.length ≤ n ∧ x.how = 1 ∧ x.s = 0) ∨
  (2 ≤ n ∧ n < 2 + 2 * ws.length ∧ x.how = 3 ∧ x.steps = 2 + max 0 ((n : Int) - 2 - ws.length) ∧ xs[1]? = some 1)
theorem nil_at (n : Nat) (h1 : 1 ≤ n) (h2 : n ≤ 64) : atv 2 n 2 (0 / 2 + 1) = 2 + n := by
  rw [atv_ok (by unfold okS; omega)]
  omega
theorem rep1 {n : Nat} (h : 2 ≤ n) : (List.replicate n (0 : Int))[(1 : Int).toNat]? = some 0 := by
  rw [List.getElem?_replicate, if_pos (by show 1 < n; omega)]
theorem nil_step {n : Nat} {ws : List Int} {k : Nat} {x : St} {xs : List Int} (hn : 1 ≤ n) (hw : 1 ≤ ws.length) (hw2 : ws.length ≤ 64) (h : NilInv n ws k x xs) :
    ((stp (nlS ws.length) ws xs x).1.how = 0 ∧ NilInv n ws (k + 1) (stp (nlS ws.length) ws xs x).1 (stp (nlS ws.length) ws xs x).2.1) ∨
    (¬ (stp (nlS ws.length) ws xs x).1.how = 0 ∧ EndInv n ws (stp (nlS ws.length) ws xs x).1 (stp (nlS ws.length) ws xs x).2.1) := by
  obtain ⟨hl, hk, ⟨rfl, rfl, rfl⟩ | ⟨rfl, h2, rfl, rfl⟩ | ⟨j, rfl, h2, hj, hj2, rfl, hx⟩⟩ := h
  · by_cases h2 : n < 2
    · right
      have e : getI (List.replicate n (0 : Int)) 1 = none := getI_out (by simp; omega)
      have e' : stp (nlS ws.length) ws (List.replicate n 0) (st0 3) = (⟨3, 0, 3, 0, 0, 0⟩, List.replicate n 0, 0) := by
        simp [stp, st0, nlS, e]
      rw [e']
      exact ⟨by show ¬ (3 : Int) = 0; omega, .inl ⟨h2, rfl, rfl⟩⟩
    · left
      have e : getI (List.replicate n (0 : Int)) 1 = some 0 := getI_mk (by omega) (rep1 (by omega))
      have e' : stp (nlS ws.length) ws (List.replicate n 0) (st0 3) = (⟨0, 1, 3, 1, 0, 0⟩, List.replicate n 0, 1) := by
        simp [stp, st0, nlS, e]
      rw [e']
      exact ⟨rfl, hl, by omega, .inr (.inl ⟨rfl, by omega, rfl, rfl⟩)⟩
  · left
    have e : getI (List.replicate n (0 : Int)) 1 = some 0 := getI_mk (by omega) (rep1 (by omega))
    have e' : stp (nlS ws.length) ws (List.replicate n 0) ⟨0, 1, 3, 1, 0, 0⟩ = (⟨0, 2, 3, 2, 0, 0⟩, (List.replicate n 0).set 1 1, 1) := by
      simp [stp, nlS, e, addw, IntKind.wrap_u64]
    rw [e']
    refine ⟨rfl, by simp, by omega, .inr (.inr ⟨0, rfl, h2, by omega, .inl rfl, ?_, ?_⟩)⟩
    · rw [if_neg (by omega)]; rfl
    · rw [List.getElem?_set_self (by simp; omega)]
  · by_cases hje : j = ws.length
    · right
      subst hje
      have e : getI xs 1 = some 1 := getI_mk (by omega) hx
      rw [if_pos rfl]
      have e' : stp (nlS ws.length) ws xs ⟨0, 2 + ws.length, 3, 3, ws.length, 0⟩ = (⟨1, 2 + ws.length + 1, 3, 3, ws.length, 0⟩, xs.set 1 (addw 0 2), 1) := by
        simp [stp, nlS, e]
      rw [e']
      exact ⟨by show ¬ (1 : Int) = 0; omega, .inr (.inl ⟨h2, by omega, rfl, rfl⟩)⟩
    · rw [if_neg hje]
      have hlie : lie (nlS ws.length) ⟨0, 2 + j, 3, 2, j, 0⟩ = 2 + ws.length + j := by
        show atv 2 ws.length 2 (0 / 2 + 1) + (j : Int) = _
        rw [nil_at _ hw hw2]
      by_cases hr : 2 + ws.length + j < n
      · left
        have e : getI xs (2 + ws.length + j) = some (xs[2 + ws.length + j]'(by omega)) := getI_mk (by omega) (by
          rw [show ((2 : Int) + ws.length + j).toNat = 2 + ws.length + j by omega]
          exact List.getElem?_eq_getElem _)
        have e' : stp (nlS ws.length) ws xs ⟨0, 2 + j, 3, 2, j, 0⟩ = (⟨0, 2 + j + 1, 3, if (j : Int) + 1 = ws.length then 3 else 2, j + 1, 0⟩, xs.set (2 + ws.length + j) (ws.getD j 0), 1) := by
          unfold stp
          rw [if_neg (by simp), if_neg (by simp), if_neg (by simp), if_pos rfl, hlie, e]
          simp only [Int.toNat_natCast]
          rw [show ((2 : Int) + ws.length + j).toNat = 2 + ws.length + j by omega]
        rw [e']
        refine ⟨rfl, by simp [hl], by omega, .inr (.inr ⟨j + 1, by omega, h2, by omega, .inr (by omega), ?_, ?_⟩)⟩
        · have c1 : ((j + 1 : Nat) : Int) = j + 1 := by omega
          have c2 : (2 : Int) + (j + 1) = 2 + j + 1 := by omega
          rw [c1, c2]
          by_cases q : j + 1 = ws.length
          · rw [if_pos q, if_pos (by omega)]
          · rw [if_neg q, if_neg (by omega)]
        · rw [List.getElem?_set_ne (by omega)]; exact hx
      · right
        have e : getI xs (2 + ws.length + j) = none := getI_out (by omega)
        have e' : stp (nlS ws.length) ws xs ⟨0, 2 + j, 3, 2, j, 0⟩ = (⟨3, 2 + j, 3, 2, j, 0⟩, xs, 0) := by
          unfold stp
          rw [if_neg (by simp), if_neg (by simp), if_neg (by simp), if_pos rfl, hlie, e]
        rw [e']
        refine ⟨by show ¬ (3 : Int) = 0; omega, .inr (.inr ⟨h2, ?_, rfl, ?_, hx⟩)⟩
        · omega
        · show (2 : Int) + j = _
          omega
end Go.Proofs.Ytbfelghfimcenaa
