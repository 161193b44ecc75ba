/- Whose a word is: plain mathematics. -/
import Derived.Test.YtdnjoflahiffhaaROfM
namespace Go.Proofs.Ytdnjoflahiffhaa
open Go.RowKit

/-- A stretch, and whose it is. -/
abbrev It : Type := Int × Int × Int
def its : Int → List Sp → List It
  | _, [] => []
  | i, s :: r => (s.1, 1, i) :: (s.2.1, 1, i) :: (s.2.2.1, s.2.2.2.1 * s.2.2.2.2, i) :: its (i + 1) r
def thg (rg lg ln : Int) (ss : List Sp) : List It := (rg, 1, -1) :: (lg, ln, -2) :: its 0 ss
theorem its_len : ∀ (ss : List Sp) (i : Int), (its i ss).length = 3 * ss.length
  | [], _ => rfl
  | s :: r, i => by
    simp [its, its_len r]
    omega
theorem thg_len (rg lg ln : Int) (ss : List Sp) : (thg rg lg ln ss).length = 2 + 3 * ss.length := by
  simp [thg, its_len]
  omega
def hasB (x : It) (p : Int) : Bool := decide (x.1 ≤ p) && decide (p < x.1 + x.2.1)
/-- Whose a word is. -/
def who : List It → Int → Int
  | [], _ => -3
  | x :: r, p => if hasB x p = true then x.2.2 else who r p
theorem who_none : ∀ (l : List It) (p : Int), (∀ x ∈ l, hasB x p = false) → who l p = -3
  | [], _, _ => rfl
  | x :: r, p, h => by
    rw [who, if_neg (by simp [h x List.mem_cons_self])]
    exact who_none r p (fun y hy => h y (List.mem_cons_of_mem _ hy))
theorem who_at : ∀ (q r : List It) (x : It) (p : Int), (∀ y ∈ q, hasB y p = false) → hasB x p = true → who (q ++ x :: r) p = x.2.2
  | [], r, x, p, _, hx => by simp [who, hx]
  | y :: q, r, x, p, h, hx => by
    rw [List.cons_append, who, if_neg (by simp [h y List.mem_cons_self])]
    exact who_at q r x p (fun z hz => h z (List.mem_cons_of_mem _ hz)) hx
/-- The words of stretches. -/
def wds : List It → List Int
  | [] => []
  | x :: r => List.replicate x.2.1.toNat x.2.2 ++ wds r
def Chain : Int → List It → Prop
  | _, [] => True
  | a, x :: r => x.1 = a ∧ 0 ≤ x.2.1 ∧ Chain (a + x.2.1) r
theorem who_chain : ∀ (l : List It) (a p : Int), Chain a l → who l p = if p < a then -3 else ((wds l)[(p - a).toNat]?).getD (-3)
  | [], a, p, _ => by simp [who, wds]
  | x :: r, a, p, ⟨h1, h2, h3⟩ => by
    obtain ⟨x0, x1, x2⟩ := x
    simp only at h1 h2 h3
    subst h1
    have ih := who_chain r (x0 + x1) p h3
    by_cases hlt : p < x0
    · rw [who, if_neg (by simp [hasB]; omega), ih, if_pos (by omega), if_pos hlt]
    · rw [if_neg hlt]
      by_cases hin : p < x0 + x1
      · rw [who, if_pos (by simp [hasB]; omega)]
        simp only [wds]
        rw [List.getElem?_append_left (by simp; omega), List.getElem?_replicate_of_lt (by omega)]
        rfl
      · rw [who, if_neg (by simp [hasB]; omega), ih, if_neg hin]
        simp only [wds]
        rw [List.getElem?_append_right (by simp; omega), List.length_replicate, show (p - x0).toNat - x1.toNat = (p - (x0 + x1)).toNat by omega]
theorem its_chain : ∀ (l : List Tp) (a i : Int), (∀ t ∈ l, okT t) → Chain a (its i (spots a l))
  | [], _, _, _ => trivial
  | t :: r, a, i, h => by
    have ht := h t List.mem_cons_self
    have hm := Int.mul_nonneg (by have := ht.1; omega : 0 ≤ t.2.1) (by have := ht.2.2.1; omega : 0 ≤ t.2.2)
    have ih := its_chain r (a + wl t) (i + 1) (fun u hu => h u (List.mem_cons_of_mem _ hu))
    refine ⟨rfl, by show (0 : Int) ≤ 1; omega, rfl, by show (0 : Int) ≤ 1; omega, ?_, hm, ?_⟩
    · show a + 2 = a + 1 + 1
      omega
    · show Chain (a + 1 + 1 + t.2.1 * t.2.2) _
      rw [show a + 1 + 1 + t.2.1 * t.2.2 = a + wl t by unfold wl; omega]
      exact ih
theorem its_wds : ∀ (l : List Tp) (a i : Int), (∀ t ∈ l, okT t) → wds (its i (spots a l)) = tw i l
  | [], _, _, _ => rfl
  | t :: r, a, i, h => by
    have ht := h t List.mem_cons_self
    have hm := Int.mul_nonneg (by have := ht.1; omega : 0 ≤ t.2.1) (by have := ht.2.2.1; omega : 0 ≤ t.2.2)
    have ih := its_wds r (a + wl t) (i + 1) (fun u hu => h u (List.mem_cons_of_mem _ hu))
    simp only [spots, its, wds, tw, ih]
    rw [← List.append_assoc, ← List.append_assoc]
    congr 1
    show List.replicate (1 : Int).toNat i ++ List.replicate (1 : Int).toNat i ++ List.replicate (t.2.1 * t.2.2).toNat i = List.replicate (wl t).toNat i
    rw [List.replicate_append_replicate, List.replicate_append_replicate]
    congr 1
    unfold wl
    simp
    omega
theorem thg_chain {L : Int} {l : List Tp} (hL : 1 ≤ L) (h : ∀ t ∈ l, okT t) : Chain 0 (thg 0 1 L (spots (1 + L) l)) :=
  ⟨rfl, by show (0 : Int) ≤ 1; omega, rfl, by show 0 ≤ L; omega, by
    show Chain (0 + 1 + L) _
    rw [Int.zero_add]
    exact its_chain l (1 + L) 0 h⟩
theorem thg_wds {L : Int} {l : List Tp} (h : ∀ t ∈ l, okT t) : wds (thg 0 1 L (spots (1 + L) l)) = wdl L l := by
  simp only [thg, wds, its_wds l (1 + L) 0 h, wdl, List.append_assoc]
  rfl
/-- Whose a word of a bank is. -/
theorem who_wdl {L : Int} {l : List Tp} (hL : 1 ≤ L) (h : ∀ t ∈ l, okT t) (p : Int) : who (thg 0 1 L (spots (1 + L) l)) p = if p < 0 then -3 else ((wdl L l)[p.toNat]?).getD (-3) := by
  rw [who_chain _ 0 p (thg_chain hL h), thg_wds h, Int.sub_zero]
end Go.Proofs.Ytdnjoflahiffhaa
