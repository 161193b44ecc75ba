/- Of parts that are right: their places, within words, one behind the other. Plain arithmetic. -/
import Derived.Test.YtenbbnmhgpclkaaDoorPlc
namespace Go.Proofs.YtenbbnmhgpclkaaDoor
open Go.RowKit

/-- A step over a right part. -/
theorem pl_step {wd fr : Nat} {p : Int × Int} {r : List (Int × Int)} (h : plE wd fr (p :: r) = 0) (hw : wd ≤ 64) (hf : fr ≤ 64) (h0 : wd = 0 → fr = 0) :
    ∃ (wd' fr' : Nat) (q : Int × Int), bad p.1 p.2 = 0 ∧ plE wd' fr' r = 0 ∧ plA wd fr (p :: r) = q :: plA wd' fr' r ∧ plW wd fr (p :: r) = plW wd' fr' r ∧ wd ≤ wd' ∧ wd' ≤ 64 ∧ 1 ≤ wd' ∧
      q.1 = (wd' : Int) - 1 ∧ q.2 + p.2 = 64 - (fr' : Int) ∧ 0 ≤ q.2 ∧ 1 ≤ p.2 ∧ p.2 ≤ 64 ∧ (q = ((wd : Int) - 1, 64 - (fr : Int)) ∨ q = ((wd : Int), 0)) ∧
      (∀ r', plE wd fr (p :: r') = plE wd' fr' r' ∧ plA wd fr (p :: r') = q :: plA wd' fr' r' ∧ plW wd fr (p :: r') = plW wd' fr' r') := by
  by_cases hb : bad p.1 p.2 = 0
  · obtain ⟨_, _, _, _, h1, h2⟩ := ok_bad hb
    by_cases hc : (fr : Int) < p.2
    · by_cases h3 : wd = 64
      · rw [pl_full hb hc h3] at h
        exact absurd h (by decide)
      · have hn := fun r' => pl_next (r := r') hb hc h3
        obtain ⟨a, b, c⟩ := hn r
        refine ⟨wd + 1, 64 - p.2.toNat, ((wd : Int), 0), hb, by rw [← a]; exact h, b, c, by omega, by omega, by omega, by show (wd : Int) = _; omega, by show (0 : Int) + p.2 = _; omega, by show (0 : Int) ≤ 0; omega, h1, h2, Or.inr rfl, hn⟩
    · have hn := fun r' => pl_same (wd := wd) (r := r') hb (by omega : p.2 ≤ (fr : Int))
      obtain ⟨a, b, c⟩ := hn r
      refine ⟨wd, fr - p.2.toNat, ((wd : Int) - 1, 64 - (fr : Int)), hb, by rw [← a]; exact h, b, c, by omega, hw, ?_, rfl, by show (64 : Int) - (fr : Int) + p.2 = _; omega, by show (0 : Int) ≤ 64 - (fr : Int); omega, h1, h2, Or.inl rfl, hn⟩
      by_cases hz : wd = 0
      · have := h0 hz
        omega
      · omega
  · rw [pl_bad hb] at h
    exact absurd h hb

/-- Of right parts each beginning is right, and lies where it lay, in no more words. -/
theorem pl_take : ∀ (l : List (Int × Int)) (wd fr k : Nat), plE wd fr l = 0 → wd ≤ 64 → fr ≤ 64 → (wd = 0 → fr = 0) →
    plE wd fr (l.take k) = 0 ∧ plA wd fr (l.take k) = (plA wd fr l).take k ∧ (wd : Int) ≤ plW wd fr (l.take k) ∧ plW wd fr (l.take k) ≤ plW wd fr l ∧ plW wd fr l ≤ 64
  | [], wd, fr, k, _, hw, _, _ => by
    simp [plE, plA, plW]
    omega
  | p :: r, wd, fr, 0, h, hw, hf, h0 => by
    obtain ⟨wd', fr', q, hb, e1, e2, e3, g1, g2, g3, _, g4, g5, g6, g7, _, _⟩ := pl_step h hw hf h0
    obtain ⟨_, _, _, i4, i5⟩ := pl_take r wd' fr' 0 e1 g2 (by omega) (by omega)
    simp only [List.take_zero] at i4
    rw [e3]
    simp only [List.take_zero]
    refine ⟨rfl, rfl, Int.le_refl _, ?_, i5⟩
    have : plW wd' fr' [] = (wd' : Int) := rfl
    show (wd : Int) ≤ _
    omega
  | p :: r, wd, fr, k + 1, h, hw, hf, h0 => by
    obtain ⟨wd', fr', q, hb, e1, e2, e3, g1, g2, g3, _, g4, g5, g6, g7, _, hn⟩ := pl_step h hw hf h0
    obtain ⟨i1, i2, i3, i4, i5⟩ := pl_take r wd' fr' k e1 g2 (by omega) (by omega)
    obtain ⟨a, b, c⟩ := hn (r.take k)
    rw [List.take_succ_cons, a, b, c, e2, e3, List.take_succ_cons, i2]
    exact ⟨i1, rfl, by omega, i4, i5⟩

/-- Each place lies within its word, and the words. -/
theorem pl_in : ∀ (l : List (Int × Int)) (wd fr : Nat), plE wd fr l = 0 → wd ≤ 64 → fr ≤ 64 → (wd = 0 → fr = 0) →
    (plA wd fr l).length = l.length ∧ ∀ (i : Nat) (q p : Int × Int), (plA wd fr l)[i]? = some q → l[i]? = some p → (wd : Int) - 1 ≤ q.1 ∧ 0 ≤ q.1 ∧ q.1 < plW wd fr l ∧ 0 ≤ q.2 ∧ q.2 + p.2 ≤ 64 ∧ bad p.1 p.2 = 0
  | [], wd, fr, _, _, _, _ => ⟨rfl, fun i q p hq _ => by simp [plA] at hq⟩
  | p :: r, wd, fr, h, hw, hf, h0 => by
    obtain ⟨wd', fr', q, hb, e1, e2, e3, g1, g2, g3, g8, g4, g5, g6, g7, _, _⟩ := pl_step h hw hf h0
    obtain ⟨j1, j2⟩ := pl_in r wd' fr' e1 g2 (by omega) (by omega)
    obtain ⟨_, _, k3, k4, k5⟩ := pl_take r wd' fr' 0 e1 g2 (by omega) (by omega)
    rw [List.take_zero] at k4
    have kw : plW wd' fr' [] = (wd' : Int) := rfl
    rw [e2, e3]
    refine ⟨by simp [j1], fun i q' p' hq hp => ?_⟩
    cases i with
    | zero =>
      simp at hq hp
      subst hq hp
      exact ⟨by omega, by omega, by omega, g5, by omega, hb⟩
    | succ i =>
      obtain ⟨a, b, c, d, e, f⟩ := j2 i q' p' (by simpa using hq) (by simpa using hp)
      exact ⟨by omega, b, c, d, e, f⟩

/-- Each place lies right behind the one ahead, or in a later word. -/
theorem pl_next_to : ∀ (l : List (Int × Int)) (wd fr : Nat), plE wd fr l = 0 → wd ≤ 64 → fr ≤ 64 → (wd = 0 → fr = 0) →
    ∀ (i : Nat) (q q' p : Int × Int), (plA wd fr l)[i]? = some q → (plA wd fr l)[i + 1]? = some q' → l[i]? = some p → q.1 ≤ q'.1 ∧ (q'.1 = q.1 → q'.2 = q.2 + p.2)
  | [], wd, fr, _, _, _, _, i, q, q', p, hq, _, _ => by simp [plA] at hq
  | p :: r, wd, fr, h, hw, hf, h0, i, q1, q2, p', hq1, hq2, hp => by
    obtain ⟨wd', fr', q, hb, e1, e2, e3, g1, g2, g3, g8, g4, g5, g6, g7, _, _⟩ := pl_step h hw hf h0
    rw [e2] at hq1 hq2
    cases i with
    | succ i => exact pl_next_to r wd' fr' e1 g2 (by omega) (by omega) i q1 q2 p' (by simpa using hq1) (by simpa using hq2) (by simpa using hp)
    | zero =>
      simp at hq1 hp
      subst hq1 hp
      have hq2' : (plA wd' fr' r)[0]? = some q2 := by simpa using hq2
      cases r with
      | nil => simp [plA] at hq2'
      | cons p2 r2 =>
        obtain ⟨_, _, q3, _, _, f2, _, _, _, _, _, _, _, _, _, f3, _⟩ := pl_step e1 g2 (by omega) (by omega)
        rw [f2] at hq2'
        simp at hq2'
        subst hq2'
        rcases f3 with rfl | rfl
        · exact ⟨by show q.1 ≤ (wd' : Int) - 1; omega, fun _ => by show (64 : Int) - (fr' : Int) = _; omega⟩
        · exact ⟨by show q.1 ≤ (wd' : Int); omega, fun hh => by have : (wd' : Int) = q.1 := hh; omega⟩

/-- All of it, as Places tells it. -/
theorem plErr_take {l : List (Int × Int)} (h : plErr l = 0) {k : Nat} (h1 : 1 ≤ k) (h2 : k ≤ l.length) :
    plErr (l.take k) = 0 ∧ plP (l.take k) = (plP l).take k ∧ plN (l.take k) ≤ plN l ∧ plN l ≤ 64 ∧ (plP l).length = l.length := by
  have hlen : ¬ (l.length = 0 ∨ 256 < l.length) := fun h3 => by
    rw [plErr_long h3] at h
    exact absurd h (by decide)
  have he := h
  rw [plErr_in (by omega) (by omega)] at he
  obtain ⟨a, b, c, d, e⟩ := pl_take l 0 0 k he (by omega) (by omega) (by omega)
  have hk : (l.take k).length = k := by simp; omega
  have hE : plErr (l.take k) = 0 := by rw [plErr_in (by omega) (by omega)]; exact a
  obtain ⟨p1, n1⟩ := plP_ok h
  obtain ⟨p2, n2⟩ := plP_ok hE
  refine ⟨hE, by rw [p1, p2, b], by rw [n1, n2]; exact d, by rw [n1]; exact e, by rw [p1]; exact (pl_in l 0 0 he (by omega) (by omega) (by omega)).1⟩
theorem plP_in {l : List (Int × Int)} (h : plErr l = 0) : ∀ (i : Nat) (q p : Int × Int), (plP l)[i]? = some q → l[i]? = some p → 0 ≤ q.1 ∧ q.1 < plN l ∧ 0 ≤ q.2 ∧ q.2 + p.2 ≤ 64 ∧ bad p.1 p.2 = 0 := by
  have hlen : ¬ (l.length = 0 ∨ 256 < l.length) := fun h3 => by
    rw [plErr_long h3] at h
    exact absurd h (by decide)
  have he := h
  rw [plErr_in (by omega) (by omega)] at he
  obtain ⟨p1, n1⟩ := plP_ok h
  rw [p1, n1]
  intro i q p hq hp
  exact ((pl_in l 0 0 he (by omega) (by omega) (by omega)).2 i q p hq hp).2
theorem plP_next {l : List (Int × Int)} (h : plErr l = 0) : ∀ (i : Nat) (q q' p : Int × Int), (plP l)[i]? = some q → (plP l)[i + 1]? = some q' → l[i]? = some p → q.1 ≤ q'.1 ∧ (q'.1 = q.1 → q'.2 = q.2 + p.2) := by
  have hlen : ¬ (l.length = 0 ∨ 256 < l.length) := fun h3 => by
    rw [plErr_long h3] at h
    exact absurd h (by decide)
  have he := h
  rw [plErr_in (by omega) (by omega)] at he
  rw [(plP_ok h).1]
  exact pl_next_to l 0 0 he (by omega) (by omega) (by omega)
/-- There is a word at least. -/
theorem plN_pos {l : List (Int × Int)} (h : plErr l = 0) : 1 ≤ plN l ∧ l.length ≠ 0 ∧ l.length ≤ 256 := by
  have hlen : ¬ (l.length = 0 ∨ 256 < l.length) := fun h3 => by
    rw [plErr_long h3] at h
    exact absurd h (by decide)
  obtain ⟨q, hq⟩ : ∃ q, l[0]? = some q := ⟨l[0]'(by omega), List.getElem?_eq_getElem _⟩
  have hpl := (plErr_take h (k := 1) (by omega) (by omega)).2.2.2.2
  obtain ⟨p, hp⟩ : ∃ p, (plP l)[0]? = some p := ⟨(plP l)[0]'(by omega), List.getElem?_eq_getElem _⟩
  have := plP_in h 0 p q hp hq
  omega
end Go.Proofs.YtenbbnmhgpclkaaDoor
