/- What a cursor comes to beside what was published: the model of QueueSums. -/
import Derived.Test.YtkkkicinlghikaaWhF
namespace Go.Proofs.Ytkkkicinlghikaa
open Go.RowKit

/-- Behind k acts: the newest one x, the last one taken la, the cursor n, r, g, ls. -/
structure SuI (r beg x la n g ls : Int) (k : Nat) : Prop where
  r1 : 1 ≤ r
  r2 : r < 16
  b0 : 0 ≤ beg
  b1 : beg ≤ 9223372036854767806
  k1 : k ≤ 200
  x0 : beg ≤ x
  x1 : x ≤ beg + 40 * k
  n0 : beg + 1 ≤ n
  n1 : n ≤ x + 1
  s : g + ls = n - 1 - beg
  g0 : 0 ≤ g
  l0 : 0 ≤ ls
  a0 : beg ≤ la
  a1 : la ≤ n - 1
section
variable {r beg x la n g ls : Int} {k : Nat}
theorem SuI.xb (h : SuI r beg x la n g ls k) : 0 ≤ x ∧ x ≤ 9223372036854775806 := by
  obtain ⟨h1, h2, h3, h4, h5, h6, h7, h8, h9, _⟩ := h
  omega
theorem SuI.gen (h : SuI r beg x la n g ls k) : Gen x := by
  have := h.xb
  exact ⟨this.1, by omega⟩
theorem SuI.rgt (h : SuI r beg x la n g ls k) : Rgt n r := by
  have h0 := h.xb
  have h1 := h.b0
  have h2 := h.n0
  have h3 := h.n1
  exact ⟨by omega, by omega, h.r1, h.r2⟩
theorem SuI.wt (h : SuI r beg x la n g ls k) : wt n x = x - n + 1 := by
  have h3 := h.n1
  unfold Go.Proofs.Ytkkkicinlghikaa.wt
  split <;> omega
theorem SuI.lq (h : SuI r beg x la n g ls k) : (lo n r x = 0 ∧ qd n r x = x - n + 1 ∧ x - n + 1 ≤ r) ∨ (0 < lo n r x ∧ lo n r x = x - n + 1 - r ∧ qd n r x = r) := by
  have hw := h.wt
  unfold lo qd
  rw [hw]
  by_cases c : r < x - n + 1
  · rw [if_pos c, if_pos c]
    exact .inr ⟨by omega, rfl, rfl⟩
  · rw [if_neg c, if_neg c]
    exact .inl ⟨rfl, rfl, by omega⟩
theorem SuI.lsum (h : SuI r beg x la n g ls k) : g + (ls + lo n r x) + qd n r x = x - beg ∧ 0 ≤ lo n r x ∧ 0 ≤ qd n r x ∧ qd n r x ≤ r ∧ n + lo n r x + qd n r x = x + 1 := by
  have h1 := h.lq
  have h2 := h.s
  have h3 := h.r1
  have h4 := h.n1
  omega
theorem SuI.l6 (h : SuI r beg x la n g ls k) : u6 (ls + lo n r x) = ls + lo n r x := by
  have h1 := h.lsum
  have h2 := h.l0
  have h3 := h.g0
  have h4 := h.xb
  have h5 := h.b0
  exact u6_small (by omega) (by omega)
theorem SuI.g6 (h : SuI r beg x la n g ls k) : u6 (g + 1) = g + 1 := by
  have h1 := h.lsum
  have h2 := h.l0
  have h3 := h.g0
  have h4 := h.xb
  have h5 := h.b0
  exact u6_small (by omega) (by omega)
theorem SuI.w64 (h : SuI r beg x la n g ls k) : W64 ls ∧ W64 g ∧ W64 n ∧ W64 la := by
  have h1 := h.s
  have h2 := h.l0
  have h3 := h.g0
  have h4 := h.xb
  have h5 := h.b0
  have h6 := h.n1
  have h7 := h.n0
  have h8 := h.a0
  have h9 := h.a1
  unfold W64
  omega
theorem SuI.start {b : Int} (h0 : 0 ≤ b) (h1 : b ≤ 9223372036854767806) (hr : 1 ≤ r) (hr2 : r < 16) : SuI r b b b (b + 1) 0 0 0 :=
  ⟨hr, hr2, h0, h1, by omega, by omega, by omega, by omega, by omega, by omega, by omega, by omega, by omega, by omega⟩
theorem SuI.same (h : SuI r beg x la n g ls k) (hk : k < 200) : SuI r beg x la n g ls (k + 1) := by
  obtain ⟨h1, h2, h3, h4, h5, h6, h7, h8, h9, h10, h11, h12, h13, h14⟩ := h
  exact ⟨h1, h2, h3, h4, by omega, h6, by push_cast; omega, h8, h9, h10, h11, h12, h13, h14⟩
theorem SuI.publ (h : SuI r beg x la n g ls k) (hk : k < 200) {y : Int} (y0 : 0 ≤ y) (y1 : y ≤ 40) : SuI r beg (x + y) la n g ls (k + 1) := by
  obtain ⟨h1, h2, h3, h4, h5, h6, h7, h8, h9, h10, h11, h12, h13, h14⟩ := h
  exact ⟨h1, h2, h3, h4, by omega, by omega, by push_cast; omega, h8, by omega, h10, h11, h12, h13, h14⟩
theorem SuI.seen (h : SuI r beg x la n g ls k) (hk : k < 200) : SuI r beg x la (n + lo n r x) g (ls + lo n r x) (k + 1) := by
  have hs := h.lsum
  obtain ⟨h1, h2, h3, h4, h5, h6, h7, h8, h9, h10, h11, h12, h13, h14⟩ := h
  exact ⟨h1, h2, h3, h4, by omega, h6, by push_cast; omega, by omega, by omega, by omega, h11, by omega, h13, by omega⟩
theorem SuI.take (h : SuI r beg x la n g ls k) (hk : k < 200) (hq : qd n r x ≠ 0) : SuI r beg x (n + lo n r x) (n + lo n r x + 1) (g + 1) (ls + lo n r x) (k + 1) := by
  have hs := h.lsum
  obtain ⟨h1, h2, h3, h4, h5, h6, h7, h8, h9, h10, h11, h12, h13, h14⟩ := h
  exact ⟨h1, h2, h3, h4, by omega, h6, by push_cast; omega, by omega, by omega, by omega, by omega, by omega, by omega, by omega⟩
/-- What is queued behind a take. -/
theorem SuI.qtake (h : SuI r beg x la n g ls k) (hk : k < 200) (hq : qd n r x ≠ 0) : qd (n + lo n r x + 1) r x = qd n r x - 1 := by
  have h1 := (h.take hk hq).lq
  have h2 := h.lsum
  omega
theorem SuI.seen0 (h : SuI r beg x la n g ls k) : lo (n + lo n r x) r x = 0 := lo_end h.rgt
theorem SuI.seenq (h : SuI r beg x la n g ls k) : qd (n + lo n r x) r x = qd n r x := qd_lo h.rgt (Int.le_refl x)
end
end Go.Proofs.Ytkkkicinlghikaa
