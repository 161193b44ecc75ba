/- What stands in each place, as publishers write into one place behind the other. -/
import Derived.Test.YtejkhalenedeoaaFir
namespace Go.Proofs.Ytejkhalenedeoaa
open Go.RowKit

/-- The last generation that has place j, of those begun. -/
def lst (d b j : Int) : Int := b - (b - j) % d
/-- What stands whole in place j behind i steps. -/
def pv (d i j : Int) : Int := if lst d (bg i) j < 0 ∨ i / 2 < lst d (bg i) j then -1 else lst d (bg i) j
theorem lst_eq {d b j x : Int} (h1 : b - d < x) (h2 : x ≤ b) (hm : (b - j) % d = (b - x) % d) : lst d b j = x := by
  unfold lst
  rw [hm, Int.emod_eq_of_lt (by omega) (by omega)]
  omega
theorem lst_in {d b j : Int} (hd : 0 < d) : b - d < lst d b j ∧ lst d b j ≤ b := by
  unfold lst
  have h1 := Int.emod_nonneg (b - j) (show d ≠ 0 by omega)
  have h2 := Int.emod_lt_of_pos (b - j) hd
  omega
theorem own_place {d b j : Int} (h0 : 0 ≤ j) (h1 : j < d) : (b - j) % d = 0 ↔ j = b % d := by
  rw [← Int.emod_eq_emod_iff_emod_sub_eq_zero, Int.emod_eq_of_lt h0 h1]
  exact eq_comm
theorem lst_own {d b j : Int} (h0 : 0 ≤ j) (h1 : j < d) (h : j = b % d) : lst d b j = b := by
  unfold lst
  rw [(own_place h0 h1).2 h]
  omega
theorem lst_far {d b j : Int} (h0 : 0 ≤ j) (h1 : j < d) (h : ¬ j = b % d) : lst d b j < b := by
  unfold lst
  have h2 := Int.emod_nonneg (b - j) (show d ≠ 0 by omega)
  have h3 : (b - j) % d ≠ 0 := fun c => h ((own_place h0 h1).1 c)
  omega
theorem lst_next {d b j : Int} (h0 : 0 ≤ j) (h1 : j < d) (h : ¬ j = (b + 1) % d) : lst d (b + 1) j = lst d b j := by
  have hr0 := Int.emod_nonneg (b - j) (show d ≠ 0 by omega)
  have hr1 := Int.emod_lt_of_pos (b - j) (show 0 < d by omega)
  have e1 : (b + 1 - j) % d = (1 + (b - j) % d) % d := by
    rw [Int.add_emod_emod]
    congr 1
    omega
  have h3 : (b - j) % d ≠ d - 1 := fun c => h ((own_place h0 h1).1 (by rw [e1, c, show 1 + (d - 1) = d by omega, Int.emod_self]))
  refine lst_eq ?_ ?_ ?_
  · unfold lst; omega
  · unfold lst; omega
  · unfold lst
    rw [e1]
    congr 1
    omega
theorem pv_0 {d j : Int} (h0 : 0 ≤ j) (h1 : j < d) : pv d 0 j = if j = 0 then 0 else -1 := by
  have e : bg 0 = 0 := by decide
  unfold pv
  rw [e]
  by_cases h : j = 0
  · subst h
    rw [lst_own (by omega) (by omega) (by simp), if_neg (by decide), if_pos rfl]
  · have := lst_far (b := 0) h0 h1 (by simpa using h)
    rw [if_pos (Or.inl this), if_neg h]
theorem pv_take {d i j : Int} (h0 : 0 ≤ j) (h1 : j < d) (hi : i % 2 = 0) : pv d (i + 1) j = if j = (i / 2 + 1) % d then -1 else pv d i j := by
  have e1 : bg (i + 1) = i / 2 + 1 := by unfold bg; omega
  have e2 : bg i = i / 2 := by unfold bg; omega
  have e3 : (i + 1) / 2 = i / 2 := by omega
  unfold pv
  rw [e1, e2, e3]
  by_cases h : j = (i / 2 + 1) % d
  · rw [if_pos h, lst_own h0 h1 h, if_pos (Or.inr (by omega))]
  · rw [if_neg h, lst_next h0 h1 h]
theorem pv_give {d i j : Int} (h0 : 0 ≤ j) (h1 : j < d) (hi : i % 2 = 1) (hp : 0 ≤ i) : pv d (i + 1) j = if j = (i / 2 + 1) % d then i / 2 + 1 else pv d i j := by
  have e1 : bg (i + 1) = i / 2 + 1 := by unfold bg; omega
  have e2 : bg i = i / 2 + 1 := by unfold bg; omega
  have e3 : (i + 1) / 2 = i / 2 + 1 := by omega
  unfold pv
  rw [e1, e2, e3]
  by_cases h : j = (i / 2 + 1) % d
  · rw [if_pos h, lst_own h0 h1 h, if_neg (by omega)]
  · rw [if_neg h]
    have := lst_far h0 h1 h
    by_cases hn : lst d (i / 2 + 1) j < 0
    · rw [if_pos (Or.inl hn), if_pos (Or.inl hn)]
    · rw [if_neg (by omega), if_neg (by omega)]
theorem pv_kp {d i g : Int} (hd : 2 ≤ d) (hd2 : d ≤ 16) (hg : 0 ≤ g) : (pv d i (g % d) == g) = kp i g d := by
  have em : (bg i - g % d) % d = (bg i - g) % d := by rw [Int.sub_emod, Int.emod_emod_of_dvd _ (Int.dvd_refl d), ← Int.sub_emod]
  by_cases h : g ≤ i / 2 ∧ bg i - g < d
  · have hb : g ≤ bg i := by unfold bg; omega
    have hl : lst d (bg i) (g % d) = g := lst_eq (by omega) hb em
    rw [kp_t ⟨hd, hd2, h.1, h.2⟩]
    unfold pv
    rw [hl, if_neg (by omega)]
    simp
  · rw [kp_f (fun c => h ⟨c.2.2.1, c.2.2.2⟩), beq_eq_false_iff_ne]
    intro c
    unfold pv at c
    obtain ⟨b1, b2⟩ := lst_in (d := d) (b := bg i) (j := g % d) (by omega)
    split at c
    · omega
    · omega

/-- The least one that was met. -/
def ls (F : Int) (j : Int) : Int := if F < j then F else -1
theorem ls_on {F j : Int} (h : F < j) : ls F j = F := if_pos h
theorem ls_off {F j : Int} (h : ¬ F < j) : ls F j = -1 := if_neg h

theorem ls_same {F j : Int} (h : F ≠ j) : ls F (j + 1) = ls F j := by
  unfold ls
  by_cases q : F < j
  · rw [if_pos q, if_pos (by omega)]
  · rw [if_neg q, if_neg (by omega)]

/-- Places that lie in a block. -/
def Pl (W : World) (G n : Nat) (f : Nat → Int) : Prop := Blk W G ((List.range n).map (fun j => Value.int .i64 (f j)))
section
variable {W W' : World} {G n : Nat} {f g : Nat → Int}
theorem Pl.congr (h : Pl W G n f) (e : ∀ j, j < n → f j = g j) : Pl W G n g := by
  have : (List.range n).map (fun j => Value.int .i64 (f j)) = (List.range n).map (fun j => Value.int .i64 (g j)) := by
    apply List.map_congr_left
    intro j hj
    rw [e j (List.mem_range.1 hj)]
  unfold Pl at *
  rw [← this]
  exact h
theorem Pl.cell (h : Pl W G n f) {j : Nat} (hj : j < n) : W.cell? ⟨G, j, none⟩ = some (.int .i64 (f j)) := by
  refine Blk.cell h ?_
  simp [hj]
theorem Pl.put (h : Pl W G n f) (j : Nat) (x : Int) : Pl (W.setCell ⟨G, j, none⟩ (.int .i64 x)) G n (fun i => if i = j then x else f i) := by
  have := Blk.put h j (.int .i64 x)
  have e : ((List.range n).map (fun i => Value.int .i64 (f i))).set j (.int .i64 x) = (List.range n).map (fun i => Value.int .i64 (if i = j then x else f i)) := by
    apply List.ext_getElem
    · simp
    · intro i h1 h2
      simp only [List.getElem_set, List.getElem_map, List.getElem_range]
      by_cases q : j = i
      · simp [q]
      · rw [if_neg q, if_neg (fun c => q c.symm)]
  rw [e] at this
  exact this
end
/-- What the law leans on. -/
def QS (w : World) (n : Nat) (f : Nat → Int) (W : World) : Prop := Pl W w.heap.size n f ∧ Below w.heap.size w W
section
variable {w W W' : World} {n : Nat} {f g : Nat → Int}
theorem QS.next (h : QS w n f W) (u : Below W.heap.size W W') : QS w n f W' := ⟨Blk.low h.1 u, h.2.trans (u.mono h.2.size)⟩
theorem QS.put (h : QS w n f W) (j : Nat) (x : Int) (e : ∀ i, i < n → (if i = j then x else f i) = g i) : QS w n g (W.setCell ⟨w.heap.size, j, none⟩ (.int .i64 x)) :=
  ⟨(h.1.put j x).congr e, h.2.setCell (Nat.le_refl _) _⟩
theorem QS.congr (h : QS w n f W) (e : ∀ j, j < n → f j = g j) : QS w n g W := ⟨h.1.congr e, h.2⟩
end
/-- Behind k rounds of the first loop. -/
def ini (k j : Nat) : Int := if j = 0 then 0 else if j < k then -1 else 0
end Go.Proofs.Ytejkhalenedeoaa
