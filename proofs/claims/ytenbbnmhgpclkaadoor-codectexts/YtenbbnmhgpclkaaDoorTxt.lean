/- Texts of parts: plain mathematics of bytes. -/
import Derived.Test.YtenbbnmhgpclkaaDoorPrn
namespace Go.Proofs.YtenbbnmhgpclkaaDoor
open Go.RowKit

/-- Letters from a to z; how many a word begins with. -/
def isL (c : UInt8) : Bool := decide (97 ≤ c.toNat) && decide (c.toNat ≤ 122)
def lett (s : List UInt8) : Nat := (s.takeWhile isL).length
theorem lett_le (s : List UInt8) : lett s ≤ s.length := by
  unfold lett
  exact (List.takeWhile_prefix isL).length_le
/-- Which kind has this word. -/
def kindOf (nm : List UInt8) : Nat := if nm = kName 0 then 0 else if nm = kName 1 then 1 else if nm = kName 2 then 2 else if nm = kName 3 then 3 else 4
def isD (c : UInt8) : Bool := decide (48 ≤ c.toNat) && decide (c.toNat ≤ 57)
/-- The number of digits. -/
def num (d : List UInt8) : Nat := d.foldl (fun n c => 10 * n + (c.toNat - 48)) 0
theorem num_snoc (d : List UInt8) (c : UInt8) : num (d ++ [c]) = 10 * num d + (c.toNat - 48) := by simp [num]
/-- What is wrong with what stands behind a kind's word. -/
def dBad (d : List UInt8) : Bool := decide (d = []) || decide (3 < d.length) || decide (d.head? = some 48) || d.any (fun c => !isD c)
def szE (k : Nat) (d : List UInt8) : Int := if tld k then (if dBad d then 11 else 0) else if d = [] then 0 else 11
def szV (k : Nat) (d : List UInt8) : Int × Int := if szE k d = 0 then ((k : Int), if tld k then (num d : Int) else kLo k) else (0, 0)
def partK (s : List UInt8) : Nat := kindOf (s.take (lett s))
def partE (s : List UInt8) : Int := if partK s = 4 then 13 else szE (partK s) (s.drop (lett s))
def partV (s : List UInt8) : Int × Int := if partK s = 4 then (0, 0) else szV (partK s) (s.drop (lett s))
theorem kindOf_lt {nm : List UInt8} {k : Nat} (hk : k < 4) : kindOf nm = k ↔ nm = kName k := by
  constructor
  · unfold kindOf
    intro h
    split at h
    · rename_i e; rw [e, ← h]
    · split at h
      · rename_i e; rw [e, ← h]
      · split at h
        · rename_i e; rw [e, ← h]
        · split at h
          · rename_i e; rw [e, ← h]
          · omega
  · intro h
    subst h
    match k, hk with
    | 0, _ | 1, _ | 2, _ | 3, _ => decide
theorem kindOf_none {nm : List UInt8} (h : ∀ k, k < 4 → nm ≠ kName k) : kindOf nm = 4 := by
  unfold kindOf
  rw [if_neg (h 0 (by omega)), if_neg (h 1 (by omega)), if_neg (h 2 (by omega)), if_neg (h 3 (by omega))]
theorem kindOf_le (nm : List UInt8) : kindOf nm ≤ 4 := by
  unfold kindOf
  split
  · omega
  · split
    · omega
    · split
      · omega
      · split <;> omega

/-- Words between blanks. -/
def spl : List UInt8 → List (List UInt8)
  | [] => [[]]
  | c :: r => if c = 32 then [] :: spl r else match spl r with
    | [] => [[c]]
    | w :: ws => (c :: w) :: ws
theorem spl_ne : ∀ s, spl s ≠ []
  | [] => by simp [spl]
  | c :: r => by
    unfold spl
    split
    · simp
    · split <;> simp
/-- At the first blank, or at the end. -/
theorem spl_idx : ∀ s : List UInt8, (Lib.indexByte s 32 = -1 ∧ spl s = [s]) ∨ ∃ i : Nat, Lib.indexByte s 32 = i ∧ i < s.length ∧ spl s = s.take i :: spl (s.drop (i + 1))
  | [] => Or.inl ⟨rfl, rfl⟩
  | c :: r => by
    by_cases hc : c = 32
    · refine Or.inr ⟨0, by simp [Lib.indexByte, hc], by simp, ?_⟩
      simp [spl, hc]
    · have hc' : (c == 32) = false := by simpa using hc
      rcases spl_idx r with ⟨h1, h2⟩ | ⟨i, h1, h2, h3⟩
      · refine Or.inl ⟨by simp [Lib.indexByte, hc', h1], ?_⟩
        simp [spl, hc, h2]
      · refine Or.inr ⟨i + 1, ?_, by simpa using h2, ?_⟩
        · have : ((i : Int) == -1) = false := by rw [beq_eq_false_iff_ne]; omega
          simp [Lib.indexByte, hc', h1, this]
        · simp [spl, hc, h3]

/-- The first error of words, and their parts. -/
def wsE : List (List UInt8) → Int
  | [] => 0
  | w :: r => if partE w ≠ 0 then partE w else wsE r
def wsV (ws : List (List UInt8)) : List (Int × Int) := ws.map partV
/-- What Parse tells. -/
def paE (s : List UInt8) : Int := if wsE (spl s) ≠ 0 then wsE (spl s) else plErr (wsV (spl s))
def paL (s : List UInt8) : List (Int × Int) := if paE s = 0 then wsV (spl s) else []
theorem paE_ws {s : List UInt8} (h : wsE (spl s) ≠ 0) : paE s = wsE (spl s) := by unfold paE; rw [if_pos h]
theorem paE_pl {s : List UInt8} (h : wsE (spl s) = 0) : paE s = plErr (wsV (spl s)) := by unfold paE; rw [if_neg (by simp [h])]
theorem paL_err {s : List UInt8} (h : paE s ≠ 0) : paL s = [] := by unfold paL; rw [if_neg h]
theorem paL_ok {s : List UInt8} (h : paE s = 0) : paL s = wsV (spl s) := by unfold paL; rw [if_pos h]
/-- Only the first 257 parts count. -/
theorem plErr_cap (l : List (Int × Int)) : plErr (l.take 257) = plErr l := by
  by_cases h : l.length ≤ 257
  · rw [List.take_of_length_le h]
  · rw [plErr_long (l := l) (Or.inr (by omega)), plErr_long (Or.inr (by simp; omega))]
end Go.Proofs.YtenbbnmhgpclkaaDoor
