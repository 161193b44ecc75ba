/- Texts of configs: plain mathematics of bytes. -/
import Derived.Test.YthdchoagdipplaaDoorCfgM
import Derived.Test.YthdchoagdipplaaDoorShA
import Derived.Lib.SplitLaws
import Derived.Lib.IndexBytes
import Derived.Lib.IndexLaws
namespace Go.Proofs.YthdchoagdipplaaDoor
open Go.RowKit

/-- What stands between a sign. -/
def spl (x : UInt8) : List UInt8 → List (List UInt8)
  | [] => [[]]
  | c :: r => if c = x then [] :: spl x r else match spl x r with
    | [] => [[c]]
    | w :: ws => (c :: w) :: ws
theorem spl_ne (x : UInt8) : ∀ s, spl x s ≠ []
  | [] => by simp [spl]
  | c :: r => by
    unfold spl
    split
    · simp
    · split <;> simp
/-- At the first sign, or at the end. -/
theorem spl_idx (x : UInt8) : ∀ s : List UInt8, (Lib.indexByte s x = -1 ∧ spl x s = [s] ∧ x ∉ s) ∨ ∃ i : Nat, Lib.indexByte s x = i ∧ i < s.length ∧ spl x s = s.take i :: spl x (s.drop (i + 1)) ∧ s = s.take i ++ x :: s.drop (i + 1) ∧ x ∉ s.take i
  | [] => Or.inl ⟨rfl, rfl, by simp⟩
  | c :: r => by
    by_cases hc : c = x
    · refine Or.inr ⟨0, by simp [Lib.indexByte, hc], by simp, ?_, by simp [hc], by simp⟩
      simp [spl, hc]
    · have hc' : (c == x) = false := by simpa using hc
      rcases spl_idx x r with ⟨h1, h2, h3⟩ | ⟨i, h1, h2, h3, h4, h5⟩
      · refine Or.inl ⟨by simp [Lib.indexByte, hc', h1], ?_, ?_⟩
        · simp [spl, hc, h2]
        · simp only [List.mem_cons, not_or]
          exact ⟨fun e => hc e.symm, h3⟩
      · refine Or.inr ⟨i + 1, ?_, by simpa using h2, ?_, ?_, ?_⟩
        · have : ((i : Int) == -1) = false := by rw [beq_eq_false_iff_ne]; omega
          simp [Lib.indexByte, hc', h1, this]
        · simp [spl, hc, h3]
        · simpa using h4
        · simp only [List.take_succ_cons, List.mem_cons, not_or]
          exact ⟨fun e => hc e.symm, h5⟩
theorem splitK_spl (x : UInt8) : ∀ (n : Nat) (s : List UInt8), s.length ≤ n → Lib.splitK [x] 0 (s.count x) s = spl x s
  | 0, s, h => by
    have : s = [] := List.eq_nil_of_length_eq_zero (by omega)
    subst this
    rfl
  | n + 1, s, h => by
    rcases spl_idx x s with ⟨h1, h2, h3⟩ | ⟨i, h1, h2, h3, h4, h5⟩
    · rw [List.count_eq_zero.2 h3, h2]
      rfl
    · have hc : s.count x = (s.drop (i + 1)).count x + 1 := by
        conv => lhs; rw [h4]
        rw [List.count_append, List.count_eq_zero.2 h5, List.count_cons_self]
        omega
      have hi : Lib.index s [x] = i := by rw [Lib.index_one]; exact h1
      have hne : ¬ ((Lib.index s [x] == -1) = true) := by rw [hi, beq_iff_eq]; omega
      rw [hc, Lib.splitK, if_neg hne, hi, h3]
      have := splitK_spl x n (s.drop (i + 1)) (by simp; omega)
      simp only [Int.toNat_natCast, Nat.add_zero, List.length_cons, List.length_nil]
      rw [← this]
/-- strings.Split by a blank gives the words. -/
theorem split_words (s : ByteArray) : (Lib.splitB ⟨#[32]⟩ 0 (Lib.countB s ⟨#[32]⟩) s).map (·.data.toList) = spl 32 (bs s) := by
  rw [Lib.splitB_data]
  have h1 : Lib.countB s ⟨#[32]⟩ = (bs s).count 32 := Lib.count_one 32 (bs s)
  rw [h1]
  exact splitK_spl 32 _ _ (Nat.le_refl _)
theorem split_len (s : ByteArray) : (spl 32 (bs s)).length = Lib.countB s ⟨#[32]⟩ + 1 := by
  rw [← split_words, List.length_map]
  exact Lib.splitB_all ⟨#[32]⟩ (by decide) 0 _ s rfl
/-- strings.Cut at a line feed. -/
def cutA (s : List UInt8) : List UInt8 := (Lib.cut s [10]).1
def cutB (s : List UInt8) : List UInt8 := (Lib.cut s [10]).2.1
def cutM (s : List UInt8) : Bool := (Lib.cut s [10]).2.2
theorem cut_spl (s : List UInt8) : spl 10 s = cutA s :: (if cutM s = true then spl 10 (cutB s) else []) ∧ (cutM s = true → (cutB s).length < s.length) ∧ (cutA s).length ≤ s.length ∧ (cutB s).length ≤ s.length := by
  rcases spl_idx 10 s with ⟨h1, h2, _⟩ | ⟨i, h1, h2, h3, _, _⟩
  · have hi : Lib.index s [10] = -1 := by rw [Lib.index_one]; exact h1
    have e : Lib.cut s [10] = (s, [], false) := by
      unfold Lib.cut
      rw [if_neg (by rw [hi]; decide)]
    unfold cutA cutB cutM
    rw [e, h2]
    exact ⟨by simp, by simp, Nat.le_refl _, Nat.zero_le _⟩
  · have hi : Lib.index s [10] = i := by rw [Lib.index_one]; exact h1
    have e : Lib.cut s [10] = (s.take i, s.drop (i + 1), true) := by
      unfold Lib.cut
      rw [if_pos (by rw [hi]; omega), hi]
      rfl
    unfold cutA cutB cutM
    rw [e, h3]
    refine ⟨by simp, fun _ => ?_, ?_, ?_⟩ <;> simp <;> omega

/-- A numeral, and its number. -/
def num (d : List UInt8) : Nat := d.foldl (fun n c => 10 * n + (c.toNat - 48)) 0
theorem num_snoc (d : List UInt8) (c : UInt8) : num (d ++ [c]) = 10 * num d + (c.toNat - 48) := by simp [num]
def nuB (d : List UInt8) : Bool := decide (d ≠ []) && decide (d.length ≤ 9) && !(decide (d.head? = some 48) && decide (d ≠ [48])) && d.all isD
theorem num_lt : ∀ (n : Nat) (d : List UInt8), d.length = n → (∀ c ∈ d, isD c = true) → num d < 10 ^ n
  | 0, d, h, _ => by
    rw [List.eq_nil_of_length_eq_zero h]
    decide
  | n + 1, d, h, hd => by
    have hne : d ≠ [] := fun e => by rw [e] at h; simp at h
    have e := List.dropLast_concat_getLast hne
    have h1 := num_lt n d.dropLast (by simp [h]) (fun c hc => hd c ((List.dropLast_sublist d).subset hc))
    have h2 := hd _ (List.getLast_mem hne)
    rw [← e, num_snoc, Nat.pow_succ]
    simp [isD] at h2
    omega

/-- The words of a line that stand behind three others. -/
def opB (k0 k1 k2 : List UInt8) (ws : List (List UInt8)) : Bool := decide (ws.length = 6) && decide (ws[0]? = some k0) && decide (ws[2]? = some k1) && decide (ws[4]? = some k2)
def wAt (ws : List (List UInt8)) (j : Nat) : List UInt8 := (ws[j]?).getD []
abbrev kTasks : List UInt8 := [116, 97, 115, 107, 115]
abbrev kTries : List UInt8 := [116, 114, 105, 101, 115]
abbrev kLog : List UInt8 := [108, 111, 103]
abbrev kTopic : List UInt8 := [116, 111, 112, 105, 99]
abbrev kWords : List UInt8 := [119, 111, 114, 100, 115]
abbrev kDepth : List UInt8 := [100, 101, 112, 116, 104]
/-- The first line. -/
def hdB (p : List UInt8) : Bool := opB kTasks kTries kLog (spl 32 p) && nuB (wAt (spl 32 p) 1) && nuB (wAt (spl 32 p) 3) && nuB (wAt (spl 32 p) 5)
def hdV (p : List UInt8) (j : Nat) : Int := num (wAt (spl 32 p) j)
/-- A topic's line. -/
def tpB (p : List UInt8) : Bool := opB kTopic kWords kDepth (spl 32 p) && nuB (wAt (spl 32 p) 3) && nuB (wAt (spl 32 p) 5)
def tpV (p : List UInt8) : Tp := (str (wAt (spl 32 p) 1), num (wAt (spl 32 p) 3), num (wAt (spl 32 p) 5))
/-- Lines of topics, from the n-th on: which one is wrong (0: none). -/
def scN (n : Nat) : List (List UInt8) → Nat
  | [] => n
  | [p] => if p = [] then 0 else n
  | p :: q :: r => if tpB p = true then scN (n + 1) (q :: r) else n
def scL : List (List UInt8) → List Tp
  | [] => []
  | [_] => []
  | p :: q :: r => tpV p :: scL (q :: r)
def lnN : List (List UInt8) → Nat
  | [] => 1
  | [_] => 1
  | p :: q :: r => if hdB p = true then scN 2 (q :: r) else 1
def lnL : List (List UInt8) → List Tp
  | [] => []
  | _ :: r => scL r
def lnH : List (List UInt8) → List UInt8
  | [] => []
  | p :: _ => p
/-- What Parse tells. -/
def paC (s : List UInt8) : Int × Int := chk (hdV (lnH (spl 10 s)) 1) (lnL (spl 10 s)) (hdV (lnH (spl 10 s)) 3) (hdV (lnH (spl 10 s)) 5)
def paE (s : List UInt8) : Int := if 65536 < s.length then 12 else if lnN (spl 10 s) ≠ 0 then 11 else (paC s).2
def paN (s : List UInt8) : Int := if 65536 < s.length then 0 else if lnN (spl 10 s) ≠ 0 then (lnN (spl 10 s) : Int) else if (paC s).2 = 0 then 0 else if (paC s).1 = -1 then 1 else (paC s).1 + 2
def paT (s : List UInt8) : Int := if paE s = 0 then hdV (lnH (spl 10 s)) 1 else 0
def paR (s : List UInt8) : Int := if paE s = 0 then hdV (lnH (spl 10 s)) 3 else 0
def paG (s : List UInt8) : Int := if paE s = 0 then hdV (lnH (spl 10 s)) 5 else 0
def paL (s : List UInt8) : List Tp := if paE s = 0 then lnL (spl 10 s) else []

theorem tps_zero : ∀ (r ahead : List Tp), (tps ahead r).2 = 0 → (tps ahead r).1 = 0
  | [], ahead, _ => rfl
  | t :: r, ahead, h => by
    by_cases h0 : tpE ahead t = 0
    · rw [tps_ok h0] at h ⊢
      exact tps_zero r _ h
    · rw [tps_bad h0] at h
      exact absurd h h0
theorem chk_zero {T : Int} {l : List Tp} {R L : Int} (h : (chk T l R L).2 = 0) : chk T l R L = (0, 0) := by
  unfold chk at h ⊢
  split at h
  · rename_i h2
    exact absurd h h2
  · rename_i h2
    rw [if_neg h2]
    have := tps_zero l [] h
    exact Prod.ext this h
theorem tps_ge : ∀ (r ahead : List Tp), 0 ≤ (tps ahead r).1 ∧ (tps ahead r).1 ≤ ahead.length + r.length
  | [], ahead => by simp [tps]
  | t :: r, ahead => by
    by_cases h0 : tpE ahead t = 0
    · rw [tps_ok h0]
      have := tps_ge r (ahead ++ [t])
      simp at this ⊢
      omega
    · rw [tps_bad h0]
      simp
      omega
theorem chk_ge (T : Int) (l : List Tp) (R L : Int) : -1 ≤ (chk T l R L).1 ∧ (chk T l R L).1 ≤ l.length := by
  unfold chk
  split
  · simp
  · have := tps_ge l []
    simp at this
    omega
end Go.Proofs.YthdchoagdipplaaDoor
