/- Configs: plain mathematics. -/
import Derived.Test.YtdnjoflahiffhaaMem
namespace Go.Proofs.Ytdnjoflahiffhaa
open Go.RowKit

def isL (c : UInt8) : Bool := decide (97 ≤ c.toNat) && decide (c.toNat ≤ 122)
def isD (c : UInt8) : Bool := decide (48 ≤ c.toNat) && decide (c.toNat ≤ 57)
theorem isL_D {c : UInt8} (h : isL c = true) : isD c = false := by
  simp [isL, isD] at h ⊢
  omega
/-- Which texts are names. -/
def nmB (s : List UInt8) : Bool := decide (s ≠ []) && decide (s.length ≤ 16) && !(isD (s.headD 0)) && s.all (fun c => isL c || isD c)
theorem nmB_nil : nmB [] = false := rfl
theorem nmB_long {s : List UInt8} (h : 16 < s.length) : nmB s = false := by
  unfold nmB
  rw [decide_eq_false (by omega : ¬ s.length ≤ 16)]
  simp
theorem nmB_dig {s : List UInt8} {c : UInt8} (h0 : s[0]? = some c) (h : isD c = true) : nmB s = false := by
  cases s with
  | nil => rfl
  | cons d r =>
    simp at h0
    subst h0
    simp [nmB, h]
theorem nmB_bad {s : List UInt8} {k : Nat} {c : UInt8} (hk : s[k]? = some c) (h1 : isL c = false) (h2 : isD c = false) : nmB s = false := by
  have : s.all (fun c => isL c || isD c) = false := by
    rw [List.all_eq_false]
    exact ⟨c, List.mem_of_getElem? hk, by simp [h1, h2]⟩
  unfold nmB
  rw [this]
  simp
theorem nmB_ok {s : List UInt8} {c : UInt8} (h0 : s[0]? = some c) (hl : s.length ≤ 16) (h : isD c = false) (ha : ∀ (j : Nat) (d : UInt8), s[j]? = some d → (isL d || isD d) = true) : nmB s = true := by
  have h3 : s.all (fun c => isL c || isD c) = true := by
    rw [List.all_eq_true]
    intro d hd
    obtain ⟨j, hj, e⟩ := List.mem_iff_getElem.1 hd
    exact ha j d (by rw [List.getElem?_eq_getElem hj, e])
  unfold nmB
  rw [h3, decide_eq_true hl]
  cases s with
  | nil => simp at h0
  | cons d r =>
    simp at h0
    subst h0
    simp [h]
theorem nmB_len {s : List UInt8} (h : nmB s = true) : 1 ≤ s.length ∧ s.length ≤ 16 := by
  simp [nmB] at h
  obtain ⟨⟨⟨h1, h2⟩, _⟩, _⟩ := h
  refine ⟨?_, h2⟩
  cases s with
  | nil => exact absurd rfl h1
  | cons => simp

/-- A number in its range. -/
def rng (n a b : Int) : Int := if n < a ∨ b < n then 10 else 0
theorem rng_in {n a b : Int} (h1 : a ≤ n) (h2 : n ≤ b) : rng n a b = 0 := by unfold rng; rw [if_neg (by omega)]
theorem rng_lo {n a b : Int} (h1 : n < a) : rng n a b = 10 := by unfold rng; rw [if_pos (by omega)]
theorem rng_hi {n a b : Int} (h1 : b < n) : rng n a b = 10 := by unfold rng; rw [if_pos (by omega)]
theorem rng_zero {n a b : Int} (h : rng n a b = 0) : a ≤ n ∧ n ≤ b := by
  unfold rng at h
  split at h <;> omega
theorem rng_ne {n a b : Int} (h : rng n a b ≠ 0) : rng n a b = 10 := by
  unfold rng at h ⊢
  split <;> simp_all

/-- A name that is there. -/
def dup (ahead : List Tp) (s : ByteArray) : Bool := ahead.any (fun t => decide (t.1 = s))
/-- What is wrong with a topic behind others. -/
def tpE (ahead : List Tp) (t : Tp) : Int :=
  if nmB (bs t.1) = false then 13 else if dup ahead t.1 = true then 15 else if rng t.2.1 1 64 ≠ 0 then 10 else rng t.2.2 2 16
def tps (ahead : List Tp) : List Tp → Int × Int
  | [] => (0, 0)
  | t :: r => if tpE ahead t ≠ 0 then ((ahead.length : Int), tpE ahead t) else tps (ahead ++ [t]) r
/-- What is wrong with a config as a whole. -/
def hdE (T : Int) (n : Nat) (R L : Int) : Int :=
  if rng T 1 8 ≠ 0 then 10 else if rng n 1 64 ≠ 0 then 12 else if rng R 1 16 ≠ 0 then 10 else rng L 1 64
/-- What Check tells. -/
def chk (T : Int) (l : List Tp) (R L : Int) : Int × Int := if hdE T l.length R L ≠ 0 then (-1, hdE T l.length R L) else tps [] l
theorem tps_bad {ahead : List Tp} {t : Tp} {r : List Tp} (h : tpE ahead t ≠ 0) : tps ahead (t :: r) = ((ahead.length : Int), tpE ahead t) := by
  rw [tps, if_pos h]
theorem tps_ok {ahead : List Tp} {t : Tp} {r : List Tp} (h : tpE ahead t = 0) : tps ahead (t :: r) = tps (ahead ++ [t]) r := by
  rw [tps, if_neg (by simp [h])]
theorem drop_at {α : Type} {l : List α} {k : Nat} {t : α} (h : l[k]? = some t) : l.drop k = t :: l.drop (k + 1) ∧ l.take (k + 1) = l.take k ++ [t] := by
  have hk : k < l.length := (List.getElem?_eq_some_iff.1 h).1
  have e : l[k] = t := (List.getElem?_eq_some_iff.1 h).2
  refine ⟨by rw [List.drop_eq_getElem_cons hk, e], ?_⟩
  rw [List.take_add_one, h]
  rfl
theorem tps_end (l : List Tp) : tps (l.take l.length) (l.drop l.length) = (0, 0) := by simp [tps]
theorem tps_at_ok {l : List Tp} {k : Nat} {t : Tp} (h : l[k]? = some t) (h0 : tpE (l.take k) t = 0) : tps (l.take k) (l.drop k) = tps (l.take (k + 1)) (l.drop (k + 1)) := by
  obtain ⟨e1, e2⟩ := drop_at h
  rw [e1, tps_ok h0, e2]
theorem tps_at_bad {l : List Tp} {k : Nat} {t : Tp} (h : l[k]? = some t) (h0 : tpE (l.take k) t ≠ 0) : tps (l.take k) (l.drop k) = ((k : Int), tpE (l.take k) t) := by
  obtain ⟨e1, e2⟩ := drop_at h
  have hk : k < l.length := (List.getElem?_eq_some_iff.1 h).1
  rw [e1, tps_bad h0, List.length_take, Nat.min_eq_left (by omega)]
end Go.Proofs.Ytdnjoflahiffhaa
