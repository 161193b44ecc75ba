/- Texts of configs, as they are printed: plain mathematics of bytes. -/
import Derived.Test.YthdchoagdipplaaDoorTxM
import Derived.Test.YthdchoagdipplaaDoorShB
namespace Go.Proofs.YthdchoagdipplaaDoor
open Go.RowKit

theorem str_cat (a b : List UInt8) : str a ++ (⟨b.toArray⟩ : ByteArray) = str (a ++ b) := by
  apply ByteArray.ext
  simp [str, ByteArray.data_append]
theorem str_size (a : List UInt8) : (str a).size = a.length := rfl
/-- Up to two digits, written out. -/
def dd2 (n : Nat) : List UInt8 := if n < 10 then [UInt8.ofNat (48 + n)] else [UInt8.ofNat (48 + n / 10), UInt8.ofNat (48 + n % 10)]
theorem dd_eq {n : Nat} (h : n < 100) : Lib.decDigits n = dd2 n := by
  unfold dd2
  split
  · rename_i h1
    rw [Lib.decDigits, dif_pos h1]
  · rename_i h1
    rw [Lib.decDigits, dif_neg h1, Lib.decDigits, dif_pos (by omega)]
    rfl
theorem dd_len (n : Nat) : (dd2 n).length ≤ 2 := by unfold dd2; split <;> simp
/-- The words of a line, and the line. -/
def lin (a b c d e f : List UInt8) : List UInt8 := a ++ 32 :: (b ++ 32 :: (c ++ 32 :: (d ++ 32 :: (e ++ 32 :: (f ++ [10])))))
def hdT (T R L : Int) : List UInt8 := lin kTasks (dd2 T.toNat) kTries (dd2 R.toNat) kLog (dd2 L.toNat)
def tpT (t : Tp) : List UInt8 := lin kTopic (bs t.1) kWords (dd2 t.2.1.toNat) kDepth (dd2 t.2.2.toNat)
def txT (l : List Tp) : List UInt8 := l.flatMap tpT
theorem txT_snoc (l : List Tp) (t : Tp) : txT (l ++ [t]) = txT l ++ tpT t := by simp [txT]
def txt (T : Int) (l : List Tp) (R L : Int) : List UInt8 := hdT T R L ++ txT l
theorem join6 (a b c d e f : List UInt8) : Lib.join [a, b, c, d, e, f] [32] ++ [10] = lin a b c d e f := by
  unfold lin
  rw [Lib.join_cons]
  simp [Lib.joinTail]
theorem lin_len (a b c d e f : List UInt8) : (lin a b c d e f).length = a.length + b.length + c.length + d.length + e.length + f.length + 6 := by
  unfold lin
  simp
  omega
/-- What is known of a config without fault. -/
theorem hd_ok {T : Int} {n : Nat} {R L : Int} (h : hdE T n R L = 0) : 1 ≤ T ∧ T ≤ 8 ∧ 1 ≤ n ∧ n ≤ 64 ∧ 1 ≤ R ∧ R ≤ 16 ∧ 1 ≤ L ∧ L ≤ 64 := by
  unfold hdE at h
  split at h
  · omega
  · rename_i h1
    split at h
    · omega
    · rename_i h2
      split at h
      · omega
      · rename_i h3
        have a1 := rng_zero (by simpa using h1 : rng T 1 8 = 0)
        have a2 := rng_zero (by simpa using h2 : rng n 1 64 = 0)
        have a3 := rng_zero (by simpa using h3 : rng R 1 16 = 0)
        have a4 := rng_zero h
        omega
theorem tp_ok {ahead : List Tp} {t : Tp} (h : tpE ahead t = 0) : nmB (bs t.1) = true ∧ dup ahead t.1 = false ∧ 1 ≤ t.2.1 ∧ t.2.1 ≤ 64 ∧ 2 ≤ t.2.2 ∧ t.2.2 ≤ 16 := by
  unfold tpE at h
  split at h
  · omega
  · rename_i h1
    split at h
    · omega
    · rename_i h2
      split at h
      · omega
      · rename_i h3
        have a1 := rng_zero (by simpa using h3 : rng t.2.1 1 64 = 0)
        have a2 := rng_zero h
        exact ⟨by simpa using h1, by simpa using h2, a1.1, a1.2, a2.1, a2.2⟩
theorem tps_all : ∀ (r ahead : List Tp), (tps ahead r).2 = 0 → ∀ k t, r[k]? = some t → tpE (ahead ++ r.take k) t = 0
  | [], ahead, _, k, t, h => by simp at h
  | u :: r, ahead, h0, k, t, h => by
    by_cases hu : tpE ahead u = 0
    · rw [tps_ok hu] at h0
      cases k with
      | zero =>
        simp at h
        subst h
        simpa using hu
      | succ k =>
        have := tps_all r (ahead ++ [u]) h0 k t (by simpa using h)
        simpa using this
    · rw [tps_bad hu] at h0
      exact absurd h0 hu
theorem all_tps : ∀ (r ahead : List Tp), (∀ k t, r[k]? = some t → tpE (ahead ++ r.take k) t = 0) → tps ahead r = (0, 0)
  | [], ahead, _ => rfl
  | u :: r, ahead, h => by
    have hu : tpE ahead u = 0 := by simpa using h 0 u rfl
    rw [tps_ok hu]
    refine all_tps r (ahead ++ [u]) (fun k t ht => ?_)
    have := h (k + 1) t (by simpa using ht)
    simpa using this
theorem chk_ok {T : Int} {l : List Tp} {R L : Int} (h : (chk T l R L).2 = 0) : hdE T l.length R L = 0 ∧ ∀ k t, l[k]? = some t → tpE (l.take k) t = 0 := by
  unfold chk at h
  split at h
  · rename_i h2
    exact absurd h h2
  · rename_i h2
    refine ⟨by simpa using h2, fun k t ht => ?_⟩
    have := tps_all l [] h k t ht
    simpa using this
theorem ok_chk {T : Int} {l : List Tp} {R L : Int} (h1 : hdE T l.length R L = 0) (h2 : ∀ k t, l[k]? = some t → tpE (l.take k) t = 0) : chk T l R L = (0, 0) := by
  unfold chk
  rw [if_neg (by simp [h1])]
  exact all_tps l [] (fun k t ht => by simpa using h2 k t ht)
theorem tpT_len {ahead : List Tp} {t : Tp} (h : tpE ahead t = 0) : (tpT t).length ≤ 41 := by
  obtain ⟨h1, _, _⟩ := tp_ok h
  have h2 := (nmB_len h1).2
  rw [bs_len] at h2
  have h3 := dd_len t.2.1.toNat
  have h4 := dd_len t.2.2.toNat
  unfold tpT
  rw [lin_len]
  simp
  omega
theorem hdT_len (T R L : Int) : (hdT T R L).length ≤ 25 := by
  have h3 := dd_len T.toNat
  have h4 := dd_len R.toNat
  have h5 := dd_len L.toNat
  unfold hdT
  rw [lin_len]
  simp
  omega
theorem txT_len : ∀ (l : List Tp), (∀ t ∈ l, (tpT t).length ≤ 41) → (txT l).length ≤ 41 * l.length
  | [], _ => by simp [txT]
  | t :: r, h => by
    have h1 := h t List.mem_cons_self
    have h2 := txT_len r (fun x hx => h x (List.mem_cons_of_mem _ hx))
    simp [txT] at h2 ⊢
    omega
end Go.Proofs.YthdchoagdipplaaDoor
