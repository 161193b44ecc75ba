/- config.Find, config.Same, the document's, and Few: their contracts. -/
import Derived.Test.YtdnjoflahiffhaaCfgM
import Derived.Test.YtdnjoflahiffhaaChecked
import Derived.BigQuiet
namespace Go.Proofs.Ytdnjoflahiffhaa
open Go.RowKit

/-- Few topics, of short names. -/
def few (l : List Tp) : Bool := decide (l.length ≤ 80) && l.all (fun t => decide (t.1.size ≤ 40))
theorem few_bad {l : List Tp} {k : Nat} {t : Tp} (h : l[k]? = some t) (h2 : 40 < t.1.size) : few l = false := by
  have : l.all (fun t => decide (t.1.size ≤ 40)) = false := by
    rw [List.all_eq_false]
    exact ⟨t, List.mem_of_getElem? h, by simpa using h2⟩
  simp [few, this]
theorem few_spec {l : List Tp} (h : few l = true) : l.length ≤ 80 ∧ ∀ t ∈ l, t.1.size ≤ 40 := by
  unfold few at h
  rw [Bool.and_eq_true, decide_eq_true_eq, List.all_eq_true] at h
  exact ⟨h.1, fun t ht => by simpa using h.2 t ht⟩
set_option maxHeartbeats 1000000 in
theorem few_any (T R L : Int) (a : Option Addr) (cap : Nat) (l : List Tp) (w : World) (hT : Tps w.heap.size w a l) : Calls Try.prog 9 #[cfg T a l.length cap R L] w (Ret (.bool (few l)) w) := by
  have hC := Blk.new w #[.int .i64 T, .slice a l.length cap, .int .i64 R, .int .i64 L] 24
  have hB := (Below.refl w.heap.size w).alloc (Nat.le_refl _) (.cells #[.int .i64 T, .slice a l.length cap, .int .i64 R, .int .i64 L] 24)
  have hT1 := hT.below hB
  have c1 := hC.cell (i := 1) rfl
  have HB := Lib.hid (And.intro hT1 hB)
  clear hT1 hB hC hT
  go_enter Try.func9, Try.ntmps9
  go_wp2
  go_loop [3] (fun i => ∃ k : Nat, k ≤ l.length ∧ k ≤ 81 ∧ i = .int .i64 k ∧ ∀ (j : Nat) (t : Tp), j < k → l[j]? = some t → t.1.size ≤ 40) (fun i => 81 - (intOf i).toNat)
  case atStart => exact ⟨0, by omega, by omega, rfl, fun j t hj => by omega⟩
  case round =>
    obtain ⟨k, hk, hk8, rfl, hall⟩ := hrel
    have Ha := Lib.hid hall
    clear hall
    by_cases hkl : k < l.length
    · have m0 : decide ((k : Int) < (l.length : Int)) = true := decide_eq_true (by omega)
      have m0' : (k : Int) < (l.length : Int) := by omega
      by_cases h81 : k < 81
      · have m1 : decide ((k : Int) < 81) = true := decide_eq_true (by omega)
        obtain ⟨t, ht⟩ : ∃ t, l[k]? = some t := ⟨l[k], List.getElem?_eq_getElem hkl⟩
        obtain ⟨b, off, rfl, _, u0, _, _⟩ := HB.out.1 k t ht
        have Ht := Lib.hid ht
        clear ht
        by_cases hsz : 40 < t.1.size
        · have m2 : decide ((40 : Int) < (t.1.size : Int)) = true := decide_eq_true (by omega)
          have hf := Lib.hid (few_bad Ht.out hsz)
          go_wp2
          go_ret
          exact ⟨by rw [hf.out]; rfl, HB.out.2⟩
        · have m2 : decide ((40 : Int) < (t.1.size : Int)) = false := decide_eq_false (by omega)
          go_wp2
          go_round
          case rel =>
            refine ⟨k + 1, by omega, by omega, by go_num, fun j u hj hu => ?_⟩
            by_cases hjk : j < k
            · exact Ha.out j u hjk hu
            · obtain rfl : j = k := by omega
              rw [Ht.out] at hu
              cases hu
              omega
          case measure => simp [intOf]; omega
      · have m1 : decide ((k : Int) < 81) = false := decide_eq_false (by omega)
        have m2 : decide ((l.length : Int) ≤ 80) = false := decide_eq_false (by omega)
        have hf : few l = false := by
          unfold few
          rw [decide_eq_false (by omega : ¬ l.length ≤ 80)]
          rfl
        have Hf := Lib.hid hf
        clear hf
        go_wp2
        go_ret
        exact ⟨by rw [Hf.out]; rfl, HB.out.2⟩
    · have m0 : decide ((k : Int) < (l.length : Int)) = false := decide_eq_false (by omega)
      have hf : few l = decide ((l.length : Int) ≤ 80) := by
        have h3 : l.all (fun t => decide (t.1.size ≤ 40)) = true := by
          rw [List.all_eq_true]
          intro t ht
          obtain ⟨j, hj, e⟩ := List.mem_iff_getElem.1 ht
          exact decide_eq_true (Ha.out j t (by omega) (by rw [List.getElem?_eq_getElem hj, e]))
        unfold few
        rw [h3, Bool.and_true]
        by_cases h : l.length ≤ 80
        · rw [decide_eq_true h, decide_eq_true (by omega : (l.length : Int) ≤ 80)]
        · rw [decide_eq_false h, decide_eq_false (by omega : ¬ (l.length : Int) ≤ 80)]
      have Hf := Lib.hid hf
      clear hf
      go_wp2
      go_ret
      exact ⟨by rw [Hf.out]; rfl, HB.out.2⟩

/-- The first topic of a name. -/
def fnd (l : List Tp) (s : ByteArray) : Nat := l.findIdx (fun t => decide (t.1 = s))
theorem fnd_at {l : List Tp} {s : ByteArray} {k : Nat} {t : Tp} (h : l[k]? = some t) (e : t.1 = s) (hno : ∀ (j : Nat) (u : Tp), j < k → l[j]? = some u → u.1 ≠ s) : fnd l s = k := by
  have hk : k < l.length := (List.getElem?_eq_some_iff.1 h).1
  unfold fnd
  rw [List.findIdx_eq hk]
  refine ⟨by rw [(List.getElem?_eq_some_iff.1 h).2]; simpa using e, fun j hj => ?_⟩
  have := hno j l[j] hj (List.getElem?_eq_getElem (by omega))
  simpa using this
theorem fnd_none {l : List Tp} {s : ByteArray} (hno : ∀ (j : Nat) (u : Tp), l[j]? = some u → u.1 ≠ s) : fnd l s = l.length := by
  unfold fnd
  rw [List.findIdx_eq_length]
  intro t ht
  obtain ⟨j, hj, e⟩ := List.mem_iff_getElem.1 ht
  have := hno j t (by rw [List.getElem?_eq_getElem hj, e])
  simpa using this
/-- What Find tells. -/
def fdI (l : List Tp) (s : ByteArray) : Int := if fnd l s < l.length then (fnd l s : Int) else 0
def fdE (l : List Tp) (s : ByteArray) : Int := if fnd l s < l.length then 0 else 14
def fdR (l : List Tp) (s : ByteArray) : Int := if fnd l s < l.length then (fnd l s : Int) else -1
set_option maxHeartbeats 1000000 in
theorem rfind_any (T R L : Int) (a : Option Addr) (cap : Nat) (l : List Tp) (s : ByteArray) (w : World) (hT : Tps w.heap.size w a l) (hl : l.length ≤ 100000) : Calls Try.prog 37 #[cfg T a l.length cap R L, .string s] w (Ret (.int .i64 (fdR l s)) w) := by
  have hC := Blk.new w #[.int .i64 T, .slice a l.length cap, .int .i64 R, .int .i64 L] 24
  have hB := (Below.refl w.heap.size w).alloc (Nat.le_refl _) (.cells #[.int .i64 T, .slice a l.length cap, .int .i64 R, .int .i64 L] 24)
  have hT1 := hT.below hB
  have c1 := hC.cell (i := 1) rfl
  have HB := Lib.hid (And.intro hT1 hB)
  clear hT1 hB hC hT
  go_enter Try.func37, Try.ntmps37
  go_wp2
  go_loop [5] (fun i => ∃ k : Nat, k ≤ l.length ∧ i = .int .i64 k ∧ (∀ (j : Nat) (u : Tp), j < k → l[j]? = some u → u.1 ≠ s)) (fun i => l.length - (intOf i).toNat)
  case atStart => exact ⟨0, by omega, rfl, fun j u hj => by omega⟩
  case round =>
    obtain ⟨k, hk, rfl, hno⟩ := hrel
    have Hn := Lib.hid hno
    clear hno
    by_cases hkl : k < l.length
    · have m0' : (k : Int) < (l.length : Int) := by omega
      obtain ⟨t, ht⟩ : ∃ t, l[k]? = some t := ⟨l[k], List.getElem?_eq_getElem hkl⟩
      obtain ⟨b, off, rfl, _, u0, u1, u2⟩ := HB.out.1 k t ht
      have Ht := Lib.hid ht
      clear ht
      by_cases e : t.1 = s
      · have he : (t.1.toList == s.toList) = true := by rw [str_eq]; exact decide_eq_true e
        have hf := fnd_at Ht.out e Hn.out
        have Hf : fdR l s = k := by simp [fdR, hf, hkl]
        have HF := Lib.hid Hf
        clear Hf hf e
        go_wp2
        go_ret
        exact ⟨by rw [HF.out]; rfl, HB.out.2⟩
      · have he : (t.1.toList == s.toList) = false := by rw [str_eq]; exact decide_eq_false e
        have He := Lib.hid e
        clear e
        go_wp2
        go_round
        case rel =>
          refine ⟨k + 1, by omega, by go_num, fun j u hj hu => ?_⟩
          by_cases hjk : j < k
          · exact Hn.out j u hjk hu
          · obtain rfl : j = k := by omega
            rw [Ht.out] at hu
            cases hu
            exact He.out
        case measure => simp [intOf]; omega
    · have m0 : decide ((k : Int) < (l.length : Int)) = false := decide_eq_false (by omega)
      have hf : fnd l s = l.length := fnd_none (fun j u hu => Hn.out j u (by have := (List.getElem?_eq_some_iff.1 hu).1; omega) hu)
      have Hf : fdR l s = -1 := by simp [fdR, hf]
      have HF := Lib.hid Hf
      clear Hf hf
      go_wp2
      go_ret
      exact ⟨by rw [HF.out]; rfl, HB.out.2⟩
end Go.Proofs.Ytdnjoflahiffhaa
