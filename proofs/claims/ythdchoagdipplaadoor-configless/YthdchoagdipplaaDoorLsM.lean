/- A config with one topic less, or one more: plain mathematics. -/
import Derived.Test.YthdchoagdipplaaDoorPrM
import Derived.Test.YthdchoagdipplaaDoorFin
import Derived.Test.YthdchoagdipplaaDoorSam
namespace Go.Proofs.YthdchoagdipplaaDoor
open Go.RowKit

def less (l : List Tp) (i : Nat) : List Tp := l.take i ++ l.drop (i + 1)
theorem less_len {l : List Tp} {i : Nat} (h : i < l.length) : (less l i).length + 1 = l.length := by
  unfold less
  simp
  omega
/-- Where a topic stood. -/
def was (i j : Nat) : Nat := if j < i then j else j + 1
theorem less_get {l : List Tp} {i j : Nat} (h : i < l.length) : (less l i)[j]? = l[was i j]? := by
  unfold less was
  by_cases hj : j < i
  · rw [if_pos hj, List.getElem?_append_left (by simp; omega), List.getElem?_take_of_lt hj]
  · rw [if_neg hj, List.getElem?_append_right (by simp; omega), List.getElem?_drop, List.length_take]
    congr 1
    omega
theorem was_lt {i j k : Nat} (h : j < k) : was i j < was i k := by
  unfold was
  split <;> split <;> omega
theorem was_ne (i j : Nat) : was i j ≠ i := by
  unfold was
  split <;> omega
theorem dup_mem {ahead : List Tp} {s : ByteArray} (h : dup ahead s = false) {u : Tp} (hu : u ∈ ahead) : u.1 ≠ s := by
  unfold dup at h
  rw [List.any_eq_false] at h
  simpa using h u hu
theorem dup_sub {a b : List Tp} {s : ByteArray} (hab : ∀ u ∈ a, u ∈ b) (h : dup b s = false) : dup a s = false := by
  unfold dup
  rw [List.any_eq_false]
  intro u hu
  simpa using dup_mem h (hab u hu)
theorem tpE_sub {a b : List Tp} {t : Tp} (hab : ∀ u ∈ a, u ∈ b) (h : tpE b t = 0) : tpE a t = 0 := by
  obtain ⟨h1, h2, h3, h4, h5, h6⟩ := tp_ok h
  unfold tpE
  rw [if_neg (by simp [h1]), if_neg (by simp [dup_sub hab h2]), rng_in h3 h4, rng_in h5 h6]
  rfl
theorem apart {l : List Tp} (h : ∀ k t, l[k]? = some t → tpE (l.take k) t = 0) {j k : Nat} {u t : Tp} (hj : l[j]? = some u) (hk : l[k]? = some t) (hne : j ≠ k) : u.1 ≠ t.1 := by
  have key : ∀ (j k : Nat) (u t : Tp), j < k → l[j]? = some u → l[k]? = some t → u.1 ≠ t.1 := fun j k u t hlt hj hk => by
    obtain ⟨_, h2, _⟩ := tp_ok (h k t hk)
    refine dup_mem h2 ?_
    obtain ⟨hjl, e⟩ := List.getElem?_eq_some_iff.1 hj
    rw [List.mem_take_iff_getElem]
    exact ⟨j, by omega, e⟩
  rcases Nat.lt_or_gt_of_ne hne with h1 | h1
  · exact key j k u t h1 hj hk
  · exact fun e => key k j t u h1 hk hj e.symm
theorem less_chk {T : Int} {l : List Tp} {R L : Int} {i : Nat} (h : (chk T l R L).2 = 0) (hi : i < l.length) (h2 : 2 ≤ l.length) : chk T (less l i) R L = (0, 0) := by
  obtain ⟨hh, htp⟩ := chk_ok h
  obtain ⟨t1, t2, n1, n2, r1, r2, g1, g2⟩ := hd_ok hh
  have hl := less_len hi
  refine ok_chk ?_ (fun k t ht => ?_)
  · unfold hdE
    rw [rng_in (n := T) t1 t2, rng_in (n := ((less l i).length : Int)) (by omega) (by omega), rng_in (n := R) r1 r2, rng_in (n := L) g1 g2]
    rfl
  · rw [less_get hi] at ht
    refine tpE_sub (fun u hu => ?_) (htp _ t ht)
    obtain ⟨j, hj, e⟩ := List.mem_take_iff_getElem.1 hu
    have hjl : (less l i)[j]? = some u := by rw [← e]; exact List.getElem?_eq_getElem _
    rw [less_get hi] at hjl
    obtain ⟨hjl', e'⟩ := List.getElem?_eq_some_iff.1 hjl
    rw [List.mem_take_iff_getElem]
    have := was_lt (i := i) (show j < k by omega)
    exact ⟨was i j, by omega, e'⟩
theorem none_chk {T : Int} {l : List Tp} {R L : Int} (h : (chk T l R L).2 = 0) : chk T [] R L = (-1, 12) := by
  obtain ⟨hh, _⟩ := chk_ok h
  obtain ⟨t1, t2, _⟩ := hd_ok hh
  have he : hdE T ([] : List Tp).length R L = 12 := by
    unfold hdE
    rw [rng_in (n := T) t1 t2]
    rfl
  unfold chk
  rw [he]
  rfl
theorem find_own {T : Int} {l : List Tp} {R L : Int} {i : Nat} {t : Tp} (h : (chk T l R L).2 = 0) (ht : l[i]? = some t) : fdI l t.1 = i ∧ fdE l t.1 = 0 := by
  obtain ⟨_, htp⟩ := chk_ok h
  have hi : i < l.length := (List.getElem?_eq_some_iff.1 ht).1
  have hf : fnd l t.1 = i := fnd_at ht rfl (fun j u hj hu => apart htp hu ht (by omega))
  simp [fdI, fdE, hf, hi]
theorem find_less {T : Int} {l : List Tp} {R L : Int} {i : Nat} {t : Tp} (h : (chk T l R L).2 = 0) (ht : l[i]? = some t) : fdE (less l i) t.1 = 14 := by
  obtain ⟨_, htp⟩ := chk_ok h
  have hi : i < l.length := (List.getElem?_eq_some_iff.1 ht).1
  have hf : fnd (less l i) t.1 = (less l i).length := fnd_none (fun j u hu => by
    rw [less_get hi] at hu
    exact apart htp hu ht (was_ne i j))
  simp [fdE, hf]
theorem tps_app : ∀ (r ahead s : List Tp), (∀ k u, r[k]? = some u → tpE (ahead ++ r.take k) u = 0) → tps ahead (r ++ s) = tps (ahead ++ r) s
  | [], ahead, s, _ => by simp
  | u :: r, ahead, s, h => by
    have hu : tpE ahead u = 0 := by simpa using h 0 u rfl
    rw [List.cons_append, tps_ok hu, tps_app r (ahead ++ [u]) s (fun k v hv => by
      have := h (k + 1) v (by simpa using hv)
      simpa using this)]
    simp
theorem more_chk {T : Int} {l : List Tp} {R L : Int} {i : Nat} {t : Tp} (h : (chk T l R L).2 = 0) (ht : l[i]? = some t) : chk T (l ++ [t]) R L = if 64 < l.length + 1 then (-1, 12) else ((l.length : Int), 15) := by
  obtain ⟨hh, htp⟩ := chk_ok h
  obtain ⟨t1, t2, n1, n2, r1, r2, g1, g2⟩ := hd_ok hh
  obtain ⟨hi, e⟩ := List.getElem?_eq_some_iff.1 ht
  by_cases h64 : 64 < l.length + 1
  · rw [if_pos h64]
    have he : hdE T (l ++ [t]).length R L = 12 := by
      unfold hdE
      rw [rng_in (n := T) t1 t2, rng_hi (n := ((l ++ [t]).length : Int)) (a := 1) (by simp; omega)]
      rfl
    unfold chk
    rw [he]
    rfl
  · rw [if_neg h64]
    have he : hdE T (l ++ [t]).length R L = 0 := by
      unfold hdE
      rw [rng_in (n := T) t1 t2, rng_in (n := ((l ++ [t]).length : Int)) (by simp; omega) (by simp; omega), rng_in (n := R) r1 r2, rng_in (n := L) g1 g2]
      rfl
    have hE : tpE l t = 15 := by
      obtain ⟨q1, _⟩ := tp_ok (htp i t ht)
      have hd : dup l t.1 = true := by
        unfold dup
        rw [List.any_eq_true]
        exact ⟨t, List.mem_of_getElem? ht, by simp⟩
      unfold tpE
      rw [if_neg (by simp [q1]), if_pos hd]
    unfold chk
    rw [he, if_neg (by simp), tps_app l [] [t] (fun k u hu => by simpa using htp k u hu), List.nil_append, tps_bad (by rw [hE]; decide), hE]
end Go.Proofs.YthdchoagdipplaaDoor
