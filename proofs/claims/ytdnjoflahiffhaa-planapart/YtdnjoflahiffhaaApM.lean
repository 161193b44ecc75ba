/- Words of two topics: plain mathematics. -/
import Derived.Test.YtdnjoflahiffhaaWhM
namespace Go.Proofs.Ytdnjoflahiffhaa
open Go.RowKit

theorem tot_append : ∀ (x y : List Tp) (a : Int), tot a (x ++ y) = tot (tot a x) y
  | [], _, _ => rfl
  | t :: r, y, a => by simp [tot, tot_append r]
theorem tw_append : ∀ (x y : List Tp) (i : Int), tw i (x ++ y) = tw i x ++ tw (i + x.length) y
  | [], _, _ => by simp [tw]
  | t :: r, y, i => by
    simp only [List.cons_append, tw, tw_append r, List.append_assoc, List.length_cons]
    rw [show i + 1 + (r.length : Int) = i + ((r.length + 1 : Nat) : Int) by omega]
theorem split_at' {l : List Tp} {i : Nat} {t : Tp} (h : l[i]? = some t) : l = l.take i ++ t :: l.drop (i + 1) := by
  rw [← (drop_at h).1, List.take_append_drop]
/-- A word of a topic. -/
theorem wv_topic {L : Int} {l : List Tp} {i : Nat} {t : Tp} {v : Int} (hL : 1 ≤ L) (hall : ∀ t ∈ l, okT t) (h : l[i]? = some t) (h1 : tot (1 + L) (l.take i) ≤ v) (h2 : v < tot (1 + L) (l.take i) + wl t) :
    wv L l v = i ∧ v < tot (1 + L) l ∧ 1 + L ≤ v := by
  have hi : i < l.length := (List.getElem?_eq_some_iff.1 h).1
  have hT : ∀ u ∈ l.take i, okT u := fun u hu => hall u (List.mem_of_mem_take hu)
  have hD : ∀ u ∈ l.drop (i + 1), okT u := fun u hu => hall u (List.mem_of_mem_drop hu)
  have hlen := wdl_len hL hT
  have hlo := (tot_bd (l.take i) (1 + L) hT).1
  have e1 : tot (1 + L) l = tot (tot (1 + L) (l.take i) + wl t) (l.drop (i + 1)) := by
    conv => lhs; rw [split_at' h]
    rw [tot_append]
    rfl
  have hhi := (tot_bd (l.drop (i + 1)) (tot (1 + L) (l.take i) + wl t) hD).1
  refine ⟨?_, by omega, by omega⟩
  have e2 : wdl L l = wdl L (l.take i) ++ (List.replicate (wl t).toNat (i : Int) ++ tw ((i : Int) + 1) (l.drop (i + 1))) := by
    have e3 : tw 0 l = tw 0 (l.take i) ++ (List.replicate (wl t).toNat (i : Int) ++ tw ((i : Int) + 1) (l.drop (i + 1))) := by
      conv => lhs; rw [split_at' h]
      rw [tw_append, List.length_take, Nat.min_eq_left (by omega), Int.zero_add]
      rfl
    unfold wdl
    rw [e3]
    simp only [List.append_assoc]
  have hv : v = ((v.toNat : Nat) : Int) := by omega
  rw [hv]
  refine wv_at ?_
  rw [e2, List.getElem?_append_right (by omega), List.getElem?_append_left (by simp; omega), List.getElem?_replicate_of_lt (by omega)]
/-- The three words that are looked at. -/
def lw (o wd dp g x : Int) : List Int := [o, o + 1, atv (o + 2) wd dp g + x]
theorem okS_of {o : Int} {t : Tp} (ht : okT t) (h1 : 0 ≤ o) (h2 : o ≤ 1000000) : okS (o + 2) t.2.1 t.2.2 := by
  obtain ⟨g1, g2, g3, g4⟩ := ht
  exact ⟨g1, g2, by omega, g4, by omega, by omega⟩
theorem lw_topic {o g x v : Int} {t : Tp} {j : Nat} (ht : okT t) (h1 : 0 ≤ o) (h2 : o ≤ 1000000) (hg : 0 ≤ g) (hx : 0 ≤ x) (hx2 : x < t.2.1) (hv : (lw o t.2.1 t.2.2 g x)[j]? = some v) : o ≤ v ∧ v < o + wl t := by
  have hb := wl_bd ht
  obtain ⟨a1, a2, _⟩ := at_in (g := g) (okS_of ht h1 h2) hg
  match j, hv with
  | 0, hv =>
    simp [lw] at hv
    omega
  | 1, hv =>
    simp [lw] at hv
    omega
  | 2, hv =>
    simp [lw] at hv
    unfold wl
    omega
  | j + 3, hv => simp [lw] at hv
theorem lw_same {o g g' x x' v v' : Int} {t : Tp} {i k : Nat} (ht : okT t) (h1 : 0 ≤ o) (h2 : o ≤ 1000000) (hg : 0 ≤ g) (hg' : 0 ≤ g') (hx : 0 ≤ x) (hx2 : x < t.2.1) (hx' : 0 ≤ x') (hx2' : x' < t.2.1)
    (hv : (lw o t.2.1 t.2.2 g x)[i]? = some v) (hv' : (lw o t.2.1 t.2.2 g' x')[k]? = some v') : v = v' ↔ i = k ∧ (i < 2 ∨ x = x' ∧ g % t.2.2 = g' % t.2.2) := by
  obtain ⟨a1, a2, _⟩ := at_in (g := g) (okS_of ht h1 h2) hg
  obtain ⟨b1, b2, _⟩ := at_in (g := g') (okS_of ht h1 h2) hg'
  have hi : i < 3 := (List.getElem?_eq_some_iff.1 hv).1
  have hk : k < 3 := (List.getElem?_eq_some_iff.1 hv').1
  match i, k, hi, hk, hv, hv' with
  | 0, 0, _, _, hv, hv' => simp [lw] at hv hv'; omega
  | 0, 1, _, _, hv, hv' => simp [lw] at hv hv'; omega
  | 0, 2, _, _, hv, hv' => simp [lw] at hv hv'; omega
  | 1, 0, _, _, hv, hv' => simp [lw] at hv hv'; omega
  | 1, 1, _, _, hv, hv' => simp [lw] at hv hv'; omega
  | 1, 2, _, _, hv, hv' => simp [lw] at hv hv'; omega
  | 2, 0, _, _, hv, hv' => simp [lw] at hv hv'; omega
  | 2, 1, _, _, hv, hv' => simp [lw] at hv hv'; omega
  | 2, 2, _, _, hv, hv' =>
    simp [lw] at hv hv'
    rw [atv_ok (okS_of ht h1 h2)] at hv hv'
    constructor
    · intro e
      refine ⟨rfl, .inr ?_⟩
      by_cases hr : g % t.2.2 = g' % t.2.2
      · rw [hr] at hv
        exact ⟨by omega, hr⟩
      · have := mul_apart ht.1 hr
        omega
    · rintro ⟨_, h | ⟨h3, h4⟩⟩
      · omega
      · rw [h4] at hv
        omega
end Go.Proofs.Ytdnjoflahiffhaa
