/- Topics, and where they lie. No program is named here. -/
import Derived.Test.YtflgggfomhifeaaSnN
import Derived.Test.YtflgggfomhifeaaArgs
namespace Go.Proofs.Ytflgggfomhifeaa
open Go.RowKit

abbrev Tp := Int × Int
/-- How many words a topic has. -/
def wl (t : Tp) : Int := 2 + t.1 * t.2
/-- The spot of a topic that begins there. -/
def spo (a : Int) (t : Tp) : Sp := ⟨a, a + 1, a + 2, t.1, t.2⟩
def spots (a : Int) : List Tp → List Sp
  | [] => []
  | t :: r => spo a t :: spots (a + wl t) r
def tot (a : Int) : List Tp → Int
  | [] => a
  | t :: r => tot (a + wl t) r
theorem spots_snoc : ∀ (l : List Tp) (a : Int) (t : Tp), spots a (l ++ [t]) = spots a l ++ [spo (tot a l) t]
  | [], _, _ => rfl
  | x :: r, a, t => by simp [spots, tot, spots_snoc r]
theorem tot_snoc : ∀ (l : List Tp) (a : Int) (t : Tp), tot a (l ++ [t]) = tot a l + wl t
  | [], _, _ => rfl
  | x :: r, a, t => by simp [tot, tot_snoc r]
theorem spots_len : ∀ (l : List Tp) (a : Int), (spots a l).length = l.length
  | [], _ => rfl
  | x :: r, a => by simp [spots, spots_len r]
theorem spots_at : ∀ (l : List Tp) (a : Int) (k : Nat) (t : Tp), l[k]? = some t → (spots a l)[k]? = some (spo (tot a (l.take k)) t)
  | [], _, k, t, h => by simp at h
  | x :: r, a, 0, t, h => by
    simp at h
    subst h
    rfl
  | x :: r, a, k + 1, t, h => by
    simp only [spots, List.getElem?_cons_succ, List.take_succ_cons, tot]
    exact spots_at r (a + wl x) k t (by simpa using h)
/-- A topic that may be. -/
def okT (t : Tp) : Prop := 1 ≤ t.1 ∧ t.1 ≤ 4 ∧ 2 ≤ t.2 ∧ t.2 ≤ 5
instance (t : Tp) : Decidable (okT t) := by unfold okT; infer_instance
/-- Topics that may be. -/
def okL (l : List Tp) : Prop := 1 ≤ l.length ∧ l.length ≤ 5 ∧ ∀ t ∈ l, okT t
instance (l : List Tp) : Decidable (okL l) := by unfold okL; infer_instance
theorem wl_bd {t : Tp} (h : okT t) : 4 ≤ wl t ∧ wl t ≤ 22 := by
  obtain ⟨h1, h2, h3, h4⟩ := h
  obtain ⟨_, m2⟩ := mul_bd (m := 4) (n := 5) (by omega : 0 ≤ t.1) h2 (by omega : 0 ≤ t.2) h4
  have m3 : 1 * 2 ≤ t.1 * t.2 := Int.mul_le_mul h1 h3 (by omega) (by omega)
  unfold wl
  omega
theorem tot_bd : ∀ (l : List Tp) (a : Int), (∀ t ∈ l, okT t) → a + 4 * l.length ≤ tot a l ∧ tot a l ≤ a + 22 * l.length
  | [], a, _ => by simp [tot]
  | x :: r, a, h => by
    have hx := wl_bd (h x List.mem_cons_self)
    have := tot_bd r (a + wl x) (fun t ht => h t (List.mem_cons_of_mem _ ht))
    simp only [tot, List.length_cons]
    omega
theorem take_snoc {α : Type} {l : List α} {k : Nat} {t : α} (h : l[k]? = some t) : l.take (k + 1) = l.take k ++ [t] := by
  have hk := (List.getElem?_eq_some_iff.1 h)
  obtain ⟨hk, rfl⟩ := hk
  rw [List.take_add_one, List.getElem?_eq_getElem hk]
  rfl
theorem tot_take {l : List Tp} {k : Nat} {t : Tp} (h : l[k]? = some t) (a : Int) : tot a (l.take (k + 1)) = tot a (l.take k) + wl t := by
  rw [take_snoc h, tot_snoc]
theorem tot_mono {l : List Tp} (hl : ∀ t ∈ l, okT t) (a : Int) : ∀ (j k : Nat), j ≤ k → k ≤ l.length → tot a (l.take j) ≤ tot a (l.take k)
  | j, 0, h, _ => by
    obtain rfl : j = 0 := by omega
    exact Int.le_refl _
  | j, k + 1, h, hk => by
    by_cases c : j = k + 1
    · rw [c]; exact Int.le_refl _
    · have ih := tot_mono hl a j k (by omega) (by omega)
      have ht : l[k]? = some l[k] := List.getElem?_eq_getElem (by omega)
      have := wl_bd (hl _ (List.mem_of_getElem? ht))
      rw [tot_take ht]
      omega
/-- Where topic k begins; its words, and how many are kept. -/
theorem spot_in {l : List Tp} (h : okL l) {k : Nat} {t : Tp} (ht : l[k]? = some t) :
    okT t ∧ 0 ≤ tot 0 (l.take k) ∧ tot 0 (l.take k) + wl t ≤ tot 0 l ∧ tot 0 l ≤ 110 ∧ (spots 0 l)[k]? = some (spo (tot 0 (l.take k)) t) := by
  have hk := (List.getElem?_eq_some_iff.1 ht).1
  have ho := h.2.2 t (List.mem_of_getElem? ht)
  have h1 := tot_mono h.2.2 0 0 k (by omega) (by omega)
  have h2 := tot_mono h.2.2 0 (k + 1) l.length (by omega) (by omega)
  rw [tot_take ht, List.take_of_length_le (Nat.le_refl _)] at h2
  have h3 := (tot_bd l 0 h.2.2).2
  have := h.2.1
  refine ⟨ho, by simpa [tot] using h1, h2, by omega, spots_at l 0 k t ht⟩
theorem spots_rt {l : List Tp} (h : okL l) : ∀ S ∈ spots 0 l, Rt S := fun S hS => by
  obtain ⟨k, hk⟩ := List.mem_iff_getElem?.1 hS
  have hkl : k < l.length := by have := (List.getElem?_eq_some_iff.1 hk).1; rw [spots_len] at this; exact this
  obtain ⟨ho, h0, h1, h2, h3⟩ := spot_in h (List.getElem?_eq_getElem hkl)
  rw [hk] at h3
  cases h3
  have hw := wl_bd ho
  obtain ⟨a1, a2, a3, a4⟩ := ho
  unfold Rt spo
  dsimp only
  omega
theorem spots_flt {l : List Tp} (h : okL l) {tr : Int} (h1 : 1 ≤ tr) (h2 : tr ≤ 16) : flt (spots 0 l) tr = 0 :=
  flt_mk (by rw [spots_len]; exact h.1) (by rw [spots_len]; have := h.2.1; omega) (spots_rt h) h1 h2
/-- Topics that lie in a slice. -/
def Tps (n₀ : Nat) (W : World) (a : Option Addr) (l : List Tp) : Prop :=
  ∀ j t, l[j]? = some t → ∃ b off, a = some ⟨b, off, none⟩ ∧ b < n₀ ∧ W.cell? ⟨b, off + j * 2, none⟩ = some (.int .i64 t.1) ∧ W.cell? ⟨b, off + j * 2 + 1, none⟩ = some (.int .i64 t.2) ∧ I64 t.1 ∧ I64 t.2
theorem Tps.below {n₀ : Nat} {A B : World} {a : Option Addr} {l : List Tp} (k : Tps n₀ A a l) (h : Below n₀ A B) : Tps n₀ B a l := fun j p hp => by
  obtain ⟨b, off, e, hb, c0, c1, c2⟩ := k j p hp
  exact ⟨b, off, e, hb, by rw [h.cell (p := ⟨b, off + j * 2, none⟩) hb]; exact c0, by rw [h.cell (p := ⟨b, off + j * 2 + 1, none⟩) hb]; exact c1, c2⟩
theorem Tps.mono' {n m : Nat} {A : World} {a : Option Addr} {l : List Tp} (k : Tps n A a l) (h : n ≤ m) : Tps m A a l := fun j p hp => by
  obtain ⟨b, off, e, hb, c⟩ := k j p hp
  exact ⟨b, off, e, by omega, c⟩
theorem scl_snoc (l : List Sp) (t : Sp) : scl (l ++ [t]) = scl l ++ spc5 t := by simp [scl]
/-- Spots that lie at a block, as they are told of a slice. -/
theorem SpB.sps {gs : Nat} {l : List Sp} {w : World} (h : SpB gs l w) : Sps w.heap.size w (some ⟨gs, 0, none⟩) l := fun j S hS => by
  obtain ⟨vs, hb, hv⟩ := h
  have hc : ∀ (i : Nat) (v : Value), (spc5 S)[i]? = some v → w.cell? ⟨gs, 0 + j * 5 + i, none⟩ = some v := fun i v e => by
    rw [Nat.zero_add]
    exact hb.cell (hv _ v (scl_get l j i S v hS e))
  exact ⟨gs, 0, rfl, hb.lt, hc 0 _ rfl, hc 1 _ rfl, hc 2 _ rfl, hc 3 _ rfl, hc 4 _ rfl⟩
theorem SpB.spot {gs : Nat} {l : List Sp} {w : World} (h : SpB gs l w) {k : Nat} {S : Sp} (hS : l[k]? = some S) (i : Nat) (v : Value) (hv : (spc5 S)[i]? = some v) : w.cell? ⟨gs, k * 5 + i, none⟩ = some v := by
  obtain ⟨vs, h2, h3⟩ := h
  exact h2.cell (h3 _ v (scl_get l k i S v hS hv))
theorem SpB.of_block {gs : Nat} {l : List Sp} {A B : World} (h : SpB gs l A) (e : B.heap[gs]? = A.heap[gs]?) : SpB gs l B := by
  obtain ⟨vs, h1, h2⟩ := h
  exact ⟨vs, h1.of_block e, h2⟩
theorem SpB.lt {gs : Nat} {l : List Sp} {w : World} (h : SpB gs l w) : gs < w.heap.size := by
  obtain ⟨vs, h1, _⟩ := h
  exact h1.lt
theorem SpB.frozen {gs : Nat} {l : List Sp} {w : World} (h : SpB gs l w) (i : Nat) : w.frozen? ⟨gs, i, none⟩ = false := by
  obtain ⟨vs, h1, _⟩ := h
  exact h1.frozen i
end Go.Proofs.Ytflgggfomhifeaa
