/- Plans: plain mathematics. -/
import Derived.Test.YtdnjoflahiffhaaAcc
namespace Go.Proofs.Ytdnjoflahiffhaa
open Go.RowKit

abbrev Sp := Int × Int × Int × Int × Int
/-- How many words a topic has. -/
def wl (t : Tp) : Int := 2 + t.2.1 * t.2.2
/-- The spot of a topic that begins there. -/
def spo (a : Int) (t : Tp) : Sp := (a, a + 1, a + 2, t.2.1, t.2.2)
def spots (a : Int) : List Tp → List Sp
  | [] => []
  | t :: r => spo a t :: spots (a + wl t) r
def tot (a : Int) : List Tp → Int
  | [] => a
  | t :: r => tot (a + wl t) r
theorem spots_snoc : ∀ (l : List Tp) (a : Int) (t : Tp), spots a (l ++ [t]) = spots a l ++ [spo (tot a l) t]
  | [], _, _ => rfl
  | x :: r, a, t => by simp [spots, tot, spots_snoc r]
theorem tot_snoc : ∀ (l : List Tp) (a : Int) (t : Tp), tot a (l ++ [t]) = tot a l + wl t
  | [], _, _ => rfl
  | x :: r, a, t => by simp [tot, tot_snoc r]
theorem spots_len : ∀ (l : List Tp) (a : Int), (spots a l).length = l.length
  | [], _ => rfl
  | x :: r, a => by simp [spots, spots_len r]
/-- A topic that may be. -/
def okT (t : Tp) : Prop := 1 ≤ t.2.1 ∧ t.2.1 ≤ 64 ∧ 2 ≤ t.2.2 ∧ t.2.2 ≤ 16
theorem wl_bd {t : Tp} (h : okT t) : 4 ≤ wl t ∧ wl t ≤ 1026 := by
  obtain ⟨h1, h2, h3, h4⟩ := h
  obtain ⟨_, m2⟩ := mul_bd (m := 64) (n := 16) (by omega : 0 ≤ t.2.1) h2 (by omega : 0 ≤ t.2.2) h4
  have m3 : 1 * 2 ≤ t.2.1 * t.2.2 := Int.mul_le_mul h1 h3 (by omega) (by omega)
  unfold wl
  omega
theorem tot_bd : ∀ (l : List Tp) (a : Int), (∀ t ∈ l, okT t) → a + 4 * l.length ≤ tot a l ∧ tot a l ≤ a + 1026 * l.length
  | [], a, _ => by simp [tot]
  | x :: r, a, h => by
    have hx := wl_bd (h x List.mem_cons_self)
    have := tot_bd r (a + wl x) (fun t ht => h t (List.mem_cons_of_mem _ ht))
    simp only [tot, List.length_cons]
    omega
theorem take_bd {l : List Tp} (k : Nat) (hk : k ≤ l.length) (hl : l.length ≤ 64) (a : Int) (h : ∀ t ∈ l, okT t) : a ≤ tot a (l.take k) ∧ tot a (l.take k) ≤ a + 65664 := by
  have := tot_bd (l.take k) a (fun t ht => h t (List.mem_of_mem_take ht))
  rw [List.length_take, Nat.min_eq_left hk] at this
  omega
theorem spots_at : ∀ (l : List Tp) (a : Int) (k : Nat) (t : Tp), l[k]? = some t → (spots a l)[k]? = some (spo (tot a (l.take k)) t)
  | [], _, k, t, h => by simp at h
  | x :: r, a, 0, t, h => by
    simp at h
    subst h
    rfl
  | x :: r, a, k + 1, t, h => by
    simp only [spots, List.getElem?_cons_succ, List.take_succ_cons, tot]
    exact spots_at r (a + wl x) k t (by simpa using h)

/-- What a config without a fault has. -/
theorem tps_in : ∀ (l ahead : List Tp), (tps ahead l).2 = 0 → ∀ t ∈ l, okT t
  | [], _, _, t, ht => by cases ht
  | x :: r, ahead, h, t, ht => by
    unfold tps at h
    split at h
    · rename_i h2
      exact absurd h h2
    · rename_i h2
      have hx : tpE ahead x = 0 := by simpa using h2
      rcases List.mem_cons.1 ht with rfl | ht
      · unfold tpE at hx
        split at hx
        · cases hx
        · split at hx
          · cases hx
          · split at hx
            · cases hx
            · rename_i hw
              have h1 := rng_zero (by simpa using hw)
              have h3 := rng_zero hx
              exact ⟨h1.1, h1.2, h3.1, h3.2⟩
      · exact tps_in r _ h t ht
theorem chk_rng {T R L : Int} {l : List Tp} (h : (chk T l R L).2 = 0) : 1 ≤ l.length ∧ l.length ≤ 64 ∧ 1 ≤ L ∧ L ≤ 64 ∧ ∀ t ∈ l, okT t := by
  unfold chk at h
  split at h
  · rename_i h2
    exact absurd h h2
  · rename_i h2
    have h3 : hdE T l.length R L = 0 := by simpa using h2
    unfold hdE at h3
    split at h3
    · cases h3
    · split at h3
      · cases h3
      · split at h3
        · cases h3
        · rename_i h4 _
          have h5 := rng_zero (by simpa using h4 : rng l.length 1 64 = 0)
          have h6 := rng_zero h3
          exact ⟨by omega, by omega, h6.1, h6.2, tps_in l [] h⟩

/-- Spots in cells. -/
def spcells (s : Sp) : List Value := spc s.1 s.2.1 s.2.2.1 s.2.2.2.1 s.2.2.2.2
def scl (l : List Sp) : List Value := l.flatMap spcells
theorem scl_snoc (l : List Sp) (t : Sp) : scl (l ++ [t]) = scl l ++ spcells t := by simp [scl]
theorem scl_get : ∀ (l : List Sp) (j i : Nat) (t : Sp) (v : Value), l[j]? = some t → (spcells t)[i]? = some v → (scl l)[j * 5 + i]? = some v
  | [], j, i, t, v, h, _ => by simp at h
  | x :: r, 0, i, t, v, h, hv => by
    simp at h
    subst h
    have hi : i < 5 := (List.getElem?_eq_some_iff.1 hv).1
    show (spcells x ++ scl r)[0 * 5 + i]? = some v
    rw [Nat.zero_mul, Nat.zero_add, List.getElem?_append_left hi]
    exact hv
  | x :: r, j + 1, i, t, v, h, hv => by
    have e : (j + 1) * 5 + i = (spcells x).length + (j * 5 + i) := by show _ = 5 + _; omega
    show (spcells x ++ scl r)[(j + 1) * 5 + i]? = some v
    rw [e, List.getElem?_append_right (by omega), Nat.add_sub_cancel_left]
    exact scl_get r j i t v (by simpa using h) hv
/-- Spots that lie in a slice. -/
def Sps (n₀ : Nat) (W : World) (a : Option Addr) (l : List Sp) : Prop :=
  ∀ j s, l[j]? = some s → ∃ b off, a = some ⟨b, off, none⟩ ∧ b < n₀ ∧ W.cell? ⟨b, off + j * 5, none⟩ = some (.int .i64 s.1) ∧ W.cell? ⟨b, off + j * 5 + 1, none⟩ = some (.int .i64 s.2.1) ∧ W.cell? ⟨b, off + j * 5 + 2, none⟩ = some (.int .i64 s.2.2.1) ∧
    W.cell? ⟨b, off + j * 5 + 3, none⟩ = some (.int .i64 s.2.2.2.1) ∧ W.cell? ⟨b, off + j * 5 + 4, none⟩ = some (.int .i64 s.2.2.2.2)
theorem Sps.below {n₀ : Nat} {A B : World} {a : Option Addr} {l : List Sp} (k : Sps n₀ A a l) (h : Below n₀ A B) : Sps n₀ B a l := fun j p hp => by
  obtain ⟨b, off, e, hb, c0, c1, c2, c3, c4⟩ := k j p hp
  exact ⟨b, off, e, hb, by rw [h.cell (p := ⟨b, off + j * 5, none⟩) hb]; exact c0, by rw [h.cell (p := ⟨b, off + j * 5 + 1, none⟩) hb]; exact c1, by rw [h.cell (p := ⟨b, off + j * 5 + 2, none⟩) hb]; exact c2, by rw [h.cell (p := ⟨b, off + j * 5 + 3, none⟩) hb]; exact c3, by rw [h.cell (p := ⟨b, off + j * 5 + 4, none⟩) hb]; exact c4⟩
theorem Sps.mono {n m : Nat} {A : World} {a : Option Addr} {l : List Sp} (k : Sps n A a l) (h : n ≤ m) : Sps m A a l := fun j p hp => by
  obtain ⟨b, off, e, hb, c⟩ := k j p hp
  exact ⟨b, off, e, by omega, c⟩
theorem Sps.next {A B : World} {a : Option Addr} {l : List Sp} (k : Sps A.heap.size A a l) (h : Below A.heap.size A B) : Sps B.heap.size B a l := (k.below h).mono h.size
theorem Sps.nil (n₀ : Nat) (W : World) (a : Option Addr) : Sps n₀ W a [] := fun j p hp => by simp at hp

theorem info_parts {P : Program} {t : TypeId} {z : Value} {n m : Nat} (h : (P.info? t).map (fun i => (i.zero, i.size, i.bytes)) = some (some z, n, m)) :
    ∃ i, P.info? t = some i ∧ i.zero = some z ∧ i.size = n ∧ i.bytes = m := by
  obtain ⟨i, hi, he⟩ := Option.map_eq_some_iff.1 h
  simp only [Prod.mk.injEq] at he
  exact ⟨i, hi, he.1, he.2.1, he.2.2⟩
/-- A row of one's own is a slice. -/
theorem owns_slice {W : World} {base : Nat} {e : TypeId} {size : Nat} {v : Value} {k : Nat} {xs : List Value} (h : W.ownsRow base e size v k xs) :
    ∃ a c, v = .slice a k c ∧ ∀ j u, xs[j]? = some u → ∃ g, a = some ⟨g, 0, none⟩ ∧ base ≤ g ∧ g < W.heap.size ∧ W.cell? ⟨g, j, none⟩ = some u := by
  rcases h.2 with ⟨rfl, rfl⟩ | ⟨g, cap, cur, rfl, hb, hg, _⟩
  · refine ⟨none, 0, rfl, fun j u hu => ?_⟩
    have h0 : xs = [] := by
      have := h.1
      simp at this
      exact this
    rw [h0] at hu
    simp at hu
  · refine ⟨some ⟨g, 0, none⟩, cap, rfl, fun j u hu => ⟨g, rfl, hb, (Array.getElem?_eq_some_iff.1 hg).1, ?_⟩⟩
    have := h.cells (g := g) rfl j u hu
    have e : (⟨g, 0, none⟩ : Addr).add j = ⟨g, j, none⟩ := by unfold Addr.add; split <;> simp_all
    rw [e] at this
    exact this
theorem owns_sps {W : World} {base : Nat} {e : TypeId} {v : Value} {l : List Sp} {n : Nat} (hn : l.length = n) (h : W.ownsRow base e 5 v n (scl l)) :
    ∃ a c, v = .slice a n c ∧ Sps W.heap.size W a l := by
  obtain ⟨a, c, hv, hc⟩ := owns_slice h
  refine ⟨a, c, hv, fun k t ht => ?_⟩
  obtain ⟨g, ha, hb, hl, c1⟩ := hc _ _ (scl_get l k 0 t (.int .i64 t.1) ht rfl)
  obtain ⟨g', ha', _, _, c2⟩ := hc _ _ (scl_get l k 1 t (.int .i64 t.2.1) ht rfl)
  obtain ⟨g'', ha'', _, _, c3⟩ := hc _ _ (scl_get l k 2 t (.int .i64 t.2.2.1) ht rfl)
  obtain ⟨g3, ha3, _, _, c4⟩ := hc _ _ (scl_get l k 3 t (.int .i64 t.2.2.2.1) ht rfl)
  obtain ⟨g4, ha4, _, _, c5⟩ := hc _ _ (scl_get l k 4 t (.int .i64 t.2.2.2.2) ht rfl)
  rw [ha] at ha' ha'' ha3 ha4
  cases ha'
  cases ha''
  cases ha3
  cases ha4
  exact ⟨g, 0, ha, hl, by rw [Nat.zero_add]; exact c1, by rw [Nat.zero_add]; exact c2, by rw [Nat.zero_add]; exact c3, by rw [Nat.zero_add]; exact c4, by rw [Nat.zero_add]; exact c5⟩
/-- A row of one's own, in a world where its blocks are as they were. -/
theorem owns_keep {A B : World} {base : Nat} {e : TypeId} {size : Nat} {v : Value} {k : Nat} {xs : List Value} (h : A.ownsRow base e size v k xs) (hk : ∀ g, base ≤ g → g < A.heap.size → B.heap[g]? = A.heap[g]?) : B.ownsRow base e size v k xs := by
  refine ⟨h.1, ?_⟩
  rcases h.2 with hn | ⟨g, cap, cur, hv, hb, hg, rest⟩
  · exact .inl hn
  · exact .inr ⟨g, cap, cur, hv, hb, (hk g hb (Array.getElem?_eq_some_iff.1 hg).1).trans hg, rest⟩
end Go.Proofs.Ytdnjoflahiffhaa
