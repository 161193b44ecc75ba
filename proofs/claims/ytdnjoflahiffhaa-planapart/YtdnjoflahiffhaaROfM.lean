/- The document's Of: its memory. -/
import Derived.Test.YtdnjoflahiffhaaLay
namespace Go.Proofs.Ytdnjoflahiffhaa
open Go.RowKit

/-- The words of topics, and of a whole bank. -/
def tw : Int → List Tp → List Int
  | _, [] => []
  | i, t :: r => List.replicate (wl t).toNat i ++ tw (i + 1) r
theorem tw_snoc : ∀ (l : List Tp) (i : Int) (t : Tp), tw i (l ++ [t]) = tw i l ++ List.replicate (wl t).toNat (i + l.length)
  | [], i, t => by simp [tw]
  | x :: r, i, t => by
    simp only [List.cons_append, tw, tw_snoc r, List.append_assoc, List.length_cons]
    rw [show i + 1 + (r.length : Int) = i + ((r.length + 1 : Nat) : Int) by omega]
def wdl (L : Int) (l : List Tp) : List Int := List.replicate 1 (-1) ++ List.replicate L.toNat (-2) ++ tw 0 l
theorem tw_len : ∀ (l : List Tp) (i a : Int), (∀ t ∈ l, okT t) → a + ((tw i l).length : Int) = tot a l
  | [], _, _, _ => by simp [tw, tot]
  | x :: r, i, a, h => by
    have hx := wl_bd (h x List.mem_cons_self)
    have := tw_len r (i + 1) (a + wl x) (fun t ht => h t (List.mem_cons_of_mem _ ht))
    simp only [tw, tot, List.length_append, List.length_replicate]
    omega
theorem wdl_len {L : Int} {l : List Tp} (hL : 1 ≤ L) (h : ∀ t ∈ l, okT t) : ((wdl L l).length : Int) = tot (1 + L) l := by
  have := tw_len l 0 (1 + L) h
  simp only [wdl, List.length_append, List.length_replicate]
  omega
theorem wdl_snoc (L : Int) (l : List Tp) (t : Tp) : wdl L (l ++ [t]) = wdl L l ++ List.replicate (wl t).toNat (l.length : Int) := by
  simp only [wdl, tw_snoc, Int.zero_add, List.append_assoc]
theorem three {ws : List Int} {i : Int} {n : Nat} : ws ++ List.replicate 1 i ++ List.replicate 1 i ++ List.replicate n i = ws ++ List.replicate (2 + n) i := by
  rw [List.append_assoc, List.append_assoc, List.replicate_append_replicate, List.replicate_append_replicate, show 1 + (1 + n) = 2 + n by omega]
theorem wdl_next {L : Int} {l : List Tp} {t : Tp} (h : okT t) : wdl L l ++ List.replicate 1 (l.length : Int) ++ List.replicate 1 (l.length : Int) ++ List.replicate (t.2.1 * t.2.2).toNat (l.length : Int) = wdl L (l ++ [t]) := by
  have := wl_bd h
  rw [three, wdl_snoc]
  congr 2
  unfold wl at *
  omega

theorem lay_to (B p : Nat) (rg lg ln : Int) (u v : Value) (ws : List Int) (who n : Int) (N : Nat) (hN : n = (N : Int)) (w : World) (hpB : p < B) (hBw : B ≤ w.heap.size) (hn : N ≤ 2000) (hm : ws.length ≤ 100000) (z : Int) (hz : (ws.length : Int) = z) (hW : Wr B p rg lg ln u v ws w) :
    Calls Try.prog 22 #[.pointer (some ⟨p, 0, none⟩), .int .i64 who, .int .i64 n] w (fun e w' => e = .returned (.int .i64 z) ∧ LayPost B p rg lg ln u v ws who N w w') := by
  subst hN
  subst hz
  exact lay_any B p rg lg ln u v ws who N w hpB hBw hn hm hW

/-- What the document's Of has laid. -/
def RS (w : World) (T R L : Int) (a : Option Addr) (n cap p : Nat) (rg lg : Int) (u : Value) (k : Nat) (xs : List Value) (v : Value) (ws : List Int) (W : World) : Prop :=
  Blk W w.heap.size (cfl T a n cap R L) ∧ Wr (p + 1) p rg lg L u v ws W ∧ W.ownsRow (p + 1) 41 5 u k xs ∧ (∀ q, u.ownBlock = some q → v.ownBlock ≠ some q) ∧ Below w.heap.size w W
section
variable {w : World} {T R L : Int} {a : Option Addr} {n cap p : Nat} {rg lg : Int} {u : Value} {k : Nat} {xs : List Value} {v : Value} {ws : List Int} {W : World}
theorem RS.alloc (h : RS w T R L a n cap p rg lg u k xs v ws W) (o : Obj) : RS w T R L a n cap p rg lg u k xs v ws (W.alloc o) :=
  ⟨h.1.alloc o, ⟨h.2.1.1.alloc o, h.2.1.2.alloc o⟩, h.2.2.1.alloc o, h.2.2.2.1, h.2.2.2.2.alloc h.2.2.2.2.size o⟩
theorem RS.size (h : RS w T R L a n cap p rg lg u k xs v ws W) : w.heap.size ≤ W.heap.size ∧ p < W.heap.size := ⟨h.2.2.2.2.size, h.2.1.1.lt⟩
theorem RS.lay (h : RS w T R L a n cap p rg lg u k xs v ws W) (hp : w.heap.size < p) {who : Int} {m : Nat} {W' : World} {v' : Value}
    (h1 : Wr (p + 1) p rg lg L u v' (ws ++ List.replicate m who) W') (h2 : Fr p v.ownBlock W W') (h3 : v'.ownBlock = v.ownBlock ∨ ∀ q, v'.ownBlock = some q → W.heap.size ≤ q) :
    RS w T R L a n cap p rg lg u k xs v' (ws ++ List.replicate m who) W' := by
  have hv := fun q e => (h.2.1.2.lt q e)
  refine ⟨h2.blk h.1 (by omega) (fun e => by have := (hv _ e.symm).1; omega), h1, h2.owns h.2.2.1 (by omega) (fun q e => h.2.2.2.1 q e), fun q e e' => ?_, h.2.2.2.2.trans (h2.below h.size.1 (by omega) (fun q e => by have := (hv q e).1; omega))⟩
  rcases h3 with h3 | h3
  · exact h.2.2.2.1 q e (h3 ▸ e')
  · have := h3 q e'
    have := (h.2.2.1.lt q e).2
    omega
theorem RS.set0 (h : RS w T R L a n cap p rg lg u k xs v ws W) (hp : w.heap.size < p) (x : Int) : RS w T R L a n cap p x lg u k xs v ws (W.setCell ⟨p, 0, none⟩ (.int .i64 x)) :=
  ⟨h.1.setFar (by show w.heap.size ≠ p; omega) _, ⟨h.2.1.1.put 0 _, owns_far h.2.1.2 (fun q e => by have := (h.2.1.2.lt q e).1; show q ≠ p; omega) _⟩, owns_far h.2.2.1 (fun q e => by have := (h.2.2.1.lt q e).1; show q ≠ p; omega) _, h.2.2.2.1, h.2.2.2.2.setCell (by show w.heap.size ≤ p; omega) _⟩
theorem RS.set1 (h : RS w T R L a n cap p rg lg u k xs v ws W) (hp : w.heap.size < p) (x : Int) : RS w T R L a n cap p rg x u k xs v ws (W.setCell ⟨p, 1, none⟩ (.int .i64 x)) :=
  ⟨h.1.setFar (by show w.heap.size ≠ p; omega) _, ⟨h.2.1.1.put 1 _, owns_far h.2.1.2 (fun q e => by have := (h.2.1.2.lt q e).1; show q ≠ p; omega) _⟩, owns_far h.2.2.1 (fun q e => by have := (h.2.2.1.lt q e).1; show q ≠ p; omega) _, h.2.2.2.1, h.2.2.2.2.setCell (by show w.heap.size ≤ p; omega) _⟩
end
/-- In the round. -/
def RR (w : World) (T R L : Int) (a : Option Addr) (n cap p : Nat) (u : Value) (k : Nat) (xs : List Value) (v : Value) (ws : List Int) (D : Nat) (nm : ByteArray) (wd dp o q f : Int) (W : World) : Prop :=
  RS w T R L a n cap p 0 1 u k xs v ws W ∧ Blk W D [.string nm, .int .i64 wd, .int .i64 dp] ∧ Blk W (D + 1) (spc o q f wd dp) ∧ (∀ q, v.ownBlock = some q → q ≠ D ∧ q ≠ D + 1) ∧ (∀ q, u.ownBlock = some q → q < D) ∧ p < D
section
variable {w : World} {T R L : Int} {a : Option Addr} {n cap p : Nat} {u : Value} {k : Nat} {xs : List Value} {v : Value} {ws : List Int} {D : Nat} {nm : ByteArray} {wd dp o q f : Int} {W : World}
theorem RR.lay (h : RR w T R L a n cap p u k xs v ws D nm wd dp o q f W) (hp : w.heap.size < p) {who : Int} {m : Nat} {W' : World} {v' : Value}
    (h1 : Wr (p + 1) p 0 1 L u v' (ws ++ List.replicate m who) W') (h2 : Fr p v.ownBlock W W') (h3 : v'.ownBlock = v.ownBlock ∨ ∀ q, v'.ownBlock = some q → W.heap.size ≤ q) :
    RR w T R L a n cap p u k xs v' (ws ++ List.replicate m who) D nm wd dp o q f W' := by
  obtain ⟨g1, g2, g3, g4, g5, g6⟩ := h
  refine ⟨g1.lay hp h1 h2 h3, h2.blk g2 (by omega) (fun e => (g4 D e.symm).1 rfl), h2.blk g3 (by omega) (fun e => (g4 (D + 1) e.symm).2 rfl), fun q e => ?_, g5, g6⟩
  rcases h3 with h3 | h3
  · exact g4 q (h3 ▸ e)
  · have := h3 q e
    have := g3.lt
    omega
theorem RR.put (h : RR w T R L a n cap p u k xs v ws D nm wd dp o q f W) (hp : w.heap.size < p) (i : Nat) (x : Value) (vs : List Value) (hvs : (spc o q f wd dp).set i x = vs) :
    RS w T R L a n cap p 0 1 u k xs v ws (W.setCell ⟨D + 1, i, none⟩ x) ∧ Blk (W.setCell ⟨D + 1, i, none⟩ x) D [.string nm, .int .i64 wd, .int .i64 dp] ∧ Blk (W.setCell ⟨D + 1, i, none⟩ x) (D + 1) vs := by
  obtain ⟨g1, g2, g3, g4, g5, g6⟩ := h
  have n1 : ∀ q, v.ownBlock = some q → q ≠ D + 1 := fun q e => (g4 q e).2
  have n2 : ∀ q, u.ownBlock = some q → q ≠ D + 1 := fun q e => by have := g5 q e; omega
  exact ⟨⟨g1.1.setFar (by show w.heap.size ≠ D + 1; omega) _, ⟨g1.2.1.1.setFar (by show p ≠ D + 1; omega) _, owns_far g1.2.1.2 n1 _⟩, owns_far g1.2.2.1 n2 _, g1.2.2.2.1, g1.2.2.2.2.setCell (by show w.heap.size ≤ D + 1; omega) _⟩, g2.setFar (by show D ≠ D + 1; omega) _, hvs ▸ g3.put i x⟩
theorem RR.put0 (h : RR w T R L a n cap p u k xs v ws D nm wd dp o q f W) (hp : w.heap.size < p) (x : Int) : RR w T R L a n cap p u k xs v ws D nm wd dp x q f (W.setCell ⟨D + 1, 0, none⟩ (.int .i64 x)) := by
  obtain ⟨a1, a2, a3⟩ := h.put hp 0 (.int .i64 x) _ rfl
  exact ⟨a1, a2, a3, h.2.2.2⟩
theorem RR.put1 (h : RR w T R L a n cap p u k xs v ws D nm wd dp o q f W) (hp : w.heap.size < p) (x : Int) : RR w T R L a n cap p u k xs v ws D nm wd dp o x f (W.setCell ⟨D + 1, 1, none⟩ (.int .i64 x)) := by
  obtain ⟨a1, a2, a3⟩ := h.put hp 1 (.int .i64 x) _ rfl
  exact ⟨a1, a2, a3, h.2.2.2⟩
theorem RR.put2 (h : RR w T R L a n cap p u k xs v ws D nm wd dp o q f W) (hp : w.heap.size < p) (x : Int) : RR w T R L a n cap p u k xs v ws D nm wd dp o q x (W.setCell ⟨D + 1, 2, none⟩ (.int .i64 x)) := by
  obtain ⟨a1, a2, a3⟩ := h.put hp 2 (.int .i64 x) _ rfl
  exact ⟨a1, a2, a3, h.2.2.2⟩
end
/-- Ints that lie in a slice. -/
def Ints (n₀ : Nat) (W : World) (a : Option Addr) (zs : List Int) : Prop :=
  ∀ j z, zs[j]? = some z → ∃ b off, a = some ⟨b, off, none⟩ ∧ b < n₀ ∧ W.cell? ⟨b, off + j, none⟩ = some (.int .i64 z)
theorem Ints.below {n₀ : Nat} {A B : World} (h : Below n₀ A B) {a : Option Addr} {zs : List Int} (k : Ints n₀ A a zs) : Ints n₀ B a zs := fun j z hz => by
  obtain ⟨b, off, e, hb, hc⟩ := k j z hz
  exact ⟨b, off, e, hb, (h.cell (p := ⟨b, off + j, none⟩) hb).trans hc⟩
theorem Ints.next {A B : World} {a : Option Addr} {zs : List Int} (k : Ints A.heap.size A a zs) (h : Below A.heap.size A B) : Ints B.heap.size B a zs := fun j z hz => by
  obtain ⟨b, off, e, hb, hc⟩ := k j z hz
  exact ⟨b, off, e, Nat.lt_of_lt_of_le hb h.size, (h.cell (p := ⟨b, off + j, none⟩) hb).trans hc⟩
theorem owns_ints {W : World} {base : Nat} {e : TypeId} {v : Value} {l : List Int} (h : W.ownsRow base e 1 v l.length (icl l)) :
    ∃ a c, v = .slice a l.length c ∧ Ints W.heap.size W a l := by
  obtain ⟨a, c, hv, hc⟩ := owns_slice h
  refine ⟨a, c, hv, fun k t ht => ?_⟩
  obtain ⟨g, ha, hb, hl, c1⟩ := hc _ _ (icl_at ht)
  exact ⟨g, 0, ha, hl, by rw [Nat.zero_add]; exact c1⟩
end Go.Proofs.Ytdnjoflahiffhaa
