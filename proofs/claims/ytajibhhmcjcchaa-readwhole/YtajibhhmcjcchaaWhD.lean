/- ReadWhole: where the loops stand. -/
import Derived.Test.YtajibhhmcjcchaaWhB
namespace Go.Proofs.Ytajibhhmcjcchaa
open Go.RowKit

def SA (lb loff xb n cap0 : Nat) (a0 : Option Addr) (d : Int) (W : World) : Prop := W.cell? ⟨lb, loff, none⟩ = some (.slice a0 n cap0) ∧ W.cell? ⟨xb, 0, none⟩ = some (.int .i64 d)
/-- The checking loop's head. -/
def WhRel1 (w : World) (xb n : Nat) (d tr : Int) (rs : List Rw) (i : Value) (wr : World) : Prop :=
  ∃ k : Nat, i = .int .i64 k ∧ k ≤ rs.length ∧ (∀ (j : Nat) (r : Rw), j < k → rs[j]? = some r → r.2.2.length = n) ∧ Blk wr xb [.int .i64 d, .int .i64 tr] ∧ Below w.heap.size w wr
/-- Behind the making of the bank. -/
structure Wh8 (w : World) (b bg sp xb n d : Nat) (tr : Int) (wr : World) : Prop where
  bank : Bk wr b bg (List.replicate (2 + n * d) 0) 0
  spot : Blk wr sp (spc 0 1 2 n d)
  box : Blk wr xb [.int .i64 d, .int .i64 tr]
  bel : Below w.heap.size w wr
  ap : b ≠ sp ∧ bg ≠ sp ∧ b ≠ xb ∧ bg ≠ xb ∧ sp ≠ xb ∧ w.heap.size ≤ b ∧ w.heap.size ≤ bg ∧ w.heap.size ≤ sp ∧ w.heap.size ≤ xb
def SQ (ng xb : Nat) (a0 d tr : Int) (W : World) : Prop := W.cell? ⟨ng, 0, none⟩ = some (.int .i64 a0) ∧ W.cell? ⟨xb, 0, none⟩ = some (.int .i64 d) ∧ W.cell? ⟨xb, 1, none⟩ = some (.int .i64 tr)
theorem owns_sl {W : World} {base : Nat} {e : TypeId} {v : Value} {k : Nat} {xs : List Value} (h : W.ownsRow base e 1 v k xs) : ∃ a c, v = .slice a k c ∧ ∀ (j : Nat) (u : Value), xs[j]? = some u → ∃ g, a = some ⟨g, 0, none⟩ ∧ W.cell? ⟨g, j, none⟩ = some u := by
  obtain ⟨h1, h2⟩ := h
  rcases h2 with ⟨rfl, rfl⟩ | ⟨g, cap, cur, rfl, _, hg, _, _, hcs, ht⟩
  · refine ⟨none, 0, rfl, fun j u hu => ?_⟩
    have hx : xs = [] := List.eq_nil_of_length_eq_zero (by simpa using h1)
    subst hx
    cases hu
  · refine ⟨some ⟨g, 0, none⟩, cap, rfl, fun j u hu => ⟨g, rfl, ?_⟩⟩
    simp only [World.cell?, hg]
    rw [← Array.getElem?_toList]
    rw [← ht] at hu
    rw [List.getElem?_take] at hu
    split at hu
    · exact hu
    · cases hu
theorem owns_at {W : World} {base : Nat} {e : TypeId} {a : Option Addr} {k c : Nat} {xs : List Value} (h : W.ownsRow base e 1 (.slice a k c) k xs) {j : Nat} {u : Value} (hu : xs[j]? = some u) : ∃ g, a = some ⟨g, 0, none⟩ ∧ W.cell? ⟨g, j, none⟩ = some u := by
  obtain ⟨a', c', e1, h'⟩ := owns_sl h
  cases e1
  exact h' j u hu
/-- A row that was told of, as it can be read. -/
def Rin (w : World) (n : Nat) (r : Rw) : Prop := Wds w.heap.size w r.1 r.2.2 ∧ r.2.2.length = n
/-- The main loop's head. -/
def WhRel (w : World) (n d tr m b bg sp ob mb xb z0 : Nat) (dn nx o ne i : Value) (wr : World) : Prop :=
  ∃ (X : Ops) (R : Nat → Rw) (zs : List Int) (t : Int) (V : Value) (dl : List Rw) (N : Value) (nw : List Int) (O : Option (Nat × Nat × RSt)) (D : Nat) (H : Int) (q nxt : Nat),
    dn = V ∧ nx = .int .i64 nxt ∧ o = .pointer (O.map (fun p => ⟨p.1, 0, none⟩)) ∧ ne = N ∧ i = .int .i64 q ∧ q ≤ m ∧ nxt ≤ q ∧
    WhI n d tr D H X (fun k => (R k).2.2) q zs (dl.map (fun r => r.2.2)) ∧ (∀ p pg x, O = some (p, pg, x) → ∀ v, zs[1]? = some v → ∃ f, RdI n d tr D (dl.map (fun r => r.2.2)) v x nw f) ∧
    WhM w n d tr ⟨b, bg, sp, ob, mb, xb, z0, X, R, zs, t, V, dl, N, nw, O⟩ wr ∧ 0 ≤ t ∧ t ≤ q ∧ (∀ k, k < 2 → ∀ o g x, X k = some (o, g, x) → Rin w n (R k)) ∧ (∀ r ∈ dl, Rin w n r) ∧ nw.length ≤ q ∧ ∀ a ∈ nw, 0 ≤ a
/-- Behind the making of a publisher that was not under way. -/
def WhMid (w : World) (n d tr b bg sp ob mb xb z0 : Nat) (zs : List Int) (t : Int) (V : Value) (dl : List Rw) (N : Value) (nw : List Int) (O : Option (Nat × Nat × RSt)) (D : Nat) (H : Int) (q k : Nat) (nx : Value) (wr : World) : Prop :=
  ∃ (X : Ops) (R : Nat → Rw) (nxt o g : Nat) (x : St), nx = .int .i64 nxt ∧ nxt ≤ q + 1 ∧ X k = some (o, g, x) ∧
    WhI n d tr D H X (fun k => (R k).2.2) q zs (dl.map (fun r => r.2.2)) ∧ WhM w n d tr ⟨b, bg, sp, ob, mb, xb, z0, X, R, zs, t, V, dl, N, nw, O⟩ wr ∧ (∀ k, k < 2 → ∀ o g x, X k = some (o, g, x) → Rin w n (R k))
/-- Behind the making of a reader that was not under way. -/
def WhMidR (w : World) (n d tr b bg sp ob mb xb z0 : Nat) (X : Ops) (R : Nat → Rw) (zs : List Int) (t : Int) (V : Value) (dl : List Rw) (D : Nat) (q : Nat) (o ne : Value) (wr : World) : Prop :=
  ∃ (N : Value) (nw : List Int) (p pg f : Nat) (x : RSt) (v : Int), o = .pointer (some ⟨p, 0, none⟩) ∧ ne = N ∧ zs[1]? = some v ∧ RdI n d tr D (dl.map (fun r => r.2.2)) v x nw f ∧
    WhM w n d tr ⟨b, bg, sp, ob, mb, xb, z0, X, R, zs, t, V, dl, N, nw, some (p, pg, x)⟩ wr ∧ nw.length ≤ q ∧ ∀ a ∈ nw, 0 ≤ a
theorem upd_upd (X : Ops) (k : Nat) (v v' : Option (Nat × Nat × St)) : upd (upd X k v) k v' = upd X k v' := by
  funext j
  unfold upd
  split <;> rfl
theorem info42 : (Try.prog.info? 42).map (fun i => (i.zero, i.size, i.bytes)) = some (some (.slice none 0 0), 1, 24) := by kernel_rfl
theorem info3 : (Try.prog.info? 3).map (fun i => (i.zero, i.size, i.bytes)) = some (some (.int .i64 0), 1, 8) := by kernel_rfl
theorem pick4 (p : Int) : ∃ k : Nat, k < 4 ∧ Int.tmod (wrap64 (Int.tmod p 4 + 4)) 4 = k := by
  have h1 : -4 < Int.tmod p 4 ∧ Int.tmod p 4 < 4 := ⟨by have := Int.lt_tmod_of_pos p (show (0 : Int) < 4 by omega); omega, Int.tmod_lt_of_pos p (by omega)⟩
  have e : wrap64 (Int.tmod p 4 + 4) = Int.tmod p 4 + 4 := by unfold wrap64; omega
  rw [e]
  refine ⟨((Int.tmod p 4 + 4) % 4).toNat, by omega, ?_⟩
  rw [Int.tmod_eq_emod_of_nonneg (by omega)]
  omega
theorem wh_mem0 {w W0 : World} {b bg sp xb n d : Nat} {tr : Int} {wx : World} (h : Wh8 w b bg sp xb n d tr wx)
    (e : W0 = (((wx.alloc (.cells (zeros n) 43)).alloc (.cells #[.slice (some ⟨wx.heap.size, 0, none⟩) n n] 42)).alloc (.cells #[.pointer none, .pointer none] 68)).alloc (.cells #[.slice none 0 0, .slice none 0 0] 69)) :
    WhM w n d tr ⟨b, bg, sp, wx.heap.size + 2, wx.heap.size + 3, xb, wx.heap.size, fun _ => none, fun _ => (none, 0, []), List.replicate (2 + n * d) 0, 0, .slice (some ⟨wx.heap.size + 1, 0, none⟩) 1 1, [], .slice none 0 0, [], none⟩ W0 := by
  subst e
  obtain ⟨a1, a2, a3, a4, a5, a6, a7, a8, a9⟩ := h.ap
  have l1 := h.bank.ltb
  have l2 := h.bank.ltg
  have l3 := h.spot.lt
  have l4 := h.box.lt
  have hb := h.bel.size
  have hz := (((Blk.new wx (zeros n) 43).alloc (.cells #[.slice (some ⟨wx.heap.size, 0, none⟩) n n] 42)).alloc (.cells #[.pointer none, .pointer none] 68)).alloc (.cells #[.slice none 0 0, .slice none 0 0] 69)
  have hd : ((((wx.alloc (.cells (zeros n) 43)).alloc (.cells #[.slice (some ⟨wx.heap.size, 0, none⟩) n n] 42)).alloc (.cells #[.pointer none, .pointer none] 68)).alloc (.cells #[.slice none 0 0, .slice none 0 0] 69)).heap[wx.heap.size + 1]? = some (.cells #[.slice (some ⟨wx.heap.size, 0, none⟩) n n] 42 (0, 0)) := by
    show ((((wx.heap.push _).push _).push _).push _)[wx.heap.size + 1]? = _
    rw [Array.getElem?_push, if_neg (by simp), Array.getElem?_push, if_neg (by simp), Array.getElem?_push, if_pos (by simp)]
  have ho := (Blk.new ((wx.alloc (.cells (zeros n) 43)).alloc (.cells #[.slice (some ⟨wx.heap.size, 0, none⟩) n n] 42)) #[.pointer none, .pointer none] 68).alloc (.cells #[.slice none 0 0, .slice none 0 0] 69)
  have hm := Blk.new (((wx.alloc (.cells (zeros n) 43)).alloc (.cells #[.slice (some ⟨wx.heap.size, 0, none⟩) n n] 42)).alloc (.cells #[.pointer none, .pointer none] 68)) #[.slice none 0 0, .slice none 0 0] 69
  simp only [World.size_alloc] at ho hm
  have hsz : ((((wx.alloc (.cells (zeros n) 43)).alloc (.cells #[.slice (some ⟨wx.heap.size, 0, none⟩) n n] 42)).alloc (.cells #[.pointer none, .pointer none] 68)).alloc (.cells #[.slice none 0 0, .slice none 0 0] 69)).heap.size = wx.heap.size + 4 := by simp
  refine ⟨⟨(((h.bank.alloc _).alloc _).alloc _).alloc _, (((h.spot.alloc _).alloc _).alloc _).alloc _, ho, hm, (((h.box.alloc _).alloc _).alloc _).alloc _, hz, fun _ _ _ c => (by cases c), fun _ _ _ c => (by cases c), fun _ _ _ c => (by cases c), ?_, World.ownsRow_nil _ _ _ _⟩, ⟨?_, ?_⟩, (((h.bel.alloc hb _).alloc (by simp; omega) _).alloc (by simp; omega) _).alloc (by simp; omega) _⟩
  · refine ⟨rfl, .inr ⟨wx.heap.size + 1, 1, _, rfl, Nat.zero_le _, hd, Nat.le_refl _, by decide, rfl, ?_⟩⟩
    simp [rwd, rwv]
  · intro i j k hi hj
    have key : ∀ i k, Wh.own ⟨b, bg, sp, wx.heap.size + 2, wx.heap.size + 3, xb, wx.heap.size, fun _ => none, fun _ => (none, 0, []), List.replicate (2 + n * d) 0, 0, .slice (some ⟨wx.heap.size + 1, 0, none⟩) 1 1, [], .slice none 0 0, [], none⟩ i k →
        (i = 0 ∧ (k = b ∨ k = bg)) ∨ (i = 1 ∧ k = sp) ∨ (i = 2 ∧ k = wx.heap.size + 2) ∨ (i = 3 ∧ k = wx.heap.size + 3) ∨ (i = 4 ∧ k = xb) ∨ (i = 5 ∧ k = wx.heap.size) ∨ (i = 9 ∧ k = wx.heap.size + 1) := by
      intro i k hi
      match i, hi with
      | 0, c => exact .inl ⟨rfl, c⟩
      | 1, c => exact .inr (.inl ⟨rfl, c⟩)
      | 2, c => exact .inr (.inr (.inl ⟨rfl, c⟩))
      | 3, c => exact .inr (.inr (.inr (.inl ⟨rfl, c⟩)))
      | 4, c => exact .inr (.inr (.inr (.inr (.inl ⟨rfl, c⟩))))
      | 5, c => exact .inr (.inr (.inr (.inr (.inr (.inl ⟨rfl, c⟩)))))
      | 6, ⟨_, _, _, c, _⟩ => cases c
      | 7, ⟨_, _, _, c, _⟩ => cases c
      | 8, ⟨_, _, _, c, _⟩ => cases c
      | 9, c =>
        have c : wx.heap.size + 1 = k := by simpa [Wh.own, Value.ownBlock] using c
        exact .inr (.inr (.inr (.inr (.inr (.inr ⟨rfl, c.symm⟩)))))
      | 10, c => cases c
      | (_ + 11), c => exact False.elim c
    have h1 := key i k hi
    have h2 := key j k hj
    omega
  · intro i k hi
    rw [hsz]
    match i, hi with
    | 0, .inl c => have c : k = b := c; omega
    | 0, .inr c => have c : k = bg := c; omega
    | 1, c => have c : k = sp := c; omega
    | 2, c => have c : k = wx.heap.size + 2 := c; omega
    | 3, c => have c : k = wx.heap.size + 3 := c; omega
    | 4, c => have c : k = xb := c; omega
    | 5, c => have c : k = wx.heap.size := c; omega
    | 6, ⟨_, _, _, c, _⟩ => cases c
    | 7, ⟨_, _, _, c, _⟩ => cases c
    | 8, ⟨_, _, _, c, _⟩ => cases c
    | 9, c =>
      have c : wx.heap.size + 1 = k := by simpa [Wh.own, Value.ownBlock] using c
      omega
    | 10, c => cases c
    | (_ + 11), c => exact False.elim c
end Go.Proofs.Ytajibhhmcjcchaa
