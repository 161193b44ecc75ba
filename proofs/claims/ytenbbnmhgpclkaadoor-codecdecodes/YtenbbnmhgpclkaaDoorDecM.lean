/- What Decode tells: plain arithmetic, and the memory of values and words. -/
import Derived.Test.YtenbbnmhgpclkaaDoorGet
import Derived.Test.YtenbbnmhgpclkaaDoorPlcB
import Derived.Test.YtenbbnmhgpclkaaDoorAwk
namespace Go.Proofs.YtenbbnmhgpclkaaDoor
open Go.RowKit

/-- A slice of words in blocks below n₀. -/
def Words (n₀ : Nat) (W : World) (a : Option Addr) (xs : List Nat) : Prop :=
  ∀ j x, xs[j]? = some x → W64 x ∧ ∃ b off, a = some ⟨b, off, none⟩ ∧ b < n₀ ∧ W.cell? ⟨b, off + j, none⟩ = some (.int .u64 (x : Int))
theorem Words.next {A B : World} {a : Option Addr} {xs : List Nat} (k : Words A.heap.size A a xs) (h : Below A.heap.size A B) : Words B.heap.size B a xs := fun j x hx => by
  obtain ⟨hw, b, off, e, hb, hc⟩ := k j x hx
  exact ⟨hw, b, off, e, Nat.lt_of_lt_of_le hb h.size, (h.cell (p := ⟨b, off + j, none⟩) hb).trans hc⟩

/-- The bits of parts struck out of words. -/
def dL : List (Int × Int) → List (Int × Int) → List Nat → List Nat
  | p :: ps, q :: qs, ls => dL ps qs (ls.set q.1.toNat (pt q.2.toNat p.2.toNat (ls.getD q.1.toNat 0) 0))
  | _, _, ls => ls
/-- The value of a part at a place. -/
def dv1 (ws : List Nat) (p q : Int × Int) : Int × Value := (dvN p.1.toNat q.2.toNat p.2.toNat (ws.getD q.1.toNat 0), dvZ p.1.toNat (ws.getD q.1.toNat 0))
def dV (ws : List Nat) (l pp : List (Int × Int)) : List (Int × Value) := List.zipWith (dv1 ws) l pp
def dErr (l : List (Int × Int)) (ws : List Nat) : Int :=
  if plErr l ≠ 0 then plErr l else if (ws.length : Int) ≠ plN l then 17 else if (dL l (plP l) ws).any (· != 0) then 11 else 0
def dVals (l : List (Int × Int)) (ws : List Nat) : List (Int × Value) := if dErr l ws = 0 then dV ws l (plP l) else []

theorem dErr_pl {l : List (Int × Int)} {ws : List Nat} (h : plErr l ≠ 0) : dErr l ws = plErr l := by unfold dErr; rw [if_pos h]
theorem dErr_len {l : List (Int × Int)} {ws : List Nat} (h : plErr l = 0) (h2 : (ws.length : Int) ≠ plN l) : dErr l ws = 17 := by unfold dErr; rw [if_neg (by simp [h]), if_pos h2]
theorem dErr_bit {l : List (Int × Int)} {ws : List Nat} (h : plErr l = 0) (h2 : (ws.length : Int) = plN l) (h3 : (dL l (plP l) ws).any (· != 0) = true) : dErr l ws = 11 := by
  unfold dErr; rw [if_neg (by simp [h]), if_neg (by simp [h2]), if_pos h3]
theorem dErr_ok {l : List (Int × Int)} {ws : List Nat} (h : plErr l = 0) (h2 : (ws.length : Int) = plN l) (h3 : (dL l (plP l) ws).any (· != 0) = false) : dErr l ws = 0 := by
  unfold dErr; rw [if_neg (by simp [h]), if_neg (by simp [h2]), if_neg (by simp [h3])]
theorem dVals_err {l : List (Int × Int)} {ws : List Nat} (h : dErr l ws ≠ 0) : dVals l ws = [] := by unfold dVals; rw [if_neg h]
theorem dVals_ok {l : List (Int × Int)} {ws : List Nat} (h : dErr l ws = 0) : dVals l ws = dV ws l (plP l) := by unfold dVals; rw [if_pos h]

/-- The cells of values in a row. -/
def vcl (l : List (Int × Value)) : List Value := l.flatMap fun x => [.int .i64 x.1, x.2]
theorem vcl_len : ∀ l : List (Int × Value), (vcl l).length = l.length * 2
  | [] => rfl
  | x :: r => by
    have := vcl_len r
    simp [vcl] at this ⊢
    omega
theorem vcl_app (a b : List (Int × Value)) : vcl (a ++ b) = vcl a ++ vcl b := by simp [vcl]
theorem vcl_at : ∀ (l : List (Int × Value)) (k : Nat) (f : Int × Value), l[k]? = some f → (vcl l)[k * 2]? = some (.int .i64 f.1) ∧ (vcl l)[k * 2 + 1]? = some f.2
  | [], _, _, h => by simp at h
  | x :: r, 0, f, h => by
    simp at h
    subst h
    simp [vcl]
  | x :: r, k + 1, f, h => by
    have h' : r[k]? = some f := by simpa using h
    obtain ⟨e1, e2⟩ := vcl_at r k f h'
    have e : vcl (x :: r) = .int .i64 x.1 :: x.2 :: vcl r := by simp [vcl]
    rw [e, show (k + 1) * 2 = k * 2 + 1 + 1 by omega]
    simp only [List.getElem?_cons_succ]
    exact ⟨e1, e2⟩
theorem vcl_set : ∀ (l : List (Int × Value)) (k : Nat) (x : Int) (y : Value), ((vcl l).set (k * 2) (.int .i64 x)).set (k * 2 + 1) y = vcl (l.set k (x, y))
  | [], _, _, _ => by simp [vcl]
  | a :: r, 0, x, y => by simp [vcl]
  | a :: r, k + 1, x, y => by
    have e : ∀ b s, vcl (b :: s) = .int .i64 b.1 :: b.2 :: vcl s := fun b s => by simp [vcl]
    have h2 : (k + 1) * 2 = k * 2 + 1 + 1 := by omega
    have h3 : (k + 1) * 2 + 1 = k * 2 + 1 + 1 + 1 := by omega
    rw [h3, h2, e, List.set_cons_succ, List.set_cons_succ, List.set_cons_succ, List.set_cons_succ, vcl_set r k x y, List.set_cons_succ, e]
/-- Values ahead, noughts behind. -/
def vhl (pre : List (Int × Value)) (n : Nat) : List (Int × Value) := pre ++ List.replicate n (0, z0)
theorem vhl_set (pre : List (Int × Value)) (n k : Nat) (x : Int × Value) (h : pre.length = k) : (vhl pre (n + 1)).set k x = vhl (pre ++ [x]) n := by
  unfold vhl
  rw [List.set_append_right _ _ (by omega), h, Nat.sub_self, List.replicate_succ]
  simp
theorem vhl_at (pre : List (Int × Value)) (n k : Nat) (h : pre.length = k) : (vhl pre (n + 1))[k]? = some (0, z0) := by
  unfold vhl
  rw [List.getElem?_append_right (by omega), h, Nat.sub_self, List.replicate_succ]
  rfl

/-- A slice of values. -/
def Vls (n₀ : Nat) (W : World) (a : Option Addr) (l : List (Int × Value)) : Prop :=
  ∀ j p, l[j]? = some p → ∃ b off, a = some ⟨b, off, none⟩ ∧ b < n₀ ∧ W.cell? ⟨b, off + j * 2, none⟩ = some (.int .i64 p.1) ∧ W.cell? ⟨b, off + j * 2 + 1, none⟩ = some p.2
theorem Vls.next {A B : World} {a : Option Addr} {l : List (Int × Value)} (k : Vls A.heap.size A a l) (h : Below A.heap.size A B) : Vls B.heap.size B a l := fun j p hp => by
  obtain ⟨b, off, e, hb, c0, c1⟩ := k j p hp
  exact ⟨b, off, e, Nat.lt_of_lt_of_le hb h.size, (h.cell (p := ⟨b, off + j * 2, none⟩) hb).trans c0, (h.cell (p := ⟨b, off + j * 2 + 1, none⟩) hb).trans c1⟩
theorem Vls.nil (n₀ : Nat) (W : World) (a : Option Addr) : Vls n₀ W a [] := fun j p hp => by simp at hp
theorem Vls.of_blk {W : World} {g : Nat} {l : List (Int × Value)} (h : Blk W g (vcl l)) : Vls W.heap.size W (some ⟨g, 0, none⟩) l := fun j p hp => by
  obtain ⟨e1, e2⟩ := vcl_at l j p hp
  exact ⟨g, 0, rfl, h.lt, by rw [Nat.zero_add]; exact h.cell e1, by rw [Nat.zero_add]; exact h.cell e2⟩
theorem owns_vls {W : World} {base : Nat} {e : TypeId} {v : Value} {l : List (Int × Value)} (h : W.ownsRow base e 2 v l.length (vcl l)) :
    ∃ a c, v = .slice a l.length c ∧ Vls W.heap.size W a l := by
  obtain ⟨a, c, hv, hc⟩ := owns_slice h
  refine ⟨a, c, hv, fun k f hf => ?_⟩
  obtain ⟨e1, e2⟩ := vcl_at l k f hf
  obtain ⟨g, ha, hb, hl, c1⟩ := hc _ _ e1
  obtain ⟨g', ha', _, _, c2⟩ := hc _ _ e2
  rw [ha] at ha'
  cases ha'
  exact ⟨g, 0, ha, hl, by rw [Nat.zero_add]; exact c1, by rw [Nat.zero_add]; exact c2⟩

/-- What Decode leaves. -/
def DecPost (l : List (Int × Int)) (ws : List Nat) (w : World) (e : Ending) (W' : World) : Prop :=
  ∃ a cap, e = .returned (.tuple #[.slice a (dVals l ws).length cap, .int .i64 (dErr l ws)]) ∧ Below w.heap.size w W' ∧ Vls W'.heap.size W' a (dVals l ws)
theorem DecPost.bad {l : List (Int × Int)} {ws : List Nat} {w W' : World} {x : Int} (h : dErr l ws = x) (hx : x ≠ 0) (hb : Below w.heap.size w W') : DecPost l ws w (.returned (.tuple #[.slice none 0 0, .int .i64 x])) W' := by
  have h1 := dVals_err (l := l) (ws := ws) (by rw [h]; exact hx)
  exact ⟨none, 0, by rw [h1, h]; rfl, hb, by rw [h1]; exact Vls.nil _ _ _⟩

/-- Behind k parts: the words that are left. -/
structure DSt (l pp : List (Int × Int)) (ws : List Nat) (k : Nat) (ls : List Nat) : Prop where
  rest : dL l pp ws = dL (l.drop k) (pp.drop k) ls
  len : ls.length = ws.length
  w64 : ∀ x ∈ ls, W64 x
theorem pt0_w {a n x : Nat} (h : a + n ≤ 64) : W64 (pt a n x 0) := pt_w h (Nat.zero_le _) x
theorem DSt.start {l pp : List (Int × Int)} {ws : List Nat} (h : ∀ x ∈ ws, W64 x) : DSt l pp ws 0 ws := ⟨rfl, rfl, h⟩
theorem DSt.next {l pp : List (Int × Int)} {ws : List Nat} {k : Nat} {ls : List Nat} (s : DSt l pp ws k ls) {kd : Int} {n x y u : Nat} (hp : l[k]? = some (kd, (n : Int))) (hq : pp[k]? = some ((x : Int), (y : Int))) (hu : ls[x]? = some u) (h2 : y + n ≤ 64) :
    DSt l pp ws (k + 1) (ls.set x (pt y n u 0)) := by
  refine ⟨?_, by simp [s.len], fun z hz => ?_⟩
  · rw [s.rest, drop_at hp, drop_at hq, dL]
    simp only [Int.toNat_natCast]
    rw [List.getD_eq_getElem?_getD, hu]
    rfl
  · rcases List.mem_or_eq_of_mem_set hz with h | h
    · exact s.w64 z h
    · rw [h]
      exact pt0_w h2
theorem DSt.done {l pp : List (Int × Int)} {ws ls : List Nat} (s : DSt l pp ws l.length ls) : dL l pp ws = ls := by
  rw [s.rest, List.drop_length]
  rfl
theorem dV_len {ws : List Nat} {l pp : List (Int × Int)} (h : pp.length = l.length) : (dV ws l pp).length = l.length := by simp [dV, h]
theorem dV_take {ws : List Nat} {l pp : List (Int × Int)} {k : Nat} {p q : Int × Int} (hp : l[k]? = some p) (hq : pp[k]? = some q) : (dV ws l pp).take (k + 1) = (dV ws l pp).take k ++ [dv1 ws p q] := by
  rw [List.take_add_one]
  congr 1
  simp [dV, List.getElem?_zipWith, hp, hq]

theorem us_len (xs : List Nat) : (us xs).length = xs.length := by simp [us]
theorem us_at {xs : List Nat} {k x : Nat} (h : xs[k]? = some x) : (us xs)[k]? = some (.int .u64 (x : Int)) := by simp [us, h]
theorem us_set (xs tl : List Value) (k : Nat) (x : Value) (h : k < xs.length) : (xs ++ tl).set k x = xs.set k x ++ tl := List.set_append_left _ _ h
theorem us_set' (xs : List Nat) (k x : Nat) : (us xs).set k (.int .u64 (x : Int)) = us (xs.set k x) := by simp [us, List.map_set]

theorem add_none' (b off k : Nat) : (⟨b, off, none⟩ : Addr).add k = ⟨b, off + k, none⟩ := by
  unfold Addr.add
  split <;> simp_all
theorem us_mem {xs : List Nat} {j : Nat} {u : Value} (h : (us xs)[j]? = some u) : ∃ x, xs[j]? = some x ∧ u = .int .u64 (x : Int) := by
  simp only [us, List.getElem?_map, Option.map_eq_some_iff] at h
  obtain ⟨x, hx, rfl⟩ := h
  exact ⟨x, hx, rfl⟩
/-- A row of one's own of one-cell elements is the head of a block. -/
theorem owns_blk {W : World} {base : Nat} {e : TypeId} {v : Value} {k : Nat} {xs : List Value} (h : W.ownsRow base e 1 v k xs) (hk : 0 < k) :
    ∃ g c tl, v = .slice (some ⟨g, 0, none⟩) k c ∧ base ≤ g ∧ Blk W g (xs ++ tl) := by
  rcases h.2 with ⟨_, h0⟩ | ⟨g, cap, cur, rfl, hb, hg, _, _, _, ht⟩
  · omega
  · refine ⟨g, cap, cur.toList.drop (k * 1), rfl, hb, e, ?_⟩
    rw [← ht, List.take_append_drop]
    exact hg
/-- Cells that hold such values. -/
def SC (L : List (Nat × Nat × Value)) (w : World) : Prop := ∀ c ∈ L, w.cell? ⟨c.1, c.2.1, none⟩ = some c.2.2
section
variable {L : List (Nat × Nat × Value)} {w w' : World}
theorem SC.next (h : SC L w) (u : Below w.heap.size w w') : SC L w' := fun c hc => (u.cell (p := ⟨c.1, c.2.1, none⟩) (World.block_lt_of_cell? w _ (h c hc))).trans (h c hc)
theorem SC.drew (h : SC L w) : SC L w.drew := h
theorem SC.alloc (h : SC L w) (o : Obj) : SC L (w.alloc o) := h.next ((Below.refl _ _).alloc (Nat.le_refl _) o)
theorem SC.set (h : SC L w) {g i : Nat} (u : Value) (hg : ∀ c ∈ L, c.1 ≠ g) : SC L (w.setCell ⟨g, i, none⟩ u) := fun c hc => (cell_far u (hg c hc)).trans (h c hc)
theorem SC.nil (w : World) : SC [] w := fun c hc => by cases hc
theorem SC.cons {b o : Nat} {v : Value} (h : SC L w) (hc : w.cell? ⟨b, o, none⟩ = some v) : SC ((b, o, v) :: L) w := fun c hm => by
  rcases List.mem_cons.1 hm with rfl | hm
  · exact hc
  · exact h c hm
end

/-- Two blocks, and nothing below has turned. -/
structure DM (w1 : World) (g1 : Nat) (A : List Value) (g2 : Nat) (B : List Value) (W : World) : Prop where
  a : Blk W g1 A
  b : Blk W g2 B
  bel : Below w1.heap.size w1 W
section
variable {w1 W W' : World} {g1 g2 : Nat} {A B : List Value}
theorem DM.next (h : DM w1 g1 A g2 B W) (u : Below W.heap.size W W') : DM w1 g1 A g2 B W' := ⟨h.a.low u, h.b.low u, h.bel.trans (u.mono h.bel.size)⟩
theorem DM.drew (h : DM w1 g1 A g2 B W) : DM w1 g1 A g2 B W.drew := ⟨h.a.drew, h.b.drew, h.bel.drew⟩
theorem DM.alloc (h : DM w1 g1 A g2 B W) (o : Obj) : DM w1 g1 A g2 B (W.alloc o) := h.next ((Below.refl _ _).alloc (Nat.le_refl _) o)
theorem DM.far (h : DM w1 g1 A g2 B W) {g i : Nat} (u : Value) (h1 : g1 ≠ g) (h2 : g2 ≠ g) (h3 : w1.heap.size ≤ g) : DM w1 g1 A g2 B (W.setCell ⟨g, i, none⟩ u) := ⟨h.a.setFar h1 u, h.b.setFar h2 u, h.bel.setCell (p := ⟨g, i, none⟩) h3 u⟩
theorem DM.setA (h : DM w1 g1 A g2 B W) (i : Nat) (u : Value) (h2 : g2 ≠ g1) (h3 : w1.heap.size ≤ g1) : DM w1 g1 (A.set i u) g2 B (W.setCell ⟨g1, i, none⟩ u) := ⟨h.a.put i u, h.b.setFar h2 u, h.bel.setCell (p := ⟨g1, i, none⟩) h3 u⟩
theorem DM.setB (h : DM w1 g1 A g2 B W) (i : Nat) (u : Value) (h2 : g1 ≠ g2) (h3 : w1.heap.size ≤ g2) : DM w1 g1 A g2 (B.set i u) (W.setCell ⟨g2, i, none⟩ u) := ⟨h.a.setFar h2 u, h.b.put i u, h.bel.setCell (p := ⟨g2, i, none⟩) h3 u⟩
end

/-- To strike a field's bits out is to put 0 there. -/
theorem strike (a n x : Nat) (h2 : a + n ≤ 64) (hx : W64 x) : bits .andNot .u64 (x : Int) (IntKind.u64.wrap ((mx n : Int) * 2 ^ a)) = (pt a n x 0 : Int) := by
  have h := or_put a n x 0 h2 hx (Nat.zero_le _)
  rw [show IntKind.u64.wrap (((0 : Nat) : Int) * 2 ^ a) = ((0 : Nat) : Int) by simp [IntKind.wrap_u64]] at h
  rw [shl_nat (mxa_lt h2), u64_andNot_nat _ _ hx (mxa_lt h2)] at h ⊢
  rw [bits_or_u64_nat _ _ (Nat.lt_of_le_of_lt Nat.and_le_left hx) (by decide)] at h
  rw [← h]
  simp
end Go.Proofs.YtenbbnmhgpclkaaDoor
