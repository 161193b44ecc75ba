/- The walk of the law PlanApart: what it leans on. -/
import Derived.Test.YtdnjoflahiffhaaBxW
import Derived.Test.YtdnjoflahiffhaaApM
import Derived.Deep.CutBlock
import Derived.Deep.DeepCutAuto
namespace Go.Proofs.Ytdnjoflahiffhaa
open Go.RowKit

/-- Blocks as they lie, and spots. -/
def AK (w : World) (aa : Option Addr) (ss : List Sp) (bs : List (Nat × List Value)) (W : World) : Prop :=
  (∀ (j : Nat) (x : Nat × List Value), bs[j]? = some x → Blk W x.1 x.2) ∧ Sps W.heap.size W aa ss ∧ Below w.heap.size w W
section
variable {w : World} {aa : Option Addr} {ss : List Sp} {bs : List (Nat × List Value)} {W W' : World}
theorem AK.blk (h : AK w aa ss bs W) (j : Nat) {g : Nat} {vs : List Value} (e : bs[j]? = some (g, vs)) : Blk W g vs := h.1 j _ e
theorem AK.next (h : AK w aa ss bs W) (u : Below W.heap.size W W') : AK w aa ss bs W' := ⟨fun j x e => (h.1 j x e).low u, h.2.1.next u, h.2.2.trans (u.mono h.2.2.size)⟩
theorem AK.drewN (h : AK w aa ss bs W) (n : Nat) : AK w aa ss bs (W.drewN n) := h.next (belN (Below.refl _ _) n)
theorem AK.new (h : AK w aa ss bs W) (c : Array Value) (t : TypeId) : AK w aa ss ((W.heap.size, c.toList) :: bs) (W.alloc (.cells c t)) := by
  have u := (Below.refl W.heap.size W).alloc (Nat.le_refl _) (.cells c t)
  refine ⟨fun j x e => ?_, h.2.1.next u, h.2.2.trans (u.mono h.2.2.size)⟩
  match j, e with
  | 0, e =>
    simp at e
    subst e
    exact Blk.new W c t
  | j + 1, e => exact (h.1 j x (by simpa using e)).low u
theorem AK.spots (h : AK w aa ss bs W) {aa' : Option Addr} {ss' : List Sp} (hS : Sps W.heap.size W aa' ss') : AK w aa' ss' bs W := ⟨h.1, hS, h.2.2⟩
theorem AK.drop (h : AK w aa ss bs W) {bs' : List (Nat × List Value)} (n : Nat) (e : bs.drop n = bs') : AK w aa ss bs' W := ⟨fun j x hx => h.1 (n + j) x (by rw [← e, List.getElem?_drop] at hx; exact hx), h.2⟩
end
/-- The blocks of the law, once there is a plan. -/
abbrev BP (T R L : Int) (a : Option Addr) (cap : Nat) (l : List Tp) (g0 g1 x0 x1 t0 t1 : Int) (w : World) (P : Nat) (aa : Option Addr) (ca : Nat) : List (Nat × List Value) :=
  (P, plc 0 1 L (.slice aa l.length ca) (tot (1 + L) l)) :: [(w.heap.size + 1 + 1, [.int .u64 g0, .int .u64 g1, .int .i64 x0, .int .i64 x1]), (w.heap.size + 1, [.int .i64 t0, .int .i64 t1]), (w.heap.size, cfl T a l.length cap R L)]
/-- .. and two spots. -/
abbrev BQ (T R L : Int) (a : Option Addr) (cap : Nat) (l : List Tp) (g0 g1 x0 x1 t0 t1 : Int) (w : World) (P : Nat) (aa : Option Addr) (ca A B : Nat) (o0 w0 d0 o1 w1 d1 : Int) : List (Nat × List Value) :=
  (B, spc o1 (o1 + 1) (o1 + 2) w1 d1) :: (A, spc o0 (o0 + 1) (o0 + 2) w0 d0) :: BP T R L a cap l g0 g1 x0 x1 t0 t1 w P aa ca
theorem AK.cons {w : World} {aa : Option Addr} {ss : List Sp} {bs : List (Nat × List Value)} {W : World} (h : AK w aa ss bs W) {g : Nat} {vs : List Value} (b : Blk W g vs) : AK w aa ss ((g, vs) :: bs) W := by
  refine ⟨fun j x e => ?_, h.2⟩
  match j, e with
  | 0, e =>
    simp at e
    subst e
    exact b
  | j + 1, e => exact h.1 j x (by simpa using e)
theorem wrap_i64' (n : Int) (h1 : -9223372036854775808 ≤ n) (h2 : n ≤ 9223372036854775807) : IntKind.i64.wrap n = n := by
  simp [IntKind.wrap, IntKind.bits, IntKind.signed]
  omega
def RelAp (W : World) (i : Value) (wr : World) : Prop := ∃ j m : Nat, j ≤ 3 ∧ i = .int .i64 j ∧ wr = W.drewN m
def RelAo (w : World) (aa : Option Addr) (ss : List Sp) (bs : List (Nat × List Value)) (i : Value) (wr : World) : Prop := ∃ r : Nat, r ≤ 3 ∧ i = .int .i64 r ∧ AK w aa ss bs wr
theorem lw_facts {L : Int} {l : List Tp} {i : Nat} {t : Tp} {g x v : Int} {r : Nat} (hL1 : 1 ≤ L) (hall : ∀ t ∈ l, okT t) (ht : l[i]? = some t) (hL64 : L ≤ 64) (ho : tot (1 + L) (l.take i) ≤ 1 + L + 65664) (hg : 0 ≤ g) (hx : 0 ≤ x) (hx2 : x < t.2.1)
    (hv : (lw (tot (1 + L) (l.take i)) t.2.1 t.2.2 g x)[r]? = some v) : wv L l v = i ∧ v < tot (1 + L) l ∧ 1 + L ≤ v := by
  have hok := hall t (List.mem_of_getElem? ht)
  have hlo := (tot_bd (l.take i) (1 + L) (fun u hu => hall u (List.mem_of_mem_take hu))).1
  obtain ⟨h1, h2⟩ := lw_topic hok (by omega) (by omega) hg hx hx2 hv
  exact wv_topic hL1 hall ht h1 h2
/-- Three stores into a block that was made behind all these. -/
theorem AK.three {w : World} {aa : Option Addr} {ss : List Sp} {bs : List (Nat × List Value)} {W W' : World} (h : AK w aa ss bs W) (z0 z1 z2 v0 v1 v2 : Value) (t : TypeId) (u : Below (W.alloc (.cells #[z0, z1, z2] t)).heap.size (W.alloc (.cells #[z0, z1, z2] t)) W') :
    AK w aa ss ((W.heap.size, [v0, v1, v2]) :: bs) (((W'.setCell ⟨W.heap.size, 0, none⟩ v0).setCell ⟨W.heap.size, 1, none⟩ v1).setCell ⟨W.heap.size, 2, none⟩ v2) := by
  have hl := h.2.2.size
  have hlt := fun (j : Nat) (x : Nat × List Value) e => (h.1 j x e).lt
  have hS0 : Sps W.heap.size W' aa ss := (h.2.1.below ((Below.refl _ W).alloc (Nat.le_refl _) _)).below (u.mono (by simp))
  have h1 := (h.next ((Below.refl _ W).alloc (Nat.le_refl _) (.cells #[z0, z1, z2] t))).next u
  have hb := (Blk.new W #[z0, z1, z2] t).low u
  have hsz : W.heap.size < W'.heap.size := Nat.lt_of_lt_of_le (by simp) u.size
  have hS3 : Sps W.heap.size (((W'.setCell ⟨W.heap.size, 0, none⟩ v0).setCell ⟨W.heap.size, 1, none⟩ v1).setCell ⟨W.heap.size, 2, none⟩ v2) aa ss :=
    hS0.below ((((Below.refl W.heap.size W').setCell (Nat.le_refl _) _).setCell (Nat.le_refl _) _).setCell (Nat.le_refl _) _)
  refine AK.cons ⟨fun j x e => ?_, hS3.mono (by simp [World.setCell]; omega), ?_⟩ (((hb.put 0 v0).put 1 v1).put 2 v2)
  · have := hlt j x e
    exact (((h1.1 j x e).setFar (by show x.1 ≠ W.heap.size; omega) _).setFar (by show x.1 ≠ W.heap.size; omega) _).setFar (by show x.1 ≠ W.heap.size; omega) _
  · exact ((h1.2.2.setCell (p := ⟨W.heap.size, 0, none⟩) hl _).setCell (p := ⟨W.heap.size, 1, none⟩) hl _).setCell (p := ⟨W.heap.size, 2, none⟩) hl _
end Go.Proofs.Ytdnjoflahiffhaa
