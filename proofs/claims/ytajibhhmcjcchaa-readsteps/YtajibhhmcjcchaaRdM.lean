/- A reading as it lies in memory, and what a step makes of it. No program is named here. -/
import Derived.Test.YtajibhhmcjcchaaOpM
import Derived.Test.YtajibhhmcjcchaaBank
import Derived.Test.YtajibhhmcjcchaaSq
namespace Go.Proofs.Ytajibhhmcjcchaa
open Go.RowKit

/-- How a reading stands. -/
structure RSt where
  how : Int
  line : Int
  left : Int
  steps : Int
  bgn : Int
  gen : Int
  rw : List Int
/-- Its cells. -/
def rdc (S : Sp) (g : Nat) (x : RSt) : List Value :=
  [.int .i64 S.ow, .int .i64 S.sq, .int .i64 S.fs, .int .i64 S.wd, .int .i64 S.dp, .int .i64 x.how, .int .i64 x.line, .int .i64 x.left, .int .i64 x.steps, .int .i64 x.bgn, .int .u64 x.gen, .slice (some ⟨g, 0, none⟩) x.rw.length S.wd.toNat]
/-- A reading at block o, its words at block g. -/
structure RdAt (w : World) (o g : Nat) (S : Sp) (x : RSt) : Prop where
  cells : Blk w o (rdc S g x)
  words : ∃ vs, Blk w g vs ∧ vs.length = S.wd.toNat ∧ ∀ (i : Nat) (v : Int), x.rw[i]? = some v → vs[i]? = some (.int .u64 v)
  ne : o ≠ g
section
variable {w w' : World} {o g : Nat} {S : Sp} {x : RSt}
theorem RdAt.lto (h : RdAt w o g S x) : o < w.heap.size := h.cells.lt
theorem RdAt.ltg (h : RdAt w o g S x) : g < w.heap.size := by
  obtain ⟨c, h, _⟩ := h.words
  exact h.lt
theorem RdAt.of_blocks (h : RdAt w o g S x) (e1 : w'.heap[o]? = w.heap[o]?) (e2 : w'.heap[g]? = w.heap[g]?) : RdAt w' o g S x := by
  obtain ⟨vs, h2, h3⟩ := h.words
  exact ⟨h.cells.of_block e1, ⟨vs, h2.of_block e2, h3⟩, h.ne⟩
theorem RdAt.upd {T : Nat → Prop} (h : RdAt w o g S x) (u : Upd T w w') (h1 : ¬ T o) (h2 : ¬ T g) : RdAt w' o g S x := h.of_blocks (u.block o h.lto h1) (u.block g h.ltg h2)
theorem RdAt.below (h : RdAt w o g S x) (u : Below w.heap.size w w') : RdAt w' o g S x := h.of_blocks (u.block o h.lto) (u.block g h.ltg)
theorem RdAt.alloc (h : RdAt w o g S x) (c : Obj) : RdAt (w.alloc c) o g S x := h.of_blocks (Below.heap_alloc _ _ _ h.lto) (Below.heap_alloc _ _ _ h.ltg)
theorem RdAt.drew (h : RdAt w o g S x) : RdAt w.drew o g S x := ⟨h.cells, h.words, h.ne⟩
theorem RdAt.drewN (h : RdAt w o g S x) (n : Nat) : RdAt (w.drewN n) o g S x := ⟨h.cells, h.words, h.ne⟩
theorem RdAt.setFar (h : RdAt w o g S x) {p : Addr} (h1 : o ≠ p.block) (h2 : g ≠ p.block) (u : Value) : RdAt (w.setCell p u) o g S x :=
  h.of_blocks (Below.heap_setCell _ _ _ _ h1) (Below.heap_setCell _ _ _ _ h2)
theorem RdAt.put (h : RdAt w o g S x) (i : Nat) (v : Value) (y : RSt) (e : (rdc S g x).set i v = rdc S g y) (hr : ∀ (i : Nat) (v : Int), y.rw[i]? = some v → x.rw[i]? = some v) : RdAt (w.setCell ⟨o, i, none⟩ v) o g S y := by
  obtain ⟨vs, h2, h3, h4⟩ := h.words
  refine ⟨?_, ⟨vs, h2.setFar (fun q => h.ne q.symm) v, h3, fun i v k => h4 i v (hr i v k)⟩, h.ne⟩
  have := h.cells.put i v
  rw [e] at this
  exact this
theorem RdAt.cell (h : RdAt w o g S x) {i : Nat} {v : Value} (hv : (rdc S g x)[i]? = some v) : w.cell? ⟨o, i, none⟩ = some v := h.cells.cell hv
theorem RdAt.frozen (h : RdAt w o g S x) (i : Nat) : w.frozen? ⟨o, i, none⟩ = false := h.cells.frozen i
theorem RdAt.frozeng (h : RdAt w o g S x) (i : Nat) : w.frozen? ⟨g, i, none⟩ = false := by
  obtain ⟨vs, h2, _⟩ := h.words
  exact h2.frozen i
theorem RdAt.word (h : RdAt w o g S x) {i : Nat} {v : Int} (hv : x.rw[i]? = some v) : w.cell? ⟨g, i, none⟩ = some (.int .u64 v) := by
  obtain ⟨vs, h2, _, h3⟩ := h.words
  exact h2.cell (h3 i v hv)
theorem RdAt.room (h : RdAt w o g S x) {i : Nat} (hi : (i : Int) < S.wd) : (w.cell? ⟨g, i, none⟩).isSome = true := by
  obtain ⟨vs, h2, h3, _⟩ := h.words
  have : i < vs.length := by omega
  rw [h2.cell (List.getElem?_eq_getElem this)]
  rfl
/-- One word more. -/
theorem RdAt.app (h : RdAt w o g S x) (v : Int) (hi : (x.rw.length : Int) < S.wd) :
    RdAt ((w.setCell ⟨g, x.rw.length, none⟩ (.int .u64 v)).setCell ⟨o, 11, none⟩ (.slice (some ⟨g, 0, none⟩) (x.rw.length + 1) S.wd.toNat)) o g S { x with rw := x.rw ++ [v] } := by
  obtain ⟨vs, h2, h3, h4⟩ := h.words
  refine ⟨?_, ⟨vs.set x.rw.length (.int .u64 v), (h2.put _ _).setFar (fun q => h.ne q.symm) _, by rw [List.length_set]; exact h3, fun i u k => ?_⟩, h.ne⟩
  · have := (h.cells.setFar (p := ⟨g, x.rw.length, none⟩) h.ne (.int .u64 v)).put 11 (.slice (some ⟨g, 0, none⟩) (x.rw.length + 1) S.wd.toNat)
    have e : (rdc S g x).set 11 (.slice (some ⟨g, 0, none⟩) (x.rw.length + 1) S.wd.toNat) = rdc S g { x with rw := x.rw ++ [v] } := by simp [rdc]
    rw [e] at this
    exact this
  · have k' : (x.rw ++ [v])[i]? = some u := k
    by_cases c : i = x.rw.length
    · subst c
      rw [List.getElem?_set_self (by omega)]
      simp at k'
      rw [k']
    · rw [List.getElem?_set_ne (fun q => c q.symm)]
      refine h4 i u ?_
      rw [List.getElem?_append] at k'
      split at k'
      · exact k'
      · have : i - x.rw.length ≠ 0 := by omega
        obtain ⟨q, hq⟩ := Nat.exists_eq_succ_of_ne_zero this
        rw [hq] at k'
        simp at k'
end

/-- Where the next word lies. -/
def rdl (S : Sp) (x : RSt) : Int := if x.line = 1 then atv S.fs S.wd S.dp x.gen + x.rw.length else S.sq
/-- A try that failed. -/
def ragn (x : RSt) : RSt := { x with line := 0, left := x.left - 1, how := if x.left - 1 = 0 then 2 else x.how, steps := x.steps + 1 }
/-- What a step makes of a reading, and how many accesses it did. -/
def rst (S : Sp) (xs : List Int) (x : RSt) : RSt × Int :=
  if x.how ≠ 0 then (x, 0)
  else match getI xs (rdl S x) with
    | none => ({ x with how := 3 }, 0)
    | some v =>
      if x.line = 0 then ({ x with steps := x.steps + 1, bgn := x.steps + 1, gen := v / 2, rw := [], line := 1 }, 1)
      else if x.line = 1 then ({ x with steps := x.steps + 1, rw := x.rw ++ [v], line := if (x.rw.length : Int) + 1 = S.wd then 2 else 1 }, 1)
      else if Sq.kp v x.gen S.dp = true then ({ x with steps := x.steps + 1, how := 1 }, 1)
      else (ragn x, 1)
/-- What is always so of a reading. -/
structure RWf (S : Sp) (x : RSt) : Prop where
  rt : Rt S
  gen : U64 x.gen
  us : ∀ v ∈ x.rw, U64 v
  len : (x.rw.length : Int) ≤ S.wd
  nl : x.line = 1 → (x.rw.length : Int) < S.wd
  l0 : 0 ≤ x.line
  l2 : x.line ≤ 2
  f0 : 0 ≤ x.left
  f1 : x.left ≤ 16
  fp : x.how = 0 → 1 ≤ x.left
/-- What a step may turn. -/
def OwnR (o g b bg : Nat) (k : Nat) : Prop := k = o ∨ k = g ∨ k = b ∨ k = bg
/-- What comes of a step. -/
def RdPost (o g b bg : Nat) (S : Sp) (xs : List Int) (r : RSt × Int) (t : Int) (w : World) (e : Ending) (w' : World) : Prop :=
  e = .returned (.int .i64 r.1.how) ∧ RdAt w' o g S r.1 ∧ Bk w' b bg xs (t + r.2) ∧ Upd (OwnR o g b bg) w w'
theorem rdl_bd {S : Sp} {x : RSt} (h : RWf S x) : okS S.fs S.wd S.dp ∧ 0 ≤ atv S.fs S.wd S.dp x.gen ∧ atv S.fs S.wd S.dp x.gen ≤ 1049600 := by
  obtain ⟨a1, a2, a3, a4, _, _, _, _, a5, a6⟩ := h.rt
  have ok : okS S.fs S.wd S.dp := by unfold okS; omega
  obtain ⟨s0, s1⟩ := h.gen
  obtain ⟨r1, r2, _⟩ := rem_fits (g := x.gen) (d := S.dp) (by omega) (by omega) (by omega)
  obtain ⟨m1, m2⟩ := mul_bd (m := 16) (n := 64) r1 (by omega) (by omega : 0 ≤ S.wd) a2
  rw [atv_ok ok]
  exact ⟨ok, by omega, by omega⟩
theorem ownR_of {o g b bg : Nat} (k : Nat) (h : Own b bg k) : OwnR o g b bg k := .inr (.inr h)
theorem Below.ownR {B o q b g : Nat} {a w w' : World} (h : Below B a w) (u : Upd (OwnR o q b g) w w') (hs : B ≤ w.heap.size) (ho : B ≤ o) (hq : B ≤ q) (hb : B ≤ b) (hg : B ≤ g) : Below B a w' :=
  h.trans (u.below hs (fun k hk => by rcases hk with rfl | rfl | rfl | rfl <;> assumption))
end Go.Proofs.Ytajibhhmcjcchaa
