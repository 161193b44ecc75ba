/- A publishing as it lies in memory, and what a step makes of it. No program is named here. -/
import Derived.Test.YtflgggfomhifeaaMem2
import Derived.Test.YtflgggfomhifeaaAcc
namespace Go.Proofs.Ytflgggfomhifeaa
open Go.RowKit

/-- A spot. -/
structure Sp where
  ow : Int
  sq : Int
  fs : Int
  wd : Int
  dp : Int
/-- How a publishing stands. -/
structure St where
  how : Int
  steps : Int
  left : Int
  line : Int
  n : Int
  s : Int
/-- Its cells. -/
def opc (S : Sp) (g cap : Nat) (ws : List Int) (x : St) : List Value :=
  [.int .i64 x.how, .int .i64 x.steps, .int .i64 x.left, .int .i64 S.ow, .int .i64 S.sq, .int .i64 S.fs, .int .i64 S.wd, .int .i64 S.dp, .slice (some ⟨g, 0, none⟩) ws.length cap, .int .i64 x.line, .int .i64 x.n, .int .u64 x.s]
/-- A publishing at block o, its record at block g. -/
structure OpAt (w : World) (o g : Nat) (S : Sp) (ws : List Int) (x : St) : Prop where
  cells : ∃ cap, Blk w o (opc S g cap ws x)
  words : ∃ vs, Blk w g vs ∧ ∀ (i : Nat) (v : Int), ws[i]? = some v → vs[i]? = some (.int .u64 v)
  ne : o ≠ g
section
variable {w w' : World} {o g : Nat} {S : Sp} {ws : List Int} {x : St}
theorem OpAt.lto (h : OpAt w o g S ws x) : o < w.heap.size := by
  obtain ⟨c, h⟩ := h.cells
  exact h.lt
theorem OpAt.ltg (h : OpAt w o g S ws x) : g < w.heap.size := by
  obtain ⟨c, h, _⟩ := h.words
  exact h.lt
theorem OpAt.of_blocks (h : OpAt w o g S ws x) (e1 : w'.heap[o]? = w.heap[o]?) (e2 : w'.heap[g]? = w.heap[g]?) : OpAt w' o g S ws x := by
  obtain ⟨c, h1⟩ := h.cells
  obtain ⟨vs, h2, h3⟩ := h.words
  exact ⟨⟨c, h1.of_block e1⟩, ⟨vs, h2.of_block e2, h3⟩, h.ne⟩
theorem OpAt.upd {T : Nat → Prop} (h : OpAt w o g S ws x) (u : Upd T w w') (h1 : ¬ T o) (h2 : ¬ T g) : OpAt w' o g S ws x := h.of_blocks (u.block o h.lto h1) (u.block g h.ltg h2)
theorem OpAt.below (h : OpAt w o g S ws x) (u : Below w.heap.size w w') : OpAt w' o g S ws x := h.of_blocks (u.block o h.lto) (u.block g h.ltg)
theorem OpAt.alloc (h : OpAt w o g S ws x) (c : Obj) : OpAt (w.alloc c) o g S ws x := h.of_blocks (Below.heap_alloc _ _ _ h.lto) (Below.heap_alloc _ _ _ h.ltg)
theorem OpAt.drew (h : OpAt w o g S ws x) : OpAt w.drew o g S ws x := ⟨h.cells, h.words, h.ne⟩
theorem OpAt.drewN (h : OpAt w o g S ws x) (n : Nat) : OpAt (w.drewN n) o g S ws x := ⟨h.cells, h.words, h.ne⟩
theorem OpAt.setFar (h : OpAt w o g S ws x) {p : Addr} (h1 : o ≠ p.block) (h2 : g ≠ p.block) (u : Value) : OpAt (w.setCell p u) o g S ws x :=
  h.of_blocks (Below.heap_setCell _ _ _ _ h1) (Below.heap_setCell _ _ _ _ h2)
theorem OpAt.put (h : OpAt w o g S ws x) (i : Nat) (v : Value) (y : St) (e : ∀ cap, (opc S g cap ws x).set i v = opc S g cap ws y) : OpAt (w.setCell ⟨o, i, none⟩ v) o g S ws y := by
  obtain ⟨c, h1⟩ := h.cells
  obtain ⟨vs, h2, h3⟩ := h.words
  refine ⟨⟨c, ?_⟩, ⟨vs, h2.setFar (fun q => h.ne q.symm) v, h3⟩, h.ne⟩
  have := h1.put i v
  rw [e c] at this
  exact this
theorem OpAt.cell (h : OpAt w o g S ws x) {i : Nat} {v : Value} (hv : ∀ cap, (opc S g cap ws x)[i]? = some v) : w.cell? ⟨o, i, none⟩ = some v := by
  obtain ⟨c, h1⟩ := h.cells
  exact h1.cell (hv c)
theorem OpAt.frozen (h : OpAt w o g S ws x) (i : Nat) : w.frozen? ⟨o, i, none⟩ = false := by
  obtain ⟨c, h1⟩ := h.cells
  exact h1.frozen i
theorem OpAt.slice (h : OpAt w o g S ws x) : ∃ cap : Nat, w.cell? ⟨o, 8, none⟩ = some (.slice (some ⟨g, 0, none⟩) ws.length cap) := by
  obtain ⟨c, h1⟩ := h.cells
  exact ⟨c, h1.cell rfl⟩
theorem OpAt.word (h : OpAt w o g S ws x) {i : Nat} {v : Int} (hv : ws[i]? = some v) : w.cell? ⟨g, i, none⟩ = some (.int .u64 v) := by
  obtain ⟨vs, h2, h3⟩ := h.words
  exact h2.cell (h3 i v hv)
end

/-- A word of a bank, where it has one. -/
def getI (xs : List Int) (a : Int) : Option Int := if 0 ≤ a then xs[a.toNat]? else none
theorem getI_some {xs : List Int} {a v : Int} (h : getI xs a = some v) : 0 ≤ a ∧ xs[a.toNat]? = some v := by
  unfold getI at h
  split at h
  · exact ⟨by assumption, h⟩
  · cases h
theorem getI_none {xs : List Int} {a : Int} (h : getI xs a = none) : a < 0 ∨ (xs.length : Int) ≤ a := by
  unfold getI at h
  split at h
  · have := List.getElem?_eq_none_iff.1 h
    omega
  · omega
theorem getI_mk {xs : List Int} {a v : Int} (h0 : 0 ≤ a) (h : xs[a.toNat]? = some v) : getI xs a = some v := by
  unfold getI
  rw [if_pos h0, h]
theorem getI_out {xs : List Int} {a : Int} (h : a < 0 ∨ (xs.length : Int) ≤ a) : getI xs a = none := by
  unfold getI
  split
  · exact List.getElem?_eq_none_iff.2 (by omega)
  · rfl
/-- Where the word n of the record lies. -/
def lie (S : Sp) (x : St) : Int := atv S.fs S.wd S.dp (x.s / 2 + 1) + x.n
/-- A try that failed. -/
def agn (x : St) : St := { x with line := 0, left := x.left - 1, how := if x.left - 1 = 0 then 2 else x.how, steps := x.steps + 1 }
/-- What a step makes of a publishing, and of the bank's words, and how many accesses it did. -/
def stp (S : Sp) (ws xs : List Int) (x : St) : St × List Int × Int :=
  if x.how ≠ 0 then (x, xs, 0)
  else if x.line = 0 then
    match getI xs S.sq with
    | none => ({ x with s := 0, how := 3 }, xs, 0)
    | some v => if v % 2 = 1 then (agn { x with s := v }, xs, 1) else ({ x with s := v, line := 1, steps := x.steps + 1 }, xs, 1)
  else if x.line = 1 then
    match getI xs S.sq with
    | none => ({ x with how := 3 }, xs, 0)
    | some v => if v = x.s then ({ x with line := 2, steps := x.steps + 1 }, xs.set S.sq.toNat (addw x.s 1), 1) else (agn x, xs, 1)
  else if x.line = 2 then
    match getI xs (lie S x) with
    | none => ({ x with how := 3 }, xs, 0)
    | some _ => ({ x with n := x.n + 1, line := if x.n + 1 = ws.length then 3 else 2, steps := x.steps + 1 }, xs.set (lie S x).toNat (ws.getD x.n.toNat 0), 1)
  else
    match getI xs S.sq with
    | none => ({ x with how := 3 }, xs, 0)
    | some _ => ({ x with how := 1, steps := x.steps + 1 }, xs.set S.sq.toNat (addw x.s 2), 1)
/-- A spot that is right. -/
def Rt (S : Sp) : Prop := 1 ≤ S.wd ∧ S.wd ≤ 64 ∧ 2 ≤ S.dp ∧ S.dp ≤ 16 ∧ 0 ≤ S.ow ∧ S.ow ≤ 1048576 ∧ 0 ≤ S.sq ∧ S.sq ≤ 1048576 ∧ 0 ≤ S.fs ∧ S.fs ≤ 1048576
instance (S : Sp) : Decidable (Rt S) := by unfold Rt; infer_instance
/-- What is always so of a publishing. -/
structure Wf (S : Sp) (ws : List Int) (x : St) : Prop where
  rt : Rt S
  len : (ws.length : Int) = S.wd
  us : ∀ v ∈ ws, U64 v
  s : U64 x.s
  n0 : 0 ≤ x.n
  n1 : x.n ≤ 64
  nl : x.line = 2 → x.n < ws.length
  l0 : 0 ≤ x.line
  l3 : x.line ≤ 3
  f0 : 0 ≤ x.left
  f1 : x.left ≤ 16
  fp : x.how = 0 → 1 ≤ x.left
  nz : x.line ≤ 1 → x.n = 0
/-- What a step may turn. -/
def OwnS (o b g : Nat) (k : Nat) : Prop := k = o ∨ k = b ∨ k = g
/-- What comes of a step. -/
def StepPost (o g b bg : Nat) (S : Sp) (ws : List Int) (r : St × List Int × Int) (t : Int) (w : World) (e : Ending) (w' : World) : Prop :=
  e = .returned (.int .i64 r.1.how) ∧ OpAt w' o g S ws r.1 ∧ Bk w' b bg r.2.1 (t + r.2.2) ∧ Upd (OwnS o b bg) w w'
theorem lie_bd {S : Sp} {ws : List Int} {x : St} (h : Wf S ws x) : okS S.fs S.wd S.dp ∧ 0 ≤ atv S.fs S.wd S.dp (x.s / 2 + 1) ∧ atv S.fs S.wd S.dp (x.s / 2 + 1) ≤ 1049600 := by
  obtain ⟨a1, a2, a3, a4, _, _, _, _, a5, a6⟩ := h.rt
  have ok : okS S.fs S.wd S.dp := by unfold okS; omega
  obtain ⟨s0, s1⟩ := h.s
  obtain ⟨r1, r2, _⟩ := rem_fits (g := x.s / 2 + 1) (d := S.dp) (by omega) (by omega) (by omega)
  obtain ⟨m1, m2⟩ := mul_bd (m := 16) (n := 64) r1 (by omega) (by omega : 0 ≤ S.wd) a2
  rw [atv_ok ok]
  exact ⟨ok, by omega, by omega⟩
end Go.Proofs.Ytflgggfomhifeaa
