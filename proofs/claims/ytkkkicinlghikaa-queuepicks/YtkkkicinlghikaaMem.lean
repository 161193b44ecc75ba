/- Memory: which blocks may have turned; a bank as it lies in memory. No program is named here. -/
import Derived.WalkKit
import Derived.WalkSpells
import Derived.WalkLawsBesides
import Derived.Deep.QuietTactic
import Derived.OpenShut
namespace Go.Proofs.Ytkkkicinlghikaa
open Go.RowKit

/-- Of what was there, only blocks of S may have turned. -/
structure Upd (S : Nat → Prop) (w w' : World) : Prop where
  os : w'.os = w.os
  tape : w'.tape = w.tape
  output : w'.output = w.output
  size : w.heap.size ≤ w'.heap.size
  block : ∀ k, k < w.heap.size → ¬ S k → w'.heap[k]? = w.heap[k]?

theorem Upd.refl (S : Nat → Prop) (w : World) : Upd S w w := ⟨rfl, rfl, rfl, Nat.le_refl _, fun _ _ _ => rfl⟩
theorem Upd.trans {S : Nat → Prop} {a b c : World} (h : Upd S a b) (k : Upd S b c) : Upd S a c :=
  ⟨k.os.trans h.os, k.tape.trans h.tape, k.output.trans h.output, Nat.le_trans h.size k.size, fun i hi hn => (k.block i (Nat.lt_of_lt_of_le hi h.size) hn).trans (h.block i hi hn)⟩
theorem Upd.mono {S T : Nat → Prop} {w w' : World} (h : Upd S w w') (hs : ∀ k, S k → T k) : Upd T w w' :=
  ⟨h.os, h.tape, h.output, h.size, fun i hi hn => h.block i hi (fun e => hn (hs i e))⟩
theorem Upd.drew {S : Nat → Prop} {a w : World} (h : Upd S a w) : Upd S a w.drew := ⟨h.os, h.tape, h.output, h.size, h.block⟩
theorem Upd.drewN {S : Nat → Prop} {a w : World} (h : Upd S a w) (n : Nat) : Upd S a (w.drewN n) := ⟨h.os, h.tape, h.output, h.size, h.block⟩
theorem Upd.alloc {S : Nat → Prop} {a w : World} (h : Upd S a w) (o : Obj) : Upd S a (w.alloc o) :=
  h.trans ⟨rfl, rfl, rfl, by simp, fun k hk _ => Below.heap_alloc _ _ _ hk⟩
theorem Upd.setCell {S : Nat → Prop} {a w : World} (h : Upd S a w) {p : Addr} (hp : S p.block ∨ a.heap.size ≤ p.block) (u : Value) : Upd S a (w.setCell p u) :=
  ⟨h.os, h.tape, h.output, by simpa [World.setCell] using h.size, fun i hi hn => (Below.heap_setCell w p u i (by
    rintro rfl
    rcases hp with hp | hp
    · exact hn hp
    · omega)).trans (h.block i hi hn)⟩
theorem Upd.below {S : Nat → Prop} {B : Nat} {w w' : World} (h : Upd S w w') (hB : B ≤ w.heap.size) (hS : ∀ k, S k → B ≤ k) : Below B w w' :=
  ⟨h.os, h.tape, h.output, h.size, fun k hk => h.block k (by omega) (fun e => by have := hS k e; omega)⟩
theorem Upd.of_below {w w' : World} (S : Nat → Prop) (h : Below w.heap.size w w') : Upd S w w' := ⟨h.os, h.tape, h.output, h.size, fun k hk _ => h.block k hk⟩
theorem Upd.cell {S : Nat → Prop} {w w' : World} (h : Upd S w w') {p : Addr} (hp : p.block < w.heap.size) (hn : ¬ S p.block) : w'.cell? p = w.cell? p :=
  World.cell?_of_block (w := w) (h.block p.block hp hn)
theorem Upd.frozen {S : Nat → Prop} {w w' : World} (h : Upd S w w') {p : Addr} (hp : p.block < w.heap.size) (hn : ¬ S p.block) : w'.frozen? p = w.frozen? p :=
  World.frozen?_of_block (w := w) (h.block p.block hp hn)

/-- A number of 64 bits. -/
def U64 (x : Int) : Prop := 0 ≤ x ∧ x < 18446744073709551616
/-- Go's sum of two such numbers. -/
def addw (v x : Int) : Int := IntKind.u64.wrap (v + x)
theorem u64_addw (v x : Int) : U64 (addw v x) := by
  unfold U64 addw
  rw [IntKind.wrap_u64]
  omega
theorem addw_back {v x : Int} (h : U64 v) : IntKind.u64.wrap (addw v x - x) = v := by
  unfold U64 at h
  unfold addw
  rw [IntKind.wrap_u64, IntKind.wrap_u64]
  omega
theorem u64_zero : U64 0 := by unfold U64; omega
theorem u64_of_wf {x : Int} (h : (Lit.int .u64 x).wf = true) : U64 x := by
  have := bounds_u64 h
  unfold U64
  omega

/-- A bank at block b, its words at block g: the words xs, and t accesses. -/
structure Bk (w : World) (b g : Nat) (xs : List Int) (t : Int) : Prop where
  hb : ∃ T, w.heap[b]? = some (.cells #[.slice (some ⟨g, 0, none⟩) xs.length xs.length, .int .i64 t] T)
  hg : ∃ T, w.heap[g]? = some (.cells (xs.map (Value.int .u64)).toArray T)
  ne : b ≠ g
  rng : ∀ x ∈ xs, U64 x

section
variable {w w' : World} {b g : Nat} {xs : List Int} {t : Int}
theorem Bk.ltb (h : Bk w b g xs t) : b < w.heap.size := by
  obtain ⟨T, h⟩ := h.hb
  exact (Array.getElem?_eq_some_iff.1 h).1
theorem Bk.ltg (h : Bk w b g xs t) : g < w.heap.size := by
  obtain ⟨T, h⟩ := h.hg
  exact (Array.getElem?_eq_some_iff.1 h).1
theorem Bk.c0 (h : Bk w b g xs t) : w.cell? ⟨b, 0, none⟩ = some (.slice (some ⟨g, 0, none⟩) xs.length xs.length) := by
  obtain ⟨T, h⟩ := h.hb
  simp [World.cell?, h]
theorem Bk.c1 (h : Bk w b g xs t) : w.cell? ⟨b, 1, none⟩ = some (.int .i64 t) := by
  obtain ⟨T, h⟩ := h.hb
  simp [World.cell?, h]
theorem Bk.fb (h : Bk w b g xs t) (i : Nat) : w.frozen? ⟨b, i, none⟩ = false := by
  obtain ⟨T, h⟩ := h.hb
  simp [World.frozen?, h]
theorem Bk.fg (h : Bk w b g xs t) (i : Nat) : w.frozen? ⟨g, i, none⟩ = false := by
  obtain ⟨T, h⟩ := h.hg
  simp [World.frozen?, h]
theorem Bk.cg (h : Bk w b g xs t) {i : Nat} {v : Int} (hv : xs[i]? = some v) : w.cell? ⟨g, i, none⟩ = some (.int .u64 v) := by
  obtain ⟨T, h⟩ := h.hg
  simp [World.cell?, h, hv]
theorem Bk.rngAt (h : Bk w b g xs t) {i : Nat} {v : Int} (hv : xs[i]? = some v) : U64 v := h.rng v (List.mem_of_getElem? hv)
theorem Bk.of_blocks (h : Bk w b g xs t) (e1 : w'.heap[b]? = w.heap[b]?) (e2 : w'.heap[g]? = w.heap[g]?) : Bk w' b g xs t :=
  ⟨by rw [e1]; exact h.hb, by rw [e2]; exact h.hg, h.ne, h.rng⟩
theorem Bk.upd {S : Nat → Prop} (h : Bk w b g xs t) (u : Upd S w w') (hb : ¬ S b) (hg : ¬ S g) : Bk w' b g xs t :=
  h.of_blocks (u.block b h.ltb hb) (u.block g h.ltg hg)
theorem Bk.alloc (h : Bk w b g xs t) (o : Obj) : Bk (w.alloc o) b g xs t :=
  h.of_blocks (Below.heap_alloc _ _ _ h.ltb) (Below.heap_alloc _ _ _ h.ltg)
theorem Bk.drew (h : Bk w b g xs t) : Bk w.drew b g xs t := ⟨h.hb, h.hg, h.ne, h.rng⟩
theorem Bk.drewN (h : Bk w b g xs t) (n : Nat) : Bk (w.drewN n) b g xs t := ⟨h.hb, h.hg, h.ne, h.rng⟩
theorem Bk.setFar (h : Bk w b g xs t) {p : Addr} (h1 : b ≠ p.block) (h2 : g ≠ p.block) (u : Value) : Bk (w.setCell p u) b g xs t :=
  h.of_blocks (Below.heap_setCell _ _ _ _ h1) (Below.heap_setCell _ _ _ _ h2)
theorem Bk.touch (h : Bk w b g xs t) (t' : Int) : Bk (w.setCell ⟨b, 1, none⟩ (.int .i64 t')) b g xs t' := by
  obtain ⟨T, hb⟩ := h.hb
  refine ⟨⟨T, ?_⟩, ?_, h.ne, h.rng⟩
  · simp [World.setCell, Array.getElem?_modify, hb]
  · rw [Below.heap_setCell _ _ _ _ (fun e => h.ne e.symm)]; exact h.hg
theorem Bk.put (h : Bk w b g xs t) (i : Nat) (v : Int) (hv : U64 v) : Bk (w.setCell ⟨g, i, none⟩ (.int .u64 v)) b g (xs.set i v) t := by
  obtain ⟨T, hg⟩ := h.hg
  refine ⟨?_, ⟨T, ?_⟩, h.ne, fun x hx => (List.mem_or_eq_of_mem_set hx).elim (h.rng x) (fun e => e ▸ hv)⟩
  · rw [Below.heap_setCell _ _ _ _ h.ne, List.length_set]; exact h.hb
  · simp [World.setCell, Array.getElem?_modify, hg]
end

/-- A row of uint64 at a block of its own. -/
def Row (w : World) (g : Nat) (ys : List Int) : Prop := ∃ T, w.heap[g]? = some (.cells (ys.map (Value.int .u64)).toArray T)
section
variable {w w' : World} {g : Nat} {ys : List Int}
theorem Row.lt (h : Row w g ys) : g < w.heap.size := by
  obtain ⟨T, h⟩ := h
  exact (Array.getElem?_eq_some_iff.1 h).1
theorem Row.cell (h : Row w g ys) {i : Nat} {v : Int} (hv : ys[i]? = some v) : w.cell? ⟨g, i, none⟩ = some (.int .u64 v) := by
  obtain ⟨T, h⟩ := h
  simp [World.cell?, h, hv]
theorem Row.frozen (h : Row w g ys) (i : Nat) : w.frozen? ⟨g, i, none⟩ = false := by
  obtain ⟨T, h⟩ := h
  simp [World.frozen?, h]
theorem Row.of_block (h : Row w g ys) (e : w'.heap[g]? = w.heap[g]?) : Row w' g ys := by
  obtain ⟨T, h⟩ := h
  exact ⟨T, e.trans h⟩
theorem Row.upd {S : Nat → Prop} (h : Row w g ys) (u : Upd S w w') (hg : ¬ S g) : Row w' g ys := h.of_block (u.block g h.lt hg)
theorem Row.below (h : Row w g ys) (u : Below w.heap.size w w') : Row w' g ys := h.of_block (u.block g h.lt)
theorem Row.alloc (h : Row w g ys) (o : Obj) : Row (w.alloc o) g ys := h.of_block (Below.heap_alloc _ _ _ h.lt)
theorem Row.drew (h : Row w g ys) : Row w.drew g ys := h
theorem Row.put (h : Row w g ys) (i : Nat) (v : Int) : Row (w.setCell ⟨g, i, none⟩ (.int .u64 v)) g (ys.set i v) := by
  obtain ⟨T, h⟩ := h
  exact ⟨T, by simp [World.setCell, Array.getElem?_modify, h]⟩
theorem Row.setFar (h : Row w g ys) {p : Addr} (hp : g ≠ p.block) (u : Value) : Row (w.setCell p u) g ys := h.of_block (Below.heap_setCell _ _ _ _ hp)
theorem Bk.below {b : Nat} {xs : List Int} {t : Int} (h : Bk w b g xs t) (u : Below w.heap.size w w') : Bk w' b g xs t := h.of_blocks (u.block b h.ltb) (u.block g h.ltg)
end
/-- A row of bools at a block of its own. -/
def RowB (w : World) (g : Nat) (ys : List Bool) : Prop := ∃ T, w.heap[g]? = some (.cells (ys.map Value.bool).toArray T)
section
variable {w w' : World} {g : Nat} {ys : List Bool}
theorem RowB.lt (h : RowB w g ys) : g < w.heap.size := by
  obtain ⟨T, h⟩ := h
  exact (Array.getElem?_eq_some_iff.1 h).1
theorem RowB.cell (h : RowB w g ys) {i : Nat} {v : Bool} (hv : ys[i]? = some v) : w.cell? ⟨g, i, none⟩ = some (.bool v) := by
  obtain ⟨T, h⟩ := h
  simp [World.cell?, h, hv]
theorem RowB.frozen (h : RowB w g ys) (i : Nat) : w.frozen? ⟨g, i, none⟩ = false := by
  obtain ⟨T, h⟩ := h
  simp [World.frozen?, h]
theorem RowB.of_block (h : RowB w g ys) (e : w'.heap[g]? = w.heap[g]?) : RowB w' g ys := by
  obtain ⟨T, h⟩ := h
  exact ⟨T, e.trans h⟩
theorem RowB.upd {S : Nat → Prop} (h : RowB w g ys) (u : Upd S w w') (hg : ¬ S g) : RowB w' g ys := h.of_block (u.block g h.lt hg)
theorem RowB.below (h : RowB w g ys) (u : Below w.heap.size w w') : RowB w' g ys := h.of_block (u.block g h.lt)
theorem RowB.alloc (h : RowB w g ys) (o : Obj) : RowB (w.alloc o) g ys := h.of_block (Below.heap_alloc _ _ _ h.lt)
theorem RowB.drew (h : RowB w g ys) : RowB w.drew g ys := h
theorem RowB.put (h : RowB w g ys) (i : Nat) (v : Bool) : RowB (w.setCell ⟨g, i, none⟩ (.bool v)) g (ys.set i v) := by
  obtain ⟨T, h⟩ := h
  exact ⟨T, by simp [World.setCell, Array.getElem?_modify, h]⟩
theorem RowB.setFar (h : RowB w g ys) {p : Addr} (hp : g ≠ p.block) (u : Value) : RowB (w.setCell p u) g ys := h.of_block (Below.heap_setCell _ _ _ _ hp)
end
end Go.Proofs.Ytkkkicinlghikaa
