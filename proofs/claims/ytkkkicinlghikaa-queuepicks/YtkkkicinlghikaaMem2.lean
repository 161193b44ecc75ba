/- Memory: blocks of cells as they lie; what a quiet call leaves. No program is named here. -/
import Derived.Test.YtkkkicinlghikaaMem
import Derived.WalkKit
import Derived.WalkSpells
import Derived.WalkLawsBesides
import Derived.Deep.QuietTactic
import Derived.OpenShut
import Derived.Below
import Derived.Lib.Hide
import Derived.Laws.Rows
namespace Go.Proofs.Ytkkkicinlghikaa
open Go.RowKit

/-- The answer is v, and nothing that was there has turned. -/
def Ret (v : Value) (w : World) (e : Ending) (w' : World) : Prop := e = .returned v ∧ Below w.heap.size w w'

/-- A block of such cells. -/
def Blk (w : World) (g : Nat) (vs : List Value) : Prop := ∃ T, w.heap[g]? = some (.cells vs.toArray T)
section
variable {w w' : World} {g : Nat} {vs : List Value}
theorem Blk.lt (h : Blk w g vs) : g < w.heap.size := by
  obtain ⟨T, h⟩ := h
  exact (Array.getElem?_eq_some_iff.1 h).1
theorem Blk.cell (h : Blk w g vs) {i : Nat} {v : Value} (hv : vs[i]? = some v) : w.cell? ⟨g, i, none⟩ = some v := by
  obtain ⟨T, h⟩ := h
  simp [World.cell?, h, hv]
theorem Blk.frozen (h : Blk w g vs) (i : Nat) : w.frozen? ⟨g, i, none⟩ = false := by
  obtain ⟨T, h⟩ := h
  simp [World.frozen?, h]
theorem Blk.of_block (h : Blk w g vs) (e : w'.heap[g]? = w.heap[g]?) : Blk w' g vs := by
  obtain ⟨T, h⟩ := h
  exact ⟨T, e.trans h⟩
theorem Blk.below {B : Nat} (h : Blk w g vs) (u : Below B w w') (hg : g < B) : Blk w' g vs := h.of_block (u.block g hg)
theorem Blk.low (h : Blk w g vs) (u : Below w.heap.size w w') : Blk w' g vs := h.below u h.lt
theorem Blk.alloc (h : Blk w g vs) (o : Obj) : Blk (w.alloc o) g vs := h.of_block (Below.heap_alloc _ _ _ h.lt)
theorem Blk.drew (h : Blk w g vs) : Blk w.drew g vs := h
theorem Blk.put (h : Blk w g vs) (i : Nat) (v : Value) : Blk (w.setCell ⟨g, i, none⟩ v) g (vs.set i v) := by
  obtain ⟨T, h⟩ := h
  exact ⟨T, by simp [World.setCell, Array.getElem?_modify, h]⟩
theorem Blk.setFar (h : Blk w g vs) {p : Addr} (hp : g ≠ p.block) (u : Value) : Blk (w.setCell p u) g vs := h.of_block (Below.heap_setCell _ _ _ _ hp)
theorem Blk.new (w : World) (c : Array Value) (t : TypeId) : Blk (w.alloc (.cells c t)) w.heap.size c.toList := by
  refine ⟨t, ?_⟩
  show (w.heap.push _)[w.heap.size]? = _
  simp
end
theorem belN {B : Nat} {a w : World} (h : Below B a w) (n : Nat) : Below B a (w.drewN n) := ⟨h.os, h.tape, h.output, h.size, h.block⟩
theorem blkN {w : World} {g : Nat} {vs : List Value} (h : Blk w g vs) (n : Nat) : Blk (w.drewN n) g vs := h

/-- The answer is v, and the world is as it was. -/
abbrev Pur (v : Value) (w : World) (e : Ending) (w' : World) : Prop := e = .returned v ∧ w = w'
/-- A number of 64 bits. -/
def W64 (s : Int) : Prop := 0 ≤ s ∧ s < 18446744073709551616
end Go.Proofs.Ytkkkicinlghikaa
