/- Memory: blocks of cells as they lie; what a quiet call leaves. No program is named here. -/
import Derived.WalkKit
import Derived.WalkSpells
import Derived.WalkLawsBesides
import Derived.Deep.QuietTactic
import Derived.OpenShut
import Derived.Below
import Derived.Lib.Hide
import Derived.Laws.Rows
namespace Go.Proofs.Ytdnjoflahiffhaa
open Go.RowKit

/-- The answer is v, and nothing that was there has turned. -/
def Ret (v : Value) (w : World) (e : Ending) (w' : World) : Prop := e = .returned v ∧ Below w.heap.size w w'

/-- A block of such cells. -/
def Blk (w : World) (g : Nat) (vs : List Value) : Prop := ∃ T, w.heap[g]? = some (.cells vs.toArray T)
section
variable {w w' : World} {g : Nat} {vs : List Value}
theorem Blk.lt (h : Blk w g vs) : g < w.heap.size := by
  obtain ⟨T, h⟩ := h
  exact (Array.getElem?_eq_some_iff.1 h).1
theorem Blk.cell (h : Blk w g vs) {i : Nat} {v : Value} (hv : vs[i]? = some v) : w.cell? ⟨g, i, none⟩ = some v := by
  obtain ⟨T, h⟩ := h
  simp [World.cell?, h, hv]
theorem Blk.frozen (h : Blk w g vs) (i : Nat) : w.frozen? ⟨g, i, none⟩ = false := by
  obtain ⟨T, h⟩ := h
  simp [World.frozen?, h]
theorem Blk.of_block (h : Blk w g vs) (e : w'.heap[g]? = w.heap[g]?) : Blk w' g vs := by
  obtain ⟨T, h⟩ := h
  exact ⟨T, e.trans h⟩
theorem Blk.below {B : Nat} (h : Blk w g vs) (u : Below B w w') (hg : g < B) : Blk w' g vs := h.of_block (u.block g hg)
theorem Blk.low (h : Blk w g vs) (u : Below w.heap.size w w') : Blk w' g vs := h.below u h.lt
theorem Blk.alloc (h : Blk w g vs) (o : Obj) : Blk (w.alloc o) g vs := h.of_block (Below.heap_alloc _ _ _ h.lt)
theorem Blk.drew (h : Blk w g vs) : Blk w.drew g vs := h
theorem Blk.put (h : Blk w g vs) (i : Nat) (v : Value) : Blk (w.setCell ⟨g, i, none⟩ v) g (vs.set i v) := by
  obtain ⟨T, h⟩ := h
  exact ⟨T, by simp [World.setCell, Array.getElem?_modify, h]⟩
theorem Blk.setFar (h : Blk w g vs) {p : Addr} (hp : g ≠ p.block) (u : Value) : Blk (w.setCell p u) g vs := h.of_block (Below.heap_setCell _ _ _ _ hp)
theorem Blk.new (w : World) (c : Array Value) (t : TypeId) : Blk (w.alloc (.cells c t)) w.heap.size c.toList := by
  refine ⟨t, ?_⟩
  show (w.heap.push _)[w.heap.size]? = _
  simp
end
theorem belN {B : Nat} {a w : World} (h : Below B a w) (n : Nat) : Below B a (w.drewN n) := ⟨h.os, h.tape, h.output, h.size, h.block⟩
theorem blkN {w : World} {g : Nat} {vs : List Value} (h : Blk w g vs) (n : Nat) : Blk (w.drewN n) g vs := h

/-- The bytes of a string. -/
abbrev bs (s : ByteArray) : List UInt8 := s.data.toList
def str (s : List UInt8) : ByteArray := ⟨s.toArray⟩
theorem bs_len (s : ByteArray) : (bs s).length = s.size := by simp [bs]
theorem bs_get (s : ByteArray) (k : Nat) (h : k < s.size) : (bs s)[k]? = some s[k] := by
  have : k < (bs s).length := by rw [bs_len]; exact h
  rw [List.getElem?_eq_getElem this]
  rfl
theorem str_bs (s : ByteArray) : str (bs s) = s := by
  apply ByteArray.ext
  simp [str, bs]
theorem bs_str (l : List UInt8) : bs (str l) = l := by simp [str, bs]
theorem bs_inj {a b : ByteArray} (h : bs a = bs b) : a = b := by rw [← str_bs a, ← str_bs b, h]
/-- Two strings are held against each other. -/
theorem str_eq (a b : ByteArray) : (a.toList == b.toList) = decide (a = b) := by
  rw [ByteArray.toList_eq, ByteArray.toList_eq]
  by_cases h : a = b
  · simp [h]
  · simp [h]
    exact fun e => h (ByteArray.ext e)

/-- Topics that lie in a slice. -/
abbrev Tp := ByteArray × Int × Int
def Tps (n₀ : Nat) (W : World) (a : Option Addr) (l : List Tp) : Prop :=
  ∀ j t, l[j]? = some t → ∃ b off, a = some ⟨b, off, none⟩ ∧ b < n₀ ∧ W.cell? ⟨b, off + j * 3, none⟩ = some (.string t.1) ∧ W.cell? ⟨b, off + j * 3 + 1, none⟩ = some (.int .i64 t.2.1) ∧ W.cell? ⟨b, off + j * 3 + 2, none⟩ = some (.int .i64 t.2.2)
theorem Tps.below {n₀ : Nat} {A B : World} {a : Option Addr} {l : List Tp} (k : Tps n₀ A a l) (h : Below n₀ A B) : Tps n₀ B a l := fun j p hp => by
  obtain ⟨b, off, e, hb, c0, c1, c2⟩ := k j p hp
  exact ⟨b, off, e, hb, by rw [h.cell (p := ⟨b, off + j * 3, none⟩) hb]; exact c0, by rw [h.cell (p := ⟨b, off + j * 3 + 1, none⟩) hb]; exact c1, by rw [h.cell (p := ⟨b, off + j * 3 + 2, none⟩) hb]; exact c2⟩
theorem Tps.mono {n m : Nat} {A : World} {a : Option Addr} {l : List Tp} (k : Tps n A a l) (h : n ≤ m) : Tps m A a l := fun j p hp => by
  obtain ⟨b, off, e, hb, c0, c1, c2⟩ := k j p hp
  exact ⟨b, off, e, by omega, c0, c1, c2⟩
theorem Tps.next {A B : World} {a : Option Addr} {l : List Tp} (k : Tps A.heap.size A a l) (h : Below A.heap.size A B) : Tps B.heap.size B a l := (k.below h).mono h.size
theorem Tps.nil (n₀ : Nat) (W : World) (a : Option Addr) : Tps n₀ W a [] := fun j p hp => by simp at hp
theorem Tps.drewN {n₀ : Nat} {W : World} {a : Option Addr} {l : List Tp} (k : Tps n₀ W a l) (n : Nat) : Tps n₀ (W.drewN n) a l := k
def tcells (t : Tp) : List Value := [.string t.1, .int .i64 t.2.1, .int .i64 t.2.2]
def tcl (l : List Tp) : List Value := l.flatMap tcells
theorem tcl_snoc (l : List Tp) (t : Tp) : tcl (l ++ [t]) = tcl l ++ tcells t := by simp [tcl]
theorem tcl_len (l : List Tp) : (tcl l).length = l.length * 3 := by
  induction l with
  | nil => rfl
  | cons x r ih => simp [tcl, tcells] at ih ⊢; omega
theorem tcl_get : ∀ (l : List Tp) (j i : Nat) (t : Tp) (v : Value), l[j]? = some t → (tcells t)[i]? = some v → (tcl l)[j * 3 + i]? = some v
  | [], j, i, t, v, h, _ => by simp at h
  | x :: r, 0, i, t, v, h, hv => by
    simp at h
    subst h
    have hi : i < 3 := (List.getElem?_eq_some_iff.1 hv).1
    show (tcells x ++ tcl r)[0 * 3 + i]? = some v
    rw [Nat.zero_mul, Nat.zero_add, List.getElem?_append_left hi]
    exact hv
  | x :: r, j + 1, i, t, v, h, hv => by
    have e : (j + 1) * 3 + i = (tcells x).length + (j * 3 + i) := by show _ = 3 + _; omega
    show (tcells x ++ tcl r)[(j + 1) * 3 + i]? = some v
    rw [e, List.getElem?_append_right (by omega), Nat.add_sub_cancel_left]
    exact tcl_get r j i t v (by simpa using h) hv
/-- A config's value. -/
abbrev cfg (T : Int) (a : Option Addr) (len cap : Nat) (R L : Int) : Value := .agg #[.int .i64 T, .slice a len cap, .int .i64 R, .int .i64 L]
end Go.Proofs.Ytdnjoflahiffhaa
