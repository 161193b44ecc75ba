/- Cursors in blocks, each of its own. -/
import Derived.Test.YtkkkicinlghikaaAwk
import Derived.Test.YtkkkicinlghikaaRcu
namespace Go.Proofs.Ytkkkicinlghikaa
open Go.RowKit

/-- Cursors in blocks, and what was there is as it was. -/
def Cs (w0 : World) (L : List (Nat × Int × Int × Int × Int)) (W : World) : Prop :=
  Below w0.heap.size w0 W ∧ ∀ (j b : Nat) (n c g l : Int), L[j]? = some (b, n, c, g, l) → Blk W b (cuL n c g l)
section
variable {w0 W W' : World} {L : List (Nat × Int × Int × Int × Int)}
theorem Cs.nil (w0 : World) : Cs w0 [] w0 := ⟨Below.refl _ _, fun j b n c g l h => by simp at h⟩
theorem Cs.next (h : Cs w0 L W) (u : Below W.heap.size W W') : Cs w0 L W' := ⟨h.1.trans (u.mono h.1.size), fun j b n c g l k => (h.2 j b n c g l k).low u⟩
theorem Cs.drew (h : Cs w0 L W) : Cs w0 L W.drew := ⟨h.1.drew, fun j b n c g l k => (h.2 j b n c g l k).drew⟩
theorem Cs.alloc (h : Cs w0 L W) (o : Obj) : Cs w0 L (W.alloc o) := ⟨h.1.alloc h.1.size o, fun j b n c g l k => (h.2 j b n c g l k).alloc o⟩
theorem Cs.newT (h : Cs w0 L W) (n c g l : Int) (T : TypeId) : Cs w0 (L ++ [(W.heap.size, n, c, g, l)]) (W.alloc (.cells #[.int .u64 n, .int .i64 c, .int .u64 g, .int .u64 l] T)) :=
  ⟨h.1.alloc h.1.size _, fun j b n' c' g' l' k => by
    rw [List.getElem?_append] at k
    split at k
    · exact (h.2 j b n' c' g' l' k).alloc _
    · rw [List.getElem?_singleton] at k
      split at k
      · simp only [Option.some.injEq, Prod.mk.injEq] at k
        obtain ⟨rfl, rfl, rfl, rfl, rfl⟩ := k
        exact Blk.new W _ T
      · cases k⟩
theorem Cs.new (h : Cs w0 L W) (n c g l : Int) : Cs w0 (L ++ [(W.heap.size, n, c, g, l)]) (W.alloc (cuO n c g l)) := h.newT n c g l 27
theorem Cs.two (w : World) (n c g l : Int) : Cs w [(w.heap.size, n, c, g, l), (w.heap.size + 1, n, c, g, l)] ((w.alloc (cuO n c g l)).alloc (ruO n c g l)) := by
  have h := ((Cs.nil w).new n c g l).newT n c g l 46
  simpa using h
theorem Cs.blk (h : Cs w0 L W) (j : Nat) {b : Nat} {n c g l : Int} (k : L[j]? = some (b, n, c, g, l)) : Blk W b (cuL n c g l) := h.2 j b n c g l k
end
end Go.Proofs.Ytkkkicinlghikaa
