/- A config in a block, and what a law leans on. -/
import Derived.Test.YtdnjoflahiffhaaAwk
import Derived.Test.YtdnjoflahiffhaaFin
namespace Go.Proofs.Ytdnjoflahiffhaa
open Go.RowKit

/-- A config in a block. -/
def Bx (w : World) (c : Nat) (T R L : Int) (a : Option Addr) (cap : Nat) (l : List Tp) (W : World) : Prop :=
  Blk W c (cfl T a l.length cap R L) ∧ Tps W.heap.size W a l ∧ Below w.heap.size w W
theorem Bx.next {w : World} {c : Nat} {T R L : Int} {a : Option Addr} {cap : Nat} {l : List Tp} {W W' : World} (h : Bx w c T R L a cap l W) (u : Below W.heap.size W W') : Bx w c T R L a cap l W' :=
  ⟨h.1.low u, h.2.1.next u, h.2.2.trans (u.mono h.2.2.size)⟩
theorem Bx.alloc {w : World} {c : Nat} {T R L : Int} {a : Option Addr} {cap : Nat} {l : List Tp} {W : World} (h : Bx w c T R L a cap l W) (o : Obj) : Bx w c T R L a cap l (W.alloc o) :=
  h.next ((Below.refl _ _).alloc (Nat.le_refl _) o)
theorem Bx.new (w : World) (T R L : Int) (a : Option Addr) (cap : Nat) (l : List Tp) (hT : Tps w.heap.size w a l) : Bx w w.heap.size T R L a cap l (w.alloc (.cells #[.int .i64 T, .slice a l.length cap, .int .i64 R, .int .i64 L] 24)) := by
  have hb := (Below.refl w.heap.size w).alloc (Nat.le_refl _) (.cells #[.int .i64 T, .slice a l.length cap, .int .i64 R, .int .i64 L] 24)
  exact ⟨Blk.new w #[.int .i64 T, .slice a l.length cap, .int .i64 R, .int .i64 L] 24, hT.next hb, hb⟩
theorem few_size {l : List Tp} (h : few l = true) : ∀ t ∈ l, t.1.size ≤ 100000 := fun t ht => Nat.le_trans ((few_spec h).2 t ht) (by decide)
end Go.Proofs.Ytdnjoflahiffhaa
