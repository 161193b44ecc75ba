/- A reading, its bank and its spot, side by side. -/
import Derived.Test.YtajibhhmcjcchaaRAl
import Derived.Test.YtajibhhmcjcchaaPub
namespace Go.Proofs.Ytajibhhmcjcchaa
open Go.RowKit

/-- A bank, a spot, a reading. -/
structure OwM (w : World) (b bg sp o g n d : Nat) (x : RSt) (zs : List Int) (t : Int) (wr : World) : Prop where
  bank : Bk wr b bg zs t
  spot : Blk wr sp (spc 0 1 2 n d)
  rd : RdAt wr o g (spS n d) x
  bel : Below w.heap.size w wr
/-- The blocks are apart. -/
structure OwD (w : World) (b bg sp o g : Nat) : Prop where
  d1 : o ≠ b
  d2 : o ≠ bg
  d3 : g ≠ b
  d4 : g ≠ bg
  s1 : sp ≠ b
  s2 : sp ≠ bg
  s3 : sp ≠ o
  s4 : sp ≠ g
  l1 : w.heap.size ≤ b
  l2 : w.heap.size ≤ bg
  l3 : w.heap.size ≤ o
  l4 : w.heap.size ≤ g
section
variable {w A B : World} {b bg sp o g n d : Nat} {x : RSt} {zs : List Int} {t : Int}
theorem OwM.low (h : OwM w b bg sp o g n d x zs t A) (u : Below A.heap.size A B) : OwM w b bg sp o g n d x zs t B :=
  ⟨h.bank.below u, h.spot.low u, h.rd.below u, h.bel.trans (u.mono h.bel.size)⟩
theorem OwM.setFar (h : OwM w b bg sp o g n d x zs t A) {p : Addr} (h1 : b ≠ p.block) (h2 : bg ≠ p.block) (h3 : sp ≠ p.block) (h4 : o ≠ p.block) (h5 : g ≠ p.block) (h6 : w.heap.size ≤ p.block) (u : Value) : OwM w b bg sp o g n d x zs t (A.setCell p u) :=
  ⟨h.bank.setFar h1 h2 u, h.spot.setFar h3 u, h.rd.setFar h4 h5 u, h.bel.setCell h6 u⟩
theorem OwM.step (h : OwM w b bg sp o g n d x zs t A) (hD : OwD w b bg sp o g) {y : RSt} {t' : Int} (hr : RdAt B o g (spS n d) y) (hk : Bk B b bg zs t') (u : Upd (OwnR o g b bg) A B) : OwM w b bg sp o g n d y zs t' B :=
  ⟨hk, h.spot.of_block (u.block sp h.spot.lt (fun q => by
    rcases q with q | q | q | q
    · exact hD.s3 q
    · exact hD.s4 q
    · exact hD.s1 q
    · exact hD.s2 q)), hr, Below.ownR h.bel u h.bel.size hD.l3 hD.l4 hD.l1 hD.l2⟩
end
end Go.Proofs.Ytajibhhmcjcchaa
