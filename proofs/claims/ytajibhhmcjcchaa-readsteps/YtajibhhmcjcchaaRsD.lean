/- ReadSteps: where its loop begins. -/
import Derived.Test.YtajibhhmcjcchaaRsB
namespace Go.Proofs.Ytajibhhmcjcchaa
open Go.RowKit
theorem rs_mem0 {w A : World} {S : Sp} {tr : Int} {n b bg xb p pg o : Nat} (hB : Bk A b bg (List.replicate n 0) 0) (hX : Blk A xb (jbx S tr)) (hP : RdAt A p pg S (rst0 tr)) (hR : Blk A o (rfr S (.slice none 0 0) tr (rst0 tr))) (hb : Below w.heap.size w A)
    (hd : b ≠ xb ∧ bg ≠ xb ∧ p ≠ b ∧ p ≠ bg ∧ p ≠ xb ∧ pg ≠ b ∧ pg ≠ bg ∧ pg ≠ xb ∧ o ≠ b ∧ o ≠ bg ∧ o ≠ xb ∧ o ≠ p ∧ o ≠ pg) (hl : w.heap.size ≤ b ∧ w.heap.size ≤ bg ∧ w.heap.size ≤ xb ∧ w.heap.size ≤ p ∧ w.heap.size ≤ pg ∧ w.heap.size ≤ o) :
    RsM w S tr ⟨b, bg, A.heap.size, xb, p, pg, o, .slice none 0 0, rst0 tr, rst0 tr, List.replicate n 0, 0⟩ (A.alloc (.cells (zeros n) 43)) := by
  have l1 := hB.ltb
  have l2 := hB.ltg
  have l3 := hX.lt
  have l4 := hP.lto
  have l5 := hP.ltg
  have l6 := hR.lt
  have lw := hb.size
  have hz := Blk.new A (zeros n) 43
  refine ⟨hB.alloc _, ?_, hX.alloc _, hP.alloc _, ⟨hR.alloc _, World.ownsRow_nil _ _ _ _, by simp [Value.ownBlock]⟩, ?_, hb.alloc lw _⟩
  · obtain ⟨T, hT⟩ := hz
    exact ⟨T, hT⟩
  · have key : ∀ i k, Rs.own ⟨b, bg, A.heap.size, xb, p, pg, o, .slice none 0 0, rst0 tr, rst0 tr, List.replicate n 0, 0⟩ i k →
        (i = 0 ∧ (k = b ∨ k = bg)) ∨ (i = 1 ∧ k = A.heap.size) ∨ (i = 2 ∧ k = xb) ∨ (i = 3 ∧ (k = p ∨ k = pg)) ∨ (i = 4 ∧ k = o) := by
      intro i k hi
      match i, hi with
      | 0, c => exact .inl ⟨rfl, c⟩
      | 1, c => exact .inr (.inl ⟨rfl, c⟩)
      | 2, c => exact .inr (.inr (.inl ⟨rfl, c⟩))
      | 3, c => exact .inr (.inr (.inr (.inl ⟨rfl, c⟩)))
      | 4, c => exact .inr (.inr (.inr (.inr ⟨rfl, c⟩)))
      | 5, c => cases c
      | (_ + 6), c => exact False.elim c
    refine ⟨fun i j k h1 h2 => ?_, fun i k h1 => ?_⟩
    · have a1 := key i k h1
      have a2 := key j k h2
      omega
    · have a1 := key i k h1
      rw [World.size_alloc]
      omega
end Go.Proofs.Ytajibhhmcjcchaa
