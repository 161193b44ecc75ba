/- Three publishings of one topic, as they lie in memory. -/
import Derived.Test.YtbfelghfimcenaaOnM
import Derived.Test.YtbfelghfimcenaaClo
import Derived.Test.YtbfelghfimcenaaArgR
namespace Go.Proofs.Ytbfelghfimcenaa
open Go.RowKit

def ptr (v : Option (Nat × Nat × St)) : Value := .pointer (v.map fun p => ⟨p.1, 0, none⟩)
def rwv (r : Rw) : Value := .slice r.1 r.2.2.length r.2.1
/-- Blocks that a publishing does not lie in. -/
def Far (w : World) (b bg sp ob rb q : Nat) : Prop := q ≠ b ∧ q ≠ bg ∧ q ≠ sp ∧ q ≠ ob ∧ q ≠ rb ∧ w.heap.size ≤ q
structure OnMem (w : World) (b bg sp ob rb : Nat) (n d : Nat) (X : Ops) (R : Nat → Rw) (zs : List Int) (t : Int) (wr : World) : Prop where
  bank : Bk wr b bg zs t
  spot : Blk wr sp (spc 0 1 2 n d)
  ops : Blk wr ob [ptr (X 0), ptr (X 1), ptr (X 2)]
  box : Blk wr rb [rwv (R 0), rwv (R 1), rwv (R 2)]
  each : ∀ k o g x, X k = some (o, g, x) → OpAt wr o g (spS n d) (R k).2.2 x ∧ Far w b bg sp ob rb o ∧ Far w b bg sp ob rb g
  apart : ∀ k k' o g x o' g' x', ¬ k = k' → X k = some (o, g, x) → X k' = some (o', g', x') → o ≠ o' ∧ o ≠ g'
  bel : Below w.heap.size w wr
/-- The blocks are apart. -/
structure Dis (w : World) (b bg sp ob rb : Nat) : Prop where
  d1 : b ≠ sp
  d2 : b ≠ ob
  d3 : b ≠ rb
  d4 : bg ≠ sp
  d5 : bg ≠ ob
  d6 : bg ≠ rb
  d7 : sp ≠ ob
  d8 : sp ≠ rb
  d9 : ob ≠ rb
  l1 : w.heap.size ≤ b
  l2 : w.heap.size ≤ bg
  l3 : w.heap.size ≤ ob
section
variable {w : World} {b bg sp ob rb n d : Nat} {X : Ops} {R : Nat → Rw} {zs zs' : List Int} {t t' : Int} {A B : World} {k o g : Nat} {x y : St}
theorem OnMem.low (h : OnMem w b bg sp ob rb n d X R zs t A) (u : Below A.heap.size A B) : OnMem w b bg sp ob rb n d X R zs t B :=
  ⟨h.bank.below u, h.spot.low u, h.ops.low u, h.box.low u, fun k o g x hx => ⟨(h.each k o g x hx).1.below u, (h.each k o g x hx).2⟩, h.apart, h.bel.trans (u.mono h.bel.size)⟩
theorem OnMem.drew (h : OnMem w b bg sp ob rb n d X R zs t A) : OnMem w b bg sp ob rb n d X R zs t A.drew := h.low (belN (Below.refl _ _) 1)
theorem OnMem.op (h : OnMem w b bg sp ob rb n d X R zs t A) (hk : k < 3) : A.cell? ⟨ob, k, none⟩ = some (ptr (X k)) := by
  match k, hk with
  | 0, _ => exact h.ops.cell rfl
  | 1, _ => exact h.ops.cell rfl
  | 2, _ => exact h.ops.cell rfl
theorem OnMem.row (h : OnMem w b bg sp ob rb n d X R zs t A) (hk : k < 3) : A.cell? ⟨rb, k, none⟩ = some (rwv (R k)) := by
  match k, hk with
  | 0, _ => exact h.box.cell rfl
  | 1, _ => exact h.box.cell rfl
  | 2, _ => exact h.box.cell rfl
theorem set3 (X : Ops) (k : Nat) (hk : k < 3) (v : Option (Nat × Nat × St)) : [ptr (X 0), ptr (X 1), ptr (X 2)].set k (ptr v) = [ptr (upd X k v 0), ptr (upd X k v 1), ptr (upd X k v 2)] := by
  match k, hk with
  | 0, _ => rfl
  | 1, _ => rfl
  | 2, _ => rfl
/-- A step of publishing k. -/
theorem OnMem.step (h : OnMem w b bg sp ob rb n d X R zs t A) (hD : Dis w b bg sp ob rb) (hk : k < 3) (hx : X k = some (o, g, x)) (u : Upd (OwnS o b bg) A B) (hO : OpAt B o g (spS n d) (R k).2.2 y) (hB : Bk B b bg zs' t') :
    OnMem w b bg sp ob rb n d (upd X k (some (o, g, y))) R zs' t' B := by
  obtain ⟨_, ⟨f1, f2, f3, f4, f5, f6⟩, _⟩ := h.each k o g x hx
  have nO : ∀ q, q ≠ o → q ≠ b → q ≠ bg → ¬ OwnS o b bg q := fun q c1 c2 c3 c => by rcases c with c | c | c <;> contradiction
  refine ⟨hB, h.spot.of_block (u.block sp h.spot.lt (nO _ f3.symm hD.d1.symm hD.d4.symm)), ?_, h.box.of_block (u.block rb h.box.lt (nO _ f5.symm hD.d3.symm hD.d6.symm)), fun j o' g' z hz => ?_, fun j j' o' g' z o'' g'' z' hne hz hz' => ?_, Below.ownS h.bel u h.bel.size f6 hD.l1 hD.l2⟩
  · have h1 := h.ops.of_block (u.block ob h.ops.lt (nO _ f4.symm hD.d2.symm hD.d5.symm))
    have e : [ptr (X 0), ptr (X 1), ptr (X 2)] = [ptr (upd X k (some (o, g, y)) 0), ptr (upd X k (some (o, g, y)) 1), ptr (upd X k (some (o, g, y)) 2)] := by
      rw [← set3 X k hk (some (o, g, y))]
      match k, hk, hx with
      | 0, _, hx => simp [ptr, hx]
      | 1, _, hx => simp [ptr, hx]
      | 2, _, hx => simp [ptr, hx]
    rw [e] at h1
    exact h1
  · by_cases c : j = k
    · subst c
      rw [upd_self] at hz
      cases hz
      exact ⟨hO, (h.each j _ _ _ hx).2⟩
    · rw [upd_ne _ _ c] at hz
      obtain ⟨z1, ⟨z2a, z2b, z2⟩, ⟨z3a, z3b, z3⟩⟩ := h.each j _ _ _ hz
      refine ⟨z1.upd u (nO _ (h.apart j k _ _ _ _ _ _ c hz hx).1 z2a z2b) (nO _ (fun q => (h.apart k j _ _ _ _ _ _ (fun q => c q.symm) hx hz).2 q.symm) z3a z3b), ⟨z2a, z2b, z2⟩, ⟨z3a, z3b, z3⟩⟩
  · by_cases c : j = k
    · subst c
      rw [upd_self] at hz
      cases hz
      rw [upd_ne _ _ (fun q => hne q.symm)] at hz'
      exact h.apart _ _ _ _ _ _ _ _ hne hx hz'
    · rw [upd_ne _ _ c] at hz
      by_cases c' : j' = k
      · subst c'
        rw [upd_self] at hz'
        cases hz'
        exact h.apart _ _ _ _ _ _ _ _ hne hz hx
      · rw [upd_ne _ _ c'] at hz'
        exact h.apart _ _ _ _ _ _ _ _ hne hz hz'
/-- A store into the list of publishings. -/
theorem OnMem.put (h : OnMem w b bg sp ob rb n d X R zs t A) (hD : Dis w b bg sp ob rb) (hk : k < 3) (v : Option (Nat × Nat × St))
    (h1 : ∀ o g x, v = some (o, g, x) → OpAt A o g (spS n d) (R k).2.2 x ∧ Far w b bg sp ob rb o ∧ Far w b bg sp ob rb g)
    (h2 : ∀ o g x j o' g' x', v = some (o, g, x) → ¬ j = k → X j = some (o', g', x') → o ≠ o' ∧ o ≠ g' ∧ o' ≠ g) :
    OnMem w b bg sp ob rb n d (upd X k v) R zs t (A.setCell ⟨ob, k, none⟩ (ptr v)) := by
  refine ⟨h.bank.setFar hD.d2 hD.d5 _, h.spot.setFar hD.d7 _, ?_, h.box.setFar (fun q => hD.d9 q.symm) _, fun j o' g' z hz => ?_, fun j j' o' g' z o'' g'' z' hne hz hz' => ?_, h.bel.setCell (p := ⟨ob, k, none⟩) hD.l3 _⟩
  · have := h.ops.put k (ptr v)
    rw [set3 X k hk v] at this
    exact this
  · have hf : OpAt A o' g' (spS n d) (R j).2.2 z ∧ Far w b bg sp ob rb o' ∧ Far w b bg sp ob rb g' := by
      by_cases c : j = k
      · subst c
        rw [upd_self] at hz
        exact h1 _ _ _ hz
      · rw [upd_ne _ _ c] at hz
        exact h.each j _ _ _ hz
    obtain ⟨a1, a2, a3⟩ := hf
    exact ⟨a1.setFar a2.2.2.2.1 a3.2.2.2.1 _, a2, a3⟩
  · by_cases c : j = k
    · subst c
      rw [upd_self] at hz
      rw [upd_ne _ _ (fun q => hne q.symm)] at hz'
      have := h2 _ _ _ _ _ _ _ hz (fun q => hne q.symm) hz'
      exact ⟨this.1, this.2.1⟩
    · rw [upd_ne _ _ c] at hz
      by_cases c' : j' = k
      · subst c'
        rw [upd_self] at hz'
        have := h2 _ _ _ _ _ _ _ hz' c hz
        exact ⟨fun q => this.1 q.symm, this.2.2⟩
      · rw [upd_ne _ _ c'] at hz'
        exact h.apart _ _ _ _ _ _ _ _ hne hz hz'
theorem OnMem.drop (h : OnMem w b bg sp ob rb n d X R zs t A) (hD : Dis w b bg sp ob rb) (hk : k < 3) : OnMem w b bg sp ob rb n d (upd X k none) R zs t (A.setCell ⟨ob, k, none⟩ (.pointer none)) :=
  h.put hD hk none (fun _ _ _ c => by cases c) (fun _ _ _ _ _ _ _ c => by cases c)
end
theorem upd_upd (X : Ops) (k : Nat) (v v' : Option (Nat × Nat × St)) : upd (upd X k v) k v' = upd X k v' := by
  funext j
  unfold upd
  split <;> rfl
end Go.Proofs.Ytbfelghfimcenaa
