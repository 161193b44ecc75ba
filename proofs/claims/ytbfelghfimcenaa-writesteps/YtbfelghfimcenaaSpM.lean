/- Three publishings beside the document's, as they lie in memory. -/
import Derived.Test.YtbfelghfimcenaaRfN
import Derived.Test.YtbfelghfimcenaaAwk
namespace Go.Proofs.Ytbfelghfimcenaa
open Go.RowKit

/-- The publishings: where each lies, its record, the document's, and how it stands. -/
abbrev Pbs := Nat → Option (Nat × Nat × Nat × St)
def updP (X : Pbs) (k : Nat) (v : Option (Nat × Nat × Nat × St)) : Pbs := fun j => if j = k then v else X j
theorem updP_self (X : Pbs) (k : Nat) (v : Option (Nat × Nat × Nat × St)) : updP X k v k = v := if_pos rfl
theorem updP_ne (X : Pbs) {k j : Nat} (v : Option (Nat × Nat × Nat × St)) (h : ¬ j = k) : updP X k v j = X j := if_neg h
/-- A job: where its record lies, how much room it has, its words, and how often it may try. -/
abbrev Jb := Option Addr × Nat × List Int × Int
def pO (v : Option (Nat × Nat × Nat × St)) : Value := .pointer (v.map fun p => ⟨p.1, 0, none⟩)
def pR (v : Option (Nat × Nat × Nat × St)) : Value := .pointer (v.map fun p => ⟨p.2.2.1, 0, none⟩)
/-- The blocks that stay. -/
structure Bks where
  b : Nat
  bg : Nat
  sp : Nat
  xb : Nat
  wb : Nat
  ob : Nat
  fb : Nat
def Bks.far (K : Bks) (w : World) (q : Nat) : Prop := q ≠ K.b ∧ q ≠ K.bg ∧ q ≠ K.sp ∧ q ≠ K.xb ∧ q ≠ K.wb ∧ q ≠ K.ob ∧ q ≠ K.fb ∧ w.heap.size ≤ q
structure Bks.dis (K : Bks) (w : World) : Prop where
  l1 : w.heap.size ≤ K.b
  l2 : w.heap.size ≤ K.bg
  l3 : w.heap.size ≤ K.wb
  l4 : w.heap.size ≤ K.ob
  l5 : w.heap.size ≤ K.fb
  b1 : K.b ≠ K.sp ∧ K.b ≠ K.xb ∧ K.b ≠ K.wb ∧ K.b ≠ K.ob ∧ K.b ≠ K.fb
  b2 : K.bg ≠ K.sp ∧ K.bg ≠ K.xb ∧ K.bg ≠ K.wb ∧ K.bg ≠ K.ob ∧ K.bg ≠ K.fb
  w1 : K.wb ≠ K.sp ∧ K.wb ≠ K.xb ∧ K.wb ≠ K.ob ∧ K.wb ≠ K.fb
  o1 : K.ob ≠ K.sp ∧ K.ob ≠ K.xb ∧ K.ob ≠ K.fb
  f1 : K.fb ≠ K.sp ∧ K.fb ≠ K.xb
def jbc (J : Nat → Jb) (acts : Value) : List Value :=
  [.slice (J 0).1 (J 0).2.2.1.length (J 0).2.1, .int .i64 (J 0).2.2.2, .slice (J 1).1 (J 1).2.2.1.length (J 1).2.1, .int .i64 (J 1).2.2.2, .slice (J 2).1 (J 2).2.2.1.length (J 2).2.1, .int .i64 (J 2).2.2.2, acts]
/-- One publishing, and the document's beside it. -/
def Pb (w wr : World) (K : Bks) (S : Sp) (j : Jb) (i : Nat) (o g r : Nat) (x : St) : Prop :=
  OpAt wr o g S j.2.2.1 x ∧ RfAt wr r S j.1 j.2.2.1 j.2.1 j.2.2.2 x ∧ K.far w o ∧ K.far w g ∧ K.far w r ∧ o ≠ r ∧ g ≠ r ∧ Wf S j.2.2.1 x ∧ x.left ≤ j.2.2.2 ∧ j.2.2.2 ≤ 16 ∧ 0 ≤ x.steps ∧ x.steps ≤ i
structure SpMem (w : World) (K : Bks) (S : Sp) (J : Nat → Jb) (acts : Value) (X : Pbs) (i : Nat) (zs : List Int) (t : Int) (wr : World) : Prop where
  bank : Bk wr K.b K.bg zs t
  wds : Row wr K.wb zs
  spot : Blk wr K.sp (spc S.ow S.sq S.fs S.wd S.dp)
  box : Blk wr K.xb (jbc J acts)
  ops : Blk wr K.ob [pO (X 0), pO (X 1), pO (X 2)]
  refs : Blk wr K.fb [pR (X 0), pR (X 1), pR (X 2)]
  each : ∀ k o g r x, X k = some (o, g, r, x) → Pb w wr K S (J k) i o g r x
  apart : ∀ k k' o g r x o' g' r' x', ¬ k = k' → X k = some (o, g, r, x) → X k' = some (o', g', r', x') → o ≠ o' ∧ o ≠ g' ∧ o ≠ r' ∧ r ≠ o' ∧ r ≠ g' ∧ r ≠ r'
  bel : Below w.heap.size w wr
theorem RfAt.of_block {w w' : World} {o : Nat} {S : Sp} {a : Option Addr} {ws : List Int} {cap : Nat} {tr : Int} {x : St} (h : RfAt w o S a ws cap tr x) (e : w'.heap[o]? = w.heap[o]?) : RfAt w' o S a ws cap tr x := by
  obtain ⟨sq, h1, h2⟩ := h
  exact ⟨sq, h1.of_block e, h2⟩
theorem RfAt.lt {w : World} {o : Nat} {S : Sp} {a : Option Addr} {ws : List Int} {cap : Nat} {tr : Int} {x : St} (h : RfAt w o S a ws cap tr x) : o < w.heap.size := by
  obtain ⟨sq, h1, _⟩ := h
  exact h1.lt
section
variable {w : World} {K : Bks} {S : Sp} {J : Nat → Jb} {acts : Value} {X : Pbs} {i : Nat} {zs zs' : List Int} {t t' : Int} {A B : World} {k o g r : Nat} {x y : St}
theorem Pb.blocks (h : Pb w A K S (J k) i o g r x) (e1 : B.heap[o]? = A.heap[o]?) (e2 : B.heap[g]? = A.heap[g]?) (e3 : B.heap[r]? = A.heap[r]?) : Pb w B K S (J k) i o g r x :=
  ⟨h.1.of_blocks e1 e2, h.2.1.of_block e3, h.2.2⟩
theorem Pb.more (h : Pb w A K S (J k) i o g r x) : Pb w A K S (J k) (i + 1) o g r x := by
  obtain ⟨h1, h2, h3, h4, h5, h6, h7, h8, h9, h10, h11, h12⟩ := h
  exact ⟨h1, h2, h3, h4, h5, h6, h7, h8, h9, h10, h11, by omega⟩
theorem SpMem.more (h : SpMem w K S J acts X i zs t A) : SpMem w K S J acts X (i + 1) zs t A :=
  ⟨h.bank, h.wds, h.spot, h.box, h.ops, h.refs, fun k o g r x hx => (h.each k o g r x hx).more, h.apart, h.bel⟩
theorem SpMem.low (h : SpMem w K S J acts X i zs t A) (u : Below A.heap.size A B) : SpMem w K S J acts X i zs t B :=
  ⟨h.bank.below u, h.wds.below u, h.spot.low u, h.box.low u, h.ops.low u, h.refs.low u, fun k o g r x hx => by
    have p := h.each k o g r x hx
    exact p.blocks (u.block o p.1.lto) (u.block g p.1.ltg) (u.block r p.2.1.lt), h.apart, h.bel.trans (u.mono h.bel.size)⟩
theorem SpMem.drew (h : SpMem w K S J acts X i zs t A) : SpMem w K S J acts X i zs t A.drew := h.low (belN (Below.refl _ _) 1)
theorem SpMem.op (h : SpMem w K S J acts X i zs t A) (hk : k < 3) : A.cell? ⟨K.ob, k, none⟩ = some (pO (X k)) := by
  match k, hk with
  | 0, _ => exact h.ops.cell rfl
  | 1, _ => exact h.ops.cell rfl
  | 2, _ => exact h.ops.cell rfl
theorem SpMem.rf (h : SpMem w K S J acts X i zs t A) (hk : k < 3) : A.cell? ⟨K.fb, k, none⟩ = some (pR (X k)) := by
  match k, hk with
  | 0, _ => exact h.refs.cell rfl
  | 1, _ => exact h.refs.cell rfl
  | 2, _ => exact h.refs.cell rfl
theorem SpMem.job (h : SpMem w K S J acts X i zs t A) (hk : k < 3) : A.cell? ⟨K.xb, k * 2, none⟩ = some (.slice (J k).1 (J k).2.2.1.length (J k).2.1) ∧ A.cell? ⟨K.xb, k * 2 + 1, none⟩ = some (.int .i64 (J k).2.2.2) := by
  match k, hk with
  | 0, _ => exact ⟨h.box.cell rfl, h.box.cell rfl⟩
  | 1, _ => exact ⟨h.box.cell rfl, h.box.cell rfl⟩
  | 2, _ => exact ⟨h.box.cell rfl, h.box.cell rfl⟩
theorem SpMem.act (h : SpMem w K S J acts X i zs t A) : A.cell? ⟨K.xb, 6, none⟩ = some acts := h.box.cell rfl
theorem pO3 (X : Pbs) (k : Nat) (hk : k < 3) (v : Option (Nat × Nat × Nat × St)) : [pO (X 0), pO (X 1), pO (X 2)].set k (pO v) = [pO (updP X k v 0), pO (updP X k v 1), pO (updP X k v 2)] := by
  match k, hk with
  | 0, _ => rfl
  | 1, _ => rfl
  | 2, _ => rfl
theorem pR3 (X : Pbs) (k : Nat) (hk : k < 3) (v : Option (Nat × Nat × Nat × St)) : [pR (X 0), pR (X 1), pR (X 2)].set k (pR v) = [pR (updP X k v 0), pR (updP X k v 1), pR (updP X k v 2)] := by
  match k, hk with
  | 0, _ => rfl
  | 1, _ => rfl
  | 2, _ => rfl
/-- Somebody else's store, into the bank and into the words. -/
theorem SpMem.store (h : SpMem w K S J acts X i zs t A) (hK : K.dis w) {a : Nat} {v : Int} (u : Upd (Own K.b K.bg) A B) (hB : Bk B K.b K.bg (zs.set a v) t') : SpMem w K S J acts X i (zs.set a v) t' (B.setCell ⟨K.wb, a, none⟩ (.int .u64 v)) := by
  have nO : ∀ q, q ≠ K.b → q ≠ K.bg → ¬ Own K.b K.bg q := fun q c1 c2 c => by rcases c with c | c <;> contradiction
  obtain ⟨b1, b2, b3, b4, b5⟩ := hK.b1
  obtain ⟨c1, c2, c3, c4, c5⟩ := hK.b2
  obtain ⟨w1, w2, w3, w4⟩ := hK.w1
  refine ⟨hB.setFar b3 c3 _, (h.wds.upd u (nO _ b3.symm c3.symm)).put a v, (h.spot.of_block (u.block _ h.spot.lt (nO _ b1.symm c1.symm))).setFar w1.symm _, (h.box.of_block (u.block _ h.box.lt (nO _ b2.symm c2.symm))).setFar w2.symm _,
    (h.ops.of_block (u.block _ h.ops.lt (nO _ b4.symm c4.symm))).setFar w3.symm _, (h.refs.of_block (u.block _ h.refs.lt (nO _ b5.symm c5.symm))).setFar w4.symm _, fun k o g r x hx => ?_, h.apart, ?_⟩
  · have p := h.each k o g r x hx
    obtain ⟨p1, p2, ⟨o1, o2, o3, o4, o5, _⟩, ⟨g1, g2, g3, g4, g5, _⟩, ⟨r1, r2, r3, r4, r5, _⟩, _⟩ := id p
    exact p.blocks ((Below.heap_setCell _ _ _ _ o5).trans (u.block o p1.lto (nO _ o1 o2))) ((Below.heap_setCell _ _ _ _ g5).trans (u.block g p1.ltg (nO _ g1 g2))) ((Below.heap_setCell _ _ _ _ r5).trans (u.block r p2.lt (nO _ r1 r2)))
  · exact (Below.own h.bel u h.bel.size hK.l1 hK.l2).setCell (p := ⟨K.wb, a, none⟩) hK.l3 _
/-- A step of publishing k, and of the document's. -/
theorem SpMem.step (h : SpMem w K S J acts X i zs t A) (hK : K.dis w) (hk : k < 3) (hx : X k = some (o, g, r, x)) {C : World} (u1 : Upd (Ow2 r K.wb) A B) (hr : RfAt B r S (J k).1 (J k).2.2.1 (J k).2.1 (J k).2.2.2 y) (hw : Row B K.wb zs')
    (u2 : Upd (OwnS o K.b K.bg) B C) (hO : OpAt C o g S (J k).2.2.1 y) (hB : Bk C K.b K.bg zs' t') (hwf : Wf S (J k).2.2.1 y) (hl : y.left ≤ x.left) (s0 : x.steps ≤ y.steps) (s1 : y.steps ≤ x.steps + 1) :
    SpMem w K S J acts (updP X k (some (o, g, r, y))) (i + 1) zs' t' C := by
  have p := h.each k o g r x hx
  obtain ⟨p1, p2, fo, fg, fr, p6, p7, p8, p9, p10, p11, p12⟩ := id p
  obtain ⟨o1, o2, o3, o4, o5, o6, o7, o8⟩ := fo
  obtain ⟨r1, r2, r3, r4, r5, r6, r7, r8⟩ := fr
  obtain ⟨b1, b2, b3, b4, b5⟩ := hK.b1
  obtain ⟨c1, c2, c3, c4, c5⟩ := hK.b2
  obtain ⟨w1, w2, w3, w4⟩ := hK.w1
  have n1 : ∀ q, q ≠ r → q ≠ K.wb → ¬ Ow2 r K.wb q := fun q a1 a2 a => by rcases a with a | a <;> contradiction
  have n2 : ∀ q, q ≠ o → q ≠ K.b → q ≠ K.bg → ¬ OwnS o K.b K.bg q := fun q a1 a2 a3 a => by rcases a with a | a | a <;> contradiction
  have keep : ∀ q, q < A.heap.size → q ≠ r → q ≠ K.wb → q ≠ o → q ≠ K.b → q ≠ K.bg → C.heap[q]? = A.heap[q]? := fun q hq a1 a2 a3 a4 a5 =>
    (u2.block q (Nat.lt_of_lt_of_le hq u1.size) (n2 q a3 a4 a5)).trans (u1.block q hq (n1 q a1 a2))
  refine ⟨hB, hw.upd u2 (n2 _ o5.symm b3.symm c3.symm), h.spot.of_block (keep _ h.spot.lt r3.symm w1.symm o3.symm b1.symm c1.symm), h.box.of_block (keep _ h.box.lt r4.symm w2.symm o4.symm b2.symm c2.symm), ?_, ?_, fun j o' g' r' z hz => ?_, fun j j' o' g' r' z o'' g'' r'' z' hne hz hz' => ?_, ?_⟩
  · have h1 := h.ops.of_block (keep _ h.ops.lt r6.symm w3.symm o6.symm b4.symm c4.symm)
    have e : [pO (X 0), pO (X 1), pO (X 2)] = [pO (updP X k (some (o, g, r, y)) 0), pO (updP X k (some (o, g, r, y)) 1), pO (updP X k (some (o, g, r, y)) 2)] := by
      rw [← pO3 X k hk]
      match k, hk, hx with
      | 0, _, hx => simp [pO, hx]
      | 1, _, hx => simp [pO, hx]
      | 2, _, hx => simp [pO, hx]
    exact e ▸ h1
  · have h1 := h.refs.of_block (keep _ h.refs.lt r7.symm w4.symm o7.symm b5.symm c5.symm)
    have e : [pR (X 0), pR (X 1), pR (X 2)] = [pR (updP X k (some (o, g, r, y)) 0), pR (updP X k (some (o, g, r, y)) 1), pR (updP X k (some (o, g, r, y)) 2)] := by
      rw [← pR3 X k hk]
      match k, hk, hx with
      | 0, _, hx => simp [pR, hx]
      | 1, _, hx => simp [pR, hx]
      | 2, _, hx => simp [pR, hx]
    exact e ▸ h1
  · by_cases c : j = k
    · subst c
      rw [updP_self] at hz
      cases hz
      exact ⟨hO, hr.of_block (u2.block r hr.lt (n2 _ p6.symm r1 r2)), ⟨o1, o2, o3, o4, o5, o6, o7, o8⟩, fg, ⟨r1, r2, r3, r4, r5, r6, r7, r8⟩, p6, p7, hwf, by omega, p10, by omega, by omega⟩
    · rw [updP_ne _ _ c] at hz
      have q := h.each j _ _ _ _ hz
      obtain ⟨q1, q2, ⟨a1, a2, a3, a4, a5, _⟩, ⟨d1, d2, d3, d4, d5, _⟩, ⟨e1, e2, e3, e4, e5, _⟩, _⟩ := id q
      obtain ⟨m1, m2, m3, m4, m5, m6⟩ := h.apart k j _ _ _ _ _ _ _ _ (fun e => c e.symm) hx hz
      exact (q.blocks (keep _ q1.lto m4.symm a5 m1.symm a1 a2) (keep _ q1.ltg m5.symm d5 m2.symm d1 d2) (keep _ q2.lt m6.symm e5 m3.symm e1 e2)).more
  · by_cases c : j = k
    · subst c
      rw [updP_self] at hz
      cases hz
      rw [updP_ne _ _ (fun q => hne q.symm)] at hz'
      exact h.apart _ _ _ _ _ _ _ _ _ _ hne hx hz'
    · rw [updP_ne _ _ c] at hz
      by_cases c' : j' = k
      · subst c'
        rw [updP_self] at hz'
        cases hz'
        exact h.apart _ _ _ _ _ _ _ _ _ _ hne hz hx
      · rw [updP_ne _ _ c'] at hz'
        exact h.apart _ _ _ _ _ _ _ _ _ _ hne hz hz'
  · have hb1 : Below w.heap.size w B := h.bel.trans (u1.below h.bel.size (fun q a => by rcases a with rfl | rfl; exact r8; exact hK.l3))
    exact Below.ownS hb1 u2 hb1.size o8 hK.l1 hK.l2
/-- A publishing that is new, or none, is written into both lists. -/
theorem SpMem.put (h : SpMem w K S J acts X i zs t A) (hK : K.dis w) (hk : k < 3) (v : Option (Nat × Nat × Nat × St)) (h1 : ∀ o g r x, v = some (o, g, r, x) → Pb w A K S (J k) i o g r x)
    (h2 : ∀ o g r x j o' g' r' x', v = some (o, g, r, x) → ¬ j = k → X j = some (o', g', r', x') → (o ≠ o' ∧ o ≠ g' ∧ o ≠ r' ∧ r ≠ o' ∧ r ≠ g' ∧ r ≠ r') ∧ o' ≠ g ∧ r' ≠ g) :
    SpMem w K S J acts (updP X k v) i zs t ((A.setCell ⟨K.ob, k, none⟩ (pO v)).setCell ⟨K.fb, k, none⟩ (pR v)) := by
  obtain ⟨b1, b2, b3, b4, b5⟩ := hK.b1
  obtain ⟨c1, c2, c3, c4, c5⟩ := hK.b2
  obtain ⟨w1, w2, w3, w4⟩ := hK.w1
  obtain ⟨o1, o2, o3⟩ := hK.o1
  obtain ⟨f1, f2⟩ := hK.f1
  refine ⟨(h.bank.setFar b4 c4 _).setFar b5 c5 _, (h.wds.setFar w3 _).setFar w4 _, (h.spot.setFar o1.symm _).setFar f1.symm _, (h.box.setFar o2.symm _).setFar f2.symm _, ?_, ?_, fun j o' g' r' z hz => ?_, fun j j' o' g' r' z o'' g'' r'' z' hne hz hz' => ?_, (h.bel.setCell (p := ⟨K.ob, k, none⟩) hK.l4 _).setCell (p := ⟨K.fb, k, none⟩) hK.l5 _⟩
  · exact ((h.ops.put k (pO v)).to (pO3 X k hk v)).setFar o3 _
  · exact ((h.refs.setFar (p := ⟨K.ob, k, none⟩) o3.symm _).put k (pR v)).to (pR3 X k hk v)
  · have hf : Pb w A K S (J j) i o' g' r' z := by
      by_cases c : j = k
      · subst c
        rw [updP_self] at hz
        exact h1 _ _ _ _ hz
      · rw [updP_ne _ _ c] at hz
        exact h.each j _ _ _ _ hz
    obtain ⟨_, _, ⟨_, _, _, _, _, x1, x2, _⟩, ⟨_, _, _, _, _, y1, y2, _⟩, ⟨_, _, _, _, _, z1, z2, _⟩, _⟩ := id hf
    exact hf.blocks ((Below.heap_setCell _ _ _ _ x2).trans (Below.heap_setCell _ _ _ _ x1)) ((Below.heap_setCell _ _ _ _ y2).trans (Below.heap_setCell _ _ _ _ y1)) ((Below.heap_setCell _ _ _ _ z2).trans (Below.heap_setCell _ _ _ _ z1))
  · by_cases c : j = k
    · subst c
      rw [updP_self] at hz
      rw [updP_ne _ _ (fun q => hne q.symm)] at hz'
      exact (h2 _ _ _ _ _ _ _ _ _ hz (fun q => hne q.symm) hz').1
    · rw [updP_ne _ _ c] at hz
      by_cases c' : j' = k
      · subst c'
        rw [updP_self] at hz'
        obtain ⟨⟨m1, m2, m3, m4, m5, m6⟩, m7, m8⟩ := h2 _ _ _ _ _ _ _ _ _ hz' c hz
        exact ⟨m1.symm, m7, m4.symm, m3.symm, m8, m6.symm⟩
      · rw [updP_ne _ _ c'] at hz'
        exact h.apart _ _ _ _ _ _ _ _ _ _ hne hz hz'
theorem updP_none (X : Pbs) (k : Nat) (h : X k = none) : updP X k none = X := by
  funext j
  unfold updP
  split
  · subst_vars; exact h.symm
  · rfl
end
/-- What the making of publishing q reads. -/
def SpJ (sp xb q : Nat) (S : Sp) (j : Jb) (w : World) : Prop :=
  Blk w sp (spc S.ow S.sq S.fs S.wd S.dp) ∧ w.cell? ⟨xb, q * 2, none⟩ = some (.slice j.1 j.2.2.1.length j.2.1) ∧ w.cell? ⟨xb, q * 2 + 1, none⟩ = some (.int .i64 j.2.2.2)
theorem SpMem.spj {w : World} {K : Bks} {S : Sp} {J : Nat → Jb} {acts : Value} {X : Pbs} {i : Nat} {zs : List Int} {t : Int} {A : World} {k : Nat} (h : SpMem w K S J acts X i zs t A) (hk : k < 3) : SpJ K.sp K.xb k S (J k) A := ⟨h.spot, (h.job hk).1, (h.job hk).2⟩
/-- A publishing that is made, not yet written into the lists. -/
structure NwF (w : World) (K : Bks) (S : Sp) (J : Nat → Jb) (acts : Value) (X : Pbs) (zs : List Int) (q o g r : Nat) (W : World) : Prop where
  mem : SpMem w K S J acts X 0 zs 0 W
  op : OpAt W o g S (J q).2.2.1 (st0 (J q).2.2.2)
  rf : RfAt W r S (J q).1 (J q).2.2.1 (J q).2.1 (J q).2.2.2 (st0 (J q).2.2.2)
theorem NwF.low {w : World} {K : Bks} {S : Sp} {J : Nat → Jb} {acts : Value} {X : Pbs} {zs : List Int} {q o g r : Nat} {A B : World} (h : NwF w K S J acts X zs q o g r A) (u : Below A.heap.size A B) : NwF w K S J acts X zs q o g r B :=
  ⟨h.mem.low u, h.op.below u, h.rf.of_block (u.block r h.rf.lt)⟩
/-- A new block lies apart from all that lie there. -/
structure Nwb (w : World) (K : Bks) (X : Pbs) (q : Nat) : Prop where
  far : K.far w q
  ne : ∀ j o' g' r' x', X j = some (o', g', r', x') → q ≠ o' ∧ q ≠ g' ∧ q ≠ r'
theorem SpMem.nwb {w : World} {K : Bks} {S : Sp} {J : Nat → Jb} {acts : Value} {X : Pbs} {i : Nat} {zs : List Int} {t : Int} {A : World} {q : Nat} (h : SpMem w K S J acts X i zs t A) (hq : A.heap.size ≤ q) : Nwb w K X q := by
  have l1 := h.bank.ltb
  have l2 := h.bank.ltg
  have l3 := h.wds.lt
  have l4 := h.spot.lt
  have l5 := h.box.lt
  have l6 := h.ops.lt
  have l7 := h.refs.lt
  have l8 := h.bel.size
  refine ⟨⟨by omega, by omega, by omega, by omega, by omega, by omega, by omega, by omega⟩, fun j o' g' r' x' hx => ?_⟩
  have p := h.each j _ _ _ _ hx
  have m1 := p.1.lto
  have m2 := p.1.ltg
  have m3 := p.2.1.lt
  exact ⟨by omega, by omega, by omega⟩
theorem NwF.put {w : World} {K : Bks} {S : Sp} {J : Nat → Jb} {acts : Value} {X : Pbs} {zs : List Int} {q o g r : Nat} {A : World} (h : NwF w K S J acts X zs q o g r A) (hK : K.dis w) (hq : q < 3) (fo : Nwb w K X o) (fg : Nwb w K X g) (fr : Nwb w K X r) (e1 : o ≠ r) (e2 : g ≠ r) (hw : Wf S (J q).2.2.1 (st0 (J q).2.2.2)) (ht : (J q).2.2.2 ≤ 16) :
    SpMem w K S J acts (updP X q (some (o, g, r, st0 (J q).2.2.2))) 0 zs 0 ((A.setCell ⟨K.ob, q, none⟩ (.pointer (some ⟨o, 0, none⟩))).setCell ⟨K.fb, q, none⟩ (.pointer (some ⟨r, 0, none⟩))) := by
  refine h.mem.put hK hq (some (o, g, r, st0 (J q).2.2.2)) (fun _ _ _ _ c => ?_) (fun _ _ _ _ j o' g' r' x' c hj hx => ?_)
  · cases c
    exact ⟨h.op, h.rf, fo.far, fg.far, fr.far, e1, e2, hw, Int.le_refl _, ht, Int.le_refl _, Int.le_refl _⟩
  · cases c
    obtain ⟨a1, a2, a3⟩ := fo.ne j _ _ _ _ hx
    obtain ⟨b1, b2, b3⟩ := fg.ne j _ _ _ _ hx
    obtain ⟨c1, c2, c3⟩ := fr.ne j _ _ _ _ hx
    exact ⟨⟨a1, a2, a3, c1, c2, c3⟩, b1.symm, b3.symm⟩
theorem nw_tr {S : Sp} {n : Nat} {tr : Int} (h : nwE S n tr = 0) : tr ≤ 16 := by
  unfold nwE at h
  split at h
  · exact ((mb_iff _ _).1 (by assumption)).2.2
  · omega
theorem left_stp (S : Sp) (ws xs : List Int) (x : St) : (stp S ws xs x).1.left ≤ x.left := by
  have ha : ∀ y : St, (agn y).left ≤ y.left := fun y => by show y.left - 1 ≤ y.left; omega
  unfold stp
  (repeat' split) <;> first | exact Int.le_refl _ | exact ha _
theorem far_lt {w : World} {K : Bks} {S : Sp} {J : Nat → Jb} {acts : Value} {X : Pbs} {i : Nat} {zs : List Int} {t : Int} {A : World} (h : SpMem w K S J acts X i zs t A) : K.b < A.heap.size ∧ K.bg < A.heap.size ∧ K.wb < A.heap.size := ⟨h.bank.ltb, h.bank.ltg, h.wds.lt⟩
end Go.Proofs.Ytbfelghfimcenaa
