/- ReadWhole: its memory: things that lie apart from one another. No program is named here, but for the types of two slices. -/
import Derived.Test.YtajibhhmcjcchaaWhI
import Derived.Test.YtajibhhmcjcchaaArgR
import Derived.ArgAppend
namespace Go.Proofs.Ytajibhhmcjcchaa
open Go.RowKit

def rwv (r : Rw) : Value := .slice r.1 r.2.2.length r.2.1
def ptr (v : Option (Nat × Nat × St)) : Value := .pointer (v.map (fun p => ⟨p.1, 0, none⟩))
/-- What lies in memory, by its places. -/
structure Wh where
  b : Nat
  bg : Nat
  sp : Nat
  ob : Nat
  mb : Nat
  xb : Nat
  z0 : Nat
  X : Ops
  R : Nat → Rw
  zs : List Int
  t : Int
  V : Value
  dl : List Rw
  N : Value
  nw : List Int
  O : Option (Nat × Nat × RSt)
/-- Which blocks each thing has. -/
def Wh.own (s : Wh) : Nat → Nat → Prop
  | 0, k => k = s.b ∨ k = s.bg
  | 1, k => k = s.sp
  | 2, k => k = s.ob
  | 3, k => k = s.mb
  | 4, k => k = s.xb
  | 5, k => k = s.z0
  | 6, k => ∃ o g x, s.X 0 = some (o, g, x) ∧ (k = o ∨ k = g)
  | 7, k => ∃ o g x, s.X 1 = some (o, g, x) ∧ (k = o ∨ k = g)
  | 8, k => ∃ p pg x, s.O = some (p, pg, x) ∧ (k = p ∨ k = pg)
  | 9, k => s.V.ownBlock = some k
  | 10, k => s.N.ownBlock = some k
  | _, _ => False
/-- They are apart, and none came in. -/
structure Dj (lo : Nat) (own : Nat → Nat → Prop) (m : Nat) : Prop where
  dj : ∀ i j k, own i k → own j k → i = j
  bd : ∀ i k, own i k → lo ≤ k ∧ k < m
theorem Dj.next {lo m M i0 : Nat} {own own' : Nat → Nat → Prop} (h : Dj lo own m) (hm : m ≤ M) (hlo : lo ≤ m) (hn : ∀ i k, own' i k → own i k ∨ (i = i0 ∧ m ≤ k ∧ k < M)) : Dj lo own' M := by
  refine ⟨fun i j k h1 h2 => ?_, fun i k h1 => ?_⟩
  · rcases hn i k h1 with a | ⟨a, a2, _⟩ <;> rcases hn j k h2 with c | ⟨c, c2, _⟩
    · exact h.dj i j k a c
    · have := (h.bd i k a).2; omega
    · have := (h.bd j k c).2; omega
    · omega
  · rcases hn i k h1 with a | ⟨_, a2, a3⟩
    · have := h.bd i k a; omega
    · omega
/-- The rows that are told of what was published. -/
def rwd (n : Nat) (z0 : Nat) (dl : List Rw) : List Rw := (some ⟨z0, 0, none⟩, n, List.replicate n 0) :: dl
structure WhC (n d : Nat) (tr : Int) (s : Wh) (A : World) : Prop where
  bank : Bk A s.b s.bg s.zs s.t
  spot : Blk A s.sp (spc 0 1 2 n d)
  ops : Blk A s.ob [ptr (s.X 0), ptr (s.X 1)]
  mine : Blk A s.mb [rwv (s.R 0), rwv (s.R 1)]
  box : Blk A s.xb [.int .i64 d, .int .i64 tr]
  zero : Blk A s.z0 ((List.replicate n (0 : Int)).map (Value.int .u64))
  each0 : ∀ o g x, s.X 0 = some (o, g, x) → OpAt A o g (spS n d) (s.R 0).2.2 x
  each1 : ∀ o g x, s.X 1 = some (o, g, x) → OpAt A o g (spS n d) (s.R 1).2.2 x
  rd : ∀ p pg x, s.O = some (p, pg, x) → RdAt A p pg (spS n d) x
  done : A.ownsRow 0 42 1 s.V (s.dl.length + 1) ((rwd n s.z0 s.dl).map rwv)
  news : A.ownsRow 0 3 1 s.N s.nw.length (s.nw.map (Value.int .i64))
structure WhM (w : World) (n d : Nat) (tr : Int) (s : Wh) (A : World) : Prop where
  c : WhC n d tr s A
  dj : Dj w.heap.size s.own A.heap.size
  bel : Below w.heap.size w A
theorem owns_blocks {A B : World} {base : Nat} {e : TypeId} {size : Nat} {v : Value} {k : Nat} {xs : List Value} (h : A.ownsRow base e size v k xs) (hk : ∀ g, v.ownBlock = some g → B.heap[g]? = A.heap[g]?) : B.ownsRow base e size v k xs := by
  obtain ⟨h1, h2⟩ := h
  refine ⟨h1, ?_⟩
  rcases h2 with c | ⟨g, cap, cur, rfl, hb, hg, rest⟩
  · exact .inl c
  · exact .inr ⟨g, cap, cur, rfl, hb, (hk g rfl).trans hg, rest⟩
section
variable {w A B : World} {n d : Nat} {tr : Int} {s : Wh}
/-- Only blocks of such things turned. -/
abbrev Trn (s : Wh) (T : Nat → Prop) (A B : World) : Prop := Upd (fun k => ∃ i, T i ∧ s.own i k) A B
theorem WhM.keep {T : Nat → Prop} (h : WhM w n d tr s A) (u : Trn s T A B) {i k : Nat} (hi : ¬ T i) (ho : s.own i k) : B.heap[k]? = A.heap[k]? :=
  u.block k (h.dj.bd i k ho).2 (fun ⟨j, hj, hk⟩ => hi (by rw [h.dj.dj i j k ho hk]; exact hj))
theorem WhM.belN {T : Nat → Prop} (h : WhM w n d tr s A) (u : Trn s T A B) : Below w.heap.size w B :=
  h.bel.trans (u.below h.bel.size (fun k hk => by obtain ⟨i, _, hk⟩ := hk; exact (h.dj.bd i k hk).1))
theorem WhM.kOps {T : Nat → Prop} (h : WhM w n d tr s A) (u : Trn s T A B) (hi : ¬ T 2) : Blk B s.ob [ptr (s.X 0), ptr (s.X 1)] := h.c.ops.of_block (h.keep u hi (k := s.ob) rfl)
theorem WhM.kMine {T : Nat → Prop} (h : WhM w n d tr s A) (u : Trn s T A B) (hi : ¬ T 3) : Blk B s.mb [rwv (s.R 0), rwv (s.R 1)] := h.c.mine.of_block (h.keep u hi (k := s.mb) rfl)
theorem WhM.kBank {T : Nat → Prop} (h : WhM w n d tr s A) (u : Trn s T A B) (hi : ¬ T 0) : Bk B s.b s.bg s.zs s.t := h.c.bank.of_blocks (h.keep u hi (k := s.b) (.inl rfl)) (h.keep u hi (k := s.bg) (.inr rfl))
theorem WhM.kSpot {T : Nat → Prop} (h : WhM w n d tr s A) (u : Trn s T A B) (hi : ¬ T 1) : Blk B s.sp (spc 0 1 2 n d) := h.c.spot.of_block (h.keep u hi (k := s.sp) rfl)
theorem WhM.kBox {T : Nat → Prop} (h : WhM w n d tr s A) (u : Trn s T A B) (hi : ¬ T 4) : Blk B s.xb [.int .i64 d, .int .i64 tr] := h.c.box.of_block (h.keep u hi (k := s.xb) rfl)
theorem WhM.kZero {T : Nat → Prop} (h : WhM w n d tr s A) (u : Trn s T A B) (hi : ¬ T 5) : Blk B s.z0 ((List.replicate n (0 : Int)).map (Value.int .u64)) := h.c.zero.of_block (h.keep u hi (k := s.z0) rfl)
theorem WhM.kEach0 {T : Nat → Prop} (h : WhM w n d tr s A) (u : Trn s T A B) (hi : ¬ T 6) : ∀ o g x, s.X 0 = some (o, g, x) → OpAt B o g (spS n d) (s.R 0).2.2 x := fun o g x hx =>
  (h.c.each0 o g x hx).of_blocks (h.keep u hi (k := o) ⟨o, g, x, hx, .inl rfl⟩) (h.keep u hi (k := g) ⟨o, g, x, hx, .inr rfl⟩)
theorem WhM.kEach1 {T : Nat → Prop} (h : WhM w n d tr s A) (u : Trn s T A B) (hi : ¬ T 7) : ∀ o g x, s.X 1 = some (o, g, x) → OpAt B o g (spS n d) (s.R 1).2.2 x := fun o g x hx =>
  (h.c.each1 o g x hx).of_blocks (h.keep u hi (k := o) ⟨o, g, x, hx, .inl rfl⟩) (h.keep u hi (k := g) ⟨o, g, x, hx, .inr rfl⟩)
theorem WhM.kRd {T : Nat → Prop} (h : WhM w n d tr s A) (u : Trn s T A B) (hi : ¬ T 8) : ∀ p pg x, s.O = some (p, pg, x) → RdAt B p pg (spS n d) x := fun p pg x hx =>
  (h.c.rd p pg x hx).of_blocks (h.keep u hi (k := p) ⟨p, pg, x, hx, .inl rfl⟩) (h.keep u hi (k := pg) ⟨p, pg, x, hx, .inr rfl⟩)
theorem WhM.kDone {T : Nat → Prop} (h : WhM w n d tr s A) (u : Trn s T A B) (hi : ¬ T 9) : B.ownsRow 0 42 1 s.V (s.dl.length + 1) ((rwd n s.z0 s.dl).map rwv) := owns_blocks h.c.done (fun g hg => h.keep u hi (k := g) hg)
theorem WhM.kNews {T : Nat → Prop} (h : WhM w n d tr s A) (u : Trn s T A B) (hi : ¬ T 10) : B.ownsRow 0 3 1 s.N s.nw.length (s.nw.map (Value.int .i64)) := owns_blocks h.c.news (fun g hg => h.keep u hi (k := g) hg)
theorem WhM.low (h : WhM w n d tr s A) (u : Below A.heap.size A B) : WhM w n d tr s B := by
  have u' : Trn s (fun _ => False) A B := Upd.of_below _ u
  have z : ¬ False := fun q => q
  exact ⟨⟨h.kBank u' z, h.kSpot u' z, h.kOps u' z, h.kMine u' z, h.kBox u' z, h.kZero u' z, h.kEach0 u' z, h.kEach1 u' z, h.kRd u' z, h.kDone u' z, h.kNews u' z⟩, h.dj.next (i0 := 0) u.size h.bel.size (fun i k q => .inl q), h.belN u'⟩
theorem WhM.drew (h : WhM w n d tr s A) : WhM w n d tr s A.drew := h.low (Go.Proofs.Ytajibhhmcjcchaa.belN (Below.refl _ _) 1)
theorem two {k : Nat} (hk : k < 2) : k = 0 ∨ k = 1 := by omega
theorem WhM.op (h : WhM w n d tr s A) {k : Nat} (hk : k < 2) : A.cell? ⟨s.ob, k, none⟩ = some (ptr (s.X k)) := by
  rcases two hk with rfl | rfl
  · exact h.c.ops.cell rfl
  · exact h.c.ops.cell rfl
theorem WhM.row (h : WhM w n d tr s A) {k : Nat} (hk : k < 2) : A.cell? ⟨s.mb, k, none⟩ = some (rwv (s.R k)) := by
  rcases two hk with rfl | rfl
  · exact h.c.mine.cell rfl
  · exact h.c.mine.cell rfl
theorem WhM.each (h : WhM w n d tr s A) {k : Nat} (hk : k < 2) {o g : Nat} {x : St} (hx : s.X k = some (o, g, x)) : OpAt A o g (spS n d) (s.R k).2.2 x := by
  rcases two hk with rfl | rfl
  · exact h.c.each0 o g x hx
  · exact h.c.each1 o g x hx
theorem own_k {k : Nat} (hk : k < 2) {o g : Nat} {x : St} (hx : s.X k = some (o, g, x)) : s.own (6 + k) o ∧ s.own (6 + k) g := by
  rcases two hk with rfl | rfl
  · exact ⟨⟨o, g, x, hx, .inl rfl⟩, ⟨o, g, x, hx, .inr rfl⟩⟩
  · exact ⟨⟨o, g, x, hx, .inl rfl⟩, ⟨o, g, x, hx, .inr rfl⟩⟩
/-- A publisher and the bank are apart. -/
theorem WhM.apK (h : WhM w n d tr s A) {k : Nat} (hk : k < 2) {o g : Nat} {x : St} (hx : s.X k = some (o, g, x)) : o ≠ s.b ∧ o ≠ s.bg ∧ g ≠ s.b ∧ g ≠ s.bg := by
  obtain ⟨h1, h2⟩ := own_k hk hx
  refine ⟨fun e => ?_, fun e => ?_, fun e => ?_, fun e => ?_⟩
  · have := h.dj.dj _ 0 _ h1 (.inl e); omega
  · have := h.dj.dj _ 0 _ h1 (.inr e); omega
  · have := h.dj.dj _ 0 _ h2 (.inl e); omega
  · have := h.dj.dj _ 0 _ h2 (.inr e); omega
theorem WhM.apR (h : WhM w n d tr s A) {p pg : Nat} {x : RSt} (hx : s.O = some (p, pg, x)) : p ≠ s.b ∧ p ≠ s.bg ∧ pg ≠ s.b ∧ pg ≠ s.bg := by
  have h1 : s.own 8 p := ⟨p, pg, x, hx, .inl rfl⟩
  have h2 : s.own 8 pg := ⟨p, pg, x, hx, .inr rfl⟩
  refine ⟨fun e => ?_, fun e => ?_, fun e => ?_, fun e => ?_⟩
  · have := h.dj.dj _ 0 _ h1 (.inl e); omega
  · have := h.dj.dj _ 0 _ h1 (.inr e); omega
  · have := h.dj.dj _ 0 _ h2 (.inl e); omega
  · have := h.dj.dj _ 0 _ h2 (.inr e); omega
theorem ptr_upd (X : Ops) {k o g : Nat} {x y : St} (hx : X k = some (o, g, x)) : ptr (upd X k (some (o, g, y)) 0) = ptr (X 0) ∧ ptr (upd X k (some (o, g, y)) 1) = ptr (X 1) := by
  refine ⟨?_, ?_⟩
  · by_cases c : 0 = k
    · subst c; rw [upd_self, hx]; rfl
    · rw [upd_ne _ _ c]
  · by_cases c : 1 = k
    · subst c; rw [upd_self, hx]; rfl
    · rw [upd_ne _ _ c]
/-- A publisher's step. -/
theorem WhM.step (h : WhM w n d tr s A) {k : Nat} (hk : k < 2) {o g : Nat} {x y : St} {zs' : List Int} {t' : Int} (hx : s.X k = some (o, g, x)) (u : Upd (OwnS o s.b s.bg) A B) (hO : OpAt B o g (spS n d) (s.R k).2.2 y) (hB : Bk B s.b s.bg zs' t') :
    WhM w n d tr { s with X := upd s.X k (some (o, g, y)), zs := zs', t := t' } B := by
  obtain ⟨h1, h2⟩ := own_k hk hx
  have u' : Trn s (fun i => i = 0 ∨ i = 6 + k) A B := u.mono (fun q hq => by
    rcases hq with rfl | rfl | rfl
    · exact ⟨6 + k, .inr rfl, h1⟩
    · exact ⟨0, .inl rfl, .inl rfl⟩
    · exact ⟨0, .inl rfl, .inr rfl⟩)
  have hX : ∀ j, j < 2 → ∀ o' g' z, upd s.X k (some (o, g, y)) j = some (o', g', z) → OpAt B o' g' (spS n d) (s.R j).2.2 z := fun j hj o' g' z hz => by
    by_cases c : j = k
    · subst c
      rw [upd_self] at hz
      cases hz
      exact hO
    · rw [upd_ne _ _ c] at hz
      rcases two hj with rfl | rfl
      · exact h.kEach0 u' (by omega) o' g' z hz
      · exact h.kEach1 u' (by omega) o' g' z hz
  obtain ⟨p0, p1⟩ := ptr_upd s.X (y := y) hx
  have hop := h.kOps u' (by omega)
  refine ⟨⟨hB, h.kSpot u' (by omega), ?_, h.kMine u' (by omega), h.kBox u' (by omega), h.kZero u' (by omega), hX 0 (by omega), hX 1 (by omega), h.kRd u' (by omega), h.kDone u' (by omega), h.kNews u' (by omega)⟩, h.dj.next (i0 := 0) u.size h.bel.size (fun i q hq => .inl ?_), h.belN u'⟩
  · show Blk B s.ob [ptr (upd s.X k (some (o, g, y)) 0), ptr (upd s.X k (some (o, g, y)) 1)]
    rw [p0, p1]
    exact hop
  · have hX2 : ∀ j o' g' z, upd s.X k (some (o, g, y)) j = some (o', g', z) → ∃ z', s.X j = some (o', g', z') := fun j o' g' z hz => by
      by_cases c : j = k
      · subst c
        rw [upd_self] at hz
        cases hz
        exact ⟨x, hx⟩
      · rw [upd_ne _ _ c] at hz
        exact ⟨z, hz⟩
    match i, hq with
    | 0, hq => exact hq
    | 1, hq => exact hq
    | 2, hq => exact hq
    | 3, hq => exact hq
    | 4, hq => exact hq
    | 5, hq => exact hq
    | 6, ⟨o', g', z, hz, e⟩ => obtain ⟨z', hz'⟩ := hX2 0 o' g' z hz; exact ⟨o', g', z', hz', e⟩
    | 7, ⟨o', g', z, hz, e⟩ => obtain ⟨z', hz'⟩ := hX2 1 o' g' z hz; exact ⟨o', g', z', hz', e⟩
    | 8, hq => exact hq
    | 9, hq => exact hq
    | 10, hq => exact hq
/-- A reader's step. -/
theorem WhM.rstep (h : WhM w n d tr s A) {p pg : Nat} {x y : RSt} {t' : Int} (hx : s.O = some (p, pg, x)) (u : Upd (OwnR p pg s.b s.bg) A B) (hO : RdAt B p pg (spS n d) y) (hB : Bk B s.b s.bg s.zs t') :
    WhM w n d tr { s with O := some (p, pg, y), t := t' } B := by
  have u' : Trn s (fun i => i = 0 ∨ i = 8) A B := u.mono (fun q hq => by
    rcases hq with rfl | rfl | rfl | rfl
    · exact ⟨8, .inr rfl, _, _, _, hx, .inl rfl⟩
    · exact ⟨8, .inr rfl, _, _, _, hx, .inr rfl⟩
    · exact ⟨0, .inl rfl, .inl rfl⟩
    · exact ⟨0, .inl rfl, .inr rfl⟩)
  refine ⟨⟨hB, h.kSpot u' (by omega), h.kOps u' (by omega), h.kMine u' (by omega), h.kBox u' (by omega), h.kZero u' (by omega), h.kEach0 u' (by omega), h.kEach1 u' (by omega), fun p' pg' z hz => (by cases hz; exact hO), h.kDone u' (by omega), h.kNews u' (by omega)⟩, h.dj.next (i0 := 0) u.size h.bel.size (fun i q hq => .inl ?_), h.belN u'⟩
  match i, hq with
  | 0, hq => exact hq
  | 1, hq => exact hq
  | 2, hq => exact hq
  | 3, hq => exact hq
  | 4, hq => exact hq
  | 5, hq => exact hq
  | 6, hq => exact hq
  | 7, hq => exact hq
  | 8, ⟨_, _, _, hz, e⟩ => cases hz; exact ⟨p, pg, x, hx, e⟩
  | 9, hq => exact hq
  | 10, hq => exact hq
/-- The reader has ended. -/
theorem WhM.rdrop (h : WhM w n d tr s A) : WhM w n d tr { s with O := none } A :=
  ⟨⟨h.c.bank, h.c.spot, h.c.ops, h.c.mine, h.c.box, h.c.zero, h.c.each0, h.c.each1, fun _ _ _ hz => (by cases hz), h.c.done, h.c.news⟩, h.dj.next (i0 := 0) (Nat.le_refl _) h.bel.size (fun i q hq => .inl (by
    match i, hq with
    | 0, hq => exact hq
    | 1, hq => exact hq
    | 2, hq => exact hq
    | 3, hq => exact hq
    | 4, hq => exact hq
    | 5, hq => exact hq
    | 6, hq => exact hq
    | 7, hq => exact hq
    | 8, ⟨_, _, _, hz, _⟩ => cases hz
    | 9, hq => exact hq
    | 10, hq => exact hq)), h.bel⟩
/-- A new reader. -/
theorem WhM.rnew (h : WhM w n d tr s A) {p pg : Nat} {y : RSt} (u : Below A.heap.size A B) (hO : RdAt B p pg (spS n d) y) (h1 : A.heap.size ≤ p) (h2 : A.heap.size ≤ pg) :
    WhM w n d tr { s with O := some (p, pg, y), N := .slice none 0 0, nw := [] } B := by
  have hB := h.low u
  refine ⟨⟨hB.c.bank, hB.c.spot, hB.c.ops, hB.c.mine, hB.c.box, hB.c.zero, hB.c.each0, hB.c.each1, fun _ _ _ hz => (by cases hz; exact hO), hB.c.done, World.ownsRow_nil _ _ _ _⟩, h.dj.next (i0 := 8) u.size h.bel.size (fun i q hq => ?_), hB.bel⟩
  match i, hq with
  | 0, hq => exact .inl hq
  | 1, hq => exact .inl hq
  | 2, hq => exact .inl hq
  | 3, hq => exact .inl hq
  | 4, hq => exact .inl hq
  | 5, hq => exact .inl hq
  | 6, hq => exact .inl hq
  | 7, hq => exact .inl hq
  | 8, ⟨_, _, _, hz, e⟩ =>
    cases hz
    have l1 := hO.lto
    have l2 := hO.ltg
    exact .inr ⟨rfl, by omega, by omega⟩
  | 9, hq => exact .inl hq
  | 10, hq => cases hq
/-- The list of those that are under way: one that ended is struck. -/
theorem WhM.drop (h : WhM w n d tr s A) {k : Nat} (hk : k < 2) : WhM w n d tr { s with X := upd s.X k none } (A.setCell ⟨s.ob, k, none⟩ (.pointer none)) := by
  have u' : Trn s (fun i => i = 2) A (A.setCell ⟨s.ob, k, none⟩ (.pointer none)) := (Upd.refl _ A).setCell (p := ⟨s.ob, k, none⟩) (.inl ⟨2, rfl, rfl⟩) _
  have hX2 : ∀ j o' g' z, upd s.X k none j = some (o', g', z) → s.X j = some (o', g', z) := fun j o' g' z hz => by
    by_cases c : j = k
    · subst c
      rw [upd_self] at hz
      cases hz
    · rw [upd_ne _ _ c] at hz
      exact hz
  refine ⟨⟨h.kBank u' (by omega), h.kSpot u' (by omega), ?_, h.kMine u' (by omega), h.kBox u' (by omega), h.kZero u' (by omega), fun o g x hx => h.kEach0 u' (by omega) o g x (hX2 0 o g x hx), fun o g x hx => h.kEach1 u' (by omega) o g x (hX2 1 o g x hx), h.kRd u' (by omega), h.kDone u' (by omega), h.kNews u' (by omega)⟩, h.dj.next (i0 := 0) u'.size h.bel.size (fun i q hq => .inl ?_), h.belN u'⟩
  · have := h.c.ops.put k (.pointer none)
    have e : [ptr (s.X 0), ptr (s.X 1)].set k (.pointer none) = [ptr (upd s.X k none 0), ptr (upd s.X k none 1)] := by
      rcases two hk with rfl | rfl
      · rfl
      · rfl
    rw [e] at this
    exact this
  · match i, hq with
    | 0, hq => exact hq
    | 1, hq => exact hq
    | 2, hq => exact hq
    | 3, hq => exact hq
    | 4, hq => exact hq
    | 5, hq => exact hq
    | 6, ⟨o', g', z, hz, e⟩ => exact ⟨o', g', z, hX2 0 o' g' z hz, e⟩
    | 7, ⟨o', g', z, hz, e⟩ => exact ⟨o', g', z, hX2 1 o' g' z hz, e⟩
    | 8, hq => exact hq
    | 9, hq => exact hq
    | 10, hq => exact hq
/-- Which record is published next by one that is not under way. -/
theorem WhM.setRow (h : WhM w n d tr s A) {k : Nat} (hk : k < 2) (hx : s.X k = none) (r : Rw) : WhM w n d tr { s with R := fun j => if j = k then r else s.R j } (A.setCell ⟨s.mb, k, none⟩ (rwv r)) := by
  have u' : Trn s (fun i => i = 3) A (A.setCell ⟨s.mb, k, none⟩ (rwv r)) := (Upd.refl _ A).setCell (p := ⟨s.mb, k, none⟩) (.inl ⟨3, rfl, rfl⟩) _
  refine ⟨⟨h.kBank u' (by omega), h.kSpot u' (by omega), h.kOps u' (by omega), ?_, h.kBox u' (by omega), h.kZero u' (by omega), fun o g x hx' => ?_, fun o g x hx' => ?_, h.kRd u' (by omega), h.kDone u' (by omega), h.kNews u' (by omega)⟩, h.dj.next (i0 := 0) u'.size h.bel.size (fun i q hq => .inl ?_), h.belN u'⟩
  · have := h.c.mine.put k (rwv r)
    have e : [rwv (s.R 0), rwv (s.R 1)].set k (rwv r) = [rwv (if 0 = k then r else s.R 0), rwv (if 1 = k then r else s.R 1)] := by
      rcases two hk with rfl | rfl
      · rfl
      · rfl
    rw [e] at this
    exact this
  · have hne : ¬ 0 = k := fun c => by subst c; rw [show s.X 0 = some (o, g, x) from hx'] at hx; cases hx
    have := h.kEach0 u' (by omega) o g x hx'
    show OpAt _ o g _ (if 0 = k then r else s.R 0).2.2 x
    rw [if_neg hne]
    exact this
  · have hne : ¬ 1 = k := fun c => by subst c; rw [show s.X 1 = some (o, g, x) from hx'] at hx; cases hx
    have := h.kEach1 u' (by omega) o g x hx'
    show OpAt _ o g _ (if 1 = k then r else s.R 1).2.2 x
    rw [if_neg hne]
    exact this
  · match i, hq with
    | 0, hq => exact hq
    | 1, hq => exact hq
    | 2, hq => exact hq
    | 3, hq => exact hq
    | 4, hq => exact hq
    | 5, hq => exact hq
    | 6, hq => exact hq
    | 7, hq => exact hq
    | 8, hq => exact hq
    | 9, hq => exact hq
    | 10, hq => exact hq
/-- A new publisher, at two new blocks. -/
theorem WhM.put (h : WhM w n d tr s A) {k : Nat} (hk : k < 2) {o g : Nat} {x : St} (m : Nat) (hO : OpAt A o g (spS n d) (s.R k).2.2 x) (hm : ∀ i q, s.own i q → q < m) (h1 : m ≤ o) (h2 : m ≤ g) (hlo : w.heap.size ≤ m) :
    WhM w n d tr { s with X := upd s.X k (some (o, g, x)) } (A.setCell ⟨s.ob, k, none⟩ (.pointer (some ⟨o, 0, none⟩))) := by
  have u' : Trn s (fun i => i = 2) A (A.setCell ⟨s.ob, k, none⟩ (.pointer (some ⟨o, 0, none⟩))) := (Upd.refl _ A).setCell (p := ⟨s.ob, k, none⟩) (.inl ⟨2, rfl, rfl⟩) _
  have hob : s.ob < m := hm 2 _ rfl
  have hO' : OpAt (A.setCell ⟨s.ob, k, none⟩ (.pointer (some ⟨o, 0, none⟩))) o g (spS n d) (s.R k).2.2 x := hO.setFar (p := ⟨s.ob, k, none⟩) (by show o ≠ s.ob; omega) (by show g ≠ s.ob; omega) _
  have lO := hO.lto
  have lG := hO.ltg
  have hX : ∀ j, j < 2 → ∀ o' g' z, upd s.X k (some (o, g, x)) j = some (o', g', z) → OpAt (A.setCell ⟨s.ob, k, none⟩ (.pointer (some ⟨o, 0, none⟩))) o' g' (spS n d) (s.R j).2.2 z := fun j hj o' g' z hz => by
    by_cases c : j = k
    · subst c
      rw [upd_self] at hz
      cases hz
      exact hO'
    · rw [upd_ne _ _ c] at hz
      rcases two hj with rfl | rfl
      · exact h.kEach0 u' (by omega) o' g' z hz
      · exact h.kEach1 u' (by omega) o' g' z hz
  refine ⟨⟨h.kBank u' (by omega), h.kSpot u' (by omega), ?_, h.kMine u' (by omega), h.kBox u' (by omega), h.kZero u' (by omega), hX 0 (by omega), hX 1 (by omega), h.kRd u' (by omega), h.kDone u' (by omega), h.kNews u' (by omega)⟩, ?_, h.belN u'⟩
  · have := h.c.ops.put k (.pointer (some ⟨o, 0, none⟩))
    have e : [ptr (s.X 0), ptr (s.X 1)].set k (.pointer (some ⟨o, 0, none⟩)) = [ptr (upd s.X k (some (o, g, x)) 0), ptr (upd s.X k (some (o, g, x)) 1)] := by
      rcases two hk with rfl | rfl
      · rfl
      · rfl
    rw [e] at this
    exact this
  · have hd : Dj w.heap.size s.own m := ⟨h.dj.dj, fun i q hq => ⟨(h.dj.bd i q hq).1, hm i q hq⟩⟩
    have hsz : (A.setCell ⟨s.ob, k, none⟩ (.pointer (some ⟨o, 0, none⟩))).heap.size = A.heap.size := by simp [World.setCell]
    rw [hsz]
    have hX2 : ∀ j o' g' z, upd s.X k (some (o, g, x)) j = some (o', g', z) → (j = k ∧ o' = o ∧ g' = g) ∨ (s.X j = some (o', g', z)) := fun j o' g' z hz => by
      by_cases c : j = k
      · subst c
        rw [upd_self] at hz
        cases hz
        exact .inl ⟨rfl, rfl, rfl⟩
      · rw [upd_ne _ _ c] at hz
        exact .inr hz
    refine hd.next (i0 := 6 + k) (by omega) hlo (fun i q hq => ?_)
    match i, hq with
    | 0, hq => exact .inl hq
    | 1, hq => exact .inl hq
    | 2, hq => exact .inl hq
    | 3, hq => exact .inl hq
    | 4, hq => exact .inl hq
    | 5, hq => exact .inl hq
    | 6, ⟨o', g', z, hz, e⟩ =>
      rcases hX2 0 o' g' z hz with ⟨c, rfl, rfl⟩ | c
      · exact .inr ⟨by omega, by omega, by omega⟩
      · exact .inl ⟨o', g', z, c, e⟩
    | 7, ⟨o', g', z, hz, e⟩ =>
      rcases hX2 1 o' g' z hz with ⟨c, rfl, rfl⟩ | c
      · exact .inr ⟨by omega, by omega, by omega⟩
      · exact .inl ⟨o', g', z, c, e⟩
    | 8, hq => exact .inl hq
    | 9, hq => exact .inl hq
    | 10, hq => exact .inl hq
/-- The list of what was published has grown. -/
theorem WhM.grow (h : WhM w n d tr s A) {V' : Value} {r : Rw} (u : A.grownBy B s.V.ownBlock) (hV : V'.ownBlock = s.V.ownBlock ∨ ∀ q, V'.ownBlock = some q → A.heap.size ≤ q ∧ q < B.heap.size) (hD : B.ownsRow 0 42 1 V' (s.dl.length + 1 + 1) ((rwd n s.z0 s.dl).map rwv ++ [rwv r])) :
    WhM w n d tr { s with V := V', dl := s.dl ++ [r] } B := by
  have u' : Trn s (fun i => i = 9) A B := ⟨u.os, u.tape, u.output, u.size, fun k hk hn => u.block k hk (fun e => hn ⟨9, rfl, e.symm⟩)⟩
  refine ⟨⟨h.kBank u' (by omega), h.kSpot u' (by omega), h.kOps u' (by omega), h.kMine u' (by omega), h.kBox u' (by omega), h.kZero u' (by omega), h.kEach0 u' (by omega), h.kEach1 u' (by omega), h.kRd u' (by omega), ?_, h.kNews u' (by omega)⟩, h.dj.next (i0 := 9) u.size h.bel.size (fun i q hq => ?_), h.belN u'⟩
  · show B.ownsRow 0 42 1 V' ((s.dl ++ [r]).length + 1) ((rwd n s.z0 (s.dl ++ [r])).map rwv)
    rw [show (s.dl ++ [r]).length + 1 = s.dl.length + 1 + 1 by simp, show (rwd n s.z0 (s.dl ++ [r])).map rwv = (rwd n s.z0 s.dl).map rwv ++ [rwv r] by simp [rwd]]
    exact hD
  · match i, hq with
    | 0, hq => exact .inl hq
    | 1, hq => exact .inl hq
    | 2, hq => exact .inl hq
    | 3, hq => exact .inl hq
    | 4, hq => exact .inl hq
    | 5, hq => exact .inl hq
    | 6, hq => exact .inl hq
    | 7, hq => exact .inl hq
    | 8, hq => exact .inl hq
    | 9, hq =>
      rcases hV with c | c
      · exact .inl (c.symm.trans hq)
      · have := c q hq
        exact .inr ⟨rfl, this.1, this.2⟩
    | 10, hq => exact .inl hq
/-- The reader's list has grown. -/
theorem WhM.growN (h : WhM w n d tr s A) {N' : Value} {a : Int} (u : A.grownBy B s.N.ownBlock) (hV : N'.ownBlock = s.N.ownBlock ∨ ∀ q, N'.ownBlock = some q → A.heap.size ≤ q ∧ q < B.heap.size) (hD : B.ownsRow 0 3 1 N' (s.nw.length + 1) (s.nw.map (Value.int .i64) ++ [.int .i64 a])) :
    WhM w n d tr { s with N := N', nw := s.nw ++ [a] } B := by
  have u' : Trn s (fun i => i = 10) A B := ⟨u.os, u.tape, u.output, u.size, fun k hk hn => u.block k hk (fun e => hn ⟨10, rfl, e.symm⟩)⟩
  refine ⟨⟨h.kBank u' (by omega), h.kSpot u' (by omega), h.kOps u' (by omega), h.kMine u' (by omega), h.kBox u' (by omega), h.kZero u' (by omega), h.kEach0 u' (by omega), h.kEach1 u' (by omega), h.kRd u' (by omega), h.kDone u' (by omega), ?_⟩, h.dj.next (i0 := 10) u.size h.bel.size (fun i q hq => ?_), h.belN u'⟩
  · show B.ownsRow 0 3 1 N' (s.nw ++ [a]).length ((s.nw ++ [a]).map (Value.int .i64))
    rw [show (s.nw ++ [a]).length = s.nw.length + 1 by simp, List.map_append]
    exact hD
  · match i, hq with
    | 0, hq => exact .inl hq
    | 1, hq => exact .inl hq
    | 2, hq => exact .inl hq
    | 3, hq => exact .inl hq
    | 4, hq => exact .inl hq
    | 5, hq => exact .inl hq
    | 6, hq => exact .inl hq
    | 7, hq => exact .inl hq
    | 8, hq => exact .inl hq
    | 9, hq => exact .inl hq
    | 10, hq =>
      rcases hV with c | c
      · exact .inl (c.symm.trans hq)
      · have := c q hq
        exact .inr ⟨rfl, this.1, this.2⟩
end
/-- One cell more at the end of a list of its own. -/
theorem append_one {P : Program} (w : World) (t e : TypeId) (i : TypeInfo) (z : Value) (bytes : Nat) (ht : P.underlying t = some (.slice e)) (hi : P.info? e = some i) (hz : i.zero = some z) (hs : i.size = 1) (hb : i.bytes = bytes) (hzs : z.cells.size = 1) (hby : bytes ≤ 24)
    (v : Value) (k : Nat) (xs : List Value) (hown : w.ownsRow 0 e 1 v k xs) (q : Nat) (u : Value) (hq : w.cell? ⟨q, 0, none⟩ = some u) (h1 : u.oneCell' = true) (hk : k ≤ 100000) :
    ∃ v' w', (Builtin.append_ #[t, t] t #[v, .slice (some ⟨q, 0, none⟩) 1 1]).run P w = .ok v' w' ∧ w'.ownsRow 0 e 1 v' (k + 1) (xs ++ [u]) ∧ w.grownBy w' v.ownBlock ∧ (v'.ownBlock = v.ownBlock ∨ ∀ p, v'.ownBlock = some p → w.heap.size ≤ p ∧ p < w'.heap.size) := by
  have hnews : ∀ (j : Nat) (y : Value), [u][j]? = some y → w.cell? ((⟨q, 0, none⟩ : Addr).add j) = some y := fun j y hy => by
    match j, hy with
    | 0, hy => cases hy; exact hq
  have hone : ∀ y ∈ [u], y.oneCell' = true := fun y hy => by
    simp only [List.mem_cons, List.not_mem_nil, or_false] at hy
    exact hy ▸ h1
  have hml : k + 1 ≤ maxLen := by simp only [maxLen]; omega
  have hbb : (k + 1) * bytes ≤ 140737488355328 := by
    have := Nat.mul_le_mul (show k + 1 ≤ 100001 by omega) hby
    omega
  have fresh : ∀ v' (w' : World), w'.ownsRow w.heap.size e 1 v' (k + 1) (xs ++ [u]) → w'.ownsRow 0 e 1 v' (k + 1) (xs ++ [u]) ∧ ∀ p, v'.ownBlock = some p → w.heap.size ≤ p ∧ p < w'.heap.size := fun v' w' h => by
    obtain ⟨h1, h2⟩ := h
    rcases h2 with ⟨rfl, c⟩ | ⟨g, cap, cur, rfl, hb, hg, rest⟩
    · omega
    · refine ⟨⟨h1, .inr ⟨g, cap, cur, rfl, Nat.zero_le _, hg, rest⟩⟩, fun p hp => ?_⟩
      have e : g = p := by simpa [Value.ownBlock] using hp
      exact e ▸ ⟨hb, (Array.getElem?_eq_some_iff.1 hg).1⟩
  obtain ⟨hl, hc⟩ := hown
  rcases hc with ⟨rfl, rfl⟩ | ⟨g, cap, cur, rfl, _, hg, hkc, hcm, hcs, htk⟩
  · have hx : xs = [] := List.eq_nil_of_length_eq_zero (by simpa using hl)
    subst hx
    obtain ⟨v', w', hr, ho, hgr, _⟩ := run_append_own (P := P) w w.heap.size t t e i z 1 bytes ht hi hz hs hb hzs (by omega) (.slice none 0 0) 0 [] (World.ownsRow_nil _ _ _ _) ⟨q, 0, none⟩ 1 1 [u] rfl hnews hone (by simp only [maxLen]; omega) (by omega) (Nat.le_refl _)
    obtain ⟨f1, f2⟩ := fresh v' w' (by simpa using ho)
    exact ⟨v', w', hr, by simpa using f1, hgr, .inr f2⟩
  · by_cases hroom : k + 1 ≤ cap
    · have hr := run_append_room (P := P) w t t e i ht hi g k cap cur hg ⟨q, 0, none⟩ 1 1 [u] (by rw [hs]; rfl) hnews hone hroom (by rw [hs, hcs]; simp; omega)
      refine ⟨_, _, hr, ⟨by simp [hl], .inr ⟨g, cap, _, rfl, Nat.zero_le _, setRow_heap w g cur _ e _ hg, hroom, hcm, ?_, ?_⟩⟩, ⟨rfl, rfl, rfl, by simp, fun j _ hj => setRow_other w g j _ (fun c => hj (by simp [Value.ownBlock, c]))⟩, .inl rfl⟩
      · simp only [List.size_toArray, List.length_append, List.length_take, List.length_drop, Array.length_toList, hs, hcs]
        simp
        omega
      · simp only [hs, Nat.mul_one] at htk ⊢
        rw [htk]
        have e : (xs ++ [u]).length = k + 1 := by simp [hl]
        show List.take (k + 1) (xs ++ [u] ++ _) = _
        rw [← e]
        exact List.take_left
    · have holds : ∀ (j : Nat) (y : Value), xs[j]? = some y → w.cell? ((⟨g, 0, none⟩ : Addr).add j) = some y := World.ownsRow.cells (w := w) (base := 0) (e := e) (size := 1) (n := k) ⟨hl, .inr ⟨g, cap, cur, rfl, Nat.zero_le _, hg, hkc, hcm, hcs, htk⟩⟩ rfl
      obtain ⟨v', w', hr, ho, hgr⟩ := run_append_arg_grows (P := P) w t t e i z 1 bytes ht hi hz hs hb hzs (by omega) ⟨g, 0, none⟩ k cap xs (by simpa using hl) holds ⟨q, 0, none⟩ 1 1 [u] rfl hnews (by omega) hml hbb
      obtain ⟨f1, f2⟩ := fresh v' w' ho
      exact ⟨v', w', hr, f1, ⟨hgr.os, hgr.tape, hgr.output, hgr.size, fun j hj _ => hgr.block j hj (by simp)⟩, .inr f2⟩
end Go.Proofs.Ytajibhhmcjcchaa
