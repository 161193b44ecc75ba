/- ReadSteps: a reading beside the document's, as they lie in memory. -/
import Derived.Test.YtajibhhmcjcchaaRrB
import Derived.Test.YtajibhhmcjcchaaRrC
namespace Go.Proofs.Ytajibhhmcjcchaa
open Go.RowKit
section
variable {w : World} {o wb : Nat} {V : Value} {S : Sp} {tr : Int} {x : RSt} {ys : List Int}
theorem rr_any (h : RrAt w o V S tr x) (hB : Row w wb ys) (hne : o ≠ wb) (hvw : V.ownBlock ≠ some wb) (hw : RWf S x) (t1 : x.left ≤ tr) (t2 : tr ≤ 16) (p0 : 0 ≤ x.steps) (p1 : x.steps ≤ 1000000) (hyl : ys.length ≤ 1000) (hu : ∀ v ∈ ys, U64 v) :
    Calls Try.prog 15 #[.pointer (some ⟨o, 0, none⟩), .slice (some ⟨wb, 0, none⟩) ys.length ys.length] w (RrPost o wb V S tr ys (rst S ys x).1 w) := by
  unfold rst
  by_cases hh : x.how = 0
  · rw [if_neg (fun c => c hh)]
    have hl := hw.l0
    have hl2 := hw.l2
    cases hv : getI ys (rdl S x) with
    | none =>
      rcases (show x.line = 0 ∨ x.line = 1 ∨ x.line = 2 by omega) with l | l | l
      · exact rr_out0 h hB hne hvw hw hh t1 t2 p0 p1 hyl l hv
      · exact rr_out1 h hB hne hvw hw hh t1 t2 p0 p1 hyl l hv
      · exact rr_out2 h hB hne hvw hw hh t1 t2 p0 p1 hyl l hv
    | some v =>
      have uv : U64 v := hu v (List.mem_of_getElem? (getI_some hv).2)
      dsimp only
      by_cases l0 : x.line = 0
      · rw [if_pos l0]
        exact rr_new h hB hne hvw hw hh t1 t2 p0 p1 hyl l0 v hv uv
      · rw [if_neg l0]
        by_cases l1 : x.line = 1
        · rw [if_pos l1]
          by_cases hm : (x.rw.length : Int) + 1 = S.wd
          · rw [if_pos hm]; exact rr_word_last h hB hne hvw hw hh t1 t2 p0 p1 hyl l1 v hv uv hm
          · rw [if_neg hm]; exact rr_word h hB hne hvw hw hh t1 t2 p0 p1 hyl l1 v hv uv hm
        · rw [if_neg l1]
          have l2 : x.line = 2 := by omega
          cases hk : Sq.kp v x.gen S.dp with
          | true => rw [if_pos rfl]; exact rr_kept h hB hne hvw hw hh t1 t2 p0 p1 hyl l2 v hv uv hk
          | false =>
            rw [if_neg (by simp)]
            by_cases hf : tr - x.left + 1 = tr
            · exact rr_spent h hB hne hvw hw hh t1 t2 p0 p1 hyl l2 v hv uv hk hf
            · exact rr_again h hB hne hvw hw hh t1 t2 p0 p1 hyl l2 v hv uv hk hf
  · rw [if_pos hh]
    refine (rr_ended h _ hh).mono ?_
    rintro e w' ⟨rfl, rfl⟩
    exact ⟨rfl, V, h, hB, Upd.refl _ _, .inl rfl⟩
end
/-- What lies in memory, by its places. -/
structure Rs where
  b : Nat
  bg : Nat
  wb : Nat
  xb : Nat
  p : Nat
  pg : Nat
  o : Nat
  V : Value
  x : RSt
  y : RSt
  zs : List Int
  t : Int
/-- Which blocks each thing has. -/
def Rs.own (s : Rs) : Nat → Nat → Prop
  | 0, k => k = s.b ∨ k = s.bg
  | 1, k => k = s.wb
  | 2, k => k = s.xb
  | 3, k => k = s.p ∨ k = s.pg
  | 4, k => k = s.o
  | 5, k => s.V.ownBlock = some k
  | _, _ => False
/-- The job's cells. -/
def jbx (S : Sp) (tr : Int) : List Value := [.int .i64 S.ow, .int .i64 S.sq, .int .i64 S.fs, .int .i64 S.wd, .int .i64 S.dp, .int .i64 tr]
structure RsM (w : World) (S : Sp) (tr : Int) (s : Rs) (A : World) : Prop where
  bank : Bk A s.b s.bg s.zs s.t
  wds : Row A s.wb s.zs
  box : Blk A s.xb (jbx S tr)
  rd : RdAt A s.p s.pg S s.x
  rr : RrAt A s.o s.V S tr s.y
  dj : Dj w.heap.size s.own A.heap.size
  bel : Below w.heap.size w A
section
variable {w A B : World} {S : Sp} {tr : Int} {s : Rs}
abbrev TrnR (s : Rs) (T : Nat → Prop) (A B : World) : Prop := Upd (fun k => ∃ i, T i ∧ s.own i k) A B
theorem RsM.keep {T : Nat → Prop} (h : RsM w S tr s A) (u : TrnR s T A B) {i k : Nat} (hi : ¬ T i) (ho : s.own i k) : B.heap[k]? = A.heap[k]? :=
  u.block k (h.dj.bd i k ho).2 (fun ⟨j, hj, hk⟩ => hi (by rw [h.dj.dj i j k ho hk]; exact hj))
theorem RsM.belN {T : Nat → Prop} (h : RsM w S tr s A) (u : TrnR s T A B) : Below w.heap.size w B :=
  h.bel.trans (u.below h.bel.size (fun k hk => by obtain ⟨i, _, hk⟩ := hk; exact (h.dj.bd i k hk).1))
theorem RsM.kBank {T : Nat → Prop} (h : RsM w S tr s A) (u : TrnR s T A B) (hi : ¬ T 0) : Bk B s.b s.bg s.zs s.t := h.bank.of_blocks (h.keep u hi (k := s.b) (.inl rfl)) (h.keep u hi (k := s.bg) (.inr rfl))
theorem RsM.kWds {T : Nat → Prop} (h : RsM w S tr s A) (u : TrnR s T A B) (hi : ¬ T 1) : Row B s.wb s.zs := h.wds.of_block (h.keep u hi (k := s.wb) rfl)
theorem RsM.kBox {T : Nat → Prop} (h : RsM w S tr s A) (u : TrnR s T A B) (hi : ¬ T 2) : Blk B s.xb (jbx S tr) := h.box.of_block (h.keep u hi (k := s.xb) rfl)
theorem RsM.kRd {T : Nat → Prop} (h : RsM w S tr s A) (u : TrnR s T A B) (hi : ¬ T 3) : RdAt B s.p s.pg S s.x := h.rd.of_blocks (h.keep u hi (k := s.p) (.inl rfl)) (h.keep u hi (k := s.pg) (.inr rfl))
theorem RsM.kRr {T : Nat → Prop} (h : RsM w S tr s A) (u : TrnR s T A B) (hi : ¬ T 4) (hj : ¬ T 5) : RrAt B s.o s.V S tr s.y :=
  ⟨h.rr.cells.of_block (h.keep u hi (k := s.o) rfl), owns_blocks h.rr.words (fun g hg => h.keep u hj (k := g) hg), h.rr.ne⟩
theorem RsM.low (h : RsM w S tr s A) (u : Below A.heap.size A B) : RsM w S tr s B := by
  have u' : TrnR s (fun _ => False) A B := Upd.of_below _ u
  have z : ¬ False := fun q => q
  exact ⟨h.kBank u' z, h.kWds u' z, h.kBox u' z, h.kRd u' z, h.kRr u' z z, h.dj.next (i0 := 0) u.size h.bel.size (fun i k q => .inl q), h.belN u'⟩
theorem RsM.drew (h : RsM w S tr s A) : RsM w S tr s A.drew := h.low (Go.Proofs.Ytajibhhmcjcchaa.belN (Below.refl _ _) 1)
theorem RsM.ap (h : RsM w S tr s A) : s.p ≠ s.b ∧ s.p ≠ s.bg ∧ s.pg ≠ s.b ∧ s.pg ≠ s.bg ∧ s.o ≠ s.wb ∧ s.V.ownBlock ≠ some s.wb := by
  have h1 : s.own 3 s.p := .inl rfl
  have h2 : s.own 3 s.pg := .inr rfl
  refine ⟨fun e => ?_, fun e => ?_, fun e => ?_, fun e => ?_, fun e => ?_, fun e => ?_⟩
  · have := h.dj.dj _ 0 _ h1 (.inl e); omega
  · have := h.dj.dj _ 0 _ h1 (.inr e); omega
  · have := h.dj.dj _ 0 _ h2 (.inl e); omega
  · have := h.dj.dj _ 0 _ h2 (.inr e); omega
  · have := h.dj.dj 4 1 s.o rfl e; omega
  · have := h.dj.dj 5 1 s.wb e rfl; omega
/-- Somebody's store, into the bank and into the words. -/
theorem RsM.store (h : RsM w S tr s A) {a : Nat} {v t' : Int} (u : Upd (Own s.b s.bg) A B) (hB : Bk B s.b s.bg (s.zs.set a v) t') : RsM w S tr { s with zs := s.zs.set a v, t := t' } (B.setCell ⟨s.wb, a, none⟩ (.int .u64 v)) := by
  have u1 : TrnR s (fun i => i = 0 ∨ i = 1) A (B.setCell ⟨s.wb, a, none⟩ (.int .u64 v)) := (u.mono (fun q hq => by
    rcases hq with rfl | rfl
    · exact ⟨0, .inl rfl, .inl rfl⟩
    · exact ⟨0, .inl rfl, .inr rfl⟩)).setCell (p := ⟨s.wb, a, none⟩) (.inl ⟨1, .inr rfl, rfl⟩) _
  have hwb : ¬ Own s.b s.bg s.wb := fun c => by
    have h1 : s.own 0 s.wb := c
    have := h.dj.dj 0 1 _ h1 rfl
    omega
  refine ⟨hB.setFar (fun e => hwb (.inl e.symm)) (fun e => hwb (.inr e.symm)) _, (h.wds.upd u hwb).put a v, h.kBox u1 (by omega), h.kRd u1 (by omega), h.kRr u1 (by omega) (by omega), h.dj.next (i0 := 0) u1.size h.bel.size (fun i k q => .inl ?_), h.belN u1⟩
  match i, q with
  | 0, q => exact q
  | 1, q => exact q
  | 2, q => exact q
  | 3, q => exact q
  | 4, q => exact q
  | 5, q => exact q
/-- A step of the document's. -/
theorem RsM.docstep (h : RsM w S tr s A) {V' : Value} {y : RSt} (u : Upd (fun k => k = s.o ∨ s.V.ownBlock = some k) A B) (hr : RrAt B s.o V' S tr y) (hv : V'.ownBlock = s.V.ownBlock ∨ V'.ownBlock = none ∨ ∀ q, V'.ownBlock = some q → A.heap.size ≤ q ∧ q < B.heap.size) :
    RsM w S tr { s with V := V', y := y } B := by
  have u1 : TrnR s (fun i => i = 4 ∨ i = 5) A B := u.mono (fun q hq => by
    rcases hq with rfl | hq
    · exact ⟨4, .inl rfl, rfl⟩
    · exact ⟨5, .inr rfl, hq⟩)
  refine ⟨h.kBank u1 (by omega), h.kWds u1 (by omega), h.kBox u1 (by omega), h.kRd u1 (by omega), hr, h.dj.next (i0 := 5) u1.size h.bel.size (fun i k q => ?_), h.belN u1⟩
  match i, q with
  | 0, q => exact .inl q
  | 1, q => exact .inl q
  | 2, q => exact .inl q
  | 3, q => exact .inl q
  | 4, q => exact .inl q
  | 5, q =>
    have q : V'.ownBlock = some k := q
    rcases hv with c | c | c
    · exact .inl (c.symm.trans q)
    · rw [c] at q; cases q
    · exact .inr ⟨rfl, c k q⟩
/-- A step of the reading. -/
theorem RsM.step (h : RsM w S tr s A) {y : RSt} {t' : Int} (u : Upd (OwnR s.p s.pg s.b s.bg) A B) (hO : RdAt B s.p s.pg S y) (hB : Bk B s.b s.bg s.zs t') : RsM w S tr { s with x := y, t := t' } B := by
  have u1 : TrnR s (fun i => i = 0 ∨ i = 3) A B := u.mono (fun q hq => by
    rcases hq with rfl | rfl | rfl | rfl
    · exact ⟨3, .inr rfl, .inl rfl⟩
    · exact ⟨3, .inr rfl, .inr rfl⟩
    · exact ⟨0, .inl rfl, .inl rfl⟩
    · exact ⟨0, .inl rfl, .inr rfl⟩)
  refine ⟨hB, h.kWds u1 (by omega), h.kBox u1 (by omega), hO, h.kRr u1 (by omega) (by omega), h.dj.next (i0 := 0) u1.size h.bel.size (fun i k q => .inl ?_), h.belN u1⟩
  match i, q with
  | 0, q => exact q
  | 1, q => exact q
  | 2, q => exact q
  | 3, q => exact q
  | 4, q => exact q
  | 5, q => exact q
end
theorem left_rst (S : Sp) (xs : List Int) (x : RSt) : (rst S xs x).1.left ≤ x.left := by
  unfold rst
  (repeat' split) <;> simp [ragn]
  omega
/-- A reading that is done has all its words. -/
theorem done_rst {S : Sp} {xs : List Int} {x : RSt} (h : x.how = 1 → (x.rw.length : Int) ≤ 64) (hw : RWf S x) : (rst S xs x).1.how = 1 → ((rst S xs x).1.rw.length : Int) ≤ 64 := by
  intro hd
  have h64 := hw.rt.2.1
  have hl := hw.len
  revert hd
  unfold rst
  split
  · exact h
  · split
    · intro c; exact absurd (show (3 : Int) = 1 from c) (by omega)
    · rename_i v _
      split
      · intro _; show (([] : List Int).length : Int) ≤ 64; simp
      · split
        · intro c
          have c' : x.how = 1 := c
          rename_i hh _ _ _ _
          exact absurd c' (by omega)
        · split
          · intro _; show (x.rw.length : Int) ≤ 64; omega
          · intro _; show (x.rw.length : Int) ≤ 64; omega
end Go.Proofs.Ytajibhhmcjcchaa
