/- SnapSteps: a snapshot beside the document's, as they lie in memory. -/
import Derived.Test.YtflgggfomhifeaaSnP
import Derived.Test.YtflgggfomhifeaaTwM
import Derived.Test.YtflgggfomhifeaaRnB
import Derived.Test.YtflgggfomhifeaaRnE
import Derived.Test.YtflgggfomhifeaaRnH
namespace Go.Proofs.Ytflgggfomhifeaa
open Go.RowKit
section
variable {SS : List Sp} {xs : List Int} {x : NSt} {v : Int}
theorem nst_none (hh : x.how = 0) (hv : getI xs (nxl SS x) = none) : (nst SS xs x).1 = { x with how := 3 } := by
  unfold nst
  rw [if_neg (fun c => c hh), hv]
theorem nst_0l (hh : x.how = 0) (hv : getI xs (nxl SS x) = some v) (l : x.line = 0) (e : x.k + 1 = SS.length) : (nst SS xs x).1 = { x with steps := x.steps + 1, tl := x.tl ++ [v / 2], k := 0, bgn := x.steps + 1, line := 1 } := by
  unfold nst
  rw [if_neg (fun c => c hh), hv]
  dsimp only
  rw [if_pos l, if_pos e]
theorem nst_0m (hh : x.how = 0) (hv : getI xs (nxl SS x) = some v) (l : x.line = 0) (e : ¬ x.k + 1 = SS.length) : (nst SS xs x).1 = { x with steps := x.steps + 1, tl := x.tl ++ [v / 2], k := x.k + 1 } := by
  unfold nst
  rw [if_neg (fun c => c hh), hv]
  dsimp only
  rw [if_pos l, if_neg e]
theorem nst_1l (hh : x.how = 0) (hv : getI xs (nxl SS x) = some v) (l : x.line = 1) (m : (x.n : Int) + 1 = (nxs SS x).wd) (e : x.k + 1 = SS.length) : (nst SS xs x).1 = { x with steps := x.steps + 1, tl := x.tl ++ [v], n := 0, k := 0, line := 2 } := by
  unfold nst
  rw [if_neg (fun c => c hh), hv]
  dsimp only
  rw [if_neg (by omega), if_pos l, if_pos m, if_pos e]
theorem nst_1m (hh : x.how = 0) (hv : getI xs (nxl SS x) = some v) (l : x.line = 1) (m : (x.n : Int) + 1 = (nxs SS x).wd) (e : ¬ x.k + 1 = SS.length) : (nst SS xs x).1 = { x with steps := x.steps + 1, tl := x.tl ++ [v], n := 0, k := x.k + 1 } := by
  unfold nst
  rw [if_neg (fun c => c hh), hv]
  dsimp only
  rw [if_neg (by omega), if_pos l, if_pos m, if_neg e]
theorem nst_1w (hh : x.how = 0) (hv : getI xs (nxl SS x) = some v) (l : x.line = 1) (m : ¬ (x.n : Int) + 1 = (nxs SS x).wd) : (nst SS xs x).1 = { x with steps := x.steps + 1, tl := x.tl ++ [v], n := x.n + 1 } := by
  unfold nst
  rw [if_neg (fun c => c hh), hv]
  dsimp only
  rw [if_neg (by omega), if_pos l, if_neg m]
theorem nst_2l (hh : x.how = 0) (hv : getI xs (nxl SS x) = some v) (l : x.line = 2) (c : v / 2 = x.tl.getD x.k 0) (e : x.k + 1 = SS.length) : (nst SS xs x).1 = { x with steps := x.steps + 1, k := 0, how := 1 } := by
  unfold nst
  rw [if_neg (fun c => c hh), hv]
  dsimp only
  rw [if_neg (by omega), if_neg (by omega), if_pos c, if_pos e]
theorem nst_2m (hh : x.how = 0) (hv : getI xs (nxl SS x) = some v) (l : x.line = 2) (c : v / 2 = x.tl.getD x.k 0) (e : ¬ x.k + 1 = SS.length) : (nst SS xs x).1 = { x with steps := x.steps + 1, k := x.k + 1 } := by
  unfold nst
  rw [if_neg (fun c => c hh), hv]
  dsimp only
  rw [if_neg (by omega), if_neg (by omega), if_pos c, if_neg e]
theorem nst_2a (hh : x.how = 0) (hv : getI xs (nxl SS x) = some v) (l : x.line = 2) (c : ¬ v / 2 = x.tl.getD x.k 0) : (nst SS xs x).1 = nagn x := by
  unfold nst
  rw [if_neg (fun c => c hh), hv]
  dsimp only
  rw [if_neg (by omega), if_neg (by omega), if_neg c]
theorem nagn_sp (e : x.left - 1 = 0) : nagn x = { x with line := 0, k := 0, tl := [], left := x.left - 1, how := 2, steps := x.steps + 1 } := by
  unfold nagn
  rw [if_pos e]
theorem nagn_go (e : ¬ x.left - 1 = 0) : nagn x = { x with line := 0, k := 0, tl := [], left := x.left - 1, steps := x.steps + 1 } := by
  unfold nagn
  rw [if_neg e]
theorem nst_how (hh : ¬ x.how = 0) : (nst SS xs x).1 = x := by
  unfold nst
  rw [if_pos hh]
end
section
variable {w : World} {o wb b off cp : Nat} {V U : Value} {SS : List Sp} {tr : Int} {x : NSt} {ys : List Int}
theorem rn_any (h : RnAt w o (some ⟨b, off, none⟩) SS.length cp V U SS tr x) (hB : Row w wb ys) (hne : o ≠ wb) (hvw : V.ownBlock ≠ some wb) (huw : U.ownBlock ≠ some wb) (hw : NWf SS x) (t1 : x.left ≤ tr) (t2 : tr ≤ 16) (p0 : 0 ≤ x.steps) (p1 : x.steps ≤ 1000000) (hyl : ys.length ≤ 1000) (hu : ∀ v ∈ ys, U64 v) :
    Calls Try.prog 16 #[.pointer (some ⟨o, 0, none⟩), .slice (some ⟨wb, 0, none⟩) ys.length ys.length] w (RnPost o wb (some ⟨b, off, none⟩) SS.length cp V U SS tr ys (nst SS ys x).1 w) := by
  obtain ⟨how, line, k, n, left, steps, bgn, tl⟩ := x
  dsimp only at t1 p0 p1
  by_cases hh : how = 0
  · subst hh
    have hl := hw.l0
    have hl2 := hw.l2
    dsimp only at hl hl2
    rcases (show line = 0 ∨ line = 1 ∨ line = 2 by omega) with rfl | rfl | rfl
    · cases hv : getI ys (nxl SS ⟨0, 0, k, n, left, steps, bgn, tl⟩) with
      | none =>
        rw [show (nst SS ys ⟨0, 0, k, n, left, steps, bgn, tl⟩).1 = ⟨3, 0, k, n, left, steps, bgn, tl⟩ from nst_none rfl hv]
        exact rn_out0 h hB hne hvw huw hw t1 t2 p0 p1 hyl hv
      | some v =>
        have uv : U64 v := hu v (List.mem_of_getElem? (getI_some hv).2)
        obtain ⟨ha, hn⟩ := hw.a0 rfl
        dsimp only at ha hn
        subst hn
        by_cases hk : k = 0
        · subst hk
          obtain rfl := List.eq_nil_of_length_eq_zero ha
          by_cases he : 0 + 1 = SS.length
          · rw [show (nst SS ys ⟨0, 0, 0, 0, left, steps, bgn, []⟩).1 = ⟨0, 1, 0, 0, left, steps + 1, steps + 1, [v / 2]⟩ from nst_0l rfl hv rfl he]
            exact rn_first_last h hB hne hvw huw hw t1 t2 p0 p1 hyl hv uv he
          · rw [show (nst SS ys ⟨0, 0, 0, 0, left, steps, bgn, []⟩).1 = ⟨0, 0, 1, 0, left, steps + 1, bgn, [v / 2]⟩ from nst_0m rfl hv rfl he]
            exact rn_first h hB hne hvw huw hw t1 t2 p0 p1 hyl hv uv he
        · by_cases he : k + 1 = SS.length
          · rw [show (nst SS ys ⟨0, 0, k, 0, left, steps, bgn, tl⟩).1 = ⟨0, 1, 0, 0, left, steps + 1, steps + 1, tl ++ [v / 2]⟩ from nst_0l rfl hv rfl he]
            exact rn_later_last h hB hne hvw huw hw t1 t2 p0 p1 hyl hv uv he hk
          · rw [show (nst SS ys ⟨0, 0, k, 0, left, steps, bgn, tl⟩).1 = ⟨0, 0, k + 1, 0, left, steps + 1, bgn, tl ++ [v / 2]⟩ from nst_0m rfl hv rfl he]
            exact rn_later h hB hne hvw huw hw t1 t2 p0 p1 hyl hv uv he hk
    · cases hv : getI ys (nxl SS ⟨0, 1, k, n, left, steps, bgn, tl⟩) with
      | none =>
        rw [show (nst SS ys ⟨0, 1, k, n, left, steps, bgn, tl⟩).1 = ⟨3, 1, k, n, left, steps, bgn, tl⟩ from nst_none rfl hv]
        exact rn_out1 h hB hne hvw huw hw t1 t2 p0 p1 hyl hv
      | some v =>
        have uv : U64 v := hu v (List.mem_of_getElem? (getI_some hv).2)
        by_cases hm : (n : Int) + 1 = (nxs SS ⟨0, 1, k, n, left, steps, bgn, tl⟩).wd
        · by_cases he : k + 1 = SS.length
          · rw [show (nst SS ys ⟨0, 1, k, n, left, steps, bgn, tl⟩).1 = ⟨0, 2, 0, 0, left, steps + 1, bgn, tl ++ [v]⟩ from nst_1l rfl hv rfl hm he]
            exact rn_word_last h hB hne hvw huw hw t1 t2 p0 p1 hyl hv uv hm he
          · rw [show (nst SS ys ⟨0, 1, k, n, left, steps, bgn, tl⟩).1 = ⟨0, 1, k + 1, 0, left, steps + 1, bgn, tl ++ [v]⟩ from nst_1m rfl hv rfl hm he]
            exact rn_word_next h hB hne hvw huw hw t1 t2 p0 p1 hyl hv uv hm he
        · rw [show (nst SS ys ⟨0, 1, k, n, left, steps, bgn, tl⟩).1 = ⟨0, 1, k, n + 1, left, steps + 1, bgn, tl ++ [v]⟩ from nst_1w rfl hv rfl hm]
          exact rn_word h hB hne hvw huw hw t1 t2 p0 p1 hyl hv uv hm
    · cases hv : getI ys (nxl SS ⟨0, 2, k, n, left, steps, bgn, tl⟩) with
      | none =>
        rw [show (nst SS ys ⟨0, 2, k, n, left, steps, bgn, tl⟩).1 = ⟨3, 2, k, n, left, steps, bgn, tl⟩ from nst_none rfl hv]
        exact rn_out2 h hB hne hvw huw hw t1 t2 p0 p1 hyl hv
      | some v =>
        have uv : U64 v := hu v (List.mem_of_getElem? (getI_some hv).2)
        by_cases hc : v / 2 = tl.getD k 0
        · by_cases he : k + 1 = SS.length
          · rw [show (nst SS ys ⟨0, 2, k, n, left, steps, bgn, tl⟩).1 = ⟨1, 2, 0, n, left, steps + 1, bgn, tl⟩ from nst_2l rfl hv rfl hc he]
            exact rn_same_last h hB hne hvw huw hw t1 t2 p0 p1 hyl hv uv hc he
          · rw [show (nst SS ys ⟨0, 2, k, n, left, steps, bgn, tl⟩).1 = ⟨0, 2, k + 1, n, left, steps + 1, bgn, tl⟩ from nst_2m rfl hv rfl hc he]
            exact rn_same h hB hne hvw huw hw t1 t2 p0 p1 hyl hv uv hc he
        · by_cases hf : left - 1 = 0
          · rw [show (nst SS ys ⟨0, 2, k, n, left, steps, bgn, tl⟩).1 = ⟨2, 0, 0, n, left - 1, steps + 1, bgn, []⟩ from (nst_2a rfl hv rfl hc).trans (nagn_sp hf)]
            exact rn_spent h hB hne hvw huw hw t1 t2 p0 p1 hyl hv uv hc hf
          · rw [show (nst SS ys ⟨0, 2, k, n, left, steps, bgn, tl⟩).1 = ⟨0, 0, 0, n, left - 1, steps + 1, bgn, []⟩ from (nst_2a rfl hv rfl hc).trans (nagn_go hf)]
            exact rn_again h hB hne hvw huw hw t1 t2 p0 p1 hyl hv uv hc hf
  · rw [show (nst SS ys ⟨how, line, k, n, left, steps, bgn, tl⟩).1 = ⟨how, line, k, n, left, steps, bgn, tl⟩ from nst_how hh]
    refine (rn_ended h _ hh).mono ?_
    rintro e w' ⟨rfl, rfl⟩
    exact ⟨rfl, V, U, h, hB, hvw, huw, Upd.refl _ _, .inl rfl, .inl rfl⟩
end
/-- What lies in memory, by its places. -/
structure Ns where
  b : Nat
  bg : Nat
  wb : Nat
  xb : Nat
  p : Nat
  gs : Nat
  g : Nat
  o : Nat
  d : Nat
  off : Nat
  V : Value
  U : Value
  x : NSt
  y : NSt
  zs : List Int
  t : Int
/-- Which blocks each thing has. -/
def Ns.own (s : Ns) : Nat → Nat → Prop
  | 0, k => k = s.b ∨ k = s.bg
  | 1, k => k = s.wb
  | 2, k => k = s.xb
  | 3, k => k = s.p ∨ k = s.gs ∨ k = s.g
  | 4, k => k = s.o
  | 5, k => s.V.ownBlock = some k
  | 6, k => s.U.ownBlock = some k
  | 7, k => k = s.d
  | _, _ => False
/-- The job's cells. -/
def jbx (a : Option Addr) (n c : Nat) (tr : Int) : List Value := [.slice a n c, .int .i64 tr]
structure NsM (w : World) (SS : List Sp) (tr : Int) (a : Option Addr) (c cp : Nat) (s : Ns) (A : World) : Prop where
  bank : Bk A s.b s.bg s.zs s.t
  wds : Row A s.wb s.zs
  box : Blk A s.xb (jbx a SS.length c tr)
  sn : NAt A s.p s.gs s.g SS s.x
  rn : RnAt A s.o (some ⟨s.d, s.off, none⟩) SS.length cp s.V s.U SS tr s.y
  dj : Dj w.heap.size s.own A.heap.size
  bel : Below w.heap.size w A
section
variable {w A B : World} {SS : List Sp} {tr : Int} {a : Option Addr} {c cp : Nat} {s : Ns}
abbrev TrnN (s : Ns) (T : Nat → Prop) (A B : World) : Prop := Upd (fun k => ∃ i, T i ∧ s.own i k) A B
theorem NsM.keep {T : Nat → Prop} (h : NsM w SS tr a c cp s A) (u : TrnN s T A B) {i k : Nat} (hi : ¬ T i) (ho : s.own i k) : B.heap[k]? = A.heap[k]? :=
  u.block k (h.dj.bd i k ho).2 (fun ⟨j, hj, hk⟩ => hi (by rw [h.dj.dj i j k ho hk]; exact hj))
theorem NsM.belN {T : Nat → Prop} (h : NsM w SS tr a c cp s A) (u : TrnN s T A B) : Below w.heap.size w B :=
  h.bel.trans (u.below h.bel.size (fun k hk => by obtain ⟨i, _, hk⟩ := hk; exact (h.dj.bd i k hk).1))
theorem NsM.kBank {T : Nat → Prop} (h : NsM w SS tr a c cp s A) (u : TrnN s T A B) (hi : ¬ T 0) : Bk B s.b s.bg s.zs s.t := h.bank.of_blocks (h.keep u hi (k := s.b) (.inl rfl)) (h.keep u hi (k := s.bg) (.inr rfl))
theorem NsM.kWds {T : Nat → Prop} (h : NsM w SS tr a c cp s A) (u : TrnN s T A B) (hi : ¬ T 1) : Row B s.wb s.zs := h.wds.of_block (h.keep u hi (k := s.wb) rfl)
theorem NsM.kBox {T : Nat → Prop} (h : NsM w SS tr a c cp s A) (u : TrnN s T A B) (hi : ¬ T 2) : Blk B s.xb (jbx a SS.length c tr) := h.box.of_block (h.keep u hi (k := s.xb) rfl)
theorem NsM.kSn {T : Nat → Prop} (h : NsM w SS tr a c cp s A) (u : TrnN s T A B) (hi : ¬ T 3) : NAt B s.p s.gs s.g SS s.x := h.sn.of_blocks (h.keep u hi (k := s.p) (.inl rfl)) (h.keep u hi (k := s.gs) (.inr (.inl rfl))) (h.keep u hi (k := s.g) (.inr (.inr rfl)))
theorem NsM.kRn {T : Nat → Prop} (h : NsM w SS tr a c cp s A) (u : TrnN s T A B) (h4 : ¬ T 4) (h5 : ¬ T 5) (h6 : ¬ T 6) (h7 : ¬ T 7) : RnAt B s.o (some ⟨s.d, s.off, none⟩) SS.length cp s.V s.U SS tr s.y := by
  obtain ⟨gl, wl, r1, r2, r3⟩ := h.rn.rows
  exact ⟨h.rn.cells.of_block (h.keep u h4 (k := s.o) rfl), rfl, h.rn.spots.block (fun _ => h.keep u h7 (k := s.d) rfl) u.size, ⟨gl, wl, owns_blocks r1 (fun g hg => h.keep u h5 (k := g) hg), owns_blocks r2 (fun g hg => h.keep u h6 (k := g) hg), r3⟩, h.rn.apart, h.rn.away⟩
theorem NsM.low (h : NsM w SS tr a c cp s A) (u : Below A.heap.size A B) : NsM w SS tr a c cp s B := by
  have u' : TrnN s (fun _ => False) A B := Upd.of_below _ u
  have z : ¬ False := fun q => q
  exact ⟨h.kBank u' z, h.kWds u' z, h.kBox u' z, h.kSn u' z, h.kRn u' z z z z, h.dj.next (i0 := 0) u.size h.bel.size (fun i k q => .inl q), h.belN u'⟩
theorem NsM.drew (h : NsM w SS tr a c cp s A) : NsM w SS tr a c cp s A.drew := h.low (Go.Proofs.Ytflgggfomhifeaa.belN (Below.refl _ _) 1)
theorem NsM.ap (h : NsM w SS tr a c cp s A) : Apt s.p s.gs s.g s.b s.bg ∧ s.o ≠ s.wb ∧ s.V.ownBlock ≠ some s.wb ∧ s.U.ownBlock ≠ some s.wb := by
  have h1 : s.own 3 s.p := .inl rfl
  have h2 : s.own 3 s.gs := .inr (.inl rfl)
  have h3 : s.own 3 s.g := .inr (.inr rfl)
  have f : ∀ k, s.own 3 k → k ≠ s.b ∧ k ≠ s.bg := fun k hk => ⟨fun e => by have := h.dj.dj _ 0 _ hk (.inl e); omega, fun e => by have := h.dj.dj _ 0 _ hk (.inr e); omega⟩
  refine ⟨⟨(f _ h1).1, (f _ h1).2, (f _ h3).1, (f _ h3).2, (f _ h2).1, (f _ h2).2⟩, fun e => ?_, fun e => ?_, fun e => ?_⟩
  · have := h.dj.dj 4 1 s.o rfl e; omega
  · have := h.dj.dj 5 1 s.wb e rfl; omega
  · have := h.dj.dj 6 1 s.wb e rfl; omega
/-- Somebody's store, into the bank and into the words. -/
theorem NsM.store (h : NsM w SS tr a c cp s A) {q : Nat} {v t' : Int} (u : Upd (Own s.b s.bg) A B) (hB : Bk B s.b s.bg (s.zs.set q v) t') : NsM w SS tr a c cp { s with zs := s.zs.set q v, t := t' } (B.setCell ⟨s.wb, q, none⟩ (.int .u64 v)) := by
  have u1 : TrnN s (fun i => i = 0 ∨ i = 1) A (B.setCell ⟨s.wb, q, none⟩ (.int .u64 v)) := (u.mono (fun q hq => by
    rcases hq with rfl | rfl
    · exact ⟨0, .inl rfl, .inl rfl⟩
    · exact ⟨0, .inl rfl, .inr rfl⟩)).setCell (p := ⟨s.wb, q, none⟩) (.inl ⟨1, .inr rfl, rfl⟩) _
  have hwb : ¬ Own s.b s.bg s.wb := fun c => by
    have h1 : s.own 0 s.wb := c
    have := h.dj.dj 0 1 _ h1 rfl
    omega
  refine ⟨hB.setFar (fun e => hwb (.inl e.symm)) (fun e => hwb (.inr e.symm)) _, (h.wds.upd u hwb).put q v, h.kBox u1 (by omega), h.kSn u1 (by omega), h.kRn u1 (by omega) (by omega) (by omega) (by omega), h.dj.next (i0 := 0) u1.size h.bel.size (fun i k q => .inl ?_), h.belN u1⟩
  match i, q with
  | 0, q => exact q
  | 1, q => exact q
  | 2, q => exact q
  | 3, q => exact q
  | 4, q => exact q
  | 5, q => exact q
  | 6, q => exact q
  | 7, q => exact q
/-- A step of the document's. -/
theorem NsM.docstep (h : NsM w SS tr a c cp s A) {V' U' : Value} {y : NSt} (u : Upd (OwnR s.o s.V s.U) A B) (hr : RnAt B s.o (some ⟨s.d, s.off, none⟩) SS.length cp V' U' SS tr y) (hv : Frs A.heap.size s.V V' B.heap.size) (hu : Frs A.heap.size s.U U' B.heap.size) :
    NsM w SS tr a c cp { s with V := V', U := U', y := y } B := by
  have u1 : TrnN s (fun i => i = 4 ∨ i = 5 ∨ i = 6) A B := u.mono (fun q hq => by
    rcases hq with rfl | hq | hq
    · exact ⟨4, .inl rfl, rfl⟩
    · exact ⟨5, .inr (.inl rfl), hq⟩
    · exact ⟨6, .inr (.inr rfl), hq⟩)
  have hsz := u.size
  have key : ∀ i k, Ns.own { s with V := V', U := U', y := y } i k → s.own i k ∨ (i = 5 ∧ V'.ownBlock = some k ∧ A.heap.size ≤ k ∧ k < B.heap.size) ∨ (i = 6 ∧ U'.ownBlock = some k ∧ A.heap.size ≤ k ∧ k < B.heap.size) := fun i k q => by
    match i, q with
    | 0, q => exact .inl q
    | 1, q => exact .inl q
    | 2, q => exact .inl q
    | 3, q => exact .inl q
    | 4, q => exact .inl q
    | 5, q =>
      have q : V'.ownBlock = some k := q
      rcases hv with c | c | c
      · exact .inl (c.symm.trans q)
      · rw [c] at q; cases q
      · exact .inr (.inl ⟨rfl, q, c k q⟩)
    | 6, q =>
      have q : U'.ownBlock = some k := q
      rcases hu with c | c | c
      · exact .inl (c.symm.trans q)
      · rw [c] at q; cases q
      · exact .inr (.inr ⟨rfl, q, c k q⟩)
    | 7, q => exact .inl q
  refine ⟨h.kBank u1 (by omega), h.kWds u1 (by omega), h.kBox u1 (by omega), h.kSn u1 (by omega), hr, ⟨fun i j k h1 h2 => ?_, fun i k h1 => ?_⟩, h.belN u1⟩
  · rcases key i k h1 with a1 | ⟨a1, b1, c1, d1⟩ | ⟨a1, b1, c1, d1⟩ <;> rcases key j k h2 with a2 | ⟨a2, b2, c2, d2⟩ | ⟨a2, b2, c2, d2⟩
    · exact h.dj.dj i j k a1 a2
    · have := (h.dj.bd i k a1).2; omega
    · have := (h.dj.bd i k a1).2; omega
    · have := (h.dj.bd j k a2).2; omega
    · omega
    · exact absurd b2 (hr.apart.2.2 k b1)
    · have := (h.dj.bd j k a2).2; omega
    · exact absurd b1 (hr.apart.2.2 k b2)
    · omega
  · rcases key i k h1 with a1 | ⟨_, _, c1, d1⟩ | ⟨_, _, c1, d1⟩
    · have := h.dj.bd i k a1; omega
    · have := h.bel.size; omega
    · have := h.bel.size; omega
/-- A step of the snapshot. -/
theorem NsM.step (h : NsM w SS tr a c cp s A) {y : NSt} {t' : Int} (u : Upd (OwnN s.p s.g s.b s.bg) A B) (hO : NAt B s.p s.gs s.g SS y) (hB : Bk B s.b s.bg s.zs t') : NsM w SS tr a c cp { s with x := y, t := t' } B := by
  have u1 : TrnN s (fun i => i = 0 ∨ i = 3) A B := u.mono (fun q hq => by
    rcases hq with rfl | rfl | rfl | rfl
    · exact ⟨3, .inr rfl, .inl rfl⟩
    · exact ⟨3, .inr rfl, .inr (.inr rfl)⟩
    · exact ⟨0, .inl rfl, .inl rfl⟩
    · exact ⟨0, .inl rfl, .inr rfl⟩)
  refine ⟨hB, h.kWds u1 (by omega), h.kBox u1 (by omega), hO, h.kRn u1 (by omega) (by omega) (by omega) (by omega), h.dj.next (i0 := 0) u1.size h.bel.size (fun i k q => .inl ?_), h.belN u1⟩
  match i, q with
  | 0, q => exact q
  | 1, q => exact q
  | 2, q => exact q
  | 3, q => exact q
  | 4, q => exact q
  | 5, q => exact q
  | 6, q => exact q
  | 7, q => exact q
end
theorem left_nst (SS : List Sp) (xs : List Int) (x : NSt) : (nst SS xs x).1.left ≤ x.left := by
  unfold nst
  (repeat' split) <;> simp [nagn]
  omega
/-- A snapshot that is done stands in its last line. -/
theorem done_nst {SS : List Sp} {xs : List Int} {x : NSt} (h : x.how = 1 → x.line = 2) (hw : NWf SS x) : (nst SS xs x).1.how = 1 → (nst SS xs x).1.line = 2 := by
  intro hd
  have hl := hw.l0
  have hl2 := hw.l2
  by_cases hh : x.how = 0
  · cases hv : getI xs (nxl SS x) with
    | none => rw [nst_none hh hv] at hd; exact absurd (show (3 : Int) = 1 from hd) (by omega)
    | some v =>
      rcases (show x.line = 0 ∨ x.line = 1 ∨ x.line = 2 by omega) with l | l | l
      · by_cases e : x.k + 1 = SS.length
        · rw [nst_0l hh hv l e] at hd; exact absurd (show x.how = 1 from hd) (by omega)
        · rw [nst_0m hh hv l e] at hd; exact absurd (show x.how = 1 from hd) (by omega)
      · by_cases m : (x.n : Int) + 1 = (nxs SS x).wd
        · by_cases e : x.k + 1 = SS.length
          · rw [nst_1l hh hv l m e] at hd; exact absurd (show x.how = 1 from hd) (by omega)
          · rw [nst_1m hh hv l m e] at hd; exact absurd (show x.how = 1 from hd) (by omega)
        · rw [nst_1w hh hv l m] at hd; exact absurd (show x.how = 1 from hd) (by omega)
      · by_cases c : v / 2 = x.tl.getD x.k 0
        · by_cases e : x.k + 1 = SS.length
          · rw [nst_2l hh hv l c e]; exact l
          · rw [nst_2m hh hv l c e] at hd; exact absurd (show x.how = 1 from hd) (by omega)
        · rw [nst_2a hh hv l c] at hd
          by_cases e : x.left - 1 = 0
          · rw [nagn_sp e] at hd; exact absurd (show (2 : Int) = 1 from hd) (by omega)
          · rw [nagn_go e] at hd; exact absurd (show x.how = 1 from hd) (by omega)
  · rw [nst_how hh] at hd ⊢
    exact h hd
end Go.Proofs.Ytflgggfomhifeaa
