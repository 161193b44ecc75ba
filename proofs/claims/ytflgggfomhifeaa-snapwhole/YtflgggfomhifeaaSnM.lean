/- A snapshot as it lies in memory, and what a step makes of it. No program is named here. -/
import Derived.Test.YtflgggfomhifeaaOpM
import Derived.Test.YtflgggfomhifeaaBank
namespace Go.Proofs.Ytflgggfomhifeaa
open Go.RowKit

/-- A spot's cells. -/
def spc5 (S : Sp) : List Value := [.int .i64 S.ow, .int .i64 S.sq, .int .i64 S.fs, .int .i64 S.wd, .int .i64 S.dp]
def scl (l : List Sp) : List Value := l.flatMap spc5
theorem scl_len : ∀ l : List Sp, (scl l).length = l.length * 5
  | [] => rfl
  | x :: r => by
    show (spc5 x ++ scl r).length = _
    rw [List.length_append, scl_len r, List.length_cons]
    show 5 + _ = _
    omega
theorem scl_get : ∀ (l : List Sp) (j i : Nat) (t : Sp) (v : Value), l[j]? = some t → (spc5 t)[i]? = some v → (scl l)[j * 5 + i]? = some v
  | [], j, i, t, v, h, _ => by simp at h
  | x :: r, 0, i, t, v, h, hv => by
    simp at h
    subst h
    have hi : i < 5 := (List.getElem?_eq_some_iff.1 hv).1
    show (spc5 x ++ scl r)[0 * 5 + i]? = some v
    rw [Nat.zero_mul, Nat.zero_add, List.getElem?_append_left hi]
    exact hv
  | x :: r, j + 1, i, t, v, h, hv => by
    have e : (j + 1) * 5 + i = (spc5 x).length + (j * 5 + i) := by show _ = 5 + _; omega
    show (spc5 x ++ scl r)[(j + 1) * 5 + i]? = some v
    rw [e, List.getElem?_append_right (by omega), Nat.add_sub_cancel_left]
    exact scl_get r j i t v (by simpa using h) hv
/-- How many words records of spots have together. -/
def wid : List Sp → Nat
  | [] => 0
  | s :: r => s.wd.toNat + wid r
theorem wid_take : ∀ (l : List Sp) (k : Nat) (S : Sp), l[k]? = some S → wid (l.take (k + 1)) = wid (l.take k) + S.wd.toNat
  | [], k, S, h => by simp at h
  | x :: r, 0, S, h => by
    simp at h
    subst h
    simp [wid]
  | x :: r, k + 1, S, h => by
    have := wid_take r k S (by simpa using h)
    simp only [List.take_succ_cons, wid, this]
    omega
theorem wid_le : ∀ (l : List Sp) (k : Nat), wid (l.take k) ≤ wid l
  | [], k => by simp [wid]
  | x :: r, 0 => by simp [wid]
  | x :: r, k + 1 => by
    have := wid_le r k
    simp only [List.take_succ_cons, wid]
    omega
theorem wid_bd : ∀ (l : List Sp), (∀ S ∈ l, Rt S) → wid l ≤ 64 * l.length
  | [], _ => by simp [wid]
  | x :: r, h => by
    have h1 := (h x List.mem_cons_self).2.1
    have := wid_bd r (fun S hS => h S (List.mem_cons_of_mem _ hS))
    simp only [wid, List.length_cons]
    omega
/-- How a snapshot stands. -/
structure NSt where
  how : Int
  line : Int
  k : Nat
  n : Nat
  left : Int
  steps : Int
  bgn : Int
  tl : List Int
/-- Its room. -/
def room (SS : List Sp) : Nat := SS.length + wid SS
/-- Its cells. -/
def ndc (SS : List Sp) (gs c g : Nat) (x : NSt) : List Value :=
  [.slice (some ⟨gs, 0, none⟩) SS.length c, .int .i64 x.how, .int .i64 x.line, .int .i64 x.k, .int .i64 x.n, .int .i64 x.left, .int .i64 x.steps, .int .i64 x.bgn, .slice (some ⟨g, 0, none⟩) x.tl.length (room SS)]
/-- A snapshot at block o, its spots at block gs, what it tells at block g. -/
structure NAt (w : World) (o gs g : Nat) (SS : List Sp) (x : NSt) : Prop where
  cells : ∃ c, Blk w o (ndc SS gs c g x)
  spots : ∃ vs, Blk w gs vs ∧ ∀ (i : Nat) (v : Value), (scl SS)[i]? = some v → vs[i]? = some v
  words : ∃ vs, Blk w g vs ∧ vs.length = room SS ∧ ∀ (i : Nat) (v : Int), x.tl[i]? = some v → vs[i]? = some (.int .u64 v)
  ne : o ≠ g ∧ gs ≠ o ∧ gs ≠ g
section
variable {w w' : World} {o gs g : Nat} {SS : List Sp} {x : NSt}
theorem NAt.lto (h : NAt w o gs g SS x) : o < w.heap.size := by
  obtain ⟨c, h⟩ := h.cells
  exact h.lt
theorem NAt.lts (h : NAt w o gs g SS x) : gs < w.heap.size := by
  obtain ⟨c, h, _⟩ := h.spots
  exact h.lt
theorem NAt.ltg (h : NAt w o gs g SS x) : g < w.heap.size := by
  obtain ⟨c, h, _⟩ := h.words
  exact h.lt
theorem NAt.of_blocks (h : NAt w o gs g SS x) (e1 : w'.heap[o]? = w.heap[o]?) (e2 : w'.heap[gs]? = w.heap[gs]?) (e3 : w'.heap[g]? = w.heap[g]?) : NAt w' o gs g SS x := by
  obtain ⟨c, h1⟩ := h.cells
  obtain ⟨us, h2, h3⟩ := h.spots
  obtain ⟨vs, h4, h5⟩ := h.words
  exact ⟨⟨c, h1.of_block e1⟩, ⟨us, h2.of_block e2, h3⟩, ⟨vs, h4.of_block e3, h5⟩, h.ne⟩
theorem NAt.upd {T : Nat → Prop} (h : NAt w o gs g SS x) (u : Upd T w w') (h1 : ¬ T o) (h2 : ¬ T gs) (h3 : ¬ T g) : NAt w' o gs g SS x :=
  h.of_blocks (u.block o h.lto h1) (u.block gs h.lts h2) (u.block g h.ltg h3)
theorem NAt.below (h : NAt w o gs g SS x) (u : Below w.heap.size w w') : NAt w' o gs g SS x := h.of_blocks (u.block o h.lto) (u.block gs h.lts) (u.block g h.ltg)
theorem NAt.alloc (h : NAt w o gs g SS x) (c : Obj) : NAt (w.alloc c) o gs g SS x := h.of_blocks (Below.heap_alloc _ _ _ h.lto) (Below.heap_alloc _ _ _ h.lts) (Below.heap_alloc _ _ _ h.ltg)
theorem NAt.drew (h : NAt w o gs g SS x) : NAt w.drew o gs g SS x := ⟨h.cells, h.spots, h.words, h.ne⟩
theorem NAt.drewN (h : NAt w o gs g SS x) (n : Nat) : NAt (w.drewN n) o gs g SS x := ⟨h.cells, h.spots, h.words, h.ne⟩
theorem NAt.setFar (h : NAt w o gs g SS x) {p : Addr} (h1 : o ≠ p.block) (h2 : gs ≠ p.block) (h3 : g ≠ p.block) (u : Value) : NAt (w.setCell p u) o gs g SS x :=
  h.of_blocks (Below.heap_setCell _ _ _ _ h1) (Below.heap_setCell _ _ _ _ h2) (Below.heap_setCell _ _ _ _ h3)
theorem NAt.put (h : NAt w o gs g SS x) (i : Nat) (v : Value) (y : NSt) (e : ∀ c, (ndc SS gs c g x).set i v = ndc SS gs c g y) (hr : ∀ (i : Nat) (v : Int), y.tl[i]? = some v → x.tl[i]? = some v) : NAt (w.setCell ⟨o, i, none⟩ v) o gs g SS y := by
  obtain ⟨c, h1⟩ := h.cells
  obtain ⟨us, h2, h3⟩ := h.spots
  obtain ⟨vs, h4, h5, h6⟩ := h.words
  refine ⟨⟨c, ?_⟩, ⟨us, h2.setFar h.ne.2.1 v, h3⟩, ⟨vs, h4.setFar (fun q => h.ne.1 q.symm) v, h5, fun i v k => h6 i v (hr i v k)⟩, h.ne⟩
  have := h1.put i v
  rw [e c] at this
  exact this
theorem NAt.cell (h : NAt w o gs g SS x) {i : Nat} {v : Value} (hv : ∀ c, (ndc SS gs c g x)[i]? = some v) : w.cell? ⟨o, i, none⟩ = some v := by
  obtain ⟨c, h1⟩ := h.cells
  exact h1.cell (hv c)
theorem NAt.frozen (h : NAt w o gs g SS x) (i : Nat) : w.frozen? ⟨o, i, none⟩ = false := by
  obtain ⟨c, h1⟩ := h.cells
  exact h1.frozen i
theorem NAt.frozeng (h : NAt w o gs g SS x) (i : Nat) : w.frozen? ⟨g, i, none⟩ = false := by
  obtain ⟨vs, h2, _⟩ := h.words
  exact h2.frozen i
theorem NAt.slice (h : NAt w o gs g SS x) : ∃ c : Nat, w.cell? ⟨o, 0, none⟩ = some (.slice (some ⟨gs, 0, none⟩) SS.length c) := by
  obtain ⟨c, h1⟩ := h.cells
  exact ⟨c, h1.cell rfl⟩
theorem NAt.word (h : NAt w o gs g SS x) {i : Nat} {v : Int} (hv : x.tl[i]? = some v) : w.cell? ⟨g, i, none⟩ = some (.int .u64 v) := by
  obtain ⟨vs, h2, _, h3⟩ := h.words
  exact h2.cell (h3 i v hv)
theorem NAt.spot (h : NAt w o gs g SS x) {k : Nat} {S : Sp} (hS : SS[k]? = some S) (i : Nat) (v : Value) (hv : (spc5 S)[i]? = some v) : w.cell? ⟨gs, k * 5 + i, none⟩ = some v := by
  obtain ⟨vs, h2, h3⟩ := h.spots
  exact h2.cell (h3 _ v (scl_get SS k i S v hS hv))
theorem NAt.room (h : NAt w o gs g SS x) {i : Nat} (hi : i < room SS) : (w.cell? ⟨g, i, none⟩).isSome = true := by
  obtain ⟨vs, h2, h3, _⟩ := h.words
  have : i < vs.length := by omega
  rw [h2.cell (List.getElem?_eq_getElem this)]
  rfl
/-- One word more. -/
theorem NAt.app (h : NAt w o gs g SS x) (v : Int) (hi : x.tl.length < Go.Proofs.Ytflgggfomhifeaa.room SS) :
    NAt ((w.setCell ⟨g, x.tl.length, none⟩ (.int .u64 v)).setCell ⟨o, 8, none⟩ (.slice (some ⟨g, 0, none⟩) (x.tl.length + 1) (Go.Proofs.Ytflgggfomhifeaa.room SS))) o gs g SS { x with tl := x.tl ++ [v] } := by
  obtain ⟨c, h1⟩ := h.cells
  obtain ⟨us, h2, h3⟩ := h.spots
  obtain ⟨vs, h4, h5, h6⟩ := h.words
  refine ⟨⟨c, ?_⟩, ⟨us, (h2.setFar h.ne.2.2 _).setFar h.ne.2.1 _, h3⟩, ⟨vs.set x.tl.length (.int .u64 v), (h4.put _ _).setFar (fun q => h.ne.1 q.symm) _, by rw [List.length_set]; exact h5, fun i u k => ?_⟩, h.ne⟩
  · have := (h1.setFar (p := ⟨g, x.tl.length, none⟩) h.ne.1 (.int .u64 v)).put 8 (.slice (some ⟨g, 0, none⟩) (x.tl.length + 1) (Go.Proofs.Ytflgggfomhifeaa.room SS))
    have e : (ndc SS gs c g x).set 8 (.slice (some ⟨g, 0, none⟩) (x.tl.length + 1) (Go.Proofs.Ytflgggfomhifeaa.room SS)) = ndc SS gs c g { x with tl := x.tl ++ [v] } := by simp [ndc]
    rw [e] at this
    exact this
  · have k' : (x.tl ++ [v])[i]? = some u := k
    by_cases c : i = x.tl.length
    · subst c
      rw [List.getElem?_set_self (by omega)]
      simp at k'
      rw [k']
    · rw [List.getElem?_set_ne (fun q => c q.symm)]
      refine h6 i u ?_
      rw [List.getElem?_append] at k'
      split at k'
      · exact k'
      · have : i - x.tl.length ≠ 0 := by omega
        obtain ⟨q, hq⟩ := Nat.exists_eq_succ_of_ne_zero this
        rw [hq] at k'
        simp at k'
end

/-- The spot that is looked at. -/
def nxs (SS : List Sp) (x : NSt) : Sp := SS.getD x.k ⟨0, 0, 0, 0, 0⟩
/-- Where the next word lies. -/
def nxl (SS : List Sp) (x : NSt) : Int :=
  if x.line = 1 then atv (nxs SS x).fs (nxs SS x).wd (nxs SS x).dp (x.tl.getD x.k 0) + x.n else (nxs SS x).sq
/-- A try that failed. -/
def nagn (x : NSt) : NSt := { x with line := 0, k := 0, tl := [], left := x.left - 1, how := if x.left - 1 = 0 then 2 else x.how, steps := x.steps + 1 }
/-- What a step makes of a snapshot, and how many accesses it did. -/
def nst (SS : List Sp) (xs : List Int) (x : NSt) : NSt × Int :=
  if x.how ≠ 0 then (x, 0)
  else match getI xs (nxl SS x) with
    | none => ({ x with how := 3 }, 0)
    | some v =>
      if x.line = 0 then
        if x.k + 1 = SS.length then ({ x with steps := x.steps + 1, tl := x.tl ++ [v / 2], k := 0, bgn := x.steps + 1, line := 1 }, 1)
        else ({ x with steps := x.steps + 1, tl := x.tl ++ [v / 2], k := x.k + 1 }, 1)
      else if x.line = 1 then
        if (x.n : Int) + 1 = (nxs SS x).wd then
          if x.k + 1 = SS.length then ({ x with steps := x.steps + 1, tl := x.tl ++ [v], n := 0, k := 0, line := 2 }, 1)
          else ({ x with steps := x.steps + 1, tl := x.tl ++ [v], n := 0, k := x.k + 1 }, 1)
        else ({ x with steps := x.steps + 1, tl := x.tl ++ [v], n := x.n + 1 }, 1)
      else if v / 2 = x.tl.getD x.k 0 then
        if x.k + 1 = SS.length then ({ x with steps := x.steps + 1, k := 0, how := 1 }, 1)
        else ({ x with steps := x.steps + 1, k := x.k + 1 }, 1)
      else (nagn x, 1)
/-- What is always so of a snapshot. -/
structure NWf (SS : List Sp) (x : NSt) : Prop where
  rt : ∀ S ∈ SS, Rt S
  s64 : SS.length ≤ 64
  k : x.k < SS.length
  us : ∀ v ∈ x.tl, U64 v
  l0 : 0 ≤ x.line
  l2 : x.line ≤ 2
  a0 : x.line = 0 → x.tl.length = x.k ∧ x.n = 0
  a1 : x.line = 1 → x.tl.length = SS.length + wid (SS.take x.k) + x.n ∧ (x.n : Int) < (nxs SS x).wd
  a2 : x.line = 2 → x.tl.length = SS.length + wid SS ∧ x.n = 0
  f0 : 0 ≤ x.left
  f1 : x.left ≤ 16
  fp : x.how = 0 → 1 ≤ x.left
section
variable {SS : List Sp} {x : NSt} {xs : List Int}
theorem NWf.sp (h : NWf SS x) : SS[x.k]? = some (nxs SS x) := by
  have := h.k
  unfold nxs
  rw [List.getD_eq_getElem?_getD, List.getElem?_eq_getElem this]
  rfl
theorem NWf.rts (h : NWf SS x) : Rt (nxs SS x) := h.rt _ (List.mem_of_getElem? h.sp)
theorem NWf.room1 (h : NWf SS x) (hl : x.line ≤ 1) : x.tl.length < room SS := by
  have hk := h.k
  have hs := h.sp
  have hr := h.rts
  have h1 := wid_take SS x.k _ hs
  have h2 := wid_le SS (x.k + 1)
  have h3 := h.l0
  unfold room
  by_cases c : x.line = 0
  · have := (h.a0 c).1
    omega
  · obtain ⟨a, b⟩ := h.a1 (by omega)
    omega
theorem NWf.gen (h : NWf SS x) (hl : 1 ≤ x.line) : ∃ v, x.tl[x.k]? = some v ∧ x.tl.getD x.k 0 = v ∧ U64 v := by
  have hk := h.k
  have hl2 := h.l2
  have : x.k < x.tl.length := by
    by_cases c : x.line = 1
    · have := (h.a1 c).1; omega
    · have := (h.a2 (by omega)).1; omega
  refine ⟨x.tl[x.k], List.getElem?_eq_getElem this, by rw [List.getD_eq_getElem?_getD, List.getElem?_eq_getElem this]; rfl, h.us _ (List.getElem_mem this)⟩
theorem NWf.genu (h : NWf SS x) : U64 (x.tl.getD x.k 0) := by
  rw [List.getD_eq_getElem?_getD]
  cases c : x.tl[x.k]? with
  | none => exact u64_zero
  | some v => exact h.us v (List.mem_of_getElem? c)
theorem NWf.rbd (h : NWf SS x) : room SS ≤ 4160 := by
  have := wid_bd SS h.rt
  have := h.s64
  unfold room
  omega
theorem nxl_bd (h : NWf SS x) : okS (nxs SS x).fs (nxs SS x).wd (nxs SS x).dp ∧ 0 ≤ atv (nxs SS x).fs (nxs SS x).wd (nxs SS x).dp (x.tl.getD x.k 0) ∧ atv (nxs SS x).fs (nxs SS x).wd (nxs SS x).dp (x.tl.getD x.k 0) ≤ 1049600 := by
  obtain ⟨a1, a2, a3, a4, _, _, _, _, a5, a6⟩ := h.rts
  have ok : okS (nxs SS x).fs (nxs SS x).wd (nxs SS x).dp := by unfold okS; omega
  obtain ⟨s0, s1⟩ := h.genu
  obtain ⟨r1, r2, _⟩ := rem_fits (g := x.tl.getD x.k 0) (d := (nxs SS x).dp) (by omega) (by omega) (by omega)
  obtain ⟨m1, m2⟩ := mul_bd (m := 16) (n := 64) r1 (by omega) (by omega : 0 ≤ (nxs SS x).wd) a2
  rw [atv_ok ok]
  exact ⟨ok, by omega, by omega⟩
end
/-- What a step may turn. -/
def OwnN (o g b bg : Nat) (k : Nat) : Prop := k = o ∨ k = g ∨ k = b ∨ k = bg
/-- What lies apart from the bank. -/
def Apt (o gs g b bg : Nat) : Prop := o ≠ b ∧ o ≠ bg ∧ g ≠ b ∧ g ≠ bg ∧ gs ≠ b ∧ gs ≠ bg
/-- What comes of a step. -/
def NdPost (o gs g b bg : Nat) (SS : List Sp) (xs : List Int) (r : NSt × Int) (t : Int) (w : World) (e : Ending) (w' : World) : Prop :=
  e = .returned (.int .i64 r.1.how) ∧ NAt w' o gs g SS r.1 ∧ Bk w' b bg xs (t + r.2) ∧ Upd (OwnN o g b bg) w w'
theorem ownN_of {o g b bg : Nat} (k : Nat) (h : Own b bg k) : OwnN o g b bg k := .inr (.inr h)
theorem Below.ownN {B o q b g : Nat} {a w w' : World} (h : Below B a w) (u : Upd (OwnN o q b g) w w') (hs : B ≤ w.heap.size) (ho : B ≤ o) (hq : B ≤ q) (hb : B ≤ b) (hg : B ≤ g) : Below B a w' :=
  h.trans (u.below hs (fun k hk => by rcases hk with rfl | rfl | rfl | rfl <;> assumption))
theorem Below.ownS {B o b g : Nat} {a w w' : World} (h : Below B a w) (u : Upd (OwnS o b g) w w') (hs : B ≤ w.heap.size) (ho : B ≤ o) (hb : B ≤ b) (hg : B ≤ g) : Below B a w' :=
  h.trans (u.below hs (fun k hk => by rcases hk with rfl | rfl | rfl <;> assumption))
section
variable {SS : List Sp} {x : NSt} {xs : List Int}
theorem steps_nst (SS : List Sp) (xs : List Int) (x : NSt) : (nst SS xs x).1.steps = x.steps + (nst SS xs x).2 ∧ 0 ≤ (nst SS xs x).2 ∧ (nst SS xs x).2 ≤ 1 := by
  unfold nst
  (repeat' split) <;> simp [nagn]
theorem us_app {l : List Int} {v : Int} (h : ∀ u ∈ l, U64 u) (hv : U64 v) : ∀ u ∈ l ++ [v], U64 u := fun u hu => by
  rcases List.mem_append.1 hu with c | c
  · exact h u c
  · rw [List.mem_singleton.1 c]; exact hv
theorem u64_half {v : Int} (h : U64 v) : U64 (v / 2) := by unfold U64 at *; omega
theorem nxs_get {k : Nat} (hk : k < SS.length) (y : NSt) (hy : y.k = k) : SS[k]? = some (nxs SS y) := by
  unfold nxs
  rw [hy, List.getD_eq_getElem?_getD, List.getElem?_eq_getElem hk]
  rfl
theorem nwf_nst (h : NWf SS x) (hx : ∀ v ∈ xs, U64 v) : NWf SS (nst SS xs x).1 := by
  have hk := h.k
  have hpos : ∀ S ∈ SS, 1 ≤ S.wd := fun S hS => (h.rt S hS).1
  unfold nst
  by_cases hh : x.how = 0
  · rw [if_neg (fun c => c hh)]
    have hfp := h.fp hh
    have hf0 := h.f0
    have hf1 := h.f1
    cases hv : getI xs (nxl SS x) with
    | none => exact ⟨h.rt, h.s64, h.k, h.us, h.l0, h.l2, h.a0, h.a1, h.a2, h.f0, h.f1, fun c => absurd (show (3 : Int) = 0 from c) (by omega)⟩
    | some v =>
      have uv : U64 v := hx v (List.mem_of_getElem? (getI_some hv).2)
      dsimp only
      by_cases l0 : x.line = 0
      · rw [if_pos l0]
        obtain ⟨a, b⟩ := h.a0 l0
        by_cases e : x.k + 1 = SS.length
        · rw [if_pos e]
          refine ⟨h.rt, h.s64, by show 0 < SS.length; omega, us_app h.us (u64_half uv), by show (0 : Int) ≤ 1; omega, by show (1 : Int) ≤ 2; omega, fun c => absurd (show (1 : Int) = 0 from c) (by omega), fun _ => ⟨?_, ?_⟩, fun c => absurd (show (1 : Int) = 2 from c) (by omega), h.f0, h.f1, h.fp⟩
          · show (x.tl ++ [v / 2]).length = SS.length + wid (SS.take 0) + x.n
            simp [wid]; omega
          · show ((x.n : Nat) : Int) < _
            rw [b]
            have := hpos _ (List.mem_of_getElem? (nxs_get (SS := SS) (k := 0) (by omega) { x with steps := x.steps + 1, tl := x.tl ++ [v / 2], k := 0, bgn := x.steps + 1, line := 1 } rfl))
            exact Int.lt_of_lt_of_le (by decide : ((0 : Nat) : Int) < 1) this
        · rw [if_neg e]
          refine ⟨h.rt, h.s64, by show x.k + 1 < SS.length; omega, us_app h.us (u64_half uv), h.l0, h.l2, fun _ => ⟨?_, b⟩, fun c => absurd (show x.line = 1 from c) (by omega), fun c => absurd (show x.line = 2 from c) (by omega), h.f0, h.f1, h.fp⟩
          show (x.tl ++ [v / 2]).length = x.k + 1
          simp; omega
      · rw [if_neg l0]
        by_cases l1 : x.line = 1
        · rw [if_pos l1]
          obtain ⟨a, b⟩ := h.a1 l1
          have hw := wid_take SS x.k _ h.sp
          have hwp := hpos _ (List.mem_of_getElem? h.sp)
          by_cases m : (x.n : Int) + 1 = (nxs SS x).wd
          · rw [if_pos m]
            by_cases e : x.k + 1 = SS.length
            · rw [if_pos e]
              refine ⟨h.rt, h.s64, by show 0 < SS.length; omega, us_app h.us uv, by show (0 : Int) ≤ 2; omega, by show (2 : Int) ≤ 2; omega, fun c => absurd (show (2 : Int) = 0 from c) (by omega), fun c => absurd (show (2 : Int) = 1 from c) (by omega), fun _ => ⟨?_, rfl⟩, h.f0, h.f1, h.fp⟩
              show (x.tl ++ [v]).length = SS.length + wid SS
              rw [show SS.take (x.k + 1) = SS from List.take_of_length_le (by omega)] at hw
              simp; omega
            · rw [if_neg e]
              refine ⟨h.rt, h.s64, by show x.k + 1 < SS.length; omega, us_app h.us uv, h.l0, h.l2, fun c => absurd (show x.line = 0 from c) (by omega), fun _ => ⟨?_, ?_⟩, fun c => absurd (show x.line = 2 from c) (by omega), h.f0, h.f1, h.fp⟩
              · show (x.tl ++ [v]).length = SS.length + wid (SS.take (x.k + 1)) + 0
                simp; omega
              · show ((0 : Nat) : Int) < _
                have := hpos _ (List.mem_of_getElem? (nxs_get (SS := SS) (k := x.k + 1) (by omega) { x with steps := x.steps + 1, tl := x.tl ++ [v], n := 0, k := x.k + 1 } rfl))
                exact Int.lt_of_lt_of_le (by decide : ((0 : Nat) : Int) < 1) this
          · rw [if_neg m]
            refine ⟨h.rt, h.s64, h.k, us_app h.us uv, h.l0, h.l2, fun c => absurd (show x.line = 0 from c) (by omega), fun _ => ⟨?_, ?_⟩, fun c => absurd (show x.line = 2 from c) (by omega), h.f0, h.f1, h.fp⟩
            · show (x.tl ++ [v]).length = SS.length + wid (SS.take x.k) + (x.n + 1)
              simp; omega
            · show ((x.n + 1 : Nat) : Int) < (nxs SS x).wd
              omega
        · rw [if_neg l1]
          obtain ⟨a, b⟩ := h.a2 (by have := h.l0; have := h.l2; omega)
          have hl2 : x.line = 2 := by have := h.l0; have := h.l2; omega
          by_cases c : v / 2 = x.tl.getD x.k 0
          · rw [if_pos c]
            by_cases e : x.k + 1 = SS.length
            · rw [if_pos e]
              exact ⟨h.rt, h.s64, by show 0 < SS.length; omega, h.us, h.l0, h.l2, fun c => absurd (show x.line = 0 from c) (by omega), fun c => absurd (show x.line = 1 from c) (by omega), fun _ => ⟨a, b⟩, h.f0, h.f1, fun c => absurd (show (1 : Int) = 0 from c) (by omega)⟩
            · rw [if_neg e]
              exact ⟨h.rt, h.s64, by show x.k + 1 < SS.length; omega, h.us, h.l0, h.l2, fun c => absurd (show x.line = 0 from c) (by omega), fun c => absurd (show x.line = 1 from c) (by omega), fun _ => ⟨a, b⟩, h.f0, h.f1, h.fp⟩
          · rw [if_neg c]
            refine ⟨h.rt, h.s64, by show 0 < SS.length; omega, fun v hv => (by cases hv), by show (0 : Int) ≤ 0; omega, by show (0 : Int) ≤ 2; omega, fun _ => ⟨rfl, b⟩, fun c => absurd (show (0 : Int) = 1 from c) (by omega), fun c => absurd (show (0 : Int) = 2 from c) (by omega), by show 0 ≤ x.left - 1; omega, by show x.left - 1 ≤ 16; omega, ?_⟩
            show (if x.left - 1 = 0 then (2 : Int) else x.how) = 0 → 1 ≤ x.left - 1
            split
            · intro c; omega
            · intro _; omega
  · rw [if_pos hh]; exact h
/-- So many steps of one snapshot, while the words stay. -/
def nnn (SS : List Sp) (xs : List Int) (p : NSt × Int) : Nat → NSt × Int
  | 0 => p
  | k + 1 => ((nst SS xs (nnn SS xs p k).1).1, (nnn SS xs p k).2 + (nst SS xs (nnn SS xs p k).1).2)
theorem nnn_wf {p : NSt × Int} (h : NWf SS p.1) (hx : ∀ v ∈ xs, U64 v) (k : Nat) : NWf SS (nnn SS xs p k).1 ∧
    p.1.steps ≤ (nnn SS xs p k).1.steps ∧ (nnn SS xs p k).1.steps ≤ p.1.steps + k ∧ p.2 ≤ (nnn SS xs p k).2 ∧ (nnn SS xs p k).2 ≤ p.2 + k := by
  induction k with
  | zero => exact ⟨h, by show p.1.steps ≤ p.1.steps; omega, by show p.1.steps ≤ _; omega, by show p.2 ≤ p.2; omega, by show p.2 ≤ _; omega⟩
  | succ k ih =>
    obtain ⟨h1, h4, h5, h6, h7⟩ := ih
    obtain ⟨s1, s2, s3⟩ := steps_nst SS xs (nnn SS xs p k).1
    refine ⟨nwf_nst h1 hx, ?_, ?_, ?_, ?_⟩
    · show _ ≤ (nst SS xs (nnn SS xs p k).1).1.steps; omega
    · show (nst SS xs (nnn SS xs p k).1).1.steps ≤ _; omega
    · show _ ≤ (nnn SS xs p k).2 + (nst SS xs (nnn SS xs p k).1).2; omega
    · show (nnn SS xs p k).2 + (nst SS xs (nnn SS xs p k).1).2 ≤ _; omega
end
end Go.Proofs.Ytflgggfomhifeaa
