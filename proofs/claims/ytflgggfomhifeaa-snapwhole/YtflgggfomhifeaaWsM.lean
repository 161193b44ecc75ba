/- SnapWhole: its memory. -/
import Derived.Test.YtflgggfomhifeaaWsT
namespace Go.Proofs.Ytflgggfomhifeaa
open Go.RowKit

/-- The things that lie in memory. -/
inductive Wt where
  | bank | sa | ob | sn | dn | mn | nw | nr | xb
  | wr (j : Nat)
  | dr (j : Nat)
/-- Things that lie apart. -/
structure DjT (lo : Nat) (own : Wt → Nat → Prop) (m : Nat) : Prop where
  dj : ∀ i j k, own i k → own j k → i = j
  bd : ∀ i k, own i k → lo ≤ k ∧ k < m
theorem DjT.next {lo m M : Nat} {i0 : Wt} {own own' : Wt → Nat → Prop} (h : DjT lo own m) (hm : m ≤ M) (hlo : lo ≤ m) (hn : ∀ i k, own' i k → own i k ∨ (i = i0 ∧ m ≤ k ∧ k < M)) : DjT lo own' M := by
  refine ⟨fun i j k h1 h2 => ?_, fun i k h1 => ?_⟩
  · rcases hn i k h1 with a | ⟨a, a2, _⟩ <;> rcases hn j k h2 with c | ⟨c, c2, _⟩
    · exact h.dj i j k a c
    · have := (h.bd i k a).2; omega
    · have := (h.bd j k c).2; omega
    · rw [a, c]
  · rcases hn i k h1 with a | ⟨_, a2, a3⟩
    · have := h.bd i k a; omega
    · omega
/-- All that lies in memory, by its places. -/
structure Ww where
  b : Nat
  bg : Nat
  sa : Nat
  ob : Nat
  dn : Nat
  mn : Nat
  xb : Nat
  X : Ops
  M : Nat → Int
  D : Nat → List Int
  DV : Nat → Value
  zs : List Int
  t : Int
  O : Option (Nat × Nat × Nat × NSt)
  NV : Value
  N : List (List Int)
  NR : List (Nat × Nat)
def Ww.own (s : Ww) : Wt → Nat → Prop
  | .bank, k => k = s.b ∨ k = s.bg
  | .sa, k => k = s.sa
  | .ob, k => k = s.ob
  | .sn, k => ∃ p gs g x, s.O = some (p, gs, g, x) ∧ (k = p ∨ k = gs ∨ k = g)
  | .dn, k => k = s.dn
  | .mn, k => k = s.mn
  | .nw, k => s.NV.ownBlock = some k
  | .nr, k => ∃ i q c : Nat, s.NR[i]? = some (q, c) ∧ k = q
  | .xb, k => k = s.xb
  | .wr j, k => ∃ o g y, s.X j = some (o, g, y) ∧ (k = o ∨ k = g)
  | .dr j, k => (s.DV j).ownBlock = some k
def u64s (L : Nat) (M : Nat → Int) : List Value := (List.range L).map (fun j => .int .u64 (M j))
theorem u64s_get {L j : Nat} (M : Nat → Int) (h : j < L) : (u64s L M)[j]? = some (.int .u64 (M j)) := by simp [u64s, h]
theorem u64s_set (L k : Nat) (M : Nat → Int) (m : Int) : (u64s L M).set k (.int .u64 m) = u64s L (updD M k m) := by
  refine List.ext_getElem? (fun i => ?_)
  by_cases hi : i < L
  · rw [u64s_get _ hi]
    by_cases c1 : k = i
    · subst c1
      rw [List.getElem?_set_self (by simp [u64s]; exact hi), updD_self]
    · rw [List.getElem?_set_ne c1, u64s_get _ hi, updD_ne _ _ (fun e => c1 e.symm)]
  · rw [List.getElem?_eq_none_iff.2 (by rw [List.length_set]; simp [u64s]; omega), List.getElem?_eq_none_iff.2 (by simp [u64s]; omega)]
def vals (L : Nat) (V : Nat → Value) : List Value := (List.range L).map V
theorem vals_get {L j : Nat} (V : Nat → Value) (h : j < L) : (vals L V)[j]? = some (V j) := by simp [vals, h]
theorem vals_set (L k : Nat) (V : Nat → Value) (v : Value) : (vals L V).set k v = vals L (updD V k v) := by
  refine List.ext_getElem? (fun i => ?_)
  by_cases hi : i < L
  · rw [vals_get _ hi]
    by_cases c1 : k = i
    · subst c1
      rw [List.getElem?_set_self (by simp [vals]; exact hi), updD_self]
    · rw [List.getElem?_set_ne c1, vals_get _ hi, updD_ne _ _ (fun e => c1 e.symm)]
  · rw [List.getElem?_eq_none_iff.2 (by rw [List.length_set]; simp [vals]; omega), List.getElem?_eq_none_iff.2 (by simp [vals]; omega)]
/-- The slice of a row of counts. -/
def rwv (L : Nat) (z : Nat × Nat) : Value := .slice (some ⟨z.1, 0, none⟩) L z.2
/-- A row of counts at a block. -/
def Rwi (A : World) (q : Nat) (r : List Int) : Prop := ∃ vs, Blk A q vs ∧ ∀ (j : Nat) (e : Int), r[j]? = some e → vs[j]? = some (.int .i64 e)
theorem Rwi.lt {A : World} {q : Nat} {r : List Int} (h : Rwi A q r) : q < A.heap.size := by
  obtain ⟨vs, h1, _⟩ := h
  exact h1.lt
theorem Rwi.of_block {A B : World} {q : Nat} {r : List Int} (h : Rwi A q r) (e : B.heap[q]? = A.heap[q]?) : Rwi B q r := by
  obtain ⟨vs, h1, h2⟩ := h
  exact ⟨vs, h1.of_block e, h2⟩
theorem Rwi.cell {A : World} {q : Nat} {r : List Int} (h : Rwi A q r) {j : Nat} {e : Int} (hj : r[j]? = some e) : A.cell? ⟨q, j, none⟩ = some (.int .i64 e) := by
  obtain ⟨vs, h1, h2⟩ := h
  exact h1.cell (h2 j e hj)
structure WsM (w : World) (l : List Tp) (fi tr : Int) (s : Ww) (A : World) : Prop where
  bank : Bk A s.b s.bg s.zs s.t
  spot : SpB s.sa (spots 0 l) A
  ops : Blk A s.ob (ptrs l.length s.X)
  mine : Blk A s.mn (u64s l.length s.M)
  dn : Blk A s.dn (vals l.length s.DV)
  dr : ∀ j, j < l.length → A.ownsRow 0 42 1 (s.DV j) (s.D j).length ((s.D j).map (Value.int .u64))
  box : Blk A s.xb [.int .u64 fi, .int .i64 tr]
  wr : ∀ j B n d o g y, Tn l j B n d → s.X j = some (o, g, y) → OpAt A o g (spB B n d) (rcd n (s.M j)) y ∧ Wf (spB B n d) (rcd n (s.M j)) y
  sn : ∀ p gs g x, s.O = some (p, gs, g, x) → NAt A p gs g (spots 0 l) x
  nw : A.ownsRow 0 59 1 s.NV s.N.length (s.NR.map (rwv l.length))
  nr : ∀ (i : Nat) (r : List Int), s.N[i]? = some r → r.length = l.length ∧ ∃ q c, s.NR[i]? = some (q, c) ∧ Rwi A q r
  nl : s.NR.length = s.N.length
  out : ∀ j, l.length ≤ j → s.X j = none
  dj : DjT w.heap.size s.own A.heap.size
  bel : Below w.heap.size w A
section
variable {w A B : World} {l : List Tp} {fi tr : Int} {s : Ww}
/-- Where only things of T, and what nobody owns, turned. -/
abbrev TrnW (w : World) (s : Ww) (T : Wt → Prop) (A B : World) : Prop := Upd (fun k => (∃ i, T i ∧ s.own i k) ∨ (w.heap.size ≤ k ∧ ∀ i, ¬ s.own i k)) A B
variable {T : Wt → Prop}
theorem WsM.keep (h : WsM w l fi tr s A) (u : TrnW w s T A B) {i : Wt} {k : Nat} (hi : ¬ T i) (ho : s.own i k) : B.heap[k]? = A.heap[k]? :=
  u.block k (h.dj.bd i k ho).2 (fun q => by
    rcases q with ⟨j, hj, hk⟩ | ⟨_, q⟩
    · exact hi (by rw [h.dj.dj i j k ho hk]; exact hj)
    · exact q i ho)
theorem WsM.belN (h : WsM w l fi tr s A) (u : TrnW w s T A B) : Below w.heap.size w B :=
  h.bel.trans (u.below h.bel.size (fun k hk => by
    rcases hk with ⟨i, _, hk⟩ | ⟨q, _⟩
    · exact (h.dj.bd i k hk).1
    · exact q))
theorem WsM.kBank (h : WsM w l fi tr s A) (u : TrnW w s T A B) (n : ¬ T .bank) : Bk B s.b s.bg s.zs s.t := h.bank.of_blocks (h.keep u n (k := s.b) (.inl rfl)) (h.keep u n (k := s.bg) (.inr rfl))
theorem WsM.kSpot (h : WsM w l fi tr s A) (u : TrnW w s T A B) (n : ¬ T .sa) : SpB s.sa (spots 0 l) B := h.spot.of_block (h.keep u n (k := s.sa) rfl)
theorem WsM.kOps (h : WsM w l fi tr s A) (u : TrnW w s T A B) (n : ¬ T .ob) : Blk B s.ob (ptrs l.length s.X) := h.ops.of_block (h.keep u n (k := s.ob) rfl)
theorem WsM.kMine (h : WsM w l fi tr s A) (u : TrnW w s T A B) (n : ¬ T .mn) : Blk B s.mn (u64s l.length s.M) := h.mine.of_block (h.keep u n (k := s.mn) rfl)
theorem WsM.kDn (h : WsM w l fi tr s A) (u : TrnW w s T A B) (n : ¬ T .dn) : Blk B s.dn (vals l.length s.DV) := h.dn.of_block (h.keep u n (k := s.dn) rfl)
theorem WsM.kDr (h : WsM w l fi tr s A) (u : TrnW w s T A B) {j : Nat} (n : ¬ T (.dr j)) (hj : j < l.length) : B.ownsRow 0 42 1 (s.DV j) (s.D j).length ((s.D j).map (Value.int .u64)) := owns_blocks (h.dr j hj) (fun g hg => h.keep u n (k := g) hg)
theorem WsM.kBox (h : WsM w l fi tr s A) (u : TrnW w s T A B) (n : ¬ T .xb) : Blk B s.xb [.int .u64 fi, .int .i64 tr] := h.box.of_block (h.keep u n (k := s.xb) rfl)
theorem WsM.kWr (h : WsM w l fi tr s A) (u : TrnW w s T A B) {j B' n' d o g : Nat} {y : St} (n : ¬ T (.wr j)) (t : Tn l j B' n' d) (hx : s.X j = some (o, g, y)) : OpAt B o g (spB B' n' d) (rcd n' (s.M j)) y ∧ Wf (spB B' n' d) (rcd n' (s.M j)) y := by
  obtain ⟨h1, h2⟩ := h.wr j B' n' d o g y t hx
  exact ⟨h1.of_blocks (h.keep u n (k := o) ⟨_, _, _, hx, .inl rfl⟩) (h.keep u n (k := g) ⟨_, _, _, hx, .inr rfl⟩), h2⟩
theorem WsM.kSn (h : WsM w l fi tr s A) (u : TrnW w s T A B) (n : ¬ T .sn) {p gs g : Nat} {x : NSt} (hx : s.O = some (p, gs, g, x)) : NAt B p gs g (spots 0 l) x :=
  (h.sn p gs g x hx).of_blocks (h.keep u n (k := p) ⟨_, _, _, _, hx, .inl rfl⟩) (h.keep u n (k := gs) ⟨_, _, _, _, hx, .inr (.inl rfl)⟩) (h.keep u n (k := g) ⟨_, _, _, _, hx, .inr (.inr rfl)⟩)
theorem WsM.kNw (h : WsM w l fi tr s A) (u : TrnW w s T A B) (n : ¬ T .nw) : B.ownsRow 0 59 1 s.NV s.N.length (s.NR.map (rwv l.length)) := owns_blocks h.nw (fun g hg => h.keep u n (k := g) hg)
theorem WsM.kNr (h : WsM w l fi tr s A) (u : TrnW w s T A B) (n : ¬ T .nr) (i : Nat) (r : List Int) (hr : s.N[i]? = some r) : r.length = l.length ∧ ∃ q c, s.NR[i]? = some (q, c) ∧ Rwi B q r := by
  obtain ⟨h1, q, c, h2, h3⟩ := h.nr i r hr
  exact ⟨h1, q, c, h2, h3.of_block (h.keep u n (k := q) ⟨i, q, c, h2, rfl⟩)⟩
theorem WsM.grown (h : WsM w l fi tr s A) (hs : A.heap.size ≤ B.heap.size) : DjT w.heap.size s.own B.heap.size := ⟨h.dj.dj, fun i k hk => ⟨(h.dj.bd i k hk).1, Nat.lt_of_lt_of_le (h.dj.bd i k hk).2 hs⟩⟩
theorem WsM.low (h : WsM w l fi tr s A) (u : Below A.heap.size A B) : WsM w l fi tr s B := by
  have u' : TrnW w s (fun _ => False) A B := Upd.of_below _ u
  have z : ¬ False := fun q => q
  exact ⟨h.kBank u' z, h.kSpot u' z, h.kOps u' z, h.kMine u' z, h.kDn u' z, fun j hj => h.kDr u' z hj, h.kBox u' z, fun j B' n d o g y t hx => h.kWr u' z t hx, fun p gs g x hx => h.kSn u' z hx, h.kNw u' z, h.kNr u' z, h.nl, h.out, h.grown u.size, h.belN u'⟩
theorem WsM.drew (h : WsM w l fi tr s A) : WsM w l fi tr s A.drew := h.low (Go.Proofs.Ytflgggfomhifeaa.belN (Below.refl _ _) 1)
/-- A publishing's step. -/
theorem WsM.step (h : WsM w l fi tr s A) {k o g B0 n d : Nat} {x y : St} {zs' : List Int} {t' : Int} (t : Tn l k B0 n d) (hx : s.X k = some (o, g, x)) (u : Upd (OwnS o s.b s.bg) A B) (hO : OpAt B o g (spB B0 n d) (rcd n (s.M k)) y) (hw : Wf (spB B0 n d) (rcd n (s.M k)) y) (hB : Bk B s.b s.bg zs' t') :
    WsM w l fi tr { s with X := upd s.X k (some (o, g, y)), zs := zs', t := t' } B := by
  have u' : TrnW w s (fun i => i = .bank ∨ i = .wr k) A B := u.mono (fun q hq => by
    rcases hq with rfl | rfl | rfl
    · exact .inl ⟨.wr k, .inr rfl, ⟨_, _, _, hx, .inl rfl⟩⟩
    · exact .inl ⟨.bank, .inl rfl, .inl rfl⟩
    · exact .inl ⟨.bank, .inl rfl, .inr rfl⟩)
  have hown : ∀ i q, ({ s with X := upd s.X k (some (o, g, y)), zs := zs', t := t' } : Ww).own i q → s.own i q := fun i q hq => by
    cases i with
    | wr j =>
      obtain ⟨o', g', y', e, hk⟩ := hq
      have e' : upd s.X k (some (o, g, y)) j = some (o', g', y') := e
      by_cases c : j = k
      · subst c
        rw [upd_self] at e'
        cases e'
        exact ⟨_, _, _, hx, hk⟩
      · rw [upd_ne _ _ c] at e'
        exact ⟨_, _, _, e', hk⟩
    | _ => exact hq
  have hkl : k < l.length := (List.getElem?_eq_some_iff.1 t.at').1
  refine ⟨hB, h.kSpot u' (by simp), ?_, h.kMine u' (by simp), h.kDn u' (by simp), fun j hj => h.kDr u' (by simp) hj, h.kBox u' (by simp), fun j B' n' d' o' g' y' t'' hx' => ?_, fun p gs g x hx => h.kSn u' (by simp) hx, h.kNw u' (by simp), h.kNr u' (by simp), h.nl, fun j hj => ?_, ⟨fun i j q h1 h2 => h.dj.dj i j q (hown i q h1) (hown j q h2), fun i q hq => ⟨(h.dj.bd i q (hown i q hq)).1, Nat.lt_of_lt_of_le (h.dj.bd i q (hown i q hq)).2 u.size⟩⟩, h.belN u'⟩
  · have e : ptrs l.length (upd s.X k (some (o, g, y))) = ptrs l.length s.X := by
      unfold ptrs
      refine List.map_congr_left (fun j _ => ?_)
      by_cases c : j = k
      · subst c; rw [upd_self, hx]; rfl
      · rw [upd_ne _ _ c]
    show Blk B s.ob (ptrs l.length (upd s.X k (some (o, g, y))))
    rw [e]
    exact h.kOps u' (by simp)
  · have e' : upd s.X k (some (o, g, y)) j = some (o', g', y') := hx'
    by_cases c : j = k
    · subst c
      rw [upd_self] at e'
      cases e'
      obtain ⟨rfl, rfl, rfl⟩ := tn_one t t''
      exact ⟨hO, hw⟩
    · rw [upd_ne _ _ c] at e'
      exact h.kWr u' (by simp [c]) t'' e'
  · show upd s.X k (some (o, g, y)) j = none
    rw [upd_ne _ _ (by omega)]
    exact h.out j hj
/-- The number of a record that will be published. -/
theorem WsM.putMine (h : WsM w l fi tr s A) {k : Nat} (hx : s.X k = none) (m : Int) : WsM w l fi tr { s with M := updD s.M k m } (A.setCell ⟨s.mn, k, none⟩ (.int .u64 m)) := by
  have u' : TrnW w s (fun i => i = .mn) A (A.setCell ⟨s.mn, k, none⟩ (.int .u64 m)) := (Upd.refl _ A).setCell (p := ⟨s.mn, k, none⟩) (.inl (.inl ⟨.mn, rfl, rfl⟩)) _
  have hown : ∀ i q, ({ s with M := updD s.M k m } : Ww).own i q → s.own i q := fun i q hq => by cases i <;> exact hq
  refine ⟨h.kBank u' (by simp), h.kSpot u' (by simp), h.kOps u' (by simp), ?_, h.kDn u' (by simp), fun j hj => h.kDr u' (by simp) hj, h.kBox u' (by simp), fun j B' n' d' o' g' y' t'' hx' => ?_, fun p gs g x hx => h.kSn u' (by simp) hx, h.kNw u' (by simp), h.kNr u' (by simp), h.nl, h.out, ⟨fun i j q h1 h2 => h.dj.dj i j q (hown i q h1) (hown j q h2), fun i q hq => ⟨(h.dj.bd i q (hown i q hq)).1, Nat.lt_of_lt_of_le (h.dj.bd i q (hown i q hq)).2 u'.size⟩⟩, h.belN u'⟩
  · have := h.mine.put k (.int .u64 m)
    rw [u64s_set] at this
    exact this
  · have c : ¬ j = k := fun e => by
      have hx'' : s.X j = some (o', g', y') := hx'
      rw [e, hx] at hx''
      cases hx''
    show OpAt _ o' g' _ (rcd n' (updD s.M k m j)) y' ∧ Wf _ (rcd n' (updD s.M k m j)) y'
    rw [updD_ne _ _ c]
    exact h.kWr u' (by simp) t'' hx'
/-- A publishing that has not begun is put into its place; m: what was there ahead of it. -/
theorem WsM.put (h : WsM w l fi tr s A) {k o g B0 n d m : Nat} {x : St} (t : Tn l k B0 n d) (hO : OpAt A o g (spB B0 n d) (rcd n (s.M k)) x) (hw : Wf (spB B0 n d) (rcd n (s.M k)) x) (hm : ∀ i q, s.own i q → q < m) (h1 : m ≤ o) (h2 : m ≤ g) (hlo : w.heap.size ≤ m) :
    WsM w l fi tr { s with X := upd s.X k (some (o, g, x)) } (A.setCell ⟨s.ob, k, none⟩ (.pointer (some ⟨o, 0, none⟩))) := by
  have hob : s.ob < m := hm .ob _ rfl
  have lO := hO.lto
  have lG := hO.ltg
  have u' : TrnW w s (fun i => i = .ob) A (A.setCell ⟨s.ob, k, none⟩ (.pointer (some ⟨o, 0, none⟩))) := (Upd.refl _ A).setCell (p := ⟨s.ob, k, none⟩) (.inl (.inl ⟨.ob, rfl, rfl⟩)) _
  have hO' : OpAt (A.setCell ⟨s.ob, k, none⟩ (.pointer (some ⟨o, 0, none⟩))) o g (spB B0 n d) (rcd n (s.M k)) x := hO.setFar (p := ⟨s.ob, k, none⟩) (by show o ≠ s.ob; omega) (by show g ≠ s.ob; omega) _
  have hown : ∀ i q, ({ s with X := upd s.X k (some (o, g, x)) } : Ww).own i q → s.own i q ∨ (i = .wr k ∧ m ≤ q ∧ q < A.heap.size) := fun i q hq => by
    cases i with
    | wr j =>
      obtain ⟨o', g', y', e, hk⟩ := hq
      have e' : upd s.X k (some (o, g, x)) j = some (o', g', y') := e
      by_cases c : j = k
      · subst c
        rw [upd_self] at e'
        cases e'
        rcases hk with rfl | rfl
        · exact .inr ⟨rfl, h1, lO⟩
        · exact .inr ⟨rfl, h2, lG⟩
      · rw [upd_ne _ _ c] at e'
        exact .inl ⟨_, _, _, e', hk⟩
    | _ => exact .inl hq
  refine ⟨h.kBank u' (by simp), h.kSpot u' (by simp), ?_, h.kMine u' (by simp), h.kDn u' (by simp), fun j hj => h.kDr u' (by simp) hj, h.kBox u' (by simp), fun j B' n' d' o' g' y' t'' hx' => ?_, fun p gs g x hx => h.kSn u' (by simp) hx, h.kNw u' (by simp), h.kNr u' (by simp), h.nl, fun j hj => ?_, ?_, h.belN u'⟩
  · have := h.ops.put k (ptr (some (o, g, x)))
    rw [ptrs_set] at this
    exact this
  · have e' : upd s.X k (some (o, g, x)) j = some (o', g', y') := hx'
    by_cases c : j = k
    · subst c
      rw [upd_self] at e'
      cases e'
      obtain ⟨rfl, rfl, rfl⟩ := tn_one t t''
      exact ⟨hO', hw⟩
    · rw [upd_ne _ _ c] at e'
      exact h.kWr u' (by simp) t'' e'
  · show upd s.X k (some (o, g, x)) j = none
    have : k < l.length := (List.getElem?_eq_some_iff.1 t.at').1
    rw [upd_ne _ _ (by omega)]
    exact h.out j hj
  · refine DjT.next (m := m) (i0 := .wr k) ⟨h.dj.dj, fun i q hq => ⟨(h.dj.bd i q hq).1, hm i q hq⟩⟩ (by have := u'.size; omega) hlo (fun i q hq => ?_)
    rcases hown i q hq with e | ⟨e1, e2, e3⟩
    · exact .inl e
    · exact .inr ⟨e1, e2, Nat.lt_of_lt_of_le e3 u'.size⟩
/-- A publishing that has ended is struck. -/
theorem WsM.strike (h : WsM w l fi tr s A) (k : Nat) : WsM w l fi tr { s with X := upd s.X k none } (A.setCell ⟨s.ob, k, none⟩ (.pointer none)) := by
  have u' : TrnW w s (fun i => i = .ob) A (A.setCell ⟨s.ob, k, none⟩ (.pointer none)) := (Upd.refl _ A).setCell (p := ⟨s.ob, k, none⟩) (.inl (.inl ⟨.ob, rfl, rfl⟩)) _
  have hown : ∀ i q, ({ s with X := upd s.X k none } : Ww).own i q → s.own i q := fun i q hq => by
    cases i with
    | wr j =>
      obtain ⟨o', g', y', e, hk⟩ := hq
      have e' : upd s.X k none j = some (o', g', y') := e
      by_cases c : j = k
      · subst c
        rw [upd_self] at e'
        cases e'
      · rw [upd_ne _ _ c] at e'
        exact ⟨_, _, _, e', hk⟩
    | _ => exact hq
  refine ⟨h.kBank u' (by simp), h.kSpot u' (by simp), ?_, h.kMine u' (by simp), h.kDn u' (by simp), fun j hj => h.kDr u' (by simp) hj, h.kBox u' (by simp), fun j B' n' d' o' g' y' t'' hx' => ?_, fun p gs g x hx => h.kSn u' (by simp) hx, h.kNw u' (by simp), h.kNr u' (by simp), h.nl, fun j hj => ?_, ⟨fun i j q h1 h2 => h.dj.dj i j q (hown i q h1) (hown j q h2), fun i q hq => ⟨(h.dj.bd i q (hown i q hq)).1, Nat.lt_of_lt_of_le (h.dj.bd i q (hown i q hq)).2 u'.size⟩⟩, h.belN u'⟩
  · have := h.ops.put k (ptr none)
    rw [ptrs_set] at this
    exact this
  · have e' : upd s.X k none j = some (o', g', y') := hx'
    by_cases c : j = k
    · subst c
      rw [upd_self] at e'
      cases e'
    · rw [upd_ne _ _ c] at e'
      exact h.kWr u' (by simp) t'' e'
  · show upd s.X k none j = none
    by_cases c : j = k
    · rw [c, upd_self]
    · rw [upd_ne _ _ c]
      exact h.out j hj
/-- One number more of what was published: the row grew from A to W, then it is put into its place. -/
theorem WsM.appD (h : WsM w l fi tr s A) {k : Nat} {V' : Value} {m : Int} (hk : k < l.length) (u : TrnW w s (fun i => i = .dr k) A B)
    (hV : B.ownsRow 0 42 1 V' ((s.D k).length + 1) ((s.D k).map (Value.int .u64) ++ [.int .u64 m])) (hf : V'.ownBlock = (s.DV k).ownBlock ∨ ∀ q, V'.ownBlock = some q → A.heap.size ≤ q ∧ q < B.heap.size) :
    WsM w l fi tr { s with D := updD s.D k (s.D k ++ [m]), DV := updD s.DV k V' } (B.setCell ⟨s.dn, k, none⟩ V') := by
  have u' : TrnW w s (fun i => i = .dr k ∨ i = .dn) A (B.setCell ⟨s.dn, k, none⟩ V') := (u.mono (fun q hq => by
    rcases hq with ⟨i, hi, ho⟩ | hq
    · exact .inl ⟨i, .inl hi, ho⟩
    · exact .inr hq)).setCell (p := ⟨s.dn, k, none⟩) (.inl (.inl ⟨.dn, .inr rfl, rfl⟩)) _
  have hsz := u.size
  have hdn := h.dj.bd .dn s.dn rfl
  have hne : V'.ownBlock ≠ some s.dn := fun e => by
    rcases hf with c | c
    · rw [c] at e
      have := h.dj.dj (.dr k) .dn s.dn e rfl
      cases this
    · have := (c _ e).1
      omega
  have hown : ∀ i q, ({ s with D := updD s.D k (s.D k ++ [m]), DV := updD s.DV k V' } : Ww).own i q → s.own i q ∨ (i = .dr k ∧ A.heap.size ≤ q ∧ q < B.heap.size) := fun i q hq => by
    cases i with
    | dr j =>
      have e' : (updD s.DV k V' j).ownBlock = some q := hq
      by_cases c : j = k
      · subst c
        rw [updD_self] at e'
        rcases hf with c | c
        · exact .inl (c.symm.trans e')
        · exact .inr ⟨rfl, c q e'⟩
      · rw [updD_ne _ _ c] at e'
        exact .inl e'
    | _ => exact .inl hq
  refine ⟨h.kBank u' (by simp), h.kSpot u' (by simp), h.kOps u' (by simp), h.kMine u' (by simp), ?_, fun j hj => ?_, h.kBox u' (by simp), fun j B' n d o g y t hx => h.kWr u' (by simp) t hx, fun p gs g x hx => h.kSn u' (by simp) hx, h.kNw u' (by simp), h.kNr u' (by simp), h.nl, h.out, h.dj.next (i0 := .dr k) u'.size h.bel.size (fun i q hq => ?_), h.belN u'⟩
  · have := (h.kDn u (by simp)).put k V'
    rw [vals_set] at this
    exact this
  · show World.ownsRow _ 0 42 1 (updD s.DV k V' j) (updD s.D k (s.D k ++ [m]) j).length ((updD s.D k (s.D k ++ [m]) j).map _)
    by_cases c : j = k
    · subst c
      rw [updD_self, updD_self, List.length_append, List.map_append]
      exact owns_blocks hV (fun g hg => Below.heap_setCell _ _ _ _ (fun c => hne (by rw [hg, c])))
    · rw [updD_ne _ _ c, updD_ne _ _ c]
      exact h.kDr u' (by simp [c]) hj
  · rcases hown i q hq with a | ⟨a, b, c⟩
    · exact .inl a
    · exact .inr ⟨a, b, Nat.lt_of_lt_of_le c (by simp [World.setCell])⟩
/-- Another snapshot. -/
theorem WsM.newSn (h : WsM w l fi tr s A) {p gs g m : Nat} {x : NSt} (hN : NAt A p gs g (spots 0 l) x) (hm : ∀ i q, s.own i q → q < m) (h1 : m ≤ p) (h2 : m ≤ gs) (h3 : m ≤ g) (hlo : w.heap.size ≤ m) :
    WsM w l fi tr { s with O := some (p, gs, g, x), NV := .slice none 0 0, N := [], NR := [] } A := by
  have l1 := hN.lto
  have l2 := hN.lts
  have l3 := hN.ltg
  refine ⟨h.bank, h.spot, h.ops, h.mine, h.dn, h.dr, h.box, h.wr, fun p' gs' g' x' hx => ?_, World.ownsRow_nil _ _ _ _, fun i r hr => (by simp at hr), rfl, h.out, DjT.next (m := m) (i0 := .sn) ⟨h.dj.dj, fun i q hq => ⟨(h.dj.bd i q hq).1, hm i q hq⟩⟩ (by omega) hlo (fun i q hq => ?_), h.bel⟩
  · cases hx
    exact hN
  · cases i with
    | sn =>
      obtain ⟨p', gs', g', x', e, hk⟩ := hq
      cases e
      rcases hk with rfl | rfl | rfl
      · exact .inr ⟨rfl, h1, l1⟩
      · exact .inr ⟨rfl, h2, l2⟩
      · exact .inr ⟨rfl, h3, l3⟩
    | nw => cases hq
    | nr =>
      obtain ⟨i, q', c, e, _⟩ := hq
      simp at e
    | _ => exact .inl hq
/-- The snapshot's step. -/
theorem WsM.stepSn (h : WsM w l fi tr s A) {p gs g : Nat} {x y : NSt} {t' : Int} (hO : s.O = some (p, gs, g, x)) (u : Upd (OwnN p g s.b s.bg) A B) (hN : NAt B p gs g (spots 0 l) y) (hB : Bk B s.b s.bg s.zs t') :
    WsM w l fi tr { s with O := some (p, gs, g, y), t := t' } B := by
  have u' : TrnW w s (fun i => i = .bank ∨ i = .sn) A B := u.mono (fun q hq => by
    rcases hq with rfl | rfl | rfl | rfl
    · exact .inl ⟨.sn, .inr rfl, ⟨_, _, _, _, hO, .inl rfl⟩⟩
    · exact .inl ⟨.sn, .inr rfl, ⟨_, _, _, _, hO, .inr (.inr rfl)⟩⟩
    · exact .inl ⟨.bank, .inl rfl, .inl rfl⟩
    · exact .inl ⟨.bank, .inl rfl, .inr rfl⟩)
  have hown : ∀ i q, ({ s with O := some (p, gs, g, y), t := t' } : Ww).own i q → s.own i q := fun i q hq => by
    cases i with
    | sn =>
      obtain ⟨p', gs', g', x', e, hk⟩ := hq
      cases e
      exact ⟨_, _, _, _, hO, hk⟩
    | _ => exact hq
  refine ⟨hB, h.kSpot u' (by simp), h.kOps u' (by simp), h.kMine u' (by simp), h.kDn u' (by simp), fun j hj => h.kDr u' (by simp) hj, h.kBox u' (by simp), fun j B' n d o g y t hx => h.kWr u' (by simp) t hx, fun p' gs' g' x' hx => ?_, h.kNw u' (by simp), h.kNr u' (by simp), h.nl, h.out, ⟨fun i j q h1 h2 => h.dj.dj i j q (hown i q h1) (hown j q h2), fun i q hq => ⟨(h.dj.bd i q (hown i q hq)).1, Nat.lt_of_lt_of_le (h.dj.bd i q (hown i q hq)).2 u.size⟩⟩, h.belN u'⟩
  cases hx
  exact hN
/-- One row of counts more. -/
theorem WsM.appN (h : WsM w l fi tr s A) {q c m : Nat} {r : List Int} {V' : Value} (hr : Rwi A q r) (hrl : r.length = l.length) (hm : ∀ i k, s.own i k → k < m) (hq : m ≤ q) (hlo : w.heap.size ≤ m) (u : TrnW w s (fun i => i = .nw) A B) (hqb : B.heap[q]? = A.heap[q]?)
    (hV : B.ownsRow 0 59 1 V' (s.N.length + 1) (s.NR.map (rwv l.length) ++ [rwv l.length (q, c)])) (hf : V'.ownBlock = s.NV.ownBlock ∨ ∀ q, V'.ownBlock = some q → A.heap.size ≤ q ∧ q < B.heap.size) :
    WsM w l fi tr { s with NV := V', N := s.N ++ [r], NR := s.NR ++ [(q, c)] } B := by
  have hql := hr.lt
  have hsz := u.size
  have key : ∀ i k, ({ s with NV := V', N := s.N ++ [r], NR := s.NR ++ [(q, c)] } : Ww).own i k → s.own i k ∨ (i = .nr ∧ k = q) ∨ (i = .nw ∧ A.heap.size ≤ k ∧ k < B.heap.size) := fun i k hk => by
    cases i with
    | nw =>
      have e : V'.ownBlock = some k := hk
      rcases hf with c | c
      · exact .inl (c.symm.trans e)
      · exact .inr (.inr ⟨rfl, c k e⟩)
    | nr =>
      obtain ⟨i, q', c', e, e2⟩ := hk
      have e : (s.NR ++ [(q, c)])[i]? = some (q', c') := e
      rw [List.getElem?_append] at e
      split at e
      · exact .inl ⟨i, q', c', e, e2⟩
      · have hi := (List.getElem?_eq_some_iff.1 e).1
        simp at hi
        have : i - s.NR.length = 0 := by omega
        rw [this] at e
        simp at e
        exact .inr (.inl ⟨rfl, by rw [e2, e.1]⟩)
    | _ => exact .inl hk
  refine ⟨h.kBank u (by simp), h.kSpot u (by simp), h.kOps u (by simp), h.kMine u (by simp), h.kDn u (by simp), fun j hj => h.kDr u (by simp) hj, h.kBox u (by simp), fun j B' n d o g y t hx => h.kWr u (by simp) t hx, fun p gs g x hx => h.kSn u (by simp) hx, ?_, fun i r' hr' => ?_, by simp [h.nl], h.out, ⟨fun i j k h1 h2 => ?_, fun i k h1 => ?_⟩, h.belN u⟩
  · show World.ownsRow _ 0 59 1 V' (s.N ++ [r]).length ((s.NR ++ [(q, c)]).map _)
    rw [List.length_append, List.map_append]
    exact hV
  · have hr' : (s.N ++ [r])[i]? = some r' := hr'
    show _ ∧ ∃ q' c', (s.NR ++ [(q, c)])[i]? = some (q', c') ∧ _
    rw [List.getElem?_append] at hr'
    split at hr'
    · obtain ⟨a1, q', c', a2, a3⟩ := h.kNr u (by simp) i r' hr'
      exact ⟨a1, q', c', by rw [List.getElem?_append_left (by rw [h.nl]; assumption)]; exact a2, a3⟩
    · have hi := (List.getElem?_eq_some_iff.1 hr').1
      simp at hi
      have e0 : i - s.N.length = 0 := by omega
      rw [e0] at hr'
      simp at hr'
      subst hr'
      exact ⟨hrl, q, c, by rw [List.getElem?_append_right (by rw [h.nl]; omega), h.nl, e0]; rfl, hr.of_block hqb⟩
  · rcases key i k h1 with a | ⟨a, a1⟩ | ⟨a, a1, a2⟩ <;> rcases key j k h2 with b | ⟨b, b1⟩ | ⟨b, b1, b2⟩
    · exact h.dj.dj i j k a b
    · have := hm i k a; omega
    · have := (h.dj.bd i k a).2; omega
    · have := hm j k b; omega
    · rw [a, b]
    · omega
    · have := (h.dj.bd j k b).2; omega
    · omega
    · rw [a, b]
  · rcases key i k h1 with a | ⟨_, a1⟩ | ⟨_, a1, a2⟩
    · have := h.dj.bd i k a; omega
    · omega
    · have := h.bel.size; omega
theorem WsM.drop (h : WsM w l fi tr s A) : WsM w l fi tr { s with O := none } A := by
  have hown : ∀ i q, ({ s with O := none } : Ww).own i q → s.own i q := fun i q hq => by
    cases i with
    | sn =>
      obtain ⟨_, _, _, _, e, _⟩ := hq
      cases e
    | _ => exact hq
  exact ⟨h.bank, h.spot, h.ops, h.mine, h.dn, h.dr, h.box, h.wr, fun p gs g x hx => (by cases hx), h.nw, h.nr, h.nl, h.out, ⟨fun i j q h1 h2 => h.dj.dj i j q (hown i q h1) (hown j q h2), fun i q hq => h.dj.bd i q (hown i q hq)⟩, h.bel⟩
/-- What told reads. -/
theorem WsM.dnAt (h : WsM w l fi tr s A) (hu : ∀ j v, v ∈ s.D j → U64 v) (hd : ∀ j, 1 ≤ (s.D j).length) : DnAt A s.dn l.length s.D := fun j hj => by
  have h1 := h.dr j hj
  have h2 := h.dn.cell (vals_get s.DV hj)
  rcases h1.2 with ⟨_, c⟩ | ⟨q, cap, cur, e, _, hg, _⟩
  · have := hd j; omega
  · rw [e] at h1 h2
    refine ⟨q, cap, h2, fun i v hv => ⟨hu j v (List.mem_of_getElem? hv), ?_⟩⟩
    have hc := World.ownsRow.cells (w := A) h1 rfl i (.int .u64 v) (by rw [List.getElem?_map, hv]; rfl)
    have e2 : (⟨q, 0, none⟩ : Addr).add i = ⟨q, i, none⟩ := by unfold Addr.add; split <;> simp_all
    rw [e2] at hc
    exact hc
theorem WsM.nwAt (h : WsM w l fi tr s A) : ∃ na nc, s.NV = .slice na s.N.length nc ∧ NwAt A na s.N := by
  have h1 := h.nw
  rcases h1.2 with ⟨e, c⟩ | ⟨q, cap, cur, e, _, hg, _⟩
  · refine ⟨none, 0, by rw [e, c], fun i r hr => ?_⟩
    have hi := (List.getElem?_eq_some_iff.1 hr).1
    omega
  · refine ⟨some ⟨q, 0, none⟩, cap, e, fun i r hr => ?_⟩
    obtain ⟨a1, q', c', a2, a3⟩ := h.nr i r hr
    rw [e] at h1
    have hc := World.ownsRow.cells (w := A) h1 rfl i (rwv l.length (q', c')) (by rw [List.getElem?_map, a2]; rfl)
    have e2 : (⟨q, 0, none⟩ : Addr).add i = ⟨q, i, none⟩ := by unfold Addr.add; split <;> simp_all
    rw [e2] at hc
    refine ⟨q, 0, q', c', rfl, by rw [Nat.zero_add, a1]; exact hc, fun j e hj => a3.cell hj⟩
end
/-- The rows of what was published, where the first so many are there. -/
def dv0 (dn j : Nat) : Nat → Value := fun i => if i < j then .slice (some ⟨dn + 1 + i, 0, none⟩) 1 1 else .slice none 0 0
/-- Where the loop begins. -/
theorem ws_mem0 {w A : World} {l : List Tp} {fi tr : Int} {b bg sa dn : Nat} (hB : Bk A b bg (List.replicate (tot 0 l).toNat 0) 0) (hS : SpB sa (spots 0 l) A) (hD : Blk A dn (vals l.length (dv0 dn l.length))) (hR : ∀ i, i < l.length → A.heap[dn + 1 + i]? = some (.cells #[.int .u64 0] 42)) (hX : Blk A w.heap.size [.int .u64 fi, .int .i64 tr])
    (hz : A.heap.size = dn + 1 + l.length) (hb : Below w.heap.size w A) (h1 : w.heap.size < b ∧ b < dn) (h2 : w.heap.size < bg ∧ bg < dn) (h3 : w.heap.size < sa ∧ sa < dn) (h4 : sa ≠ b ∧ sa ≠ bg) (m0 : Array Value) (hm0 : m0 = (u64s l.length (fun _ => 0)).toArray) (p0 : Array Value) (hp0 : p0 = (ptrs l.length (fun _ => none)).toArray) :
    WsM w l fi tr ⟨b, bg, sa, dn + 1 + l.length, dn, dn + 2 + l.length, w.heap.size, fun _ => none, fun _ => 0, fun _ => [0], dv0 dn l.length, List.replicate (tot 0 l).toNat 0, 0, none, .slice none 0 0, [], []⟩ ((A.alloc (.cells p0 65)).alloc (.cells m0 42)) := by
  subst hm0 hp0
  have hlow := (Below.refl A.heap.size A).alloc (Nat.le_refl _) (.cells (ptrs l.length (fun _ => none)).toArray 65)
  have hlow2 := hlow.alloc hlow.size (.cells (u64s l.length (fun _ => 0)).toArray 42)
  have e1 : (A.alloc (.cells (ptrs l.length (fun _ => none)).toArray 65)).heap.size = dn + 2 + l.length := by simp; omega
  have hO := Blk.new A (ptrs l.length (fun _ => none)).toArray 65
  have hM := Blk.new (A.alloc (.cells (ptrs l.length (fun _ => none)).toArray 65)) (u64s l.length (fun _ => 0)).toArray 42
  rw [e1] at hM
  rw [hz] at hO
  have hsz : ((A.alloc (.cells (ptrs l.length (fun _ => none)).toArray 65)).alloc (.cells (u64s l.length (fun _ => 0)).toArray 42)).heap.size = dn + 3 + l.length := by simp; omega
  have key : ∀ i k, Ww.own ⟨b, bg, sa, dn + 1 + l.length, dn, dn + 2 + l.length, w.heap.size, fun _ => none, fun _ => 0, fun _ => [0], dv0 dn l.length, List.replicate (tot 0 l).toNat 0, 0, none, .slice none 0 0, [], []⟩ i k →
      (i = .bank ∧ (k = b ∨ k = bg)) ∨ (i = .sa ∧ k = sa) ∨ (i = .ob ∧ k = dn + 1 + l.length) ∨ (i = .dn ∧ k = dn) ∨ (i = .mn ∧ k = dn + 2 + l.length) ∨ (i = .xb ∧ k = w.heap.size) ∨ (∃ j, i = .dr j ∧ j < l.length ∧ k = dn + 1 + j) := fun i k hk => by
    cases i with
    | bank => exact .inl ⟨rfl, hk⟩
    | sa => exact .inr (.inl ⟨rfl, hk⟩)
    | ob => exact .inr (.inr (.inl ⟨rfl, hk⟩))
    | dn => exact .inr (.inr (.inr (.inl ⟨rfl, hk⟩)))
    | mn => exact .inr (.inr (.inr (.inr (.inl ⟨rfl, hk⟩))))
    | xb => exact .inr (.inr (.inr (.inr (.inr (.inl ⟨rfl, hk⟩)))))
    | sn => obtain ⟨_, _, _, _, e, _⟩ := hk; cases e
    | nw => cases hk
    | nr => obtain ⟨_, _, _, e, _⟩ := hk; simp at e
    | wr j => obtain ⟨_, _, _, e, _⟩ := hk; cases e
    | dr j =>
      have e : (dv0 dn l.length j).ownBlock = some k := hk
      unfold dv0 at e
      split at e
      · rename_i hj
        refine .inr (.inr (.inr (.inr (.inr (.inr ⟨j, rfl, hj, ?_⟩)))))
        simpa [Value.ownBlock] using e.symm
      · cases e
  refine ⟨hB.below hlow2, hS.low hlow2, hO.alloc _, hM, hD.low hlow2, fun j hj => ?_, hX.low hlow2, fun j B n d o g y _ hx => (by cases hx), fun p gs g x hx => (by cases hx), World.ownsRow_nil _ _ _ _, fun i r hr => (by simp at hr), rfl, fun j _ => rfl, ⟨fun i j k k1 k2 => ?_, fun i k k1 => ?_⟩, hb.trans (hlow2.mono hb.size)⟩
  · show World.ownsRow _ 0 42 1 (dv0 dn l.length j) 1 [.int .u64 0]
    unfold dv0
    rw [if_pos hj]
    refine ⟨rfl, .inr ⟨dn + 1 + j, 1, #[.int .u64 0], rfl, Nat.zero_le _, ?_, Nat.le_refl _, by simp only [maxLen]; omega, rfl, rfl⟩⟩
    rw [hlow2.block (dn + 1 + j) (by omega)]
    exact hR j hj
  · rcases key i k k1 with ⟨rfl, a⟩ | ⟨rfl, a⟩ | ⟨rfl, a⟩ | ⟨rfl, a⟩ | ⟨rfl, a⟩ | ⟨rfl, a⟩ | ⟨j1, rfl, a0, a⟩ <;> rcases key j k k2 with ⟨rfl, c⟩ | ⟨rfl, c⟩ | ⟨rfl, c⟩ | ⟨rfl, c⟩ | ⟨rfl, c⟩ | ⟨rfl, c⟩ | ⟨j2, rfl, c0, c⟩ <;> first | rfl | (exfalso; omega) | (obtain rfl : j1 = j2 := (by omega); rfl)
  · have a := key i k k1
    rw [hsz]
    rcases a with ⟨rfl, a⟩ | ⟨rfl, a⟩ | ⟨rfl, a⟩ | ⟨rfl, a⟩ | ⟨rfl, a⟩ | ⟨rfl, a⟩ | ⟨j1, rfl, a0, a⟩ <;> omega
end Go.Proofs.Ytflgggfomhifeaa
