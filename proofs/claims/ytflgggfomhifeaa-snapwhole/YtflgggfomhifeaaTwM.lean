/- SnapTwo: its memory, and what is so of the sequences. No program is named here, but for types of slices. -/
import Derived.Test.YtflgggfomhifeaaOwM
import Derived.Test.YtflgggfomhifeaaAloM
namespace Go.Proofs.Ytflgggfomhifeaa
open Go.RowKit

abbrev Ops := Nat → Option (Nat × Nat × St)
def upd (X : Ops) (k : Nat) (v : Option (Nat × Nat × St)) : Ops := fun j => if j = k then v else X j
theorem upd_self (X : Ops) (k : Nat) (v : Option (Nat × Nat × St)) : upd X k v k = v := if_pos rfl
theorem upd_ne (X : Ops) {k j : Nat} (v : Option (Nat × Nat × St)) (h : ¬ j = k) : upd X k v j = X j := if_neg h
def ptr : Option (Nat × Nat × St) → Value
  | none => .pointer none
  | some (o, _, _) => .pointer (some ⟨o, 0, none⟩)
def ptrs (L : Nat) (X : Ops) : List Value := (List.range L).map (fun j => ptr (X j))
theorem ptrs_get {L j : Nat} (X : Ops) (h : j < L) : (ptrs L X)[j]? = some (ptr (X j)) := by simp [ptrs, h]
theorem ptrs_set (L k : Nat) (X : Ops) (v : Option (Nat × Nat × St)) : (ptrs L X).set k (ptr v) = ptrs L (upd X k v) := by
  refine List.ext_getElem? (fun i => ?_)
  by_cases hi : i < L
  · rw [ptrs_get _ hi]
    by_cases c1 : k = i
    · subst c1
      rw [List.getElem?_set_self (by simp [ptrs]; exact hi), upd_self]
    · rw [List.getElem?_set_ne c1, ptrs_get _ hi, upd_ne _ _ (fun e => c1 e.symm)]
  · rw [List.getElem?_eq_none_iff.2 (by rw [List.length_set]; simp [ptrs]; omega), List.getElem?_eq_none_iff.2 (by simp [ptrs]; omega)]
/-- How a publishing stands, by its topic's sequence v, behind c records. -/
def WSt (c : Nat) (y : St) (v : Int) : Prop :=
  y.how = 0 ∧ y.left = 1 ∧ ((y.line = 0 ∧ y.steps = 0 ∧ v = 2 * (c : Int)) ∨ (y.line = 1 ∧ y.steps = 1 ∧ y.s = 2 * (c : Int) ∧ v = 2 * (c : Int)) ∨ ((y.line = 2 ∨ y.line = 3) ∧ y.steps = 2 + y.n ∧ y.s = 2 * (c : Int) ∧ v = 2 * (c : Int) + 1))
/-- Of a topic's sequence v, behind c records, whoever is publishing. -/
def WOp (c : Nat) (x : Option (Nat × Nat × St)) (v : Int) : Prop :=
  match x with
  | none => v = 2 * (c : Int)
  | some (_, _, y) => WSt c y v
/-- The sequences of all topics. -/
def TW (l : List Tp) (zs : List Int) (c : Nat → Nat) (X : Ops) : Prop :=
  zs.length = (tot 0 l).toNat ∧ ∀ j B n d, Tn l j B n d → ∃ v, zs[B + 1]? = some v ∧ WOp (c j) (X j) v
theorem wop_half {c : Nat} {x : Option (Nat × Nat × St)} {v : Int} (h : WOp c x v) : v / 2 = (c : Int) := by
  unfold WOp at h
  split at h
  · omega
  · obtain ⟨_, _, ⟨_, _, e⟩ | ⟨_, _, _, e⟩ | ⟨_, _, _, e⟩⟩ := h <;> omega
theorem tw_gw {l : List Tp} {zs : List Int} {c : Nat → Nat} {X : Ops} (h : TW l zs c X) {j B n d : Nat} (t : Tn l j B n d) : gw zs (spB B n d) = (c j : Int) := by
  obtain ⟨v, hv, hw⟩ := h.2 j B n d t
  rw [gw_tn t hv, wop_half hw]
theorem tw_zero (l : List Tp) : TW l (List.replicate (tot 0 l).toNat 0) (fun _ => 0) (fun _ => none) := by
  refine ⟨by simp, fun j B n d t => ⟨0, ?_, rfl⟩⟩
  have := t.hi
  rw [List.getElem?_replicate, if_pos (by omega)]
theorem tw_alo {l : List Tp} {zs : List Int} {c : Nat → Nat} {X : Ops} {x : NSt} {tr p0 : Int} (h : okL l) (hP : TW l zs c X) (hx : ∀ v ∈ zs, U64 v) (hA : Alo (spots 0 l) (csl l.length c) (fun _ => True) tr p0 x) :
    (nst (spots 0 l) zs x).2 = 1 ∧
    (pos (spots 0 l) x + 1 < ful (spots 0 l) → Alo (spots 0 l) (csl l.length c) (fun _ => True) tr p0 (nst (spots 0 l) zs x).1 ∧ pos (spots 0 l) (nst (spots 0 l) zs x).1 = pos (spots 0 l) x + 1) ∧
    (pos (spots 0 l) x + 1 = ful (spots 0 l) → Dne (spots 0 l) (csl l.length c) (fun _ => True) p0 (nst (spots 0 l) zs x).1) := by
  have hk : x.k < l.length := by have := hA.wf.k; rw [spots_len] at this; exact this
  refine alo_step hA hx (spots_in h hP.1) (fun hl => ?_) (fun _ => trivial)
  obtain ⟨B, n, d, t⟩ := tn_of h hk
  have h1 := hA.wf.sp
  rw [t.sp] at h1
  rw [← Option.some.inj h1, tw_gw hP t, csl_get _ hk]
theorem tw_new {l : List Tp} {zs : List Int} {c : Nat → Nat} {X : Ops} {k o g : Nat} (hP : TW l zs c X) (hk : X k = none) : TW l zs c (upd X k (some (o, g, st0 1))) := by
  refine ⟨hP.1, fun j B n d t => ?_⟩
  obtain ⟨v, hv, hw⟩ := hP.2 j B n d t
  refine ⟨v, hv, ?_⟩
  by_cases e : j = k
  · subst e
    rw [upd_self]
    rw [hk] at hw
    exact ⟨rfl, rfl, .inl ⟨rfl, rfl, hw⟩⟩
  · rw [upd_ne _ _ e]
    exact hw
theorem lie_in {B n d : Nat} {ws : List Int} {y : St} (hw : Wf (spB B n d) ws y) (hl : y.line = 2) : (B : Int) + 2 ≤ lie (spB B n d) y ∧ lie (spB B n d) y < B + 2 + n * d := by
  obtain ⟨a1, a2, a3, a4, _, _, _, _, a5, a6⟩ := hw.rt
  have hn := hw.nl hl
  have hlen := hw.len
  have hn0 := hw.n0
  unfold lie
  rw [atv_ok (by unfold okS; omega)]
  have r0 : 0 ≤ (y.s / 2 + 1) % (spB B n d).dp := Int.emod_nonneg _ (by omega)
  have r1 : (y.s / 2 + 1) % (spB B n d).dp < (spB B n d).dp := Int.emod_lt_of_pos _ (by omega)
  have m1 : 0 ≤ (y.s / 2 + 1) % (spB B n d).dp * (spB B n d).wd := Int.mul_nonneg r0 (by omega)
  have m2 : ((y.s / 2 + 1) % (spB B n d).dp + 1) * (spB B n d).wd ≤ (spB B n d).dp * (spB B n d).wd := Int.mul_le_mul_of_nonneg_right (by omega) (by omega)
  rw [Int.add_mul, Int.one_mul, Int.mul_comm (spB B n d).dp (spB B n d).wd] at m2
  have e1 : (spB B n d).fs = (B : Int) + 2 := rfl
  have e2 : (spB B n d).wd = n := rfl
  have e3 : (spB B n d).dp = d := rfl
  simp only [e1, e2, e3] at m1 m2 hlen ⊢
  exact ⟨by omega, by omega⟩
/-- A step of a topic's one publishing. -/
theorem tw_step {l : List Tp} (h : okL l) {zs ws : List Int} {c : Nat → Nat} {X : Ops} {k o g B n d : Nat} {y : St} (hP : TW l zs c X) (t : Tn l k B n d) (hX : X k = some (o, g, y)) (hw : Wf (spB B n d) ws y) (hc : c k ≤ 1000) :
    ((stp (spB B n d) ws zs y).1.how = 0 ∧ TW l (stp (spB B n d) ws zs y).2.1 c (upd X k (some (o, g, (stp (spB B n d) ws zs y).1)))) ∨
    (¬ (stp (spB B n d) ws zs y).1.how = 0 ∧ TW l (stp (spB B n d) ws zs y).2.1 (fun j => if j = k then c k + 1 else c j) (upd X k none)) := by
  obtain ⟨v, hv, hs⟩ := hP.2 k B n d t
  rw [hX] at hs
  obtain ⟨hh, hl, hcs⟩ := hs
  have hsq : (spB B n d).sq = ((B + 1 : Nat) : Int) := by show (B : Int) + 1 = _; push_cast; rfl
  have hsn : (spB B n d).sq.toNat = B + 1 := by rw [hsq]; exact Int.toNat_natCast _
  have hg : getI zs (spB B n d).sq = some v := getI_mk (by rw [hsq]; omega) (by rw [hsn]; exact hv)
  have hlt := lt_of_some hv
  -- the other topics, where one word of this one has turned
  have oth : ∀ (ys : List Int) (c' : Nat → Nat) (X' : Ops), ys.length = zs.length → (∀ j B' n' d', Tn l j B' n' d' → ¬ j = k → ys[B' + 1]? = zs[B' + 1]?) → (∀ j, ¬ j = k → c' j = c j ∧ X' j = X j) → (∃ v', ys[B + 1]? = some v' ∧ WOp (c' k) (X' k) v') → TW l ys c' X' := fun ys c' X' h1 h2 h3 h4 => by
    refine ⟨h1.trans hP.1, fun j B' n' d' t' => ?_⟩
    by_cases e : j = k
    · subst e
      obtain ⟨rfl, rfl, rfl⟩ := tn_one t t'
      exact h4
    · rw [h2 j B' n' d' t' e, (h3 j e).1, (h3 j e).2]
      exact hP.2 j B' n' d' t'
  have far : ∀ j B' n' d', Tn l j B' n' d' → ¬ j = k → B' + 1 < B ∨ B + 2 + n * d ≤ B' + 1 := fun j B' n' d' t' e => by
    rcases Nat.lt_or_gt_of_ne e with q | q
    · have := tn_sep h t' t q
      have := t'.n1
      have := t'.d2
      omega
    · have := tn_sep h t t' q
      omega
  rcases hcs with ⟨l0, es, e⟩ | ⟨l1, es, e1, e⟩ | ⟨l23, es, e1, e⟩
  · refine .inl ?_
    rw [stp_look hh l0 hg (by omega)]
    exact ⟨hh, oth zs c _ rfl (fun _ _ _ _ _ _ => rfl) (fun j e => ⟨rfl, upd_ne _ _ e⟩) ⟨v, hv, by rw [upd_self]; exact ⟨hh, hl, .inr (.inl ⟨rfl, by show y.steps + 1 = 1; omega, e, e⟩)⟩⟩⟩
  · refine .inl ?_
    rw [stp_hit hh l1 hg (by omega), hsn]
    refine ⟨hh, oth _ c _ (by simp) (fun j B' n' d' t' e => ?_) (fun j e => ⟨rfl, upd_ne _ _ e⟩) ⟨_, List.getElem?_set_self hlt, by rw [upd_self]; exact ⟨hh, hl, .inr (.inr ⟨.inl rfl, by show y.steps + 1 = 2 + y.n; have := hw.nz (by omega); omega, e1, by rw [addw_small (by omega) (by omega) (by omega) (by omega), e1]⟩)⟩⟩⟩
    have := far j B' n' d' t' e
    exact List.getElem?_set_ne (by omega)
  · rcases l23 with l2 | l3
    · refine .inl ?_
      obtain ⟨p1, p2⟩ := lie_in hw l2
      have hin := t.hi
      obtain ⟨u, hu, _⟩ := getI_in (xs := zs) (a := lie (spB B n d) y) (by omega) (by rw [hP.1]; rw [← Int.natCast_mul] at p2; omega)
      rw [stp_lay hh l2 hu]
      refine ⟨hh, oth _ c _ (by simp) (fun j B' n' d' t' e => ?_) (fun j e => ⟨rfl, upd_ne _ _ e⟩) ⟨v, ?_, by rw [upd_self]; exact ⟨hh, hl, .inr (.inr ⟨by dsimp only; split <;> simp, by show y.steps + 1 = 2 + (y.n + 1); omega, e1, e⟩)⟩⟩⟩
      · have := far j B' n' d' t' e
        rw [← Int.natCast_mul] at p2
        exact List.getElem?_set_ne (by omega)
      · rw [List.getElem?_set_ne (by omega)]
        exact hv
    · refine .inr ?_
      rw [stp_give hh l3 hg, hsn]
      refine ⟨by show ¬ (1 : Int) = 0; omega, oth _ _ _ (by simp) (fun j B' n' d' t' e => ?_) (fun j e => ⟨if_neg e, upd_ne _ _ e⟩) ⟨_, List.getElem?_set_self hlt, ?_⟩⟩
      · have := far j B' n' d' t' e
        exact List.getElem?_set_ne (by omega)
      · rw [upd_self, addw_small (by omega) (by omega) (by omega) (by omega), e1]
        show _ = 2 * (((if k = k then c k + 1 else c k) : Nat) : Int)
        rw [if_pos rfl]
        push_cast
        omega
theorem wst_steps {c : Nat} {y : St} {v : Int} {S : Sp} {ws : List Int} (h : WSt c y v) (hw : Wf S ws y) : 0 ≤ y.steps ∧ y.steps ≤ 100 := by
  obtain ⟨_, _, hc⟩ := h
  have h0 := hw.n0
  have h1 := hw.n1
  rcases hc with ⟨_, e, _⟩ | ⟨_, e, _⟩ | ⟨_, e, _⟩ <;> omega
/-- All that lies in memory. -/
structure Tws where
  b : Nat
  bg : Nat
  sa : Nat
  ob : Nat
  X : Ops
  zs : List Int
  t : Int
  V : Option (Nat × Nat × List Int)
def Tws.own (s : Tws) : Nat → Nat → Prop
  | 0, k => k = s.b ∨ k = s.bg
  | 1, k => k = s.sa
  | 2, k => k = s.ob
  | 3, k => ∃ q c gs, s.V = some (q, c, gs) ∧ k = q
  | j + 4, k => ∃ o g y, s.X j = some (o, g, y) ∧ (k = o ∨ k = g)
def twv : Option (Nat × Nat × List Int) → Value
  | none => .slice none 0 0
  | some (q, c, gs) => .slice (some ⟨q, 0, none⟩) gs.length c
structure Dj (lo : Nat) (own : Nat → Nat → Prop) (m : Nat) : Prop where
  dj : ∀ i j k, own i k → own j k → i = j
  bd : ∀ i k, own i k → lo ≤ k ∧ k < m
theorem Dj.next {lo m M i0 : Nat} {own own' : Nat → Nat → Prop} (h : Dj lo own m) (hm : m ≤ M) (hlo : lo ≤ m) (hn : ∀ i k, own' i k → own i k ∨ (i = i0 ∧ m ≤ k ∧ k < M)) : Dj lo own' M := by
  refine ⟨fun i j k h1 h2 => ?_, fun i k h1 => ?_⟩
  · rcases hn i k h1 with a | ⟨a, a2, _⟩ <;> rcases hn j k h2 with c | ⟨c, c2, _⟩
    · exact h.dj i j k a c
    · have := (h.bd i k a).2; omega
    · have := (h.bd j k c).2; omega
    · omega
  · rcases hn i k h1 with a | ⟨_, a2, a3⟩
    · have := h.bd i k a; omega
    · omega
structure TwM (w : World) (l : List Tp) (s : Tws) (A : World) : Prop where
  bank : Bk A s.b s.bg s.zs s.t
  spot : SpB s.sa (spots 0 l) A
  ops : Blk A s.ob (ptrs l.length s.X)
  each : ∀ j B n d o g y, Tn l j B n d → s.X j = some (o, g, y) → ∃ ws, OpAt A o g (spB B n d) ws y ∧ Wf (spB B n d) ws y
  was : ∀ q c gs, s.V = some (q, c, gs) → Orw A q c gs
  out : ∀ j, l.length ≤ j → s.X j = none
  dj : Dj w.heap.size s.own A.heap.size
  bel : Below w.heap.size w A
section
variable {w A B : World} {l : List Tp} {s : Tws}
/-- Where only things of T, and what nobody owns, turned. -/
theorem TwM.keep {T : Nat → Prop} (h : TwM w l s A) (u : Upd (fun k => (∃ i, T i ∧ s.own i k) ∨ (w.heap.size ≤ k ∧ ∀ i, ¬ s.own i k)) A B) {i k : Nat} (hi : ¬ T i) (ho : s.own i k) : B.heap[k]? = A.heap[k]? :=
  u.block k (h.dj.bd i k ho).2 (fun q => by
    rcases q with ⟨j, hj, hk⟩ | ⟨_, q⟩
    · exact hi (by rw [h.dj.dj i j k ho hk]; exact hj)
    · exact q i ho)
theorem TwM.belN {T : Nat → Prop} (h : TwM w l s A) (u : Upd (fun k => (∃ i, T i ∧ s.own i k) ∨ (w.heap.size ≤ k ∧ ∀ i, ¬ s.own i k)) A B) : Below w.heap.size w B :=
  h.bel.trans (u.below h.bel.size (fun k hk => by
    rcases hk with ⟨i, _, hk⟩ | ⟨q, _⟩
    · exact (h.dj.bd i k hk).1
    · exact q))
theorem TwM.low (h : TwM w l s A) (u : Below A.heap.size A B) : TwM w l s B :=
  ⟨h.bank.below u, h.spot.low u, h.ops.low u, fun j B' n d o g y t hx => by
    obtain ⟨ws, h1, h2⟩ := h.each j B' n d o g y t hx
    exact ⟨ws, h1.below u, h2⟩, fun q c gs hv => (h.was q c gs hv).low u, h.out, ⟨h.dj.dj, fun i k hk => ⟨(h.dj.bd i k hk).1, Nat.lt_of_lt_of_le (h.dj.bd i k hk).2 u.size⟩⟩, h.bel.trans (u.mono h.bel.size)⟩
/-- The bank alone is touched (and what nobody owns). -/
theorem TwM.touch (h : TwM w l s A) (u : Upd (fun k => (∃ i, i = 0 ∧ s.own i k) ∨ (w.heap.size ≤ k ∧ ∀ i, ¬ s.own i k)) A B) {t' : Int} (hB : Bk B s.b s.bg s.zs t') : TwM w l { s with t := t' } B := by
  refine ⟨hB, h.spot.of_block (h.keep u (i := 1) (by omega) rfl), h.ops.of_block (h.keep u (i := 2) (by omega) rfl), fun j B' n d o g y t hx => ?_, fun q c gs hv => (h.was q c gs hv).of_block (h.keep u (i := 3) (by omega) ⟨q, c, gs, hv, rfl⟩), h.out, ⟨h.dj.dj, fun i k hk => ⟨(h.dj.bd i k hk).1, Nat.lt_of_lt_of_le (h.dj.bd i k hk).2 u.size⟩⟩, h.belN u⟩
  obtain ⟨ws, h1, h2⟩ := h.each j B' n d o g y t hx
  exact ⟨ws, h1.of_blocks (h.keep u (i := j + 4) (by omega) ⟨o, g, y, hx, .inl rfl⟩) (h.keep u (i := j + 4) (by omega) ⟨o, g, y, hx, .inr rfl⟩), h2⟩
/-- A publishing's step. -/
theorem TwM.step (h : TwM w l s A) {k o g B0 n d : Nat} {x y : St} {ws zs' : List Int} {t' : Int} (t : Tn l k B0 n d) (hx : s.X k = some (o, g, x)) (u : Upd (OwnS o s.b s.bg) A B) (hO : OpAt B o g (spB B0 n d) ws y) (hw : Wf (spB B0 n d) ws y) (hB : Bk B s.b s.bg zs' t') :
    TwM w l { s with X := upd s.X k (some (o, g, y)), zs := zs', t := t' } B := by
  have u' : Upd (fun q => (∃ i, (i = 0 ∨ i = k + 4) ∧ s.own i q) ∨ (w.heap.size ≤ q ∧ ∀ i, ¬ s.own i q)) A B := u.mono (fun q hq => by
    rcases hq with rfl | rfl | rfl
    · exact .inl ⟨k + 4, .inr rfl, ⟨_, _, _, hx, .inl rfl⟩⟩
    · exact .inl ⟨0, .inl rfl, .inl rfl⟩
    · exact .inl ⟨0, .inl rfl, .inr rfl⟩)
  have hown : ∀ i q, ({ s with X := upd s.X k (some (o, g, y)), zs := zs', t := t' } : Tws).own i q → s.own i q := fun i q hq => by
    match i, hq with
    | 0, hq => exact hq
    | 1, hq => exact hq
    | 2, hq => exact hq
    | 3, hq => exact hq
    | j + 4, ⟨o', g', y', e, hk⟩ =>
      have e' : upd s.X k (some (o, g, y)) j = some (o', g', y') := e
      by_cases c : j = k
      · subst c
        rw [upd_self] at e'
        cases e'
        exact ⟨_, _, _, hx, hk⟩
      · rw [upd_ne _ _ c] at e'
        exact ⟨_, _, _, e', hk⟩
  refine ⟨hB, h.spot.of_block (h.keep u' (i := 1) (by omega) rfl), ?_, fun j B' n' d' o' g' y' t'' hx' => ?_, fun q c gs hv => (h.was q c gs hv).of_block (h.keep u' (i := 3) (by omega) ⟨q, c, gs, hv, rfl⟩), fun j hj => ?_, ⟨fun i j q h1 h2 => h.dj.dj i j q (hown i q h1) (hown j q h2), fun i q hq => ⟨(h.dj.bd i q (hown i q hq)).1, Nat.lt_of_lt_of_le (h.dj.bd i q (hown i q hq)).2 u.size⟩⟩, h.belN u'⟩
  · have e : ptrs l.length (upd s.X k (some (o, g, y))) = ptrs l.length s.X := by
      unfold ptrs
      refine List.map_congr_left (fun j _ => ?_)
      by_cases c : j = k
      · subst c; rw [upd_self, hx]; rfl
      · rw [upd_ne _ _ c]
    show Blk B s.ob (ptrs l.length (upd s.X k (some (o, g, y))))
    rw [e]
    exact h.ops.of_block (h.keep u' (i := 2) (by omega) rfl)
  · have e' : upd s.X k (some (o, g, y)) j = some (o', g', y') := hx'
    by_cases c : j = k
    · subst c
      rw [upd_self] at e'
      cases e'
      obtain ⟨rfl, rfl, rfl⟩ := tn_one t t''
      exact ⟨ws, hO, hw⟩
    · rw [upd_ne _ _ c] at e'
      obtain ⟨ws', h1, h2⟩ := h.each j B' n' d' o' g' y' t'' e'
      exact ⟨ws', h1.of_blocks (h.keep u' (i := j + 4) (by omega) ⟨_, _, _, e', .inl rfl⟩) (h.keep u' (i := j + 4) (by omega) ⟨_, _, _, e', .inr rfl⟩), h2⟩
  · show upd s.X k (some (o, g, y)) j = none
    have : k < l.length := (List.getElem?_eq_some_iff.1 t.at').1
    rw [upd_ne _ _ (by omega)]
    exact h.out j hj
/-- A publishing that has not begun is put into its place; m: what was there ahead of it. -/
theorem TwM.put (h : TwM w l s A) {k o g B0 n d m : Nat} {x : St} {ws : List Int} (t : Tn l k B0 n d) (hO : OpAt A o g (spB B0 n d) ws x) (hw : Wf (spB B0 n d) ws x) (hm : ∀ i q, s.own i q → q < m) (h1 : m ≤ o) (h2 : m ≤ g) (hlo : w.heap.size ≤ m) :
    TwM w l { s with X := upd s.X k (some (o, g, x)) } (A.setCell ⟨s.ob, k, none⟩ (.pointer (some ⟨o, 0, none⟩))) := by
  have hob : s.ob < m := hm 2 _ rfl
  have lO := hO.lto
  have lG := hO.ltg
  have u' : Upd (fun q => (∃ i, i = 2 ∧ s.own i q) ∨ (w.heap.size ≤ q ∧ ∀ i, ¬ s.own i q)) A (A.setCell ⟨s.ob, k, none⟩ (.pointer (some ⟨o, 0, none⟩))) := (Upd.refl _ A).setCell (p := ⟨s.ob, k, none⟩) (.inl (.inl ⟨2, rfl, rfl⟩)) _
  have hO' : OpAt (A.setCell ⟨s.ob, k, none⟩ (.pointer (some ⟨o, 0, none⟩))) o g (spB B0 n d) ws x := hO.setFar (p := ⟨s.ob, k, none⟩) (by show o ≠ s.ob; omega) (by show g ≠ s.ob; omega) _
  have hown : ∀ i q, ({ s with X := upd s.X k (some (o, g, x)) } : Tws).own i q → s.own i q ∨ (i = k + 4 ∧ m ≤ q ∧ q < A.heap.size) := fun i q hq => by
    match i, hq with
    | 0, hq => exact .inl hq
    | 1, hq => exact .inl hq
    | 2, hq => exact .inl hq
    | 3, hq => exact .inl hq
    | j + 4, ⟨o', g', y', e, hk⟩ =>
      have e' : upd s.X k (some (o, g, x)) j = some (o', g', y') := e
      by_cases c : j = k
      · subst c
        rw [upd_self] at e'
        cases e'
        rcases hk with rfl | rfl
        · exact .inr ⟨rfl, h1, lO⟩
        · exact .inr ⟨rfl, h2, lG⟩
      · rw [upd_ne _ _ c] at e'
        exact .inl ⟨_, _, _, e', hk⟩
  refine ⟨h.bank.of_blocks (h.keep u' (i := 0) (by omega) (.inl rfl)) (h.keep u' (i := 0) (by omega) (.inr rfl)), h.spot.of_block (h.keep u' (i := 1) (by omega) rfl), ?_, fun j B' n' d' o' g' y' t'' hx' => ?_, fun q c gs hv => (h.was q c gs hv).of_block (h.keep u' (i := 3) (by omega) ⟨q, c, gs, hv, rfl⟩), fun j hj => ?_, ?_, h.belN u'⟩
  · have := h.ops.put k (ptr (some (o, g, x)))
    rw [ptrs_set] at this
    exact this
  · have e' : upd s.X k (some (o, g, x)) j = some (o', g', y') := hx'
    by_cases c : j = k
    · subst c
      rw [upd_self] at e'
      cases e'
      obtain ⟨rfl, rfl, rfl⟩ := tn_one t t''
      exact ⟨ws, hO', hw⟩
    · rw [upd_ne _ _ c] at e'
      obtain ⟨ws', h1, h2⟩ := h.each j B' n' d' o' g' y' t'' e'
      exact ⟨ws', h1.of_blocks (h.keep u' (i := j + 4) (by omega) ⟨_, _, _, e', .inl rfl⟩) (h.keep u' (i := j + 4) (by omega) ⟨_, _, _, e', .inr rfl⟩), h2⟩
  · show upd s.X k (some (o, g, x)) j = none
    have : k < l.length := (List.getElem?_eq_some_iff.1 t.at').1
    rw [upd_ne _ _ (by omega)]
    exact h.out j hj
  · refine Dj.next (m := m) (i0 := k + 4) ⟨h.dj.dj, fun i q hq => ⟨(h.dj.bd i q hq).1, hm i q hq⟩⟩ (by have := u'.size; omega) hlo (fun i q hq => ?_)
    rcases hown i q hq with e | ⟨e1, e2, e3⟩
    · exact .inl e
    · exact .inr ⟨e1, e2, Nat.lt_of_lt_of_le e3 u'.size⟩
/-- A publishing that has ended is struck. -/
theorem TwM.strike (h : TwM w l s A) (k : Nat) : TwM w l { s with X := upd s.X k none } (A.setCell ⟨s.ob, k, none⟩ (.pointer none)) := by
  have u' : Upd (fun q => (∃ i, i = 2 ∧ s.own i q) ∨ (w.heap.size ≤ q ∧ ∀ i, ¬ s.own i q)) A (A.setCell ⟨s.ob, k, none⟩ (.pointer none)) := (Upd.refl _ A).setCell (p := ⟨s.ob, k, none⟩) (.inl (.inl ⟨2, rfl, rfl⟩)) _
  have hown : ∀ i q, ({ s with X := upd s.X k none } : Tws).own i q → s.own i q := fun i q hq => by
    match i, hq with
    | 0, hq => exact hq
    | 1, hq => exact hq
    | 2, hq => exact hq
    | 3, hq => exact hq
    | j + 4, ⟨o', g', y', e, hk⟩ =>
      have e' : upd s.X k none j = some (o', g', y') := e
      by_cases c : j = k
      · subst c
        rw [upd_self] at e'
        cases e'
      · rw [upd_ne _ _ c] at e'
        exact ⟨_, _, _, e', hk⟩
  refine ⟨h.bank.of_blocks (h.keep u' (i := 0) (by omega) (.inl rfl)) (h.keep u' (i := 0) (by omega) (.inr rfl)), h.spot.of_block (h.keep u' (i := 1) (by omega) rfl), ?_, fun j B' n' d' o' g' y' t'' hx' => ?_, fun q c gs hv => (h.was q c gs hv).of_block (h.keep u' (i := 3) (by omega) ⟨q, c, gs, hv, rfl⟩), fun j hj => ?_, ⟨fun i j q h1 h2 => h.dj.dj i j q (hown i q h1) (hown j q h2), fun i q hq => ⟨(h.dj.bd i q (hown i q hq)).1, Nat.lt_of_lt_of_le (h.dj.bd i q (hown i q hq)).2 u'.size⟩⟩, h.belN u'⟩
  · have := h.ops.put k (ptr none)
    rw [ptrs_set] at this
    exact this
  · have e' : upd s.X k none j = some (o', g', y') := hx'
    by_cases c : j = k
    · subst c
      rw [upd_self] at e'
      cases e'
    · rw [upd_ne _ _ c] at e'
      obtain ⟨ws', h1, h2⟩ := h.each j B' n' d' o' g' y' t'' e'
      exact ⟨ws', h1.of_blocks (h.keep u' (i := j + 4) (by omega) ⟨_, _, _, e', .inl rfl⟩) (h.keep u' (i := j + 4) (by omega) ⟨_, _, _, e', .inr rfl⟩), h2⟩
  · show upd s.X k none j = none
    by_cases c : j = k
    · rw [c, upd_self]
    · rw [upd_ne _ _ c]
      exact h.out j hj
/-- Another row is told. -/
theorem TwM.tell (h : TwM w l s A) {q c m : Nat} {gs : List Int} (hO : Orw A q c gs) (hm : ∀ i q, s.own i q → q < m) (h1 : m ≤ q) (hlo : w.heap.size ≤ m) : TwM w l { s with V := some (q, c, gs) } A := by
  refine ⟨h.bank, h.spot, h.ops, h.each, fun q' c' gs' hv => ?_, h.out, ?_, h.bel⟩
  · cases hv
    exact hO
  · refine Dj.next (m := m) (i0 := 3) ⟨h.dj.dj, fun i q hq => ⟨(h.dj.bd i q hq).1, hm i q hq⟩⟩ (by have := hO.lt; omega) hlo (fun i k hk => ?_)
    match i, hk with
    | 0, hk => exact .inl hk
    | 1, hk => exact .inl hk
    | 2, hk => exact .inl hk
    | 3, ⟨q', c', gs', e, hk⟩ =>
      cases e
      exact .inr ⟨rfl, by omega, by rw [hk]; exact hO.lt⟩
    | j + 4, hk => exact .inl hk
end
end Go.Proofs.Ytflgggfomhifeaa
