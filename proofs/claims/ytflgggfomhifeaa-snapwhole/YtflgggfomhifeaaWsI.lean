/- SnapWhole: what is so of the topics' words, whoever is publishing. No program is named here. -/
import Derived.Test.YtflgggfomhifeaaTwM
import Derived.Test.YtflgggfomhifeaaRec
namespace Go.Proofs.Ytflgggfomhifeaa
open Go.RowKit

/-- The word i of the record of generation g, by what was published. -/
def wnt (D : List Int) (g i : Nat) : Int := if g = 0 then 0 else rcw (D.getD g 0) i
theorem wnt_app {D : List Int} {g : Nat} (i : Nat) (m : Int) (h : g < D.length) : wnt (D ++ [m]) g i = wnt D g i := by
  unfold wnt
  rw [List.getD_eq_getElem?_getD, List.getD_eq_getElem?_getD, List.getElem?_append_left h]
theorem wnt_new {D : List Int} (i : Nat) (m : Int) (h : 1 ≤ D.length) : wnt (D ++ [m]) D.length i = rcw m i := by
  unfold wnt
  rw [if_neg (by omega), List.getD_eq_getElem?_getD, List.getElem?_append_right (Nat.le_refl _)]
  simp
/-- Where the place of generation c begins. -/
def plg (B n d c : Nat) : Nat := B + 2 + c % d * n
theorem plc_plg (B n d c : Nat) : plc B n d c = plg B n d (c + 1) := rfl
theorem plg_in {B n d c : Nat} (h : 2 ≤ d) : B + 2 ≤ plg B n d c ∧ plg B n d c + n ≤ B + 2 + n * d := by
  unfold plg
  have h : c % d < d := Nat.mod_lt _ (by omega)
  have h' : (c % d + 1) * n ≤ d * n := Nat.mul_le_mul_right n h
  rw [Nat.add_mul, Nat.one_mul, Nat.mul_comm d n] at h'
  exact ⟨by omega, by omega⟩
theorem plg_apart {B n d c i j : Nat} (h : 2 ≤ d) (hi : i < n) (hj : j < n) : plg B n d c + i ≠ plg B n d (c + 1) + j := by
  unfold plg
  have hne : (c + 1) % d ≠ c % d := fun e => by
    have h1 := Nat.sub_mod_eq_zero_of_mod_eq e
    rw [Nat.add_sub_cancel_left, Nat.mod_eq_of_lt (by omega)] at h1
    omega
  generalize (c + 1) % d = a at *
  generalize c % d = b at *
  rcases Nat.lt_or_gt_of_ne hne with q | q
  · have h' : (a + 1) * n ≤ b * n := Nat.mul_le_mul_right n q
    rw [Nat.add_mul, Nat.one_mul] at h'
    omega
  · have h' : (b + 1) * n ≤ a * n := Nat.mul_le_mul_right n q
    rw [Nat.add_mul, Nat.one_mul] at h'
    omega
theorem plg_atv {B n d c : Nat} (hB : B ≤ 100000) (h1 : 1 ≤ n) (h2 : n ≤ 64) (h3 : 2 ≤ d) (h4 : d ≤ 16) : atv (spB B n d).fs (spB B n d).wd (spB B n d).dp (c : Int) = plg B n d c := by
  unfold plg
  show atv ((B : Int) + 2) n d _ = _
  rw [atv_ok (by unfold okS; omega)]
  push_cast
  rfl
/-- One topic: D is what was published, M what is being published, X who publishes. -/
structure TI (B n d : Nat) (D : List Int) (M : Int) (X : Option (Nat × Nat × St)) (zs : List Int) : Prop where
  d1 : 1 ≤ D.length
  seq : ∃ v, zs[B + 1]? = some v ∧ WOp (D.length - 1) X v
  kept : ∀ i, i < n → zs[plg B n d (D.length - 1) + i]? = some (wnt D (D.length - 1) i)
  cur : ∀ o g y, X = some (o, g, y) → (∀ i : Nat, (i : Int) < y.n → zs[plg B n d (D.length - 1 + 1) + i]? = some (rcw M i)) ∧ (y.line = 3 → y.n = n) ∧ y.n ≤ n
section
variable {B n d : Nat} {D : List Int} {M : Int} {X : Option (Nat × Nat × St)} {zs zs' : List Int}
theorem TI.far (h : TI B n d D M X zs) (h2 : 2 ≤ d) (e : ∀ i, B + 1 ≤ i → i < B + 2 + n * d → zs'[i]? = zs[i]?) (h1 : 1 ≤ n) : TI B n d D M X zs' := by
  have hnd : n * 1 ≤ n * d := Nat.mul_le_mul_left n (by omega)
  obtain ⟨v, h3, h4⟩ := h.seq
  refine ⟨h.d1, ⟨v, by rw [e _ (by omega) (by omega)]; exact h3, h4⟩, fun i hi => ?_, fun o g y hX => ?_⟩
  · have := plg_in (B := B) (n := n) (c := D.length - 1) h2
    rw [e _ (by omega) (by omega)]
    exact h.kept i hi
  · obtain ⟨a, b, c⟩ := h.cur o g y hX
    refine ⟨fun i hi => ?_, b, c⟩
    have := plg_in (B := B) (n := n) (c := D.length - 1 + 1) h2
    rw [e _ (by omega) (by omega)]
    exact a i hi
/-- A topic that nobody published yet. -/
theorem ti_zero (hz : ∀ i, B + 1 ≤ i → i < B + 2 + n * d → zs[i]? = some 0) (h2 : 2 ≤ d) (h1 : 1 ≤ n) : TI B n d [0] M none zs := by
  have hnd : n * 1 ≤ n * d := Nat.mul_le_mul_left n (by omega)
  refine ⟨Nat.le_refl _, ⟨0, hz _ (by omega) (by omega), rfl⟩, fun i hi => ?_, fun o g y hX => by cases hX⟩
  have := plg_in (B := B) (n := n) (c := [(0 : Int)].length - 1) h2
  rw [hz _ (by omega) (by omega)]
  rfl
/-- Another publishing begins. -/
theorem TI.new (h : TI B n d D M none zs) (M' : Int) (o g : Nat) : TI B n d D M' (some (o, g, st0 1)) zs := by
  obtain ⟨v, h3, h4⟩ := h.seq
  refine ⟨h.d1, ⟨v, h3, ⟨rfl, rfl, .inl ⟨rfl, rfl, h4⟩⟩⟩, h.kept, fun o' g' y e => ?_⟩
  cases e
  exact ⟨fun i hi => by have hi : (i : Int) < 0 := hi; omega, fun c => by have c : (0 : Int) = 3 := c; omega, by show (0 : Int) ≤ n; omega⟩
theorem TI.half (h : TI B n d D M X zs) : ∃ v, zs[B + 1]? = some v ∧ v / 2 = ((D.length - 1 : Nat) : Int) := by
  obtain ⟨v, h3, h4⟩ := h.seq
  exact ⟨v, h3, wop_half h4⟩
/-- A step of its one publishing. -/
theorem ti_step {o g : Nat} {y : St} (h : TI B n d D M (some (o, g, y)) zs) (hw : Wf (spB B n d) (rcd n M) y) (hB : B ≤ 100000) (h1 : 1 ≤ n) (h2 : n ≤ 64) (h3 : 2 ≤ d) (h4 : d ≤ 16) (hl : B + 2 + n * d ≤ zs.length) (hc : D.length ≤ 1000) :
    (∀ i, ¬ (B + 1 ≤ i ∧ i < B + 2 + n * d) → (stp (spB B n d) (rcd n M) zs y).2.1[i]? = zs[i]?) ∧ (stp (spB B n d) (rcd n M) zs y).2.1.length = zs.length ∧
    (((stp (spB B n d) (rcd n M) zs y).1.how = 0 ∧ TI B n d D M (some (o, g, (stp (spB B n d) (rcd n M) zs y).1)) (stp (spB B n d) (rcd n M) zs y).2.1) ∨
     ((stp (spB B n d) (rcd n M) zs y).1.how = 1 ∧ TI B n d (D ++ [M]) M none (stp (spB B n d) (rcd n M) zs y).2.1)) := by
  obtain ⟨v, hv, hh, hlf, hs⟩ := h.seq
  have hd1 := h.d1
  obtain ⟨cu, cl, cn⟩ := h.cur o g y rfl
  have hnd : n * 1 ≤ n * d := Nat.mul_le_mul_left n (by omega)
  have hsq : (spB B n d).sq = ((B + 1 : Nat) : Int) := by show (B : Int) + 1 = _; push_cast; rfl
  have hsn : (spB B n d).sq.toNat = B + 1 := by rw [hsq]; exact Int.toNat_natCast _
  have hg : getI zs (spB B n d).sq = some v := getI_mk (by rw [hsq]; omega) (by rw [hsn]; exact hv)
  have hlt := lt_of_some hv
  have p1 := plg_in (B := B) (n := n) (c := D.length - 1) h3
  have p2 := plg_in (B := B) (n := n) (c := D.length - 1 + 1) h3
  have setf : ∀ (u : Int) (i : Nat), i ≠ B + 1 → (zs.set (B + 1) u)[i]? = zs[i]? := fun u i hi => List.getElem?_set_ne (Ne.symm hi)
  rcases hs with ⟨l0, es, e⟩ | ⟨l1, es, e1, e⟩ | ⟨l23, es, e1, e⟩
  · rw [stp_look hh l0 hg (by omega)]
    refine ⟨fun _ _ => rfl, rfl, .inl ⟨hh, hd1, ⟨v, hv, ⟨hh, hlf, .inr (.inl ⟨rfl, by show y.steps + 1 = 1; omega, e, e⟩)⟩⟩, h.kept, fun o' g' y' q => ?_⟩⟩
    cases q
    exact ⟨cu, fun c => absurd (show (1 : Int) = 3 from c) (by omega), cn⟩
  · have hn0 := hw.nz (by omega)
    rw [stp_hit hh l1 hg (by omega), hsn]
    refine ⟨fun i hi => setf _ i (by omega), by simp, .inl ⟨hh, hd1, ⟨_, List.getElem?_set_self hlt, ⟨hh, hlf, .inr (.inr ⟨.inl rfl, by show y.steps + 1 = 2 + y.n; omega, e1, by rw [addw_small (by omega) (by omega) (by omega) (by omega), e1]⟩)⟩⟩, fun i hi => ?_, fun o' g' y' q => ?_⟩⟩
    · show (zs.set (B + 1) _)[_]? = _
      rw [setf _ _ (by omega)]
      exact h.kept i hi
    · cases q
      exact ⟨fun i hi => by have hi : (i : Int) < y.n := hi; omega, fun c => absurd (show (2 : Int) = 3 from c) (by omega), cn⟩
  · rcases l23 with l2 | l3
    · have hn0 := hw.n0
      have hnl := hw.nl l2
      rw [rcd_len] at hnl
      obtain ⟨m, hm⟩ := Int.eq_ofNat_of_zero_le hn0
      have hlie : lie (spB B n d) y = ((plg B n d (D.length - 1 + 1) + m : Nat) : Int) := by
        rw [plc_lie hB h1 h2 h3 h4 y (k := D.length - 1) (by omega), plc_plg, hm]
        push_cast
        rfl
      have hmn : m < n := by omega
      have hin : plg B n d (D.length - 1 + 1) + m < zs.length := by omega
      have hlt2 : (lie (spB B n d) y).toNat = plg B n d (D.length - 1 + 1) + m := by rw [hlie]; exact Int.toNat_natCast _
      have hgl : getI zs (lie (spB B n d) y) = some (zs[plg B n d (D.length - 1 + 1) + m]) := getI_mk (by rw [hlie]; omega) (by rw [hlt2]; exact List.getElem?_eq_getElem _)
      rw [stp_lay hh l2 hgl, hlt2, hm, Int.toNat_natCast, rcd_len, List.getD_eq_getElem?_getD, rcd_get M hmn]
      refine ⟨fun i hi => List.getElem?_set_ne (by omega), by simp, .inl ⟨hh, hd1, ⟨v, ?_, ⟨hh, hlf, .inr (.inr ⟨by dsimp only; split <;> simp, by show y.steps + 1 = 2 + ((m : Int) + 1); omega, e1, e⟩)⟩⟩, fun i hi => ?_, fun o' g' y' q => ?_⟩⟩
      · show (zs.set _ _)[_]? = _
        rw [List.getElem?_set_ne (by omega)]
        exact hv
      · show (zs.set _ _)[_]? = _
        rw [List.getElem?_set_ne (Ne.symm (plg_apart h3 hi hmn))]
        exact h.kept i hi
      · cases q
        refine ⟨fun i hi => ?_, fun c => ?_, by show (m : Int) + 1 ≤ n; omega⟩
        · have hi : (i : Int) < (m : Int) + 1 := hi
          show (zs.set _ _)[_]? = _
          by_cases c : i = m
          · subst c
            rw [List.getElem?_set_self hin]
            rfl
          · rw [List.getElem?_set_ne (by omega)]
            exact cu i (by omega)
        · have c : (if (m : Int) + 1 = (n : Int) then (3 : Int) else 2) = 3 := c
          show (m : Int) + 1 = n
          split at c
          · assumption
          · omega
    · have hn := cl l3
      rw [stp_give hh l3 hg, hsn]
      refine ⟨fun i hi => setf _ i (by omega), by simp, .inr ⟨rfl, by simp, ⟨_, List.getElem?_set_self hlt, ?_⟩, fun i hi => ?_, fun o' g' y' q => by cases q⟩⟩
      · show _ = 2 * (((D ++ [M]).length - 1 : Nat) : Int)
        rw [addw_small (by omega) (by omega) (by omega) (by omega), e1, List.length_append]
        simp only [List.length_cons, List.length_nil]
        omega
      · show (zs.set (B + 1) _)[_]? = _
        have e : (D ++ [M]).length - 1 = D.length := by simp
        have e2 : D.length - 1 + 1 = D.length := by omega
        rw [e]
        rw [e2] at p2 cu
        rw [setf _ _ (by omega), wnt_new i M hd1]
        exact cu i (by omega)
end
/-- All topics. -/
def TWW (l : List Tp) (zs : List Int) (D : Nat → List Int) (M : Nat → Int) (X : Ops) : Prop :=
  zs.length = (tot 0 l).toNat ∧ ∀ j B n d, Tn l j B n d → TI B n d (D j) (M j) (X j) zs
def updD {α : Type} (D : Nat → α) (k : Nat) (v : α) : Nat → α := fun j => if j = k then v else D j
theorem updD_self {α : Type} (D : Nat → α) (k : Nat) (v : α) : updD D k v k = v := if_pos rfl
theorem updD_ne {α : Type} (D : Nat → α) {k j : Nat} (v : α) (h : ¬ j = k) : updD D k v j = D j := if_neg h
theorem tww_zero (l : List Tp) (M : Nat → Int) : TWW l (List.replicate (tot 0 l).toNat 0) (fun _ => [0]) M (fun _ => none) := by
  refine ⟨by simp, fun j B n d t => ti_zero (fun i h1 h2 => ?_) t.d2 t.n1⟩
  have := t.hi
  rw [List.getElem?_replicate, if_pos (by omega)]
theorem tww_new {l : List Tp} {zs : List Int} {D : Nat → List Int} {M : Nat → Int} {X : Ops} {k o g : Nat} (h : TWW l zs D M X) (hk : X k = none) (m : Int) : TWW l zs D (updD M k m) (upd X k (some (o, g, st0 1))) := by
  refine ⟨h.1, fun j B n d t => ?_⟩
  have hj := h.2 j B n d t
  by_cases e : j = k
  · subst e
    rw [upd_self, updD_self]
    rw [hk] at hj
    exact hj.new m o g
  · rw [upd_ne _ _ e, updD_ne _ _ e]
    exact hj
/-- A step of a topic's one publishing. -/
theorem tww_step {l : List Tp} (h : okL l) {zs : List Int} {D : Nat → List Int} {M : Nat → Int} {X : Ops} {k o g B n d : Nat} {y : St} (hP : TWW l zs D M X) (t : Tn l k B n d) (hX : X k = some (o, g, y)) (hw : Wf (spB B n d) (rcd n (M k)) y) (hc : (D k).length ≤ 1000) :
    ((stp (spB B n d) (rcd n (M k)) zs y).1.how = 0 ∧ TWW l (stp (spB B n d) (rcd n (M k)) zs y).2.1 D M (upd X k (some (o, g, (stp (spB B n d) (rcd n (M k)) zs y).1)))) ∨
    ((stp (spB B n d) (rcd n (M k)) zs y).1.how = 1 ∧ TWW l (stp (spB B n d) (rcd n (M k)) zs y).2.1 (updD D k (D k ++ [M k])) M (upd X k none)) := by
  have hT := hP.2 k B n d t
  rw [hX] at hT
  have t1 := t.hi
  have t2 := t.mx
  obtain ⟨f1, f2, hcs⟩ := ti_step hT hw (by omega) t.n1 (by have := t.n4; omega) t.d2 (by have := t.d5; omega) (by rw [hP.1]; exact t1) hc
  have far : ∀ j B' n' d', Tn l j B' n' d' → ¬ j = k → TI B' n' d' (D j) (M j) (X j) (stp (spB B n d) (rcd n (M k)) zs y).2.1 := fun j B' n' d' t' e =>
    (hP.2 j B' n' d' t').far t'.d2 (fun i hi1 hi2 => f1 i (fun c => by
      rcases Nat.lt_or_gt_of_ne e with q | q
      · have := tn_sep h t' t q; omega
      · have := tn_sep h t t' q; omega)) t'.n1
  rcases hcs with ⟨a, b⟩ | ⟨a, b⟩
  · refine .inl ⟨a, f2.trans hP.1, fun j B' n' d' t' => ?_⟩
    by_cases e : j = k
    · subst e
      obtain ⟨rfl, rfl, rfl⟩ := tn_one t t'
      rw [upd_self]
      exact b
    · rw [upd_ne _ _ e]
      exact far j B' n' d' t' e
  · refine .inr ⟨a, f2.trans hP.1, fun j B' n' d' t' => ?_⟩
    by_cases e : j = k
    · subst e
      obtain ⟨rfl, rfl, rfl⟩ := tn_one t t'
      rw [upd_self, updD_self]
      exact b
    · rw [upd_ne _ _ e, updD_ne _ _ e]
      exact far j B' n' d' t' e
end Go.Proofs.Ytflgggfomhifeaa
