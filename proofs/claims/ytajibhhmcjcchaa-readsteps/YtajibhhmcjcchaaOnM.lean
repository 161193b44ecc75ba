/- Three publishings of one topic: what is always so, and what a step makes of it. -/
import Derived.Test.YtajibhhmcjcchaaLaM
namespace Go.Proofs.Ytajibhhmcjcchaa
open Go.RowKit

/-- The publishings under way: where each lies, where its record lies, how it stands. -/
abbrev Ops := Nat → Option (Nat × Nat × St)
def upd (X : Ops) (k : Nat) (v : Option (Nat × Nat × St)) : Ops := fun j => if j = k then v else X j
theorem upd_self (X : Ops) (k : Nat) (v : Option (Nat × Nat × St)) : upd X k v k = v := if_pos rfl
theorem upd_ne (X : Ops) {k j : Nat} (v : Option (Nat × Nat × St)) (h : ¬ j = k) : upd X k v j = X j := if_neg h
/-- One publishing that is busy. -/
def One (n d : Nat) (H : Int) (ws : List Int) (i k : Nat) (x : St) : Prop :=
  x.how = 0 ∧ Wf (spS n d) ws x ∧ 0 ≤ x.steps ∧ x.steps ≤ i ∧ (x.line = 1 → x.s % 2 = 0) ∧ (2 ≤ x.line → H = k)
/-- Who holds the sequence, and how far its record is laid. -/
def Hold (n d D : Nat) (ws zs : List Int) (x : St) : Prop :=
  2 ≤ x.line ∧ x.s = 2 * (D : Int) ∧ (x.line = 3 → x.n = n) ∧ ∀ j : Nat, (j : Int) < x.n → zs[plc n d D + j]? = ws[j]?
/-- What is always so: so many are done, and somebody holds the sequence, or nobody. -/
structure OnInv (n d D : Nat) (H : Int) (X : Ops) (R : Nat → List Int) (i : Nat) (zs : List Int) : Prop where
  len : zs.length = 2 + n * d
  few : D ≤ i
  out : ∀ k, 3 ≤ k → X k = none
  each : ∀ k o g x, X k = some (o, g, x) → One n d H (R k) i k x
  hold : (H = -1 ∧ zs[1]? = some (2 * (D : Int))) ∨ ∃ h : Nat, h < 3 ∧ H = h ∧ zs[1]? = some (2 * (D : Int) + 1) ∧ ∃ o g x, X h = some (o, g, x) ∧ Hold n d D (R h) zs x
/-- What comes of a step of publishing k. -/
def OnRes (n d D : Nat) (H : Int) (X : Ops) (R : Nat → List Int) (i k o g : Nat) (zs : List Int) (r : St × List Int × Int) : Prop :=
  (r.1.how = 0 ∧ ¬ H = k ∧ r.2.1 = zs ∧ OnInv n d D H (upd X k (some (o, g, r.1))) R (i + 1) zs) ∨
  (r.1.how = 2 ∧ ¬ H = k ∧ r.2.1 = zs ∧ OnInv n d D H (upd X k none) R (i + 1) zs) ∨
  (r.1.how = 0 ∧ H = -1 ∧ (∀ j, 2 ≤ j → r.2.1[j]? = zs[j]?) ∧ r.2.1[1]? = some (2 * (D : Int) + 1) ∧ OnInv n d D k (upd X k (some (o, g, r.1))) R (i + 1) r.2.1) ∨
  (r.1.how = 0 ∧ H = k ∧ r.2.1[1]? = some (2 * (D : Int) + 1) ∧ OnInv n d D k (upd X k (some (o, g, r.1))) R (i + 1) r.2.1) ∨
  (r.1.how = 1 ∧ H = k ∧ (∀ j, 2 ≤ j → r.2.1[j]? = zs[j]?) ∧ r.2.1[1]? = some (2 * (D : Int) + 2) ∧ r.1.s = 2 * (D : Int) ∧ (∀ j, j < n → r.2.1[plc n d D + j]? = (R k)[j]?) ∧ OnInv n d (D + 1) (-1) (upd X k none) R (i + 1) r.2.1)
theorem one_more {n d : Nat} {H : Int} {ws : List Int} {i k : Nat} {x : St} (h : One n d H ws i k x) : One n d H ws (i + 1) k x := by
  obtain ⟨h1, h2, h3, h4, h5, h6⟩ := h
  exact ⟨h1, h2, h3, by omega, h5, h6⟩
section
variable {n d D : Nat} {H : Int} {X : Ops} {R : Nat → List Int} {i k o g : Nat} {zs : List Int} {x : St}
/-- The sequence stays as it is, and publishing k as one that does not hold it. -/
theorem on_quiet (h : OnInv n d D H X R i zs) (hk : k < 3) (hx : X k = some (o, g, x)) (hl : x.line = 0 ∨ x.line = 1) (v : Option (Nat × Nat × St)) (hv : ∀ o' g' y, v = some (o', g', y) → One n d H (R k) (i + 1) k y) :
    ¬ H = k ∧ OnInv n d D H (upd X k v) R (i + 1) zs := by
  have hH : ¬ H = k := by
    rcases h.hold with ⟨e, _⟩ | ⟨h', _, e, _, o', g', y, hy, h2, _⟩
    · omega
    · intro c
      obtain rfl : h' = k := by omega
      rw [hx] at hy
      cases hy
      omega
  refine ⟨hH, h.len, by have := h.few; omega, fun j hj => ?_, fun j o' g' y hy => ?_, ?_⟩
  · rw [upd_ne _ _ (by omega)]
    exact h.out j hj
  · by_cases e : j = k
    · subst e
      rw [upd_self] at hy
      exact hv _ _ _ hy
    · rw [upd_ne _ _ e] at hy
      exact one_more (h.each j _ _ _ hy)
  · rcases h.hold with c | ⟨h', c1, c2, c3, o', g', y, hy, hh⟩
    · exact .inl c
    · exact .inr ⟨h', c1, c2, c3, o', g', y, by rw [upd_ne _ _ (by omega)]; exact hy, hh⟩
theorem on_agn (h : OnInv n d D H X R i zs) (hk : k < 3) (hx : X k = some (o, g, x)) (hl : x.line = 0 ∨ x.line = 1) (y : St) (hy : y.how = 0) (hs : y.steps = x.steps) (hw : Wf (spS n d) (R k) (agn y)) :
    OnRes n d D H X R i k o g zs (agn y, zs, 1) := by
  obtain ⟨_, _, p0, p1, _⟩ := h.each k _ _ _ hx
  have ha : (agn y).how = 0 ∨ (agn y).how = 2 := by
    show (if y.left - 1 = 0 then (2 : Int) else y.how) = 0 ∨ (if y.left - 1 = 0 then (2 : Int) else y.how) = 2
    split
    · exact .inr rfl
    · exact .inl hy
  have hst : (agn y).steps = x.steps + 1 := by rw [← hs]; rfl
  rcases ha with e | e
  · obtain ⟨q1, q2⟩ := on_quiet h hk hx hl (some (o, g, agn y)) (fun o' g' z hz => by
      cases hz
      exact ⟨e, hw, by omega, by omega, fun c => absurd (show (0 : Int) = 1 from c) (by omega), fun c => absurd (show (2 : Int) ≤ 0 from c) (by omega)⟩)
    exact .inl ⟨e, q1, rfl, q2⟩
  · obtain ⟨q1, q2⟩ := on_quiet h hk hx hl none (fun o' g' z hz => by cases hz)
    exact .inr (.inl ⟨e, q1, rfl, q2⟩)
theorem on_step (b1 : 1 ≤ n) (b2 : n ≤ 64) (b3 : 2 ≤ d) (b4 : d ≤ 16) (hi : i ≤ 1000) (h : OnInv n d D H X R i zs) (hk : k < 3) (hx : X k = some (o, g, x)) (hR : (R k).length = n) (hu : ∀ v ∈ zs, U64 v) :
    OnRes n d D H X R i k o g zs (stp (spS n d) (R k) zs x) := by
  obtain ⟨hh, hw, p0, p1, hev, hho⟩ := h.each k _ _ _ hx
  have hfew := h.few
  have hw2 := wf_stp hw hu
  have l0 := hw.l0
  have l3 := hw.l3
  have hseq : (H = -1 ∧ getI zs 1 = some (2 * (D : Int))) ∨ (0 ≤ H ∧ getI zs 1 = some (2 * (D : Int) + 1)) := by
    rcases h.hold with ⟨e, q⟩ | ⟨h', _, e, q, _⟩
    · exact .inl ⟨e, getI_mk (by omega) q⟩
    · exact .inr ⟨by omega, getI_mk (by omega) q⟩
  rcases (show x.line = 0 ∨ x.line = 1 ∨ x.line = 2 ∨ x.line = 3 by omega) with l | l | l | l
  · rcases hseq with ⟨e, q⟩ | ⟨e, q⟩
    · rw [stp_look hh l (show getI zs (spS n d).sq = _ from q) (by omega)] at hw2 ⊢
      obtain ⟨q1, q2⟩ := on_quiet h hk hx (.inl l) (some (o, g, { x with s := 2 * (D : Int), line := 1, steps := x.steps + 1 })) (fun o' g' z hz => by
        cases hz
        exact ⟨hh, hw2, by show 0 ≤ x.steps + 1; omega, by show x.steps + 1 ≤ _; omega, fun _ => by show 2 * (D : Int) % 2 = 0; omega, fun c => absurd (show (2 : Int) ≤ 1 from c) (by omega)⟩)
      exact .inl ⟨hh, q1, rfl, q2⟩
    · rw [stp_odd hh l (show getI zs (spS n d).sq = _ from q) (by omega)] at hw2 ⊢
      exact on_agn h hk hx (.inl l) { x with s := 2 * (D : Int) + 1 } hh rfl hw2
  · have hs := hev l
    rcases hseq with ⟨e, q⟩ | ⟨e, q⟩
    · by_cases hq : 2 * (D : Int) = x.s
      · rw [stp_hit hh l (show getI zs (spS n d).sq = _ from q) hq] at hw2 ⊢
        have hlt := lt_of_some (getI_some q).2
        have ea : addw x.s 1 = 2 * (D : Int) + 1 := by rw [← hq, addw_small (by omega) (by omega) (by omega) (by omega)]
        have hn := hw.nz (by omega)
        rw [ea]
        refine .inr (.inr (.inl ⟨hh, e, fun j hj => List.getElem?_set_ne (by show (1 : Nat) ≠ j; omega), List.getElem?_set_self hlt, ?_⟩))
        refine ⟨by rw [List.length_set]; exact h.len, by omega, fun j hj => by rw [upd_ne _ _ (by omega)]; exact h.out j hj, fun j o' g' y hy => ?_, .inr ⟨k, hk, rfl, List.getElem?_set_self hlt, o, g, _, upd_self _ _ _, ?_, hq.symm, ?_, ?_⟩⟩
        · by_cases c : j = k
          · subst c
            rw [upd_self] at hy
            cases hy
            exact ⟨hh, hw2, by show 0 ≤ x.steps + 1; omega, by show x.steps + 1 ≤ _; omega, fun c => absurd (show (2 : Int) = 1 from c) (by omega), fun _ => rfl⟩
          · rw [upd_ne _ _ c] at hy
            obtain ⟨a1, a2, a3, a4, a5, a6⟩ := h.each j _ _ _ hy
            exact ⟨a1, a2, a3, by omega, a5, fun c => absurd (a6 c) (by omega)⟩
        · show (2 : Int) ≤ 2; omega
        · exact fun c => absurd (show (2 : Int) = 3 from c) (by omega)
        · intro j hj
          have : (j : Int) < x.n := hj
          omega
      · rw [stp_miss hh l (show getI zs (spS n d).sq = _ from q) hq] at hw2 ⊢
        exact on_agn h hk hx (.inr l) x hh rfl hw2
    · have hq : ¬ 2 * (D : Int) + 1 = x.s := by omega
      rw [stp_miss hh l (show getI zs (spS n d).sq = _ from q) hq] at hw2 ⊢
      exact on_agn h hk hx (.inr l) x hh rfl hw2
  · have hHk := hho (by omega)
    obtain ⟨h', c1, c2, c3, o', g', y, hy, y1, y2, y3, y4⟩ : ∃ h : Nat, h < 3 ∧ H = h ∧ zs[1]? = some (2 * (D : Int) + 1) ∧ ∃ o g x, X h = some (o, g, x) ∧ Hold n d D (R h) zs x := by
      rcases h.hold with ⟨e, _⟩ | c
      · omega
      · exact c
    obtain rfl : h' = k := by omega
    rw [hx] at hy
    cases hy
    have hlie := plc_lie b1 b2 b3 b4 x y2
    obtain ⟨pl1, pl2⟩ := plc_in (n := n) (d := d) (k := D) b3
    have n0 := hw.n0
    have nl := hw.nl l
    rw [hR] at nl
    have hlen := h.len
    have ht : (lie (spS n d) x).toNat = plc n d D + x.n.toNat := by rw [hlie]; omega
    have hlt : plc n d D + x.n.toNat < zs.length := by omega
    have e : getI zs (lie (spS n d) x) = some (zs[plc n d D + x.n.toNat]) := getI_mk (by omega) (by rw [ht]; exact List.getElem?_eq_getElem _)
    rw [stp_lay hh l e] at hw2 ⊢
    rw [ht]
    have hz1 : (zs.set (plc n d D + x.n.toNat) ((R h').getD x.n.toNat 0))[1]? = some (2 * (D : Int) + 1) := (List.getElem?_set_ne (by omega)).trans c3
    refine .inr (.inr (.inr (.inl ⟨hh, hHk, hz1, ?_⟩)))
    refine ⟨by rw [List.length_set]; exact hlen, by omega, fun j hj => by rw [upd_ne _ _ (by omega)]; exact h.out j hj, fun j o' g' y hy => ?_, .inr ⟨h', hk, rfl, hz1, o, g, _, upd_self _ _ _, ?_, y2, ?_, ?_⟩⟩
    · by_cases c : j = h'
      · subst c
        rw [upd_self] at hy
        cases hy
        refine ⟨hh, hw2, by show 0 ≤ x.steps + 1; omega, by show x.steps + 1 ≤ _; omega, fun c => ?_, fun _ => rfl⟩
        have : (if x.n + 1 = ((R j).length : Int) then (3 : Int) else 2) = 1 := c
        split at this <;> omega
      · rw [upd_ne _ _ c] at hy
        obtain ⟨a1, a2, a3, a4, a5, a6⟩ := h.each j _ _ _ hy
        exact ⟨a1, a2, a3, by omega, a5, fun c => absurd (a6 c) (by omega)⟩
    · show (2 : Int) ≤ if x.n + 1 = ((R h').length : Int) then 3 else 2
      split <;> omega
    · show (if x.n + 1 = ((R h').length : Int) then (3 : Int) else 2) = 3 → x.n + 1 = n
      rw [hR]
      split <;> omega
    · intro j hj
      have hj' : (j : Int) < x.n + 1 := hj
      by_cases c : j = x.n.toNat
      · subst c
        rw [List.getElem?_set_self hlt, List.getD_eq_getElem?_getD, List.getElem?_eq_getElem (by omega)]
        rfl
      · rw [List.getElem?_set_ne (by omega)]
        exact y4 j (by omega)
  · have hHk := hho (by omega)
    obtain ⟨h', c1, c2, c3, o', g', y, hy, y1, y2, y3, y4⟩ : ∃ h : Nat, h < 3 ∧ H = h ∧ zs[1]? = some (2 * (D : Int) + 1) ∧ ∃ o g x, X h = some (o, g, x) ∧ Hold n d D (R h) zs x := by
      rcases h.hold with ⟨e, _⟩ | c
      · omega
      · exact c
    obtain rfl : h' = k := by omega
    rw [hx] at hy
    cases hy
    have hlt := lt_of_some c3
    obtain ⟨pl1, pl2⟩ := plc_in (n := n) (d := d) (k := D) b3
    have q : getI zs (spS n d).sq = some (2 * (D : Int) + 1) := getI_mk (by show (0 : Int) ≤ 1; omega) c3
    rw [stp_give hh l q]
    have ea : addw x.s 2 = 2 * (D : Int) + 2 := by rw [y2, addw_small (by omega) (by omega) (by omega) (by omega)]
    rw [ea]
    refine .inr (.inr (.inr (.inr ⟨rfl, hHk, fun j hj => List.getElem?_set_ne (by show (1 : Nat) ≠ j; omega), List.getElem?_set_self hlt, y2, fun j hj => ?_, ?_⟩)))
    · rw [List.getElem?_set_ne (by show (1 : Nat) ≠ _; omega)]
      exact y4 j (by have := y3 l; omega)
    · refine ⟨by rw [List.length_set]; exact h.len, by omega, fun j hj => by rw [upd_ne _ _ (by omega)]; exact h.out j hj, fun j o' g' y hy => ?_, .inl ⟨rfl, ?_⟩⟩
      · by_cases c : j = h'
        · subst c
          rw [upd_self] at hy
          cases hy
        · rw [upd_ne _ _ c] at hy
          obtain ⟨a1, a2, a3, a4, a5, a6⟩ := h.each j _ _ _ hy
          exact ⟨a1, a2, a3, by omega, a5, fun c => absurd (a6 c) (by omega)⟩
      · show (zs.set 1 (2 * (D : Int) + 2))[1]? = _
        rw [List.getElem?_set_self hlt, show 2 * ((D + 1 : Nat) : Int) = 2 * (D : Int) + 2 by omega]
theorem on_new (h : OnInv n d D H X R i zs) (hk : k < 3) (hx : X k = none) (hw : Wf (spS n d) (R k) (st0 4)) : OnInv n d D H (upd X k (some (o, g, st0 4))) R i zs := by
  refine ⟨h.len, h.few, fun j hj => by rw [upd_ne _ _ (by omega)]; exact h.out j hj, fun j o' g' y hy => ?_, ?_⟩
  · by_cases c : j = k
    · subst c
      rw [upd_self] at hy
      cases hy
      exact ⟨rfl, hw, by show (0 : Int) ≤ 0; omega, by show (0 : Int) ≤ i; omega, fun c => absurd (show (0 : Int) = 1 from c) (by omega), fun c => absurd (show (2 : Int) ≤ 0 from c) (by omega)⟩
    · rw [upd_ne _ _ c] at hy
      exact h.each j _ _ _ hy
  · rcases h.hold with c | ⟨h', c1, c2, c3, o', g', y, hy, hh⟩
    · exact .inl c
    · refine .inr ⟨h', c1, c2, c3, o', g', y, ?_, hh⟩
      rw [upd_ne _ _ (by intro e; subst e; rw [hx] at hy; cases hy)]
      exact hy
theorem on_start (n d : Nat) (R : Nat → List Int) (b1 : 1 ≤ n) : OnInv n d 0 (-1) (fun _ => none) R 0 (List.replicate (2 + n * d) 0) :=
  ⟨by simp, Nat.le_refl _, fun _ _ => rfl, fun _ _ _ _ h => (by cases h), .inl ⟨rfl, by rw [List.getElem?_replicate, if_pos (by have := b1; omega)]; rfl⟩⟩
end
end Go.Proofs.Ytajibhhmcjcchaa
