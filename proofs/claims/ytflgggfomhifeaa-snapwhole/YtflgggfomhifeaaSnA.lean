/- A snapshot alone: one try, and what it tells. No program is named here, but for a type of numbers. -/
import Derived.Test.YtflgggfomhifeaaSnI
import Derived.Test.YtflgggfomhifeaaTpM
import Derived.Test.YtflgggfomhifeaaLaG
namespace Go.Proofs.Ytflgggfomhifeaa
open Go.RowKit

/-- A try of a snapshot, begun behind p0 steps, that has so far found the records gs; Wp holds of the first word. -/
structure Alo (SS : List Sp) (gs : List Int) (Wp : Int → Prop) (tr p0 : Int) (x : NSt) : Prop where
  wf : NWf SS x
  how : x.how = 0
  left : x.left = tr
  steps : x.steps = p0 + pos SS x
  bgn : x.line ≠ 0 → x.bgn = p0 + SS.length
  gen : ∀ (j : Nat) (v : Int), j < SS.length → x.tl[j]? = some v → gs[j]? = some v
  wd : ∀ v, x.tl[SS.length]? = some v → Wp v
/-- It is done. -/
structure Dne (SS : List Sp) (gs : List Int) (Wp : Int → Prop) (p0 : Int) (r : NSt) : Prop where
  wf : NWf SS r
  how : r.how = 1
  steps : r.steps = p0 + ful SS
  bgn : r.bgn = p0 + SS.length
  len : r.tl.length = SS.length + wid SS
  gen : ∀ (j : Nat) (v : Int), j < SS.length → r.tl[j]? = some v → gs[j]? = some v
  wd : ∀ v, r.tl[SS.length]? = some v → Wp v
section
variable {SS : List Sp} {gs xs : List Int} {Wp : Int → Prop} {tr p0 : Int} {x : NSt}
theorem alo_start {x : NSt} (hw : NWf SS x) (hh : x.how = 0) (hl : x.line = 0) (hk : x.k = 0) (hs : x.steps = p0) : Alo SS gs Wp x.left p0 x := by
  have ht : x.tl = [] := List.eq_nil_of_length_eq_zero (by rw [(hw.a0 hl).1, hk])
  refine ⟨hw, hh, rfl, ?_, fun c => absurd hl c, fun j v _ hv => ?_, fun v hv => ?_⟩
  · unfold pos
    rw [if_pos hl, hs, hk]
    simp
  · rw [ht] at hv; simp at hv
  · rw [ht] at hv; simp at hv
theorem alo_step (h : Alo SS gs Wp tr p0 x) (hx : ∀ v ∈ xs, U64 v) (hin : InB SS xs) (hg : x.line ≠ 1 → gs[x.k]? = some (gw xs (nxs SS x))) (hp : pos SS x = SS.length → Wp (xs.getD (nxl SS x).toNat 0)) :
    (nst SS xs x).2 = 1 ∧
    (pos SS x + 1 < ful SS → Alo SS gs Wp tr p0 (nst SS xs x).1 ∧ pos SS (nst SS xs x).1 = pos SS x + 1) ∧
    (pos SS x + 1 = ful SS → Dne SS gs Wp p0 (nst SS xs x).1) := by
  have hw := h.wf
  have hl := nst_len hw
  obtain ⟨q1, q2, q3⟩ := pos_lt hw
  have hwf := nwf_nst hw hx
  obtain ⟨s1, s2, hc⟩ := nst_step hw hin h.how
  have hst := h.steps
  have hk := hw.k
  have hrt := hw.rts.1
  have hwt := wid_take SS x.k _ hw.sp
  have hwl := wid_le SS (x.k + 1)
  have hf : ful SS = 2 * SS.length + wid SS := rfl
  have hl0 := hw.l0
  have hl2 := hw.l2
  rcases hc with ⟨c1, c2, _⟩ | ⟨_, hO⟩
  · exfalso
    obtain ⟨v, hv1, hv2, _⟩ := hw.gen (by omega)
    have h1 := hg (by omega)
    have h2 := h.gen _ v hk hv1
    rw [h1] at h2
    cases h2
    exact c2 hv2.symm
  · have hgen : ∀ (j : Nat) (v : Int), j < SS.length → (nst SS xs x).1.tl[j]? = some v → gs[j]? = some v := fun j v hj hv => by
      by_cases l0 : x.line = 0
      · rw [hO.t0 l0] at hv
        have hlk := (hw.a0 l0).1
        rw [List.getElem?_append] at hv
        split at hv
        · exact h.gen j v hj hv
        · have e : j = x.k := by
            have := (List.getElem?_eq_some_iff.1 hv).1
            simp at this
            omega
          subst e
          have e2 : x.k - x.tl.length = 0 := by omega
          rw [e2] at hv
          simp at hv
          rw [← hv]
          exact hg (by omega)
      · by_cases l1 : x.line = 1
        · rw [hO.t1 l1] at hv
          have hlk := (hw.a1 l1).1
          rw [List.getElem?_append_left (by omega)] at hv
          exact h.gen j v hj hv
        · rw [hO.t2 (by omega)] at hv
          exact h.gen j v hj hv
    have hwd : ∀ v, (nst SS xs x).1.tl[SS.length]? = some v → Wp v := fun v hv => by
      by_cases l0 : x.line = 0
      · rw [hO.t0 l0] at hv
        have hlk := (hw.a0 l0).1
        have := (List.getElem?_eq_some_iff.1 hv).1
        simp at this
        omega
      · by_cases l1 : x.line = 1
        · rw [hO.t1 l1] at hv
          have hlk := (hw.a1 l1).1
          rw [List.getElem?_append] at hv
          split at hv
          · exact h.wd v hv
          · have e2 : SS.length - x.tl.length = 0 := by omega
            rw [e2] at hv
            simp at hv
            rw [← hv]
            refine hp ?_
            have e3 : x.tl.length = SS.length := by omega
            rw [hl] at e3
            split at e3 <;> omega
        · rw [hO.t2 (by omega)] at hv
          exact h.wd v hv
    refine ⟨s1, fun hb => ?_, fun hd => ?_⟩
    · obtain ⟨b1, b2⟩ := hO.busy hb
      refine ⟨⟨hwf, b1, hO.left.trans h.left, ?_, fun hn => ?_, hgen, hwd⟩, b2⟩
      · rw [s2, hst, b2]
        push_cast
        omega
      · obtain ⟨_, r2, _⟩ := pos_lt hwf
        by_cases l0 : x.line = 0
        · have e1 : pos SS x + 1 = SS.length := by
            have a1 := q2.1 l0
            have a2 : ¬ pos SS (nst SS xs x).1 < SS.length := fun c => hn (r2.2 c)
            omega
          rw [hO.b1 e1, hst]
          omega
        · rw [hO.b0 l0]
          exact h.bgn l0
    · obtain ⟨d1, d2, d3⟩ := hO.done hd
      have l2 : x.line = 2 := q3.2 (by omega)
      refine ⟨hwf, d1, by rw [s2, hst]; omega, by rw [d3]; exact h.bgn (by omega), by rw [d2]; exact (hw.a2 l2).1, hgen, hwd⟩
end
/-- A topic by its number: where it begins, its words, how many are kept. -/
structure Tn (l : List Tp) (k B n d : Nat) : Prop where
  at' : l[k]? = some ((n : Int), (d : Int))
  lo : tot 0 (l.take k) = B
  n1 : 1 ≤ n
  n4 : n ≤ 4
  d2 : 2 ≤ d
  d5 : d ≤ 5
  hi : B + 2 + n * d ≤ (tot 0 l).toNat
  mx : (tot 0 l).toNat ≤ 110
  sp : (spots 0 l)[k]? = some (spB B n d)
theorem tn_of {l : List Tp} (h : okL l) {k : Nat} (hk : k < l.length) : ∃ B n d, Tn l k B n d := by
  obtain ⟨⟨x, y⟩, ht⟩ : ∃ t, l[k]? = some t := ⟨_, List.getElem?_eq_getElem hk⟩
  obtain ⟨⟨a1, a2, a3, a4⟩, h0, h1, h2, h3⟩ := spot_in h ht
  dsimp only at a1 a2 a3 a4
  obtain ⟨n, rfl⟩ := Int.eq_ofNat_of_zero_le (show 0 ≤ x by omega)
  obtain ⟨d, rfl⟩ := Int.eq_ofNat_of_zero_le (show 0 ≤ y by omega)
  obtain ⟨B, hB⟩ := Int.eq_ofNat_of_zero_le h0
  rw [hB] at h1 h3
  unfold wl at h1
  dsimp only at h1
  rw [← Int.natCast_mul] at h1
  exact ⟨B, n, d, ht, hB, by omega, by omega, by omega, by omega, by omega, by omega, h3⟩
theorem tn_sep {l : List Tp} (h : okL l) {i j B n d B' n' d' : Nat} (a : Tn l i B n d) (b : Tn l j B' n' d') (hij : i < j) : B + 2 + n * d ≤ B' := by
  have h1 := tot_mono h.2.2 0 (i + 1) j (by omega) (by have := (List.getElem?_eq_some_iff.1 b.at').1; omega)
  rw [tot_take a.at', a.lo, b.lo] at h1
  unfold wl at h1
  dsimp only at h1
  rw [← Int.natCast_mul] at h1
  omega
theorem tn_one {l : List Tp} {k B n d B' n' d' : Nat} (a : Tn l k B n d) (b : Tn l k B' n' d') : B = B' ∧ n = n' ∧ d = d' := by
  have h1 := a.at'
  rw [b.at'] at h1
  have h2 := a.lo
  rw [b.lo] at h2
  simp only [Option.some.injEq, Prod.mk.injEq] at h1
  omega
theorem spots_in {l : List Tp} (h : okL l) {xs : List Int} (hl : xs.length = (tot 0 l).toNat) : InB (spots 0 l) xs := fun S hS => by
  obtain ⟨k, hk⟩ := List.mem_iff_getElem?.1 hS
  have hkl : k < l.length := by have := (List.getElem?_eq_some_iff.1 hk).1; rw [spots_len] at this; exact this
  obtain ⟨B, n, d, t⟩ := tn_of h hkl
  have := t.sp
  rw [hk] at this
  cases this
  have h1 := t.hi
  have h2 := t.mx
  unfold spB
  dsimp only
  rw [← Int.natCast_mul]
  have h3 : n * d ≥ 1 := Nat.mul_pos t.n1 (by have := t.d2; omega)
  exact ⟨by omega, by omega⟩
/-- A topic's sequence. -/
theorem gw_tn {l : List Tp} {k B n d : Nat} (_t : Tn l k B n d) {xs : List Int} {v : Int} (h : xs[B + 1]? = some v) : gw xs (spB B n d) = v / 2 := by
  unfold gw spB
  dsimp only
  rw [show ((B : Int) + 1).toNat = B + 1 by omega, List.getD_eq_getElem?_getD, h]
  rfl
/-- What a publishing leaves of the other topics' sequences. -/
theorem laid_other {l : List Tp} (h : okL l) {i j B n d B' n' d' k : Nat} (a : Tn l i B n d) (b : Tn l j B' n' d') (hij : i ≠ j) {ws xs zs : List Int} (hL : Laid B (plc B n d k) n ws xs zs) : zs[B' + 1]? = xs[B' + 1]? := by
  obtain ⟨p1, p2⟩ := plc_in (B := B) (n := n) (d := d) (k := k) a.d2
  rcases Nat.lt_or_gt_of_ne hij with c | c
  · have := tn_sep h a b c
    rw [hL _ (by omega), if_neg (by omega)]
  · have := tn_sep h b a c
    rw [hL _ (by omega), if_neg (by omega)]
theorem wid_spots {l : List Tp} (h : okL l) : wid (spots 0 l) ≤ 20 ∧ 1 ≤ wid (spots 0 l) := by
  have hall : ∀ S ∈ spots 0 l, 1 ≤ S.wd ∧ S.wd ≤ 4 := fun S hS => by
    obtain ⟨k, hk⟩ := List.mem_iff_getElem?.1 hS
    have hkl : k < l.length := by have := (List.getElem?_eq_some_iff.1 hk).1; rw [spots_len] at this; exact this
    obtain ⟨B, n, d, t⟩ := tn_of h hkl
    have := t.sp
    rw [hk] at this
    cases this
    have h1 := t.n1
    have h2 := t.n4
    unfold spB
    dsimp only
    omega
  have key : ∀ SS : List Sp, (∀ S ∈ SS, 1 ≤ S.wd ∧ S.wd ≤ 4) → wid SS ≤ 4 * SS.length ∧ SS.length ≤ wid SS := by
    intro SS
    induction SS with
    | nil => intro _; simp [wid]
    | cons x r ih =>
      intro q
      have h1 := q x List.mem_cons_self
      have h2 := ih (fun S hS => q S (List.mem_cons_of_mem _ hS))
      simp only [wid, List.length_cons]
      omega
  have := key _ hall
  rw [spots_len] at this
  have h1 := h.1
  have h2 := h.2.1
  omega
end Go.Proofs.Ytflgggfomhifeaa
