/- SnapWhole: what is so of a snapshot, whoever is publishing. No program is named here. -/
import Derived.Test.YtflgggfomhifeaaWsI
import Derived.Test.YtflgggfomhifeaaSnA
namespace Go.Proofs.Ytflgggfomhifeaa
open Go.RowKit

/-- Where the words of topic j begin in what is told. -/
def wi (SS : List Sp) (j : Nat) : Nat := SS.length + wid (SS.take j)
theorem wi_next {l : List Tp} {j B n d : Nat} (t : Tn l j B n d) : wi (spots 0 l) (j + 1) = wi (spots 0 l) j + n := by
  unfold wi
  rw [wid_take _ j _ t.sp]
  have : (spB B n d).wd.toNat = n := Int.toNat_natCast n
  omega
theorem wi_mono (SS : List Sp) {j k : Nat} (h : j ≤ k) : wi SS j ≤ wi SS k := by
  unfold wi
  have := wid_le (SS.take k) j
  rw [List.take_take, Nat.min_eq_left h] at this
  omega
theorem wi_le (SS : List Sp) (j : Nat) : wi SS j ≤ SS.length + wid SS := by
  unfold wi
  have := wid_le SS j
  omega
theorem wi_len (SS : List Sp) (j : Nat) : SS.length ≤ wi SS j := by unfold wi; omega
/-- How many were published of each topic. -/
def cnt (l : List Tp) (D : Nat → List Int) : List Int := (List.range l.length).map (fun j => (((D j).length - 1 : Nat) : Int))
theorem cnt_at {l : List Tp} (D : Nat → List Int) {j : Nat} (h : j < l.length) : (cnt l D)[j]? = some (((D j).length - 1 : Nat) : Int) := by simp [cnt, h]
theorem cnt_len (l : List Tp) (D : Nat → List Int) : (cnt l D).length = l.length := by simp [cnt]
/-- A snapshot that goes on: G are the generations that it has found, cb what was the newest behind its line 0, a0 how many were published when its try began. -/
structure SI (l : List Tp) (tr : Int) (D : Nat → List Int) (N : List (List Int)) (all fr : Int) (x : NSt) (G : Nat → Nat) (a0 : Int) (cb : List Int) : Prop where
  wf : NWf (spots 0 l) x
  how : x.how = 0
  steps : x.steps = N.length
  bd : x.steps ≤ (tr - x.left) * ful (spots 0 l) + pos (spots 0 l) x
  lf : x.left ≤ tr
  try0 : fr + (tr - x.left) ≤ a0
  try1 : a0 ≤ all
  gen : ∀ j, j < l.length → j < x.tl.length → x.tl[j]? = some ((G j : Nat) : Int) ∧ G j < (D j).length ∧ (G j + 1 < (D j).length → a0 + 1 ≤ all)
  beg : x.line ≠ 0 → 1 ≤ x.bgn ∧ N[(x.bgn - 1).toNat]? = some cb ∧ ∀ j, j < l.length → ∃ q : Nat, cb[j]? = some (q : Int) ∧ G j ≤ q ∧ q < (D j).length
  chk : x.line = 2 → ∀ j, j < x.k → cb[j]? = some ((G j : Nat) : Int)
  wds : ∀ j B n d i, Tn l j B n d → i < n → wi (spots 0 l) j + i < x.tl.length → ((x.line = 2 ∧ j < x.k) ∨ G j + 1 = (D j).length) → x.tl[wi (spots 0 l) j + i]? = some (wnt (D j) (G j) i)
/-- What it tells, once it is done. -/
structure Tld (l : List Tp) (D : Nat → List Int) (N : List (List Int)) (x : NSt) : Prop where
  len : x.tl.length = l.length + wid (spots 0 l)
  b1 : 1 ≤ x.bgn
  b2 : x.bgn ≤ N.length
  all : ∃ cb, N[(x.bgn - 1).toNat]? = some cb ∧ ∀ j B n d, Tn l j B n d → ∃ g : Nat, g < (D j).length ∧ x.tl[j]? = some (g : Int) ∧ cb[j]? = some (g : Int) ∧ ∀ i, i < n → x.tl[wi (spots 0 l) j + i]? = some (wnt (D j) g i)
section
variable {l : List Tp} {tr : Int} {D : Nat → List Int} {M : Nat → Int} {X : Ops} {N : List (List Int)} {all fr : Int} {x : NSt} {G : Nat → Nat} {a0 : Int} {cb zs : List Int}
/-- A record is published. -/
theorem SI.grow (h : SI l tr D N all fr x G a0 cb) (k : Nat) (m : Int) : SI l tr (updD D k (D k ++ [m])) N (all + 1) fr x G a0 cb := by
  have hl : ∀ j, (D j).length ≤ (updD D k (D k ++ [m]) j).length := fun j => by
    by_cases e : j = k
    · subst e; rw [updD_self]; simp
    · rw [updD_ne _ _ e]; exact Nat.le_refl _
  have h1 := h.try1
  refine ⟨h.wf, h.how, h.steps, h.bd, h.lf, h.try0, by omega, fun j hj hj2 => ?_, fun hn => ?_, h.chk, fun j B n d i t hi hw hc => ?_⟩
  · obtain ⟨g1, g2, _⟩ := h.gen j hj hj2
    exact ⟨g1, Nat.lt_of_lt_of_le g2 (hl j), fun _ => by omega⟩
  · obtain ⟨b1, b2, b3⟩ := h.beg hn
    refine ⟨b1, b2, fun j hj => ?_⟩
    obtain ⟨q, q1, q2, q3⟩ := b3 j hj
    exact ⟨q, q1, q2, Nat.lt_of_lt_of_le q3 (hl j)⟩
  · have hj : j < l.length := (List.getElem?_eq_some_iff.1 t.at').1
    have hg := (h.gen j hj (by have := wi_len (spots 0 l) j; have := spots_len l 0; omega)).2.1
    by_cases e : j = k
    · subst e
      rw [updD_self] at hc ⊢
      rcases hc with c | c
      · rw [wnt_app i m hg]
        exact h.wds j B n d i t hi hw (.inl c)
      · rw [List.length_append] at c
        simp only [List.length_cons, List.length_nil] at c
        omega
    · rw [updD_ne _ _ e] at hc ⊢
      exact h.wds j B n d i t hi hw hc
theorem si_start (h : okL l) (h1 : 1 ≤ tr) (h2 : tr ≤ 16) : SI l tr D [] all all (nst0 tr) (fun _ => 0) all [] := by
  refine ⟨nwf0 (spots_flt h h1 h2), rfl, rfl, ?_, Int.le_refl _, by show all + (tr - tr) ≤ all; omega, Int.le_refl _, fun j _ hj => absurd hj (by show ¬ j < 0; omega), fun c => absurd rfl c, fun c => absurd (show (0 : Int) = 2 from c) (by omega), fun j B n d i _ _ hw => absurd hw (by show ¬ _ < 0; omega)⟩
  show (0 : Int) ≤ (tr - tr) * _ + _
  rw [show tr - tr = 0 by omega, Int.zero_mul]
  omega
/-- A step of a snapshot. -/
theorem si_step (h : okL l) (hP : TWW l zs D M X) (hx : ∀ v ∈ zs, U64 v) (hS : SI l tr D N all fr x G a0 cb) :
    (nst (spots 0 l) zs x).2 = 1 ∧ (nst (spots 0 l) zs x).1.steps = (N.length : Int) + 1 ∧ (nst (spots 0 l) zs x).1.steps ≤ tr * ful (spots 0 l) ∧ NWf (spots 0 l) (nst (spots 0 l) zs x).1 ∧
    (((nst (spots 0 l) zs x).1.how = 0 ∧ ∃ G' a0' cb', SI l tr D (N ++ [cnt l D]) all fr (nst (spots 0 l) zs x).1 G' a0' cb') ∨
     ((nst (spots 0 l) zs x).1.how = 1 ∧ Tld l D (N ++ [cnt l D]) (nst (spots 0 l) zs x).1) ∨
     ((nst (spots 0 l) zs x).1.how = 2 ∧ fr + tr ≤ all)) := by
  have hw := hS.wf
  have hsl := spots_len l 0
  have hk : x.k < l.length := by have := hw.k; omega
  obtain ⟨B, n, d, t⟩ := tn_of h hk
  have hT := hP.2 _ B n d t
  have hnx : nxs (spots 0 l) x = spB B n d := by
    have h1 := hw.sp
    rw [t.sp] at h1
    exact (Option.some.inj h1).symm
  have hgw : gw zs (nxs (spots 0 l) x) = (((D x.k).length - 1 : Nat) : Int) := by
    obtain ⟨v, hv, hv2⟩ := hT.half
    rw [hnx, gw_tn t hv, hv2]
  have hd1 := hT.d1
  have hwn := nwf_nst hw hx
  obtain ⟨s1, s2, hc⟩ := nst_step hw (spots_in h hP.1) hS.how
  have hlen := nst_len hw
  obtain ⟨q1, q2, q3⟩ := pos_lt hw
  have hst := hS.steps
  have hbd := hS.bd
  have hlf := hS.lf
  have hf1 := hw.fp hS.how
  have hF : ful (spots 0 l) = 2 * l.length + wid (spots 0 l) := by unfold ful; rw [hsl]
  have hwid := (wid_spots h)
  have hl0 := hw.l0
  have hl2 := hw.l2
  have htry := hS.try0
  have htry1 := hS.try1
  have hL1 := h.1
  have hmul : (tr - x.left) * ful (spots 0 l) + ful (spots 0 l) ≤ tr * ful (spots 0 l) := by
    have : (tr - x.left + 1) * (ful (spots 0 l) : Int) ≤ tr * ful (spots 0 l) := Int.mul_le_mul_of_nonneg_right (by omega) (by omega)
    rw [Int.add_mul, Int.one_mul] at this
    exact this
  have hN' : (N ++ [cnt l D]).length = N.length + 1 := by simp
  refine ⟨s1, by omega, by omega, hwn, ?_⟩
  rcases hc with ⟨l2, hne, e⟩ | ⟨hy, hO⟩
  · have htl := (hw.a2 l2).1
    rw [hsl] at htl
    obtain ⟨g1, g2, g3⟩ := hS.gen x.k hk (by omega)
    have hgd : x.tl.getD x.k 0 = ((G x.k : Nat) : Int) := by rw [List.getD_eq_getElem?_getD, g1]; rfl
    rw [hgw, hgd] at hne
    have ha := g3 (by omega)
    rw [e] at hwn s2 ⊢
    by_cases c : x.left - 1 = 0
    · refine .inr (.inr ⟨?_, by omega⟩)
      show (if x.left - 1 = 0 then (2 : Int) else x.how) = 2
      rw [if_pos c]
    · have hh : (nagn x).how = 0 := by
        show (if x.left - 1 = 0 then (2 : Int) else x.how) = 0
        rw [if_neg c]
        exact hS.how
      refine .inl ⟨hh, fun _ => 0, all, [], hwn, hh, by rw [hN', s2, hst]; push_cast; rfl, ?_, by show x.left - 1 ≤ tr; omega, by show fr + (tr - (x.left - 1)) ≤ all; omega, Int.le_refl _, fun j _ hj => absurd hj (by show ¬ j < 0; omega), fun c => absurd rfl c, fun c => absurd (show (0 : Int) = 2 from c) (by omega), fun j B n d i _ _ hw => absurd hw (by show ¬ _ < 0; omega)⟩
      rw [s2]
      show x.steps + 1 ≤ (tr - (x.left - 1)) * _ + _
      rw [show tr - (x.left - 1) = tr - x.left + 1 by omega, Int.add_mul, Int.one_mul]
      omega
  · have ht2 : x.line = 2 → x.tl.length = l.length + wid (spots 0 l) := fun c => by rw [(hw.a2 c).1, hsl]
    -- a check that holds
    have same : x.line = 2 → G x.k + 1 = (D x.k).length ∧ cb[x.k]? = some ((G x.k : Nat) : Int) := fun l2 => by
      have htl := ht2 l2
      obtain ⟨g1, g2, _⟩ := hS.gen x.k hk (by omega)
      have hgd : x.tl.getD x.k 0 = ((G x.k : Nat) : Int) := by rw [List.getD_eq_getElem?_getD, g1]; rfl
      have := hy l2
      rw [hgw, hgd] at this
      obtain ⟨_, _, b3⟩ := hS.beg (by omega)
      obtain ⟨q, c1, c2, c3⟩ := b3 x.k hk
      refine ⟨by omega, ?_⟩
      rw [c1, show q = G x.k by omega]
    by_cases hd : pos (spots 0 l) x + 1 = ful (spots 0 l)
    · obtain ⟨d1, d2, d3⟩ := hO.done hd
      have l2 : x.line = 2 := q3.2 (by omega)
      have hp : pos (spots 0 l) x = (spots 0 l).length + wid (spots 0 l) + x.k := by unfold pos; rw [if_neg (by omega), if_neg (by omega)]
      obtain ⟨b1, b2, b3⟩ := hS.beg (by omega)
      have hbl := (List.getElem?_eq_some_iff.1 b2).1
      refine .inr (.inl ⟨d1, by rw [d2]; exact ht2 l2, by rw [d3]; exact b1, by rw [d3, hN']; omega, cb, by rw [d3, List.getElem?_append_left hbl]; exact b2, fun j B' n' d' t' => ?_⟩)
      have hj : j < l.length := (List.getElem?_eq_some_iff.1 t'.at').1
      have htl := ht2 l2
      obtain ⟨g1, g2, _⟩ := hS.gen j hj (by omega)
      have hwj := wi_next t'
      have hwl := wi_le (spots 0 l) (j + 1)
      rw [d2]
      by_cases c : j < x.k
      · exact ⟨G j, g2, g1, hS.chk l2 j c, fun i hi => hS.wds j B' n' d' i t' hi (by omega) (.inl ⟨l2, c⟩)⟩
      · have ejk : j = x.k := by omega
        obtain ⟨a1, a2⟩ := same l2
        rw [← ejk] at a1 a2
        exact ⟨G j, g2, g1, a2, fun i hi => hS.wds j B' n' d' i t' hi (by omega) (.inr a1)⟩
    · obtain ⟨b1, b2⟩ := hO.busy (by omega)
      have hleft := hO.left
      generalize (nst (spots 0 l) zs x).1 = r at *
      obtain ⟨r1, r2, r3⟩ := pos_lt hwn
      refine .inl ⟨b1, ?_⟩
      have hst' : r.steps = (((N ++ [cnt l D]).length : Nat) : Int) := by rw [hN', s2, hst]; push_cast; rfl
      have hbd' : r.steps ≤ (tr - r.left) * ful (spots 0 l) + pos (spots 0 l) r := by rw [hleft, s2, b2]; push_cast; omega
      rcases (show x.line = 0 ∨ x.line = 1 ∨ x.line = 2 by omega) with l0 | l1 | l2
      · have htl := (hw.a0 l0).1
        have hp : pos (spots 0 l) x = x.k := if_pos l0
        have ht := hO.t0 l0
        rw [hgw] at ht
        have htl' : r.tl.length = x.k + 1 := by rw [ht]; simp; omega
        refine ⟨updD G x.k ((D x.k).length - 1), a0, cnt l D, hwn, b1, hst', hbd', by omega, by omega, htry1, fun j hj hj2 => ?_, fun hn => ?_, fun c => ?_, fun j B' n' d' i t' hi hwj _ => ?_⟩
        · by_cases c : j = x.k
          · subst c
            rw [updD_self, ht, List.getElem?_append_right (by omega), htl, Nat.sub_self]
            exact ⟨rfl, by omega, fun c => by omega⟩
          · rw [updD_ne _ _ c, ht, List.getElem?_append_left (by omega)]
            exact hS.gen j hj (by omega)
        · have hpl : pos (spots 0 l) x + 1 = (spots 0 l).length := by
            have a1 := q2.1 l0
            have a2 : ¬ pos (spots 0 l) r < (spots 0 l).length := fun c => hn (r2.2 c)
            omega
          have hb := hO.b1 hpl
          refine ⟨by omega, ?_, fun j hj => ?_⟩
          · rw [hb, hst, show ((N.length : Int) + 1 - 1).toNat = N.length by omega, List.getElem?_append_right (Nat.le_refl _), Nat.sub_self]
            rfl
          · refine ⟨(D j).length - 1, cnt_at D hj, ?_, ?_⟩
            · by_cases c : j = x.k
              · subst c; rw [updD_self]; exact Nat.le_refl _
              · rw [updD_ne _ _ c]
                have := (hS.gen j hj (by omega)).2.1
                omega
            · obtain ⟨B', n', d', t'⟩ := tn_of h hj
              have := (hP.2 j B' n' d' t').d1
              omega
        · have := r3.1 c
          omega
        · have := wi_len (spots 0 l) j
          omega
      · have htl := (hw.a1 l1).1
        have hxn := (hw.a1 l1).2
        rw [hnx] at hxn
        have hxn : (x.n : Int) < n := hxn
        have hp : pos (spots 0 l) x = (spots 0 l).length + wid ((spots 0 l).take x.k) + x.n := by unfold pos; rw [if_neg (by omega), if_pos l1]
        have hwk : x.tl.length = wi (spots 0 l) x.k + x.n := htl
        have ht := hO.t1 l1
        have hb := hO.b0 (by omega)
        obtain ⟨c1, c2, c3⟩ := hS.beg (by omega)
        have hbl := (List.getElem?_eq_some_iff.1 c2).1
        have hL := wi_len (spots 0 l) x.k
        have hrk : r.line = 2 → r.k = 0 := fun c => by
          have hpr : pos (spots 0 l) r = (spots 0 l).length + wid (spots 0 l) + r.k := by unfold pos; rw [if_neg (by omega), if_neg (by omega)]
          have : ¬ (spots 0 l).length + wid (spots 0 l) ≤ pos (spots 0 l) x := fun q => by have := q3.2 q; omega
          omega
        refine ⟨G, a0, cb, hwn, b1, hst', hbd', by omega, by omega, htry1, fun j hj hj2 => ?_, fun _ => ?_, fun c j hj => ?_, fun j B' n' d' i t' hi hwj hcj => ?_⟩
        · rw [ht, List.getElem?_append_left (by omega)]
          exact hS.gen j hj (by omega)
        · rw [hb, List.getElem?_append_left hbl]
          exact ⟨c1, c2, c3⟩
        · have := hrk c
          omega
        · have hcj : G j + 1 = (D j).length := by
            rcases hcj with ⟨c, c'⟩ | c
            · have := hrk c; omega
            · exact c
          have hwj' : wi (spots 0 l) j + i < x.tl.length + 1 := by rw [ht] at hwj; simpa using hwj
          rw [ht]
          by_cases c : wi (spots 0 l) j + i < x.tl.length
          · rw [List.getElem?_append_left c]
            exact hS.wds j B' n' d' i t' hi c (.inr hcj)
          · have e : wi (spots 0 l) j + i = wi (spots 0 l) x.k + x.n := by omega
            have n1 := wi_next t
            have n2 := wi_next t'
            have ejk : j = x.k := by
              rcases Nat.lt_trichotomy j x.k with c | c | c
              · have := wi_mono (spots 0 l) (show j + 1 ≤ x.k from c); omega
              · exact c
              · have := wi_mono (spots 0 l) (show x.k + 1 ≤ j from c); omega
            subst ejk
            obtain ⟨rfl, rfl, rfl⟩ := tn_one t t'
            obtain rfl : i = x.n := by omega
            rw [List.getElem?_append_right (by omega), show wi (spots 0 l) x.k + x.n - x.tl.length = 0 by omega]
            have hj : x.k < l.length := hk
            obtain ⟨g1, g2, _⟩ := hS.gen x.k hk (by omega)
            have hgd : x.tl.getD x.k 0 = ((G x.k : Nat) : Int) := by rw [List.getD_eq_getElem?_getD, g1]; rfl
            have hz := hT.kept x.n hi
            rw [show (D x.k).length - 1 = G x.k by omega] at hz
            have hnl : (nxl (spots 0 l) x).toNat = plg B n d (G x.k) + x.n := by
              unfold nxl
              rw [if_pos l1, hnx, hgd, plg_atv (by have := t.hi; have := t.mx; omega) t.n1 (by have := t.n4; omega) t.d2 (by have := t.d5; omega)]
              omega
            rw [hnl, List.getD_eq_getElem?_getD, hz]
            rfl
      · have htl := ht2 l2
        have hp : pos (spots 0 l) x = (spots 0 l).length + wid (spots 0 l) + x.k := by unfold pos; rw [if_neg (by omega), if_neg (by omega)]
        have ht := hO.t2 l2
        have hb := hO.b0 (by omega)
        obtain ⟨c1, c2, c3⟩ := hS.beg (by omega)
        have hbl := (List.getElem?_eq_some_iff.1 c2).1
        have hr2 : r.line = 2 := r3.2 (by omega)
        have hrk : r.k = x.k + 1 := by
          have hpr : pos (spots 0 l) r = (spots 0 l).length + wid (spots 0 l) + r.k := by unfold pos; rw [if_neg (by omega), if_neg (by omega)]
          omega
        obtain ⟨a1, a2⟩ := same l2
        refine ⟨G, a0, cb, hwn, b1, hst', hbd', by omega, by omega, htry1, fun j hj hj2 => ?_, fun _ => ?_, fun _ j hj => ?_, fun j B' n' d' i t' hi hwj hcj => ?_⟩
        · rw [ht]
          exact hS.gen j hj (by omega)
        · rw [hb, List.getElem?_append_left hbl]
          exact ⟨c1, c2, c3⟩
        · by_cases c : j < x.k
          · exact hS.chk l2 j c
          · rw [show j = x.k by omega]
            exact a2
        · rw [ht] at hwj ⊢
          refine hS.wds j B' n' d' i t' hi hwj ?_
          rcases hcj with ⟨_, c'⟩ | c
          · by_cases c : j < x.k
            · exact .inl ⟨l2, c⟩
            · rw [show j = x.k by omega]
              exact .inr a1
          · exact .inr c
end
end Go.Proofs.Ytflgggfomhifeaa
