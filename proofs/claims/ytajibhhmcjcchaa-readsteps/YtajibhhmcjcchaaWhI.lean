/- ReadWhole: what is always so of two publishers and a reader. No program is named here. -/
import Derived.Test.YtajibhhmcjcchaaOnM
import Derived.Test.YtajibhhmcjcchaaRAl
namespace Go.Proofs.Ytajibhhmcjcchaa
open Go.RowKit

/-- The words of a generation, of those that were published. -/
def gw (n : Nat) (dl : List (List Int)) (g : Nat) : List Int := (List.replicate n 0 :: dl).getD g []
theorem gw_more {n : Nat} {dl : List (List Int)} {g : Nat} (h : g ≤ dl.length) (r : List Int) : gw n (dl ++ [r]) g = gw n dl g := by
  unfold gw
  rw [← List.cons_append, List.getD_eq_getElem?_getD, List.getD_eq_getElem?_getD, List.getElem?_append_left (by simp; omega)]
theorem gw_last {n : Nat} {dl : List (List Int)} (r : List Int) : gw n (dl ++ [r]) (dl.length + 1) = r := by
  unfold gw
  rw [← List.cons_append, List.getD_eq_getElem?_getD, List.getElem?_append_right (by simp)]
  simp
/-- What lies whole in the places. -/
def Pl' (n d D : Nat) (dl : List (List Int)) (v : Int) (zs : List Int) : Prop := ∀ g : Nat, g ≤ D → Sq.bg v - g < d → ∀ j, j < n → zs[gat n d g + j]? = (gw n dl g)[j]?
/-- How a reading stands that is under way. -/
structure RdI (n d tr D : Nat) (dl : List (List Int)) (v : Int) (x : RSt) (nw : List Int) (f : Nat) : Prop where
  how : x.how = 0
  wf : RWf (spS n d) x
  left : x.left = (tr : Int) - f
  few : f < tr
  len : (nw.length : Int) = x.steps
  base : ∀ a, nw[0]? = some a → a + ((f * (d - 1) : Nat) : Int) ≤ D
  st : (x.line = 0 ∧ x.steps = ((f * (n + 2) : Nat) : Int)) ∨
    (∃ G m : Nat, (x.line = 1 ∨ x.line = 2) ∧ x.gen = G ∧ x.rw.length = m ∧ x.steps = ((f * (n + 2) : Nat) : Int) + 1 + m ∧ x.bgn = ((f * (n + 2) : Nat) : Int) + 1 ∧ nw[f * (n + 2)]? = some (G : Int) ∧ G ≤ D ∧
      (x.line = 1 → m < n) ∧ (x.line = 2 → m = n) ∧ (∀ a, nw[0]? = some a → a + ((f * (d - 1) : Nat) : Int) ≤ G) ∧ (Sq.bg v - G < d → ∀ j, j < m → x.rw[j]? = (gw n dl G)[j]?))
/-- What is always so. -/
structure WhI (n d tr D : Nat) (H : Int) (X : Ops) (R : Nat → List Int) (q : Nat) (zs : List Int) (dl : List (List Int)) : Prop where
  on : OnInv n d D H X R q zs
  num : dl.length = D
  seq : ∃ v : Int, zs[1]? = some v ∧ v / 2 = D ∧ 0 ≤ v ∧ v ≤ 2 * (D : Int) + 1 ∧ Pl' n d D dl v zs
theorem rdi_more {n d tr D D' : Nat} {dl dl' : List (List Int)} {v v' : Int} {x : RSt} {nw : List Int} {f : Nat} (h : RdI n d tr D dl v x nw f) (hD : D ≤ D') (hv : Sq.bg v ≤ Sq.bg v') (hdl : ∀ g, g ≤ D → gw n dl' g = gw n dl g) : RdI n d tr D' dl' v' x nw f := by
  refine ⟨h.how, h.wf, h.left, h.few, h.len, fun a ha => by have := h.base a ha; omega, ?_⟩
  rcases h.st with c | ⟨G, m, c1, c2, c3, c4, c5, c6, c7, c8, c9, c10, c11⟩
  · exact .inl c
  · exact .inr ⟨G, m, c1, c2, c3, c4, c5, c6, by omega, c8, c9, c10, fun q j hj => by rw [hdl G c7]; exact c11 (by omega) j hj⟩
theorem on_more {n d D : Nat} {H : Int} {X : Ops} {R : Nat → List Int} {i : Nat} {zs : List Int} (h : OnInv n d D H X R i zs) : OnInv n d D H X R (i + 1) zs :=
  ⟨h.len, by have := h.few; omega, h.out, fun k o g x hx => one_more (h.each k o g x hx), h.hold⟩
theorem on_new' {n d D : Nat} {H : Int} {X : Ops} {R R' : Nat → List Int} {i k o g : Nat} {zs : List Int} {tr : Int} (h : OnInv n d D H X R i zs) (hk : k < 3) (hx : X k = none) (hR : ∀ j, ¬ j = k → R' j = R j) (hw : Wf (spS n d) (R' k) (st0 tr)) : OnInv n d D H (upd X k (some (o, g, st0 tr))) R' i zs := by
  refine ⟨h.len, h.few, fun j hj => by rw [upd_ne _ _ (by omega)]; exact h.out j hj, fun j o' g' y hy => ?_, ?_⟩
  · by_cases c : j = k
    · subst c
      rw [upd_self] at hy
      cases hy
      exact ⟨rfl, hw, by show (0 : Int) ≤ 0; omega, by show (0 : Int) ≤ i; omega, fun c => absurd (show (0 : Int) = 1 from c) (by omega), fun c => absurd (show (2 : Int) ≤ 0 from c) (by omega)⟩
    · rw [upd_ne _ _ c] at hy
      rw [hR j c]
      exact h.each j _ _ _ hy
  · rcases h.hold with c | ⟨h', c1, c2, c3, o', g', y, hy, hh⟩
    · exact .inl c
    · have hne : ¬ h' = k := by intro e; subst e; rw [hx] at hy; cases hy
      refine .inr ⟨h', c1, c2, c3, o', g', y, ?_, ?_⟩
      · rw [upd_ne _ _ hne]
        exact hy
      · rw [hR h' hne]
        exact hh
/-- A step writes into no place but the one of the generation that comes. -/
theorem on_keep {n d D : Nat} {H : Int} {X : Ops} {R : Nat → List Int} {i k o g : Nat} {zs : List Int} {x : St} (b1 : 1 ≤ n) (b2 : n ≤ 64) (b3 : 2 ≤ d) (b4 : d ≤ 16) (h : OnInv n d D H X R i zs) (hx : X k = some (o, g, x)) (hR : (R k).length = n) (j : Nat) (hj : 2 ≤ j) (hj2 : j < plc n d D ∨ plc n d D + n ≤ j) :
    (stp (spS n d) (R k) zs x).2.1[j]? = zs[j]? := by
  obtain ⟨hh, hw, p0, p1, hev, hho⟩ := h.each k _ _ _ hx
  have l0 := hw.l0
  have l3 := hw.l3
  unfold stp
  rw [if_neg (fun c => c hh)]
  rcases (show x.line = 0 ∨ x.line = 1 ∨ x.line = 2 ∨ x.line = 3 by omega) with l | l | l | l
  · rw [if_pos l]
    cases getI zs (spS n d).sq with
    | none => rfl
    | some v =>
      dsimp only
      split <;> rfl
  · rw [if_neg (by omega), if_pos l]
    cases getI zs (spS n d).sq with
    | none => rfl
    | some v =>
      dsimp only
      split
      · exact List.getElem?_set_ne (by show (1 : Nat) ≠ j; omega)
      · rfl
  · rw [if_neg (by omega), if_neg (by omega), if_pos l]
    have hHk := hho (by omega)
    obtain ⟨h', c1, c2, c3, o', g', y, hy, y1, y2, y3, y4⟩ : ∃ h : Nat, h < 3 ∧ H = h ∧ zs[1]? = some (2 * (D : Int) + 1) ∧ ∃ o g x, X h = some (o, g, x) ∧ Hold n d D (R h) zs x := by
      rcases h.hold with ⟨e, _⟩ | c
      · omega
      · exact c
    obtain rfl : h' = k := by omega
    rw [hx] at hy
    cases hy
    have hlie := plc_lie b1 b2 b3 b4 x y2
    have n0 := hw.n0
    have nl := hw.nl l
    rw [hR] at nl
    cases getI zs (lie (spS n d) x) with
    | none => rfl
    | some v =>
      dsimp only
      refine List.getElem?_set_ne ?_
      rw [hlie]
      omega
  · rw [if_neg (by omega), if_neg (by omega), if_neg (by omega)]
    cases getI zs (spS n d).sq with
    | none => rfl
    | some v => exact List.getElem?_set_ne (by show (1 : Nat) ≠ j; omega)
/-- The places of two generations, of which fewer than d lie in between, are apart. -/
theorem gat_apart {n d g D : Nat} (h3 : 2 ≤ d) (h1 : g ≤ D) (h2 : (D : Int) + 1 - g < d) (j : Nat) (hj : j < n) : gat n d g + j < plc n d D ∨ plc n d D + n ≤ gat n d g + j := by
  have hne : (D + 1) % d ≠ g % d := by
    intro e
    have h4 : ((D + 1 : Nat) : Int) % d = (g : Int) % d := by rw [← Int.natCast_emod, ← Int.natCast_emod, e]
    have h5 : (((D + 1 : Nat) : Int) - g) % d = 0 := Int.emod_eq_emod_iff_emod_sub_eq_zero.1 h4
    rw [Int.emod_eq_of_lt (by omega) (by omega)] at h5
    omega
  have q1 : (D + 1) % d < d := Nat.mod_lt _ (by omega)
  have q2 : g % d < d := Nat.mod_lt _ (by omega)
  unfold gat plc
  generalize (D + 1) % d = A at *
  generalize g % d = B at *
  rcases Nat.lt_trichotomy B A with e | e | e
  · have : (B + 1) * n ≤ A * n := Nat.mul_le_mul_right n e
    rw [Nat.add_mul, Nat.one_mul] at this
    omega
  · exact absurd e.symm hne
  · have : (A + 1) * n ≤ B * n := Nat.mul_le_mul_right n e
    rw [Nat.add_mul, Nat.one_mul] at this
    omega
/-- What comes of a publisher's step. -/
def WhRes (n d tr D : Nat) (H : Int) (X : Ops) (R : Nat → List Int) (q k o g : Nat) (zs : List Int) (dl : List (List Int)) (r : St × List Int × Int) : Prop :=
  (r.1.how = 0 ∧ ∃ H', WhI n d tr D H' (upd X k (some (o, g, r.1))) R (q + 1) r.2.1 dl) ∨
  (r.1.how = 2 ∧ ∃ H', WhI n d tr D H' (upd X k none) R (q + 1) r.2.1 dl) ∨
  (r.1.how = 1 ∧ r.1.s = 2 * (D : Int) ∧ ∃ H', WhI n d tr (D + 1) H' (upd X k none) R (q + 1) r.2.1 (dl ++ [R k]))
theorem wh_step {n d tr D : Nat} {H : Int} {X : Ops} {R : Nat → List Int} {q k o g : Nat} {zs : List Int} {dl : List (List Int)} {x : St} (b1 : 1 ≤ n) (b2 : n ≤ 64) (b3 : 2 ≤ d) (b4 : d ≤ 16) (hq : q ≤ 1000) (h : WhI n d tr D H X R q zs dl) (hk : k < 3) (hx : X k = some (o, g, x)) (hR : (R k).length = n) (hu : ∀ v ∈ zs, U64 v) :
    WhRes n d tr D H X R q k o g zs dl (stp (spS n d) (R k) zs x) ∧ ∀ v v', zs[1]? = some v → (stp (spS n d) (R k) zs x).2.1[1]? = some v' → Sq.bg v ≤ Sq.bg v' := by
  have hres := on_step b1 b2 b3 b4 hq h.on hk hx hR hu
  have hkeep := on_keep b1 b2 b3 b4 h.on hx hR
  obtain ⟨v, hv, e1, e2, e3, hp⟩ := h.seq
  have hfew := h.on.few
  have hdl := h.num
  generalize stp (spS n d) (R k) zs x = r at *
  rcases hres with ⟨z1, _, z3, z4⟩ | ⟨z1, _, z3, z4⟩ | ⟨z1, z2, z3, z4, z5⟩ | ⟨z1, z2, z3, z4⟩ | ⟨z1, z2, z3, z4, z5, z6, z7⟩
  · rw [z3]
    refine ⟨.inl ⟨z1, H, (by rw [z3]; exact ⟨z4, hdl, v, hv, e1, e2, e3, hp⟩)⟩, fun a a' ha ha' => by rw [ha] at ha'; cases ha'; exact Int.le_refl _⟩
  · rw [z3]
    refine ⟨.inr (.inl ⟨z1, H, (by rw [z3]; exact ⟨z4, hdl, v, hv, e1, e2, e3, hp⟩)⟩), fun a a' ha ha' => by rw [ha] at ha'; cases ha'; exact Int.le_refl _⟩
  · have hv0 : v = 2 * (D : Int) := by
      rcases h.on.hold with ⟨_, c⟩ | ⟨h', _, c, _⟩
      · rw [hv] at c; exact Option.some.inj c
      · omega
    refine ⟨.inl ⟨z1, k, z5, hdl, _, z4, by omega, by omega, by omega, fun g hg hb j hj => ?_⟩, fun a a' ha ha' => ?_⟩
    · have g1 := (gat_in (n := n) (d := d) (G := g) b3).1
      rw [z3 _ (by omega)]
      refine hp g hg ?_ j hj
      unfold Sq.bg at *
      omega
    · rw [hv] at ha
      rw [z4] at ha'
      cases ha
      cases ha'
      unfold Sq.bg
      omega
  · have hv0 : v = 2 * (D : Int) + 1 := by
      rcases h.on.hold with ⟨c, _⟩ | ⟨h', _, _, c, _⟩
      · omega
      · rw [hv] at c; exact Option.some.inj c
    refine ⟨.inl ⟨z1, k, z4, hdl, _, z3, by omega, by omega, by omega, fun g hg hb j hj => ?_⟩, fun a a' ha ha' => ?_⟩
    · have g1 := (gat_in (n := n) (d := d) (G := g) b3).1
      have hb2 : (D : Int) + 1 - g < d := by unfold Sq.bg at hb; omega
      rw [hkeep _ (by omega) (gat_apart b3 hg hb2 j hj)]
      refine hp g hg ?_ j hj
      unfold Sq.bg at *
      omega
    · rw [hv] at ha
      rw [z3] at ha'
      cases ha
      cases ha'
      unfold Sq.bg
      omega
  · have hv0 : v = 2 * (D : Int) + 1 := by
      rcases h.on.hold with ⟨c, _⟩ | ⟨h', _, _, c, _⟩
      · omega
      · rw [hv] at c; exact Option.some.inj c
    refine ⟨.inr (.inr ⟨z1, z5, -1, z7, by simp [hdl], _, z4, by omega, by omega, by omega, fun g hg hb j hj => ?_⟩), fun a a' ha ha' => ?_⟩
    · by_cases c : g = D + 1
      · subst c
        rw [← hdl, gw_last, hdl]
        exact z6 j hj
      · have g1 := (gat_in (n := n) (d := d) (G := g) b3).1
        rw [gw_more (by omega), z3 _ (by omega)]
        refine hp g (by omega) ?_ j hj
        unfold Sq.bg at *
        omega
    · rw [hv] at ha
      rw [z4] at ha'
      cases ha
      cases ha'
      unfold Sq.bg
      omega
theorem wh_new {n d tr D : Nat} {H : Int} {X : Ops} {R R' : Nat → List Int} {q k o g : Nat} {zs : List Int} {dl : List (List Int)} {ty : Int} (h : WhI n d tr D H X R q zs dl) (hk : k < 3) (hx : X k = none) (hR : ∀ j, ¬ j = k → R' j = R j) (hw : Wf (spS n d) (R' k) (st0 ty)) : WhI n d tr D H (upd X k (some (o, g, st0 ty))) R' q zs dl :=
  ⟨on_new' h.on hk hx hR hw, h.num, h.seq⟩
theorem wh_more {n d tr D : Nat} {H : Int} {X : Ops} {R : Nat → List Int} {q : Nat} {zs : List Int} {dl : List (List Int)} (h : WhI n d tr D H X R q zs dl) : WhI n d tr D H X R (q + 1) zs dl := ⟨on_more h.on, h.num, h.seq⟩
/-- What comes of a reader's step. -/
def RdRes (n d tr D : Nat) (dl : List (List Int)) (v : Int) (nw : List Int) (r : RSt × Int) : Prop :=
  r.2 = 1 ∧ r.1.steps = (nw.length : Int) + 1 ∧ (nw.length : Int) + 1 ≤ ((tr * (n + 2) : Nat) : Int) ∧
  ((∃ f, RdI n d tr D dl v r.1 (nw ++ [(D : Int)]) f) ∨
   (r.1.how = 1 ∧ ∃ G c : Nat, r.1.gen = G ∧ G ≤ D ∧ r.1.bgn = (c : Int) + 1 ∧ c ≤ nw.length ∧ (nw ++ [(D : Int)])[c]? = some (G : Int) ∧ r.1.rw = gw n dl G) ∨
   (r.1.how = 2 ∧ ∀ a, (nw ++ [(D : Int)])[0]? = some a → a + ((tr * (d - 1) : Nat) : Int) ≤ D))
theorem get_app {nw : List Int} {D a : Int} {i : Nat} (h : nw[i]? = some a) : (nw ++ [D])[i]? = some a := by
  rw [List.getElem?_append_left (List.getElem?_eq_some_iff.1 h).1]
  exact h
theorem rd_step {n d tr D : Nat} {dl : List (List Int)} {v : Int} {x : RSt} {nw zs : List Int} {f : Nat} (b1 : 1 ≤ n) (b2 : n ≤ 64) (b3 : 2 ≤ d) (b4 : d ≤ 16) (hL : zs.length = 2 + n * d) (hv : zs[1]? = some v) (e1 : v / 2 = D) (e2 : 0 ≤ v) (hp : Pl' n d D dl v zs)
    (hgl : ∀ g, g ≤ D → (gw n dl g).length = n) (hu : ∀ v ∈ zs, U64 v) (h : RdI n d tr D dl v x nw f) : RdRes n d tr D dl v nw (rst (spS n d) zs x) := by
  have hw := rwf_rst h.wf hu
  have hlen := h.len
  have hfew := h.few
  have hleft := h.left
  have hF : (f + 1) * (n + 2) ≤ tr * (n + 2) := Nat.mul_le_mul_right _ hfew
  rw [Nat.succ_mul] at hF
  rcases h.st with ⟨l, c⟩ | ⟨G, m, l, cg, cm, cs, cb, cn, cD, c1, c2, c3, c4⟩
  · have e : getI zs (rdl (spS n d) x) = some v := by
      unfold rdl
      rw [if_neg (by omega)]
      exact getI_mk (by show (0 : Int) ≤ 1; omega) hv
    rw [rst_new h.how l e] at hw ⊢
    have hb : ∀ a, (nw ++ [(D : Int)])[0]? = some a → a + ((f * (d - 1) : Nat) : Int) ≤ D := fun a ha => by
      cases nw with
      | nil =>
        have h0 : f * (n + 2) = 0 := by simp at hlen; omega
        have hf0 : f = 0 := by
          rcases Nat.mul_eq_zero.1 h0 with h1 | h1
          · exact h1
          · omega
        subst hf0
        simp at ha
        subst ha
        simp
      | cons b l =>
        exact h.base a (by simpa using ha)
    refine ⟨rfl, by show x.steps + 1 = _; omega, by omega, .inl ⟨f, ⟨h.how, hw, hleft, hfew, by show _ = x.steps + 1; simp; omega, hb, .inr ⟨D, 0, .inl rfl, e1, rfl, by show x.steps + 1 = _; omega, by show x.steps + 1 = _; omega, ?_, Nat.le_refl _, fun _ => b1, fun c => absurd (show (1 : Int) = 2 from c) (by omega), hb, fun _ j hj => by omega⟩⟩⟩⟩
    have hfn : nw.length = f * (n + 2) := by omega
    rw [← hfn, List.getElem?_append_right (Nat.le_refl _)]
    simp
  · have hne : 0 < nw.length := by omega
    obtain ⟨a0, ha0⟩ : ∃ a, nw[0]? = some a := ⟨_, List.getElem?_eq_getElem hne⟩
    have hb0 : ∀ a, (nw ++ [(D : Int)])[0]? = some a → nw[0]? = some a := fun a ha => by
      rw [get_app ha0] at ha
      rw [ha0]
      exact ha
    rcases l with l | l
    · have hm := c1 l
      obtain ⟨g1, g2⟩ := gat_in (n := n) (d := d) (G := G) b3
      have hlt : gat n d G + m < zs.length := by omega
      have hvv : zs[gat n d G + m]? = some zs[gat n d G + m] := List.getElem?_eq_getElem hlt
      have e : getI zs (rdl (spS n d) x) = some zs[gat n d G + m] := by
        unfold rdl
        rw [if_pos l, cg, cm]
        show getI zs (atv 2 n d G + m) = _
        rw [gat_at b1 b2 b3 b4]
        exact getI_mk (by omega) (by rw [show ((gat n d G : Int) + m).toNat = gat n d G + m by omega]; exact hvv)
      rw [rst_wrd h.how l e] at hw ⊢
      generalize zs[gat n d G + m] = u at *
      refine ⟨rfl, by show x.steps + 1 = _; omega, by omega, .inl ⟨f, ⟨h.how, hw, hleft, hfew, by show _ = x.steps + 1; simp; omega, fun a ha => h.base a (hb0 a ha), .inr ⟨G, m + 1, ?_, cg, by simp [cm], by show x.steps + 1 = _; omega, cb, get_app cn, cD, fun c => ?_, fun c => ?_, fun a ha => c3 a (hb0 a ha), fun hq j hj => ?_⟩⟩⟩⟩
      · show (if (x.rw.length : Int) + 1 = (n : Int) then (2 : Int) else 1) = 1 ∨ (if (x.rw.length : Int) + 1 = (n : Int) then (2 : Int) else 1) = 2
        split
        · exact .inr rfl
        · exact .inl rfl
      · have c' : (if (x.rw.length : Int) + 1 = (n : Int) then (2 : Int) else 1) = 1 := c
        split at c' <;> omega
      · have c' : (if (x.rw.length : Int) + 1 = (n : Int) then (2 : Int) else 1) = 2 := c
        split at c' <;> omega
      · show (x.rw ++ [u])[j]? = _
        by_cases cj : j < m
        · rw [List.getElem?_append_left (by omega)]
          exact c4 hq j cj
        · obtain rfl : j = m := by omega
          rw [List.getElem?_append_right (by omega), cm, Nat.sub_self]
          rw [← hp G cD hq j hm, hvv]
          rfl
    · have hm := c2 l
      have e : getI zs (rdl (spS n d) x) = some v := by
        unfold rdl
        rw [if_neg (by omega)]
        exact getI_mk (by show (0 : Int) ≤ 1; omega) hv
      cases hk : Sq.kp v x.gen (spS n d).dp with
      | true =>
        rw [rst_kept h.how l e hk]
        refine ⟨rfl, by show x.steps + 1 = _; omega, by omega, .inr (.inl ⟨rfl, G, f * (n + 2), cg, cD, cb, by omega, get_app cn, ?_⟩)⟩
        have hq : Sq.bg v - G < d := by
          unfold Sq.kp at hk
          rw [decide_eq_true_eq, cg] at hk
          exact hk.2.2.2
        show x.rw = _
        apply List.ext_getElem?
        intro j
        by_cases cj : j < m
        · exact c4 hq j cj
        · rw [List.getElem?_eq_none_iff.2 (by omega), List.getElem?_eq_none_iff.2 (by rw [hgl G cD]; omega)]
      | false =>
        have hq : (D : Int) + 1 - G ≥ d := by
          have hk' : ¬ (2 ≤ ((d : Nat) : Int) ∧ ((d : Nat) : Int) ≤ 16 ∧ x.gen ≤ v / 2 ∧ Sq.bg v - x.gen < ((d : Nat) : Int)) := fun c => by
            have := Sq.kp_t c
            rw [show Sq.kp v x.gen (d : Int) = Sq.kp v x.gen (spS n d).dp from rfl, hk] at this
            cases this
          rw [cg] at hk'
          unfold Sq.bg at hk'
          omega
        rw [rst_agn h.how l e hk] at hw ⊢
        have hd1 : (f + 1) * (d - 1) = f * (d - 1) + (d - 1) := Nat.succ_mul _ _
        by_cases cf : x.left - 1 = 0
        · have hft : f + 1 = tr := by omega
          refine ⟨rfl, by show x.steps + 1 = _; omega, by omega, .inr (.inr ⟨if_pos cf, fun a ha => ?_⟩)⟩
          have := c3 a (hb0 a ha)
          rw [← hft, hd1]
          omega
        · have hf1 : (f + 1) * (n + 2) = f * (n + 2) + (n + 2) := Nat.succ_mul _ _
          refine ⟨rfl, by show x.steps + 1 = _; omega, by omega, .inl ⟨f + 1, ⟨(if_neg cf).trans h.how, hw, by show x.left - 1 = _; omega, by omega, by show _ = x.steps + 1; simp; omega, fun a ha => ?_, .inl ⟨rfl, by show x.steps + 1 = _; rw [hf1]; omega⟩⟩⟩⟩
          have := c3 a (hb0 a ha)
          rw [hd1]
          omega
theorem rd_new {n d tr D : Nat} {dl : List (List Int)} {v : Int} (hw : RWf (spS n d) (rst0 tr)) (h1 : 1 ≤ tr) : RdI n d tr D dl v (rst0 tr) [] 0 :=
  ⟨rfl, hw, by show (tr : Int) = (tr : Int) - (0 : Nat); omega, h1, rfl, fun a ha => (by cases ha), .inl ⟨rfl, by show (0 : Int) = ((0 * (n + 2) : Nat) : Int); rw [Nat.zero_mul]; rfl⟩⟩
theorem wh_start (n d tr : Nat) (R : Nat → List Int) (b1 : 1 ≤ n) (b3 : 2 ≤ d) : WhI n d tr 0 (-1) (fun _ => none) R 0 (List.replicate (2 + n * d) 0) [] := by
  refine ⟨on_start n d R b1, rfl, 0, by rw [List.getElem?_replicate, if_pos (by omega)], rfl, Int.le_refl _, by omega, fun g hg _ j hj => ?_⟩
  obtain rfl : g = 0 := by omega
  obtain ⟨g1, g2⟩ := gat_in (n := n) (d := d) (G := 0) b3
  unfold gw
  rw [List.getElem?_replicate, if_pos (by omega)]
  show _ = (List.replicate n (0 : Int))[j]?
  rw [List.getElem?_replicate, if_pos hj]
end Go.Proofs.Ytajibhhmcjcchaa
