/- told: what a snapshot that is done tells. -/
import Derived.Test.YtflgggfomhifeaaWsS
import Derived.Test.YtflgggfomhifeaaWsZ
import Derived.Test.YtflgggfomhifeaaSnO
import Derived.Test.YtflgggfomhifeaaSnG
import Derived.Test.YtflgggfomhifeaaWor
import Derived.Deep.RegionHeld3
import Derived.BigQuiet
namespace Go.Proofs.Ytflgggfomhifeaa
open Go.RowKit

/-- What was published of each topic, as it lies in memory. -/
def DnAt (W : World) (dn : Nat) (L : Nat) (D : Nat → List Int) : Prop :=
  ∀ j, j < L → ∃ q c, W.cell? ⟨dn, j, none⟩ = some (.slice (some ⟨q, 0, none⟩) (D j).length c) ∧ ∀ (i : Nat) (v : Int), (D j)[i]? = some v → U64 v ∧ W.cell? ⟨q, i, none⟩ = some (.int .u64 v)
/-- How many were published of each topic, behind each access. -/
def NwAt (W : World) (na : Option Addr) (N : List (List Int)) : Prop :=
  ∀ (i : Nat) (r : List Int), N[i]? = some r → ∃ b off q c, na = some ⟨b, off, none⟩ ∧ W.cell? ⟨b, off + i, none⟩ = some (.slice (some ⟨q, 0, none⟩) r.length c) ∧ ∀ (j : Nat) (e : Int), r[j]? = some e → W.cell? ⟨q, j, none⟩ = some (.int .i64 e)
theorem cell_low {A B : World} {p : Addr} {v : Value} (h : Below A.heap.size A B) (c : A.cell? p = some v) : B.cell? p = some v := by
  rw [h.cell (World.block_lt_of_cell? _ _ c)]
  exact c
theorem DnAt.low {A B : World} {dn L : Nat} {D : Nat → List Int} (h : DnAt A dn L D) (u : Below A.heap.size A B) : DnAt B dn L D := fun j hj => by
  obtain ⟨q, c, h1, h2⟩ := h j hj
  exact ⟨q, c, cell_low u h1, fun i v hv => ⟨(h2 i v hv).1, cell_low u (h2 i v hv).2⟩⟩
theorem NwAt.low {A B : World} {na : Option Addr} {N : List (List Int)} (h : NwAt A na N) (u : Below A.heap.size A B) : NwAt B na N := fun i r hr => by
  obtain ⟨b, off, q, c, e, h1, h2⟩ := h i r hr
  exact ⟨b, off, q, c, e, cell_low u h1, fun j v hv => cell_low u (h2 j v hv)⟩
theorem Orw.rdw' {W : World} {q cap : Nat} {ws : List Int} (h : Orw W q cap ws) : Rdw W (some ⟨q, 0, none⟩) ws := fun j x hx => ⟨q, 0, rfl, by rw [Nat.zero_add]; exact h.cell hx⟩
theorem owns_rdw0 {W : World} {base : Nat} {a : Option Addr} {n k c : Nat} {xs : List Int} (h : W.ownsRow base 42 1 (.slice a n c) k (xs.map (Value.int .u64))) : Rdw W a xs ∧ n = k := by
  obtain ⟨hl, ⟨e, rfl⟩ | ⟨g, cap, cur, e, hb, hg, hr⟩⟩ := h
  · have : xs = [] := List.eq_nil_of_length_eq_zero (by simpa using hl)
    subst this
    cases e
    exact ⟨fun j x hx => by simp at hx, rfl⟩
  · cases e
    refine ⟨fun j x hx => ⟨g, 0, rfl, ?_⟩, rfl⟩
    have hc := World.ownsRow.cells (w := W) (base := base) (e := 42) (size := 1) (n := n) (xs := xs.map (Value.int .u64)) (v := .slice (some ⟨g, 0, none⟩) n c) ⟨hl, .inr ⟨g, c, cur, rfl, hb, hg, hr⟩⟩ rfl j (.int .u64 x) (by rw [List.getElem?_map, hx]; rfl)
    have e : (⟨g, 0, none⟩ : Addr).add j = ⟨g, j, none⟩ := by unfold Addr.add; split <;> simp_all
    rw [e] at hc
    rw [Nat.zero_add]
    exact hc
/-- Numbers, appended to numbers. -/
theorem ap_many {W : World} {base : Nat} {v : Value} {k : Nat} {xs : List Value} (h : W.ownsRow base 42 1 v k xs) (hb : base ≤ W.heap.size) (hk : k ≤ 10000) {a : Option Addr} {ws : List Int} {m c : Nat} (hm : 1 ≤ m) (hm2 : m ≤ 100) (hw : Wds W.heap.size W a ws) (hl : ws.length = m) :
    ∃ v' w', (Builtin.append_ #[41, 41] 41 #[v, .slice a m c]).run Try.prog W = .ok v' w' ∧ w'.ownsRow base 42 1 v' (k + m) (xs ++ ws.map (Value.int .u64)) ∧ Below base W w' := by
  obtain ⟨i, hi, he⟩ := Option.map_eq_some_iff.1 info49
  simp only [Prod.mk.injEq] at he
  obtain ⟨hz, hs, hbb⟩ := he
  obtain ⟨_, b, off, rfl, _⟩ := hw 0 _ (List.getElem?_eq_getElem (show 0 < ws.length by omega))
  obtain ⟨v', w', hr, ho, hg, _⟩ := run_append_own (P := Try.prog) W base 41 41 42 i _ 1 8 Try.underlying41 hi hz hs hbb rfl (by omega) v k xs h ⟨b, off, none⟩ m c (ws.map (Value.int .u64)) (by simp [hl]) (fun j y hy => by
    rw [List.getElem?_map] at hy
    obtain ⟨u, hu, rfl⟩ := Option.map_eq_some_iff.1 hy
    obtain ⟨_, b', off', e, _, hc⟩ := hw j u hu
    cases e
    have e2 : (⟨b, off, none⟩ : Addr).add j = ⟨b, off + j, none⟩ := by unfold Addr.add; split <;> simp_all
    rw [e2]
    exact hc) (fun y hy => by
    obtain ⟨u, _, rfl⟩ := List.mem_map.1 hy
    rfl) (by simp only [maxLen]; omega) (by omega) hb
  exact ⟨v', w', hr, ho, ⟨hg.os, hg.tape, hg.output, hg.size, fun q hq => hg.block q (by omega) (fun c => by have := (h.lt q c.symm).1; omega)⟩⟩
/-- The words of so many topics. -/
def wnk (l : List Tp) (tl : List Int) (k : Nat) : List Int := (tl.drop (spots 0 l).length).take (wid ((spots 0 l).take k))
theorem wnk_next {l : List Tp} {tl : List Int} {k B n d : Nat} (t : Tn l k B n d) {ws : List Int} (hl : ws.length = n) (h : ∀ i v, ws[i]? = some v → tl[wi (spots 0 l) k + i]? = some v) : wnk l tl (k + 1) = wnk l tl k ++ ws := by
  unfold wnk
  rw [wid_take _ k _ t.sp, show (spB B n d).wd.toNat = n from Int.toNat_natCast n, List.take_add]
  congr 1
  refine List.ext_getElem? (fun i => ?_)
  by_cases hi : i < n
  · rw [List.getElem?_take_of_lt hi, List.getElem?_drop, List.getElem?_drop, List.getElem?_eq_getElem (l := ws) (by omega), ← Nat.add_assoc]
    exact h i _ (List.getElem?_eq_getElem (by omega))
  · rw [List.getElem?_eq_none_iff.2 (by rw [List.length_take]; omega), List.getElem?_eq_none_iff.2 (by omega)]
theorem wnk_all {l : List Tp} {tl : List Int} (h : tl.length = l.length + wid (spots 0 l)) : wnk l tl l.length = tl.drop (spots 0 l).length := by
  unfold wnk
  rw [List.take_of_length_le (l := spots 0 l) (by rw [spots_len]; exact Nat.le_refl _)]
  exact List.take_of_length_le (by rw [List.length_drop, spots_len]; omega)
/-- What the record of a round is made of, and where it is. -/
def RTo (lb lf dn q qc k n len : Nat) (g : Nat) (m : Int) (W : World) : Prop := W.cell? ⟨lb, lf, none⟩ = some (.int .i64 (n : Int)) ∧ W.cell? ⟨dn, k, none⟩ = some (.slice (some ⟨q, 0, none⟩) len qc) ∧ W.cell? ⟨q, g, none⟩ = some (.int .u64 m)
theorem RTo.low {lb lf dn q qc k n len g : Nat} {m : Int} {A B : World} (h : RTo lb lf dn q qc k n len g m A) (u : Below A.heap.size A B) : RTo lb lf dn q qc k n len g m B :=
  ⟨cell_low u h.1, cell_low u h.2.1, cell_low u h.2.2⟩
def ToRel (w2 : World) (l : List Tp) (x : NSt) (v i : Value) (wr : World) : Prop :=
  ∃ k : Nat, i = .int .i64 k ∧ k ≤ l.length ∧ wr.ownsRow w2.heap.size 42 1 v (wid ((spots 0 l).take k)) ((wnk l x.tl k).map (Value.int .u64)) ∧ Below w2.heap.size w2 wr
set_option maxRecDepth 100000 in
set_option maxHeartbeats 4000000 in
theorem told_any {l : List Tp} {D : Nat → List Int} {N : List (List Int)} {x : NSt} {o gs g : Nat} {w : World} (hN : NAt w o gs g (spots 0 l) x) (hh : x.how = 1) (hL : okL l) (hT : Tld l D N x) (a : Option Addr) (cap : Nat) (hA : Tps w.heap.size w a l) (dn : Nat) (hD : DnAt w dn l.length D) (na : Option Addr) (nc : Nat) (hNw : NwAt w na N) (hNl : N.length ≤ 10000) (hDl : ∀ j, (D j).length ≤ 1000) :
    Calls Try.prog 27 #[.pointer (some ⟨o, 0, none⟩), .slice a l.length cap, .slice (some ⟨dn, 0, none⟩) l.length l.length, .slice na N.length nc] w (Ret (.bool true) w) := by
  have hsl := spots_len l 0
  have hwd := wid_spots hL
  have hL1 := hL.1
  have hL5 := hL.2.1
  have hg := ngot_ok hN hh (wid (spots 0 l)) (by rw [hsl]; exact hT.len) hwd.2 (by omega) (by omega) (by omega) (by unfold room; rw [hT.len]; omega)
  obtain ⟨bi, hbi⟩ := Int.eq_ofNat_of_zero_le (show 0 ≤ x.bgn - 1 by have := hT.b1; omega)
  have hbi2 : x.bgn = (bi : Int) + 1 := by omega
  have hbn : (bi : Int) < N.length := by have := hT.b2; omega
  obtain ⟨cb, hcb, hall⟩ := hT.all
  rw [hbi, Int.toNat_natCast] at hcb
  have Hg := Lib.hid hg
  have Hat : Hid (∀ W, NAt W o gs g (spots 0 l) x → Calls Try.prog 21 #[.pointer (some ⟨o, 0, none⟩)] W (Pur (.int .i64 ((bi : Int) + 1)) W)) := Lib.hid (fun W h => by
    have := nat_pur h
    unfold nat at this
    rw [if_pos hh, hbi2] at this
    exact this)
  have HALL := Lib.hid hall
  have HCB := Lib.hid hcb
  have HF := Lib.hid (And.intro hN (And.intro hA (And.intro hD hNw)))
  have HL := Lib.hid (And.intro hL (And.intro hsl hT.len))
  have HW := Lib.hid (And.intro hwd (And.intro hNl hDl))
  have hln : (l.length : Int) ≤ 5 := by omega
  have hNl2 : (N.length : Int) ≤ 10000 := by omega
  clear hN hh hL hT hA hD hNw hNl hDl hsl hwd hL1 hL5 hg hbi hbi2 hcb hall
  go_enter Try.func27, Try.ntmps27
  go_wp2_with fail
  refine Hg.out.mono ?_
  rintro e w2 ⟨q1, c1, q2, c2, rfl, _, _, _, hO1, hO2, hb2⟩
  have H2 : Hid (NAt w2 o gs g (spots 0 l) x ∧ Tps w2.heap.size w2 a l ∧ DnAt w2 dn l.length D ∧ NwAt w2 na N ∧ Orw w2 q1 c1 (x.tl.drop (spots 0 l).length) ∧ Orw w2 q2 c2 (x.tl.take (spots 0 l).length) ∧ Below w.heap.size w w2) :=
    Lib.hid ⟨HF.out.1.below hb2, (HF.out.2.1.below hb2).mono' hb2.size, HF.out.2.2.1.low hb2, HF.out.2.2.2.low hb2, hO1, hO2, hb2⟩
  clear hO1 hO2 hb2 Hg HF
  rw [HL.out.2.1]
  go_wp2_with fail
  refine (Hat.out _ H2.out.1).mono ?_
  rintro e w9 ⟨rfl, rfl⟩
  clear Hat
  have mll : ((l.length : Int) != (l.length : Int)) = false := by simp
  go_wp2_with fail
  go_loopw [12, 13] (fun v i wr => ToRel w2 l x v i wr) (fun _ i _ => l.length - (intOf i).toNat)
  case atStart => exact ⟨0, rfl, by omega, by simp [wid, wnk]; exact World.ownsRow_nil _ _ _ _, Below.refl _ _⟩
  case round =>
    obtain ⟨k, rfl, hk, hO, hb⟩ := hrel
    obtain ⟨va, vc, rfl⟩ := owns_sl hO
    by_cases hlt : (k : Int) < l.length
    · obtain ⟨B, n, d, t⟩ := tn_of HL.out.1 (show k < l.length by omega)
      obtain ⟨gg, g1, g2, g3, g4⟩ := HALL.out k B n d t
      obtain ⟨lb, loff, ea, hlb, lc, _⟩ := H2.out.2.1 k _ t.at'
      subst ea
      have lc := cell_low hb lc
      dsimp only at lc
      obtain ⟨nb, noff, nq, ncc, ena, n1, n2⟩ := H2.out.2.2.2.1 bi cb HCB.out
      subst ena
      have n1 := cell_low hb n1
      have n2 := cell_low hb (n2 k _ g3)
      have hcl := lt_of_some g3
      have hcl2 : (k : Int) < cb.length := by omega
      have gc := (H2.out.2.2.2.2.2.1.low hb).cell (i := k) (v := (gg : Int)) (by rw [List.getElem?_take_of_lt (by have := HL.out.2.1; omega)]; exact g2)
      have hgd := HW.out.2.2 k
      have hwg : IntKind.u64.wrap (gg : Int) = (gg : Int) := by rw [IntKind.wrap_u64]; omega
      have mgg : ((gg : Int) != (gg : Int)) = false := by simp
      have hn1 := t.n1
      have hn4 := t.n4
      have hwk := wi_le (spots 0 l) k
      have hwd2 := HW.out.1
      unfold wi at hwk
      have hkw : wid ((spots 0 l).take k) ≤ 10000 := by omega
      have HK := Lib.hid (And.intro hO hb)
      have Ht := Lib.hid t
      have Hg4 := Lib.hid g4
      have hsn : wid ((spots 0 l).take (k + 1)) = wid ((spots 0 l).take k) + n := by rw [wid_take _ k _ t.sp]; rfl
      have Hsn := Lib.hid hsn
      have hn4' : (n : Int) ≤ 4 := by omega
      by_cases hz : gg = 0
      · subst hz
        obtain ⟨v2, w3, hr3, ho3, hb3⟩ := ap_zeros hO hb.size (by omega) n hn1 (by omega)
        have Hap := Lib.hid hr3
        have HO2 := Lib.hid (And.intro ho3 (hb.trans hb3))
        obtain ⟨va2, vc2, rfl⟩ := owns_sl ho3
        clear hr3 ho3 hb3 hO hb t g4 hwk hwd2 hgd hsn g3
        go_wp2_with (at_builtin; refine wpList_append_run _ rfl _ _ 41 3 rfl _ _ rfl rfl Hap.out ?_)
        go_roundw
        case rel =>
          obtain ⟨ho3, hb3⟩ := HO2.out
          refine ⟨k + 1, by go_num, by omega, ?_, hb3⟩
          rw [Hsn.out, wnk_next Ht.out (ws := List.replicate n 0) (by simp) (fun i v hv => by
            have hi := lt_of_some hv
            rw [List.length_replicate] at hi
            rw [Hg4.out i hi]
            rw [List.eq_of_mem_replicate (List.mem_of_getElem? hv)]
            rfl), List.map_append]
          rw [List.map_replicate]
          exact ho3
        case measure => simp [intOf]; omega
      · obtain ⟨q, qc, d1, d2⟩ := H2.out.2.2.1 k (by omega)
        have hm : (D k)[gg]? = some ((D k).getD gg 0) := by rw [List.getD_eq_getElem?_getD, List.getElem?_eq_getElem g1]; rfl
        obtain ⟨um, d3⟩ := d2 gg _ hm
        have hR := RTo.low (A := w2) (B := wr) (lb := lb) (lf := loff + k * 2) (dn := dn) (q := q) (qc := qc) (k := k) (n := n) (len := (D k).length) (g := gg) (m := (D k).getD gg 0) ⟨by obtain ⟨lb', loff', e', _, lc', _⟩ := H2.out.2.1 k _ t.at'; cases e'; exact lc', d1, d3⟩ hb
        have hgl : (gg : Int) < (D k).length := by omega
        have hgl2 : ((D k).length : Int) ≤ 1000 := by omega
        have Hrec := Lib.hid (fun W => record_any n ((D k).getD gg 0) W (by omega) um)
        have Hw4 : Hid (∀ (i : Nat) (v : Int), (rcd n ((D k).getD gg 0))[i]? = some v → x.tl[wi (spots 0 l) k + i]? = some v) := Lib.hid (fun i v hv => by
          obtain ⟨hi, rfl⟩ := rcd_at hv
          rw [g4 i hi]
          unfold wnt
          rw [if_neg hz])
        generalize (D k).getD gg 0 = m at *
        have hz0 : ((gg : Int) == 0) = false := by simpa using hz
        have hq := hR.low (belN (Below.refl wr.heap.size wr) 1)
        have hqR := Lib.hid hR
        have Hlo := Lib.hid (And.intro hlb (And.intro (World.block_lt_of_cell? _ _ d1) (World.block_lt_of_cell? _ _ d3)))
        clear hO hb t g4 hwk hwd2 hgd hsn g3 hR d1 d2 d3 hm um
        go_wp2_with fail
        refine wp_region_held_drew (S := RTo lb (loff + k * 2) dn q qc k n (D k).length gg m) (by kernel_rfl) (hq) (fun hHeld => ?_)
        refine wpAnyH_take (i := 0) (v := ?v1) rfl (by kernel_rfl) (by kernel_rfl) (by kernel_rfl) (fun _ _ _ h => h) (Or.inl ⟨by rfl, ?y1⟩) hHeld ?r1
        case y1 => (intro w hSw; obtain ⟨q0, q1, q2⟩ := hSw; go_simp; try with_reducible rfl)
        simp only [List.getElem_toArray, List.getElem_cons_zero, Act.put, List.setIfInBounds_toArray, List.set_cons_zero, List.set_cons_succ]
        refine wpAnyH_take (i := 1) (v := ?v2) rfl (by kernel_rfl) (by kernel_rfl) (by kernel_rfl) (fun _ _ _ h => h) (Or.inl ⟨by rfl, ?y2⟩) hHeld ?r2
        case y2 => (intro w hSw; obtain ⟨q0, q1, q2⟩ := hSw; go_simp; try with_reducible rfl)
        simp only [List.getElem_toArray, List.getElem_cons_zero, List.getElem_cons_succ, Act.put, List.setIfInBounds_toArray, List.set_cons_zero, List.set_cons_succ]
        refine wpAnyH_take (i := 2) (v := ?v3) rfl (by kernel_rfl) (by kernel_rfl) (by kernel_rfl) (fun _ _ _ h => h) (Or.inl ⟨by rfl, ?y3⟩) hHeld ?r3
        case y3 => (intro w hSw; obtain ⟨q0, q1, q2⟩ := hSw; go_simp; try with_reducible rfl)
        simp only [List.getElem_toArray, List.getElem_cons_zero, List.getElem_cons_succ, Act.put, List.setIfInBounds_toArray, List.set_cons_zero, List.set_cons_succ]
        refine wpAnyH_take (i := 3) (v := ?v4) rfl (by kernel_rfl) (by kernel_rfl) (by kernel_rfl) (fun _ _ _ h => h) (Or.inl ⟨by rfl, ?y4⟩) hHeld ?r4
        case y4 => (intro w hSw; obtain ⟨q0, q1, q2⟩ := hSw; go_simp; try with_reducible rfl)
        simp only [List.getElem_toArray, List.getElem_cons_zero, List.getElem_cons_succ, Act.put, List.setIfInBounds_toArray, List.set_cons_zero, List.set_cons_succ]
        refine wpAnyH_take (i := 4) (v := ?v5) rfl (by kernel_rfl) (by kernel_rfl) (by kernel_rfl) (fun _ _ _ h => h) (Or.inl ⟨by rfl, ?y5⟩) hHeld ?r5
        case y5 => (intro w hSw; obtain ⟨q0, q1, q2⟩ := hSw; go_simp; try with_reducible rfl)
        simp only [List.getElem_toArray, List.getElem_cons_zero, List.getElem_cons_succ, Act.put, List.setIfInBounds_toArray, List.set_cons_zero, List.set_cons_succ]
        refine wpAnyH_take (i := 5) (v := ?v6) rfl (by kernel_rfl) (by kernel_rfl) (by kernel_rfl) (fun _ _ _ h => h) (Or.inl ⟨by rfl, ?y6⟩) hHeld ?r6
        case y6 => (intro w hSw; obtain ⟨q0, q1, q2⟩ := hSw; go_simp; try with_reducible rfl)
        simp only [List.getElem_toArray, List.getElem_cons_zero, List.getElem_cons_succ, Act.put, List.setIfInBounds_toArray, List.set_cons_zero, List.set_cons_succ]
        refine wpAnyH_take (i := 6) (v := ?v7) rfl (by kernel_rfl) (by kernel_rfl) (by kernel_rfl) (fun _ _ _ h => h) (Or.inl ⟨by rfl, ?y7⟩) hHeld ?r7
        case y7 => (intro w hSw; obtain ⟨q0, q1, q2⟩ := hSw; go_simp; try with_reducible rfl)
        simp only [List.getElem_toArray, List.getElem_cons_zero, List.getElem_cons_succ, Act.put, List.setIfInBounds_toArray, List.set_cons_zero, List.set_cons_succ]
        refine wpAnyH_take (i := 7) (v := ?v8) rfl (by kernel_rfl) (by kernel_rfl) (by kernel_rfl) (fun _ _ _ h => h) (Or.inl ⟨by rfl, ?y8⟩) hHeld ?r8
        case y8 => (intro w hSw; obtain ⟨q0, q1, q2⟩ := hSw; go_simp; try with_reducible rfl)
        simp only [List.getElem_toArray, List.getElem_cons_zero, List.getElem_cons_succ, Act.put, List.setIfInBounds_toArray, List.set_cons_zero, List.set_cons_succ]
        refine wpAnyH_take (i := 8) (v := ?v9) rfl (by kernel_rfl) (by kernel_rfl) (by kernel_rfl) (fun _ _ _ h => h) (Or.inl ⟨by rfl, ?y9⟩) hHeld ?r9
        case y9 => (intro w hSw; obtain ⟨q0, q1, q2⟩ := hSw; go_simp; try with_reducible rfl)
        simp only [List.getElem_toArray, List.getElem_cons_zero, List.getElem_cons_succ, Act.put, List.setIfInBounds_toArray, List.set_cons_zero, List.set_cons_succ]
        refine wpAnyH_take (i := 9) (v := ?v10) rfl (by kernel_rfl) (by kernel_rfl) (by kernel_rfl) (fun _ _ _ h => h) (Or.inl ⟨by rfl, ?y10⟩) hHeld ?r10
        case y10 => (intro w hSw; obtain ⟨q0, q1, q2⟩ := hSw; go_simp; try with_reducible rfl)
        simp only [List.getElem_toArray, List.getElem_cons_zero, List.getElem_cons_succ, Act.put, List.setIfInBounds_toArray, List.set_cons_zero, List.set_cons_succ]
        refine wpAnyH_take (i := 10) (v := ?v11) rfl (by kernel_rfl) (by kernel_rfl) (by kernel_rfl) (fun _ _ _ h => h) (Or.inl ⟨by rfl, ?y11⟩) hHeld ?r11
        case y11 => (intro w hSw; obtain ⟨q0, q1, q2⟩ := hSw; go_simp; try with_reducible rfl)
        simp only [List.getElem_toArray, List.getElem_cons_zero, List.getElem_cons_succ, Act.put, List.setIfInBounds_toArray, List.set_cons_zero, List.set_cons_succ]
        refine wpAnyH_take (i := 11) (v := ?v12) rfl (by kernel_rfl) (by kernel_rfl) (by kernel_rfl) (fun _ _ _ h => h) (Or.inl ⟨by rfl, ?y12⟩) hHeld ?r12
        case y12 => (intro w hSw; obtain ⟨q0, q1, q2⟩ := hSw; go_simp; try with_reducible rfl)
        simp only [List.getElem_toArray, List.getElem_cons_zero, List.getElem_cons_succ, Act.put, List.setIfInBounds_toArray, List.set_cons_zero, List.set_cons_succ]
        refine wpAnyH_take (i := 12) (v := ?v13) rfl (by kernel_rfl) (by kernel_rfl) (by kernel_rfl) (fun _ _ _ h => h) (Or.inl ⟨by rfl, ?y13⟩) hHeld ?r13
        case y13 => (intro w hSw; obtain ⟨q0, q1, q2⟩ := hSw; go_simp; try with_reducible rfl)
        simp only [List.getElem_toArray, List.getElem_cons_zero, List.getElem_cons_succ, Act.put, List.setIfInBounds_toArray, List.set_cons_zero, List.set_cons_succ]
        refine wpAnyH_ready (rs := [13]) (by kernel_rfl) (by simp) (AllReadyH.cons rfl (fun K hK => ?_) AllReadyH.nil)
        go_simp
        refine (Hrec.out _).mono ?_
        rintro e w4 ⟨ra, rc, rfl, hW4, hb4⟩
        have hb4' : Below wr.heap.size wr w4 := (belN (Below.refl wr.heap.size wr) 1).trans hb4
        have hq4 := hqR.out.low hb4'
        obtain ⟨v2, w5, hr5, ho5, hb5⟩ := ap_many (W := w4) (base := w2.heap.size) (owns_blocks HK.out.1 (fun g hg => hb4'.block g (HK.out.1.lt g hg).2)) (Nat.le_trans HK.out.2.size hb4'.size) (by omega) hn1 (by omega) hW4 (rcd_len n m) (c := rc)
        have Hap := Lib.hid hr5
        obtain ⟨va2, vc2, rfl⟩ := owns_sl ho5
        have HO5 := Lib.hid (And.intro ho5 ((HK.out.2.trans (hb4'.mono HK.out.2.size)).trans hb5))
        have hq5 : RTo lb (loff + k * 2) dn q qc k n (D k).length gg m w5 := by
          obtain ⟨z1, z2, z3⟩ := hqR.out
          have hz : ∀ p v, wr.cell? p = some v → p.block < w2.heap.size → w5.cell? p = some v := fun p v hc hp => by
            rw [((HK.out.2.trans (hb4'.mono HK.out.2.size)).trans hb5).cell hp, ← HK.out.2.cell hp]
            exact hc
          exact ⟨hz _ _ z1 Hlo.out.1, hz _ _ z2 Hlo.out.2.1, hz _ _ z3 Hlo.out.2.2⟩
        clear hW4 hb4 hb4' hr5 ho5 hb5
        go_wp2_with fail
        refine hK.out _ _ (hq4) (fun hHeld => ?_)
        clear hK K
        refine wpAnyH_ready (rs := [14]) (by kernel_rfl) (by simp) (AllReadyH.cons rfl (fun K hK => ?_) AllReadyH.nil)
        refine wp_append_run _ (.tmp 67) (.tmp 80) 41 41 rfl _ _ rfl rfl Hap.out ?_
        refine hK.out _ _ (hq5) (fun hHeld => ?_)
        clear hK K
        refine wpAnyH_take (i := 15) (v := ?v15) rfl (by kernel_rfl) (by kernel_rfl) (by kernel_rfl) (fun _ _ _ h => h) (Or.inl ⟨by rfl, ?y15⟩) hHeld ?r15
        case y15 => (intro w hSw; obtain ⟨q0, q1, q2⟩ := hSw; go_simp; try with_reducible rfl)
        simp only [List.getElem_toArray, List.getElem_cons_zero, List.getElem_cons_succ, Act.put, List.setIfInBounds_toArray, List.set_cons_zero, List.set_cons_succ]
        refine wpAnyH_done (by kernel_rfl) ?_ _
        clear hHeld hq hq4 hq5 Hap
        go_wp2_with fail
        go_roundw
        case rel =>
          obtain ⟨ho5, hb5⟩ := HO5.out
          refine ⟨k + 1, by go_num, by omega, ?_, hb5⟩
          rw [Hsn.out, wnk_next Ht.out (rcd_len n m) Hw4.out, List.map_append]
          exact ho5
        case measure => simp [intOf]; omega
    · obtain rfl : k = l.length := by omega
      have ew := wnk_all (tl := x.tl) HL.out.2.2
      have hlen : (x.tl.drop (spots 0 l).length).length = wid (spots 0 l) := by rw [List.length_drop, HL.out.2.2, HL.out.2.1]; omega
      have et : (spots 0 l).take l.length = spots 0 l := List.take_of_length_le (by rw [HL.out.2.1]; exact Nat.le_refl _)
      rw [ew, et] at hO
      obtain ⟨hrd, _⟩ := owns_rdw0 hO
      have hw := words_any (some ⟨q1, 0, none⟩) va (x.tl.drop (spots 0 l).length) (x.tl.drop (spots 0 l).length) c1 vc wr ((H2.out.2.2.2.2.1.low hb).rdw') hrd (by have := HW.out.1; omega)
      rw [decide_eq_true rfl, hlen] at hw
      have Hw := Lib.hid hw
      have Hb := Lib.hid (H2.out.2.2.2.2.2.2.trans (hb.mono H2.out.2.2.2.2.2.2.size))
      rw [et]
      clear hO hb hrd hw ew hlen et
      generalize wid (spots 0 l) = wn at *
      go_wp2_with fail
      refine Hw.out.mono ?_
      rintro e w5 ⟨rfl, hb5⟩
      have H5 := Lib.hid (Hb.out.trans (hb5.mono Hb.out.size))
      clear hb5
      go_wp2
      go_ret
      exact ⟨rfl, H5.out⟩
end Go.Proofs.Ytflgggfomhifeaa
