/- The document's Parse: its contract. -/
import Derived.Test.YthdchoagdipplaaDoorRCut
import Derived.Test.YthdchoagdipplaaDoorRVal
import Derived.Test.YthdchoagdipplaaDoorRChk
import Derived.Test.YthdchoagdipplaaDoorPar
import Derived.Deep.RegionHeld3
import Derived.Deep.RegionLaw
import Derived.Deep.AppendLies
namespace Go.Proofs.YthdchoagdipplaaDoor
open Go.RowKit

theorem str_lit (s : ByteArray) (l : List UInt8) : (s.toList == l) = decide (bs s = l) := by
  rw [ByteArray.toList_eq]
  by_cases h : bs s = l
  · rw [decide_eq_true h, show s.data.toList = l from h]
    simp
  · rw [decide_eq_false h, beq_eq_false_iff_ne]
    exact h
/-- How the lines stand that were read. -/
def StR (S : List UInt8) (g B k : Nat) (wr : World) : Prop :=
  (k = 0 ∧ Blk wr g zc) ∨
  (∃ acc v, k = acc.length + 1 ∧ lnN (spl 10 S) = scN (k + 1) ((spl 10 S).drop k) ∧ lnL (spl 10 S) = acc ++ scL ((spl 10 S).drop k) ∧ (∀ t ∈ acc, t.1.size ≤ 65536) ∧
    Blk wr g [.int .i64 (hdV (lnH (spl 10 S)) 1), v, .int .i64 (hdV (lnH (spl 10 S)) 3), .int .i64 (hdV (lnH (spl 10 S)) 5)] ∧ wr.ownsRow B 45 3 v acc.length (tcl acc))
theorem Strs.of_block {w w' : World} {g : Nat} {ws : List ByteArray} (h : Strs w g ws) (e : w'.heap[g]? = w.heap[g]?) (hg : g < w'.heap.size) : Strs w' g ws :=
  ⟨hg, fun j x hx => (World.cell?_of_block (a := ⟨g, j, none⟩) e).trans (h.2 j x hx)⟩
theorem Strs.setFar {w : World} {Lb : Nat} {ws : List ByteArray} (h : Strs w Lb ws) {g i : Nat} (hne : g ≠ Lb) (v : Value) : Strs (w.setCell ⟨g, i, none⟩ v) Lb ws :=
  ⟨by have := h.1; simpa [World.setCell] using this, fun j x hx => (cell_far v hne).trans (h.2 j x hx)⟩
/-- Two blocks that are read while another is written. -/
def ZF (z F : Nat) (vs us : List Value) (w : World) : Prop := Blk w z vs ∧ Blk w F us
def RelRP (w : World) (S : List UInt8) (r z g Lb B : Nat) (ls : List ByteArray) (i : Value) (wr : World) : Prop :=
  ∃ k : Nat, k < ls.length ∧ i = .int .i64 k ∧ Blk wr r zc ∧ Blk wr z zc ∧ Strs wr Lb ls ∧ Below w.heap.size w wr ∧ B ≤ wr.heap.size ∧ StR S g B k wr
theorem drop_two {α : Type} {l : List α} {k : Nat} (h : k + 1 < l.length) : ∃ p q r, l.drop k = p :: q :: r ∧ l[k]? = some p ∧ l.drop (k + 1) = q :: r := by
  obtain ⟨e1, _⟩ := drop_at (List.getElem?_eq_getElem (by omega : k < l.length))
  obtain ⟨e2, _⟩ := drop_at (List.getElem?_eq_getElem h)
  exact ⟨_, _, _, by rw [e1, e2], List.getElem?_eq_getElem _, e2⟩
theorem drop_last {α : Type} {l : List α} {k : Nat} (h : k + 1 = l.length) : ∃ p, l.drop k = [p] ∧ l[k]? = some p := by
  obtain ⟨e1, _⟩ := drop_at (List.getElem?_eq_getElem (by omega : k < l.length))
  have e2 : l.drop (k + 1) = [] := List.drop_of_length_le (by omega)
  rw [e2] at e1
  exact ⟨_, e1, List.getElem?_eq_getElem _⟩
theorem StR.low {S : List UInt8} {g B k : Nat} {w w' : World} (h : StR S g B k w) (u : Below w.heap.size w w') : StR S g B k w' := by
  rcases h with ⟨h1, h2⟩ | ⟨acc, v, h1, h2, h3, h4, h5, h6⟩
  · exact Or.inl ⟨h1, h2.low u⟩
  · exact Or.inr ⟨acc, v, h1, h2, h3, h4, h5.low u, owns_keep h6 (fun j _ hj => u.block j hj)⟩
/-- Which line is wrong, told at the k-th. -/
theorem ln_last {S p : List UInt8} {g B k : Nat} {wr : World} (h : StR S g B k wr) (hd : (spl 10 S).drop k = [p]) (hp : p ≠ []) : lnN (spl 10 S) = k + 1 := by
  rcases h with ⟨rfl, _⟩ | ⟨acc, v, _, h1, _⟩
  · rw [List.drop_zero] at hd
    rw [hd]
    rfl
  · rw [h1, hd]
    unfold scN
    rw [if_neg hp]
theorem ln_end {S : List UInt8} {g B k : Nat} {wr : World} (h : StR S g B k wr) (hS : S ≠ []) (hd : (spl 10 S).drop k = [[]]) : ∃ acc v, lnN (spl 10 S) = 0 ∧ lnL (spl 10 S) = acc ∧ (∀ t ∈ acc, t.1.size ≤ 65536) ∧
    Blk wr g [.int .i64 (hdV (lnH (spl 10 S)) 1), v, .int .i64 (hdV (lnH (spl 10 S)) 3), .int .i64 (hdV (lnH (spl 10 S)) 5)] ∧ wr.ownsRow B 45 3 v acc.length (tcl acc) := by
  rcases h with ⟨rfl, _⟩ | ⟨acc, v, _, h1, h2, h3, h4, h5⟩
  · rw [List.drop_zero] at hd
    exact absurd (spl_one 10 hd) hS
  · refine ⟨acc, v, ?_, ?_, h3, h4, h5⟩
    · rw [h1, hd]
      rfl
    · rw [h2, hd]
      simp [scL]
theorem ln_bad {S p q : List UInt8} {r : List (List UInt8)} {g B k : Nat} {wr : World} (h : StR S g B k wr) (hd : (spl 10 S).drop k = p :: q :: r) (hp : if k = 0 then hdB p = false else tpB p = false) : lnN (spl 10 S) = k + 1 := by
  rcases h with ⟨rfl, _⟩ | ⟨acc, v, hk, h1, _⟩
  · rw [List.drop_zero] at hd
    rw [hd]
    show (if hdB p = true then scN 2 (q :: r) else 1) = 1
    simp only [if_true] at hp
    rw [if_neg (by simp [hp])]
  · rw [if_neg (by omega)] at hp
    rw [h1, hd]
    unfold scN
    rw [if_neg (by simp [hp])]
theorem ln_hd {S p q : List UInt8} {r : List (List UInt8)} (hd : (spl 10 S).drop 0 = p :: q :: r) (hp : hdB p = true) : lnN (spl 10 S) = scN 2 ((spl 10 S).drop 1) ∧ lnL (spl 10 S) = scL ((spl 10 S).drop 1) ∧ lnH (spl 10 S) = p := by
  rw [List.drop_zero] at hd
  rw [hd]
  refine ⟨?_, rfl, rfl⟩
  show (if hdB p = true then scN 2 (q :: r) else 1) = _
  rw [if_pos hp]
  rfl
theorem ln_tp {n : Nat} {S p q : List UInt8} {r : List (List UInt8)} {k : Nat} (hd : (spl 10 S).drop k = p :: q :: r) (hd2 : (spl 10 S).drop (k + 1) = q :: r) (hp : tpB p = true) : scN n ((spl 10 S).drop k) = scN (n + 1) ((spl 10 S).drop (k + 1)) ∧ scL ((spl 10 S).drop k) = tpV p :: scL ((spl 10 S).drop (k + 1)) := by
  rw [hd, hd2]
  refine ⟨?_, rfl⟩
  show (if tpB p = true then scN (n + 1) (q :: r) else n) = _
  rw [if_pos hp]

set_option maxRecDepth 100000 in
set_option maxHeartbeats 4000000 in
theorem rparse_any (s : ByteArray) (w : World) (hs : s.size ≤ 10000000) : Calls Tryd.prog 23 #[.string s] w (ParPost (bs s) w) := by
  have hR := (Blk.new w #[.int .i64 0, .slice none 0 0, .int .i64 0, .int .i64 0] 24).alloc (.cells #[.int .i64 0, .slice none 0 0, .int .i64 0, .int .i64 0] 24)
  have hZ := Blk.new (w.alloc (.cells #[.int .i64 0, .slice none 0 0, .int .i64 0, .int .i64 0] 24)) #[.int .i64 0, .slice none 0 0, .int .i64 0, .int .i64 0] 24
  simp only [World.size_alloc] at hZ
  have hB := ((Below.refl w.heap.size w).alloc (Nat.le_refl _) (.cells #[.int .i64 0, .slice none 0 0, .int .i64 0, .int .i64 0] 24)).alloc (by simp) (.cells #[.int .i64 0, .slice none 0 0, .int .i64 0, .int .i64 0] 24)
  obtain ⟨i0, hi, hz0, hz1, hz2⟩ := info_parts info45
  by_cases hlong : 65536 < s.size
  · have hd : decide ((65536 : Int) < (s.size : Int)) = true := decide_eq_true (by omega)
    have HE := Lib.hid (paE_long (S := bs s) (by rw [bs_len]; exact hlong))
    go_enter Tryd.func23, Tryd.ntmps23
    have y0 := hR.cell (i := 0) rfl
    have y1 := hR.cell (i := 1) rfl
    have y2 := hR.cell (i := 2) rfl
    have y3 := hR.cell (i := 3) rfl
    have x0 := hZ.cell (i := 0) rfl
    have x1 := hZ.cell (i := 1) rfl
    have x2 := hZ.cell (i := 2) rfl
    have x3 := hZ.cell (i := 3) rfl
    have z0 := hR.frozen 0
    have z1 := hR.frozen 1
    have z2 := hR.frozen 2
    have z3 := hR.frozen 3
    have H5 := Lib.hid hB
    clear hB hR hZ
    go_wp2
    exact bodyPost_ret (v := .tuple #[cfg 0 none 0 0 0 0, .int .i64 0, .int .i64 12]) (by simp [results, Tryd.results23, go_sem, y0, y1, y2, y3]) rfl (ParPost.bad HE.out.1 (by decide) HE.out.2 H5.out)
  have hd : decide ((65536 : Int) < (s.size : Int)) = false := decide_eq_false (by omega)
  have hnl : ¬ 65536 < (bs s).length := by rw [bs_len]; exact hlong
  have Hnl := Lib.hid hnl
  clear hnl
  by_cases hemp : s.size = 0
  · have he : (s.toList == ([] : List UInt8)) = true := by rw [empty_eq]; exact decide_eq_true hemp
    have hE := paE_line (S := bs s) (n := 1) Hnl.out (by
      rw [List.eq_nil_of_length_eq_zero (l := bs s) (by rw [bs_len]; exact hemp)]
      rfl) (by decide)
    have HE := Lib.hid hE
    clear hE
    go_enter Tryd.func23, Tryd.ntmps23
    have y0 := hR.cell (i := 0) rfl
    have y1 := hR.cell (i := 1) rfl
    have y2 := hR.cell (i := 2) rfl
    have y3 := hR.cell (i := 3) rfl
    have x0 := hZ.cell (i := 0) rfl
    have x1 := hZ.cell (i := 1) rfl
    have x2 := hZ.cell (i := 2) rfl
    have x3 := hZ.cell (i := 3) rfl
    have z0 := hR.frozen 0
    have z1 := hR.frozen 1
    have z2 := hR.frozen 2
    have z3 := hR.frozen 3
    have H5 := Lib.hid hB
    clear hB hR hZ
    go_wp2
    exact bodyPost_ret (v := .tuple #[cfg 0 none 0 0 0 0, .int .i64 1, .int .i64 11]) (by simp [results, Tryd.results23, go_sem, y0, y1, y2, y3]) rfl (ParPost.bad HE.out.1 (by decide) HE.out.2 H5.out)
  have he : (s.toList == ([] : List UInt8)) = false := by rw [empty_eq]; exact decide_eq_false hemp
  have hSne : bs s ≠ [] := fun e => hemp (by rw [← bs_len, e]; rfl)
  have HSn := Lib.hid hSne
  clear hSne
  have hR1 := hR.alloc (.cells #[.int .i64 0, .slice none 0 0, .int .i64 0, .int .i64 0] 24)
  have hZ1 := hZ.alloc (.cells #[.int .i64 0, .slice none 0 0, .int .i64 0, .int .i64 0] 24)
  have hG1 := Blk.new ((w.alloc (.cells #[.int .i64 0, .slice none 0 0, .int .i64 0, .int .i64 0] 24)).alloc (.cells #[.int .i64 0, .slice none 0 0, .int .i64 0, .int .i64 0] 24)) #[.int .i64 0, .slice none 0 0, .int .i64 0, .int .i64 0] 24
  have hB1 := hB.alloc (by simp; omega) (.cells #[.int .i64 0, .slice none 0 0, .int .i64 0, .int .i64 0] 24)
  simp only [World.size_alloc] at hG1
  have H1 := Lib.hid (And.intro hR1 (And.intro hZ1 (And.intro hG1 hB1)))
  clear hR hZ hB hR1 hZ1 hG1 hB1
  go_enter Tryd.func23, Tryd.ntmps23
  go_wp2_with fail
  generalize hWE : ((w.alloc (.cells #[.int .i64 0, .slice none 0 0, .int .i64 0, .int .i64 0] 24)).alloc (.cells #[.int .i64 0, .slice none 0 0, .int .i64 0, .int .i64 0] 24)).alloc (.cells #[.int .i64 0, .slice none 0 0, .int .i64 0, .int .i64 0] 24) = W1 at *
  have hsz1 : W1.heap.size = w.heap.size + 1 + 1 + 1 := by rw [← hWE]; simp
  clear hWE
  refine (rcut_any s 10 W1 (by omega)).mono ?_
  rintro e W2 ⟨Lb, lcap, ls, rfl, hls, hb2, hLb, hSt⟩
  have hR2 := H1.out.1.low hb2
  have hZ2 := H1.out.2.1.low hb2
  have hG2 := H1.out.2.2.1.low hb2
  have hB2 := H1.out.2.2.2.trans (hb2.mono H1.out.2.2.2.size)
  have hlen : ls.length = (spl 10 (bs s)).length := by rw [← hls, List.length_map]
  have hpos : 0 < ls.length := by
    rw [hlen]
    have := spl_ne 10 (bs s)
    cases h : spl 10 (bs s) with
    | nil => exact absurd h this
    | cons => simp
  have hl7 : ls.length ≤ 70000 := by
    have h1 : ∀ (t : List UInt8), (spl 10 t).length ≤ t.length + 1 := fun t => by
      induction t with
      | nil => simp [spl]
      | cons c r ih =>
        unfold spl
        split
        · simp; omega
        · split
          · simp
          · rename_i h; rw [h] at ih; simp at ih ⊢; omega
    have := h1 (bs s)
    rw [hlen]
    rw [bs_len] at this
    omega
  have hget : ∀ k p, (spl 10 (bs s))[k]? = some p → ∃ ln, ls[k]? = some ln ∧ bs ln = p ∧ ln.size ≤ 65536 := fun k p hp => by
    rw [← hls, List.getElem?_map] at hp
    obtain ⟨ln, h1, h2⟩ := Option.map_eq_some_iff.1 hp
    refine ⟨ln, h1, h2, ?_⟩
    have h3 := spl_mem 10 (bs s) p (by rw [← h2, ← hls]; exact List.mem_map.2 ⟨ln, List.mem_of_getElem? h1, rfl⟩)
    rw [← bs_len, h2]
    rw [bs_len] at h3
    omega
  have hgLb : w.heap.size + 1 + 1 < Lb := by omega
  have hLbB : Lb < W2.heap.size := hSt.1
  have HX := Lib.hid (And.intro hR2 (And.intro hZ2 (And.intro hG2 (And.intro hB2 hSt))))
  have HG := Lib.hid (And.intro hget hlen)
  clear hR2 hZ2 hG2 hB2 hSt hget hb2 hLb H1 hls hlen
  generalize hBE : W2.heap.size = B at *
  have HBE := Lib.hid hBE
  clear hBE
  go_wp2_with fail
  go_loopw [8] (RelRP w (bs s) w.heap.size (w.heap.size + 1) (w.heap.size + 1 + 1) Lb B ls) (fun i _ => ls.length - (intOf i).toNat)
  case atStart => exact ⟨0, hpos, rfl, HX.out.1, HX.out.2.1, HX.out.2.2.2.2, HX.out.2.2.2.1, by rw [HBE.out]; omega, Or.inl ⟨rfl, HX.out.2.2.1⟩⟩
  case round =>
    clear HX
    obtain ⟨k, hk, rfl, hR, hZ, hSt, hB, hBs, hst⟩ := hrel
    have k0 : (k : Int) < (ls.length : Int) := by omega
    by_cases hlast : k + 1 = ls.length
    · have q9 : ((k : Int) == (ls.length : Int) - 1) = true := by rw [beq_iff_eq]; omega
      obtain ⟨p, hdp, hpk⟩ := drop_last (l := spl 10 (bs s)) (by rw [← HG.out.2]; exact hlast)
      obtain ⟨ln, hln, hbp, hlz⟩ := HG.out.1 k p hpk
      have u0 := hSt.2 k ln hln
      by_cases hp : ln.size = 0
      · have hle : (ln.toList == ([] : List UInt8)) = true := by rw [empty_eq]; exact decide_eq_true hp
        have hpe : p = [] := by rw [← hbp]; exact List.eq_nil_of_length_eq_zero (by rw [bs_len]; exact hp)
        rw [hpe] at hdp
        obtain ⟨acc, v, hN, hL, hsz, hG, hO⟩ := ln_end hst HSn.out hdp
        obtain ⟨a, cap, rfl, hT⟩ := owns_tps hO
        have hcE : paC (bs s) = chk (hdV (lnH (spl 10 (bs s))) 1) acc (hdV (lnH (spl 10 (bs s))) 3) (hdV (lnH (spl 10 (bs s))) 5) := by unfold paC; rw [hL]
        have hpq := paE_chk Hnl.out hN
        have hTe : Hid (paE (bs s) = 0 → paT (bs s) = hdV (lnH (spl 10 (bs s))) 1 ∧ paR (bs s) = hdV (lnH (spl 10 (bs s))) 3 ∧ paG (bs s) = hdV (lnH (spl 10 (bs s))) 5 ∧ paL (bs s) = acc) := Lib.hid (fun h => by
          unfold paT paR paG paL
          rw [if_pos h, if_pos h, if_pos h, if_pos h]
          exact ⟨rfl, rfl, rfl, hL⟩)
        have hal : acc.length ≤ 70000 := by
          have h1 : lnL (spl 10 (bs s)) = acc := hL
          have h2 : ∀ r : List (List UInt8), (scL r).length ≤ r.length := fun r => by
            induction r with
            | nil => simp [scL]
            | cons x y ih => cases y with
              | nil => simp [scL]
              | cons q z => unfold scL; simp at ih ⊢; omega
          rw [← h1]
          cases hq : spl 10 (bs s) with
          | nil => simp [lnL]
          | cons x y =>
            have := h2 y
            have h3 := HG.out.2
            rw [hq] at h3
            simp at h3
            show (scL y).length ≤ 70000
            omega
        have g0 := hG.cell (i := 0) rfl
        have g1 := hG.cell (i := 1) rfl
        have g2 := hG.cell (i := 2) rfl
        have g3 := hG.cell (i := 3) rfl
        have HX := Lib.hid (And.intro hR (And.intro hZ (And.intro hB (And.intro hG (And.intro hcE (And.intro hpq (And.intro hT (And.intro hsz hO))))))))
        clear hR hZ hSt hB hst hdp hpk hln hbp hN hL hsz hG hO hT hcE hpq hpe hlast HG HSn
        generalize hdV (lnH (spl 10 (bs s))) 1 = T at *
        generalize hdV (lnH (spl 10 (bs s))) 3 = R at *
        generalize hdV (lnH (spl 10 (bs s))) 5 = L at *
        go_wp2_with fail
        refine (rcheck_any T R L a cap acc wr HX.out.2.2.2.2.2.2.1 (fun t ht => Nat.le_trans (HX.out.2.2.2.2.2.2.2.1 t ht) (by decide))).mono ?_
        rintro e w2 ⟨rfl, hb2⟩
        have hge := chk_ge T acc R L
        have hcz : (chk T acc R L).2 = 0 → chk T acc R L = (0, 0) := chk_zero
        have hpc := HX.out.2.2.2.2.1
        generalize chk T acc R L = xy at *
        obtain ⟨x, y⟩ := xy
        simp only at hge hcz
        have hF := Blk.new w2 #[.int .i64 x, .int .i64 y] 31
        have hR2 := (HX.out.1.low hb2).alloc (.cells #[.int .i64 x, .int .i64 y] 31)
        have hZ2 := (HX.out.2.1.low hb2).alloc (.cells #[.int .i64 x, .int .i64 y] 31)
        have hG2 := (HX.out.2.2.2.1.low hb2).alloc (.cells #[.int .i64 x, .int .i64 y] 31)
        have hBw := HX.out.2.2.1.trans (hb2.mono HX.out.2.2.1.size)
        have hB2 := hBw.alloc hBw.size (.cells #[.int .i64 x, .int .i64 y] 31)
        have hO2 := (owns_keep (B := w2) HX.out.2.2.2.2.2.2.2.2 (fun j _ hj => hb2.block j hj)).alloc (.cells #[.int .i64 x, .int .i64 y] 31)
        have hpe := HX.out.2.2.2.2.2.1
        rw [hpc] at hpe
        have f0 := hF.cell (i := 0) rfl
        have f1 := hF.cell (i := 1) rfl
        have hgF : w.heap.size + 1 + 1 < w2.heap.size := (HX.out.2.2.2.1.low hb2).lt
        have H2 := Lib.hid (And.intro hF (And.intro hR2 (And.intro hZ2 (And.intro hG2 (And.intro hB2 (And.intro hO2 hpe))))))
        clear hb2 hpc hF hR2 hZ2 hG2 hBw hB2 hO2 hpe HX g0 g1 g2 g3 u0
        by_cases hy : y = 0
        · have hxy := hcz hy
          simp only [Prod.mk.injEq] at hxy
          obtain ⟨rfl, rfl⟩ := hxy
          clear hcz hy hge
          have g0 := H2.out.2.2.2.1.cell (i := 0) rfl
          have g1 := H2.out.2.2.2.1.cell (i := 1) rfl
          have g2 := H2.out.2.2.2.1.cell (i := 2) rfl
          have g3 := H2.out.2.2.2.1.cell (i := 3) rfl
          have z0 := H2.out.2.1.frozen 0
          have z1 := H2.out.2.1.frozen 1
          have z2 := H2.out.2.1.frozen 2
          have z3 := H2.out.2.1.frozen 3
          have y0 := H2.out.2.1.cell (i := 0) rfl
          have y1 := H2.out.2.1.cell (i := 1) rfl
          have y2 := H2.out.2.1.cell (i := 2) rfl
          have y3 := H2.out.2.1.cell (i := 3) rfl
          go_wp2_with fail
          generalize hWE : w2.alloc (.cells #[.int .i64 0, .int .i64 0] 31) = W at *
          have hR5 := (((H2.out.2.1.put 0 (.int .i64 T)).put 1 (.slice a acc.length cap)).put 2 (.int .i64 R)).put 3 (.int .i64 L)
          have hB5 := (((H2.out.2.2.2.2.1.setCell (p := ⟨w.heap.size, 0, none⟩) (Nat.le_refl _) (.int .i64 T)).setCell (p := ⟨w.heap.size, 1, none⟩) (Nat.le_refl _) (.slice a acc.length cap)).setCell (p := ⟨w.heap.size, 2, none⟩) (Nat.le_refl _) (.int .i64 R)).setCell (p := ⟨w.heap.size, 3, none⟩) (Nat.le_refl _) (.int .i64 L)
          have hO5 : ((((W.setCell ⟨w.heap.size, 0, none⟩ (.int .i64 T)).setCell ⟨w.heap.size, 1, none⟩ (.slice a acc.length cap)).setCell ⟨w.heap.size, 2, none⟩ (.int .i64 R)).setCell ⟨w.heap.size, 3, none⟩ (.int .i64 L)).ownsRow B 45 3 (.slice a acc.length cap) acc.length (tcl acc) :=
            owns_keep H2.out.2.2.2.2.2.1 (fun j hj _ => by
              rw [Below.heap_setCell _ _ _ _ (by show j ≠ w.heap.size; omega), Below.heap_setCell _ _ _ _ (by show j ≠ w.heap.size; omega), Below.heap_setCell _ _ _ _ (by show j ≠ w.heap.size; omega), Below.heap_setCell _ _ _ _ (by show j ≠ w.heap.size; omega)])
          have H5 := Lib.hid (And.intro hR5 (And.intro hB5 hO5))
          clear hR5 hB5 hO5
          have hE : paE (bs s) = 0 ∧ paN (bs s) = 0 := ⟨H2.out.2.2.2.2.2.2.1, by rw [H2.out.2.2.2.2.2.2.2]; simp⟩
          obtain ⟨t1, t2, t3, t4⟩ := hTe.out hE.1
          have d0 := H5.out.1.cell (i := 0) rfl
          have d1 := H5.out.1.cell (i := 1) rfl
          have d2 := H5.out.1.cell (i := 2) rfl
          have d3 := H5.out.1.cell (i := 3) rfl
          obtain ⟨a', c', hv', hT5⟩ := owns_tps H5.out.2.2
          cases hv'
          exact bodyPost_ret (v := .tuple #[cfg T a acc.length cap R L, .int .i64 0, .int .i64 0]) (by simp [results, Tryd.results23, go_sem, d0, d1, d2, d3]) rfl ⟨a, cap, by rw [t1, t2, t3, t4, hE.1, hE.2], H5.out.2.1, by rw [t4]; exact hT5⟩
        · have hy' : (y != 0) = true := by simpa using hy
          have hE := H2.out.2.2.2.2.2.2
          rw [if_neg hy] at hE
          have hFd : Blk (w2.alloc (.cells #[.int .i64 x, .int .i64 y] 31)).drew w2.heap.size [.int .i64 x, .int .i64 y] := H2.out.1
          have hRd : Blk (w2.alloc (.cells #[.int .i64 x, .int .i64 y] 31)).drew w.heap.size zc := H2.out.2.1
          have hZd : Blk (w2.alloc (.cells #[.int .i64 x, .int .i64 y] 31)).drew (w.heap.size + 1) zc := H2.out.2.2.1
          have hBd : Below w.heap.size w (w2.alloc (.cells #[.int .i64 x, .int .i64 y] 31)).drew := belN H2.out.2.2.2.2.1 1
          have HD := Lib.hid (And.intro hFd (And.intro hRd (And.intro hZd hBd)))
          have HE0 := Lib.hid (And.intro hE hy)
          clear hcz hy hE H2 hFd hRd hZd hBd
          by_cases hx : x < 0
          · have hx' : decide (x < 0) = true := decide_eq_true hx
            have hxe : x = -1 := by omega
            have HE := Lib.hid (show paE (bs s) = y ∧ paN (bs s) = 1 from ⟨HE0.out.1.1, by rw [HE0.out.1.2, if_pos hxe]⟩)
            clear hx hxe
            go_wp2_with fail
            generalize w2.alloc (.cells #[.int .i64 x, .int .i64 y] 31) = W at *
            generalize w2.heap.size = F at *
            have hRW : Blk W w.heap.size zc := HD.out.2.1
            have y0 := hRW.cell (i := 0) rfl
            have y1 := hRW.cell (i := 1) rfl
            have y2 := hRW.cell (i := 2) rfl
            have y3 := hRW.cell (i := 3) rfl
            have z0 := hRW.frozen 0
            have z1 := hRW.frozen 1
            have z2 := hRW.frozen 2
            have z3 := hRW.frozen 3
            have hR6 := Lib.hid ((((hRW.put 0 (.int .i64 0)).put 1 (.slice none 0 0)).put 2 (.int .i64 0)).put 3 (.int .i64 0))
            clear hRW
            refine wp_region_held_drew (S := ZF (w.heap.size + 1) F zc [.int .i64 x, .int .i64 y]) (by kernel_rfl) (⟨HD.out.2.2.1, HD.out.1⟩) (fun hHeld => ?_)
            refine wpAnyH_take (i := 0) (v := ?v1) rfl (by kernel_rfl) (by kernel_rfl) (by kernel_rfl) (fun _ _ _ h => h) (Or.inl ⟨by rfl, ?y1⟩) hHeld ?r1
            case y1 => (intro w hSw; obtain ⟨hz, hf⟩ := hSw; have c0 := hz.cell (i := 0) rfl; have c1 := hz.cell (i := 1) rfl; have c2 := hz.cell (i := 2) rfl; have c3 := hz.cell (i := 3) rfl; have e0 := hf.cell (i := 0) rfl; have e1 := hf.cell (i := 1) rfl; clear hz hf; go_simp; try with_reducible rfl)
            simp only [List.getElem_toArray, List.getElem_cons_zero, Act.put, List.setIfInBounds_toArray, List.set_cons_zero, List.set_cons_succ]
            refine wpAnyH_take (i := 1) (v := ?v2) rfl (by kernel_rfl) (by kernel_rfl) (by kernel_rfl) (fun _ _ _ h => h) (Or.inl ⟨by rfl, ?y2⟩) hHeld ?r2
            case y2 => (intro w hSw; obtain ⟨hz, hf⟩ := hSw; have c0 := hz.cell (i := 0) rfl; have c1 := hz.cell (i := 1) rfl; have c2 := hz.cell (i := 2) rfl; have c3 := hz.cell (i := 3) rfl; have e0 := hf.cell (i := 0) rfl; have e1 := hf.cell (i := 1) rfl; clear hz hf; go_simp; try with_reducible rfl)
            simp only [List.getElem_toArray, List.getElem_cons_zero, List.getElem_cons_succ, Act.put, List.setIfInBounds_toArray, List.set_cons_zero, List.set_cons_succ]
            refine wpAnyH_take (i := 2) (v := ?v3) rfl (by kernel_rfl) (by kernel_rfl) (by kernel_rfl) (fun _ _ _ h => h) (Or.inl ⟨by rfl, ?y3⟩) hHeld ?r3
            case y3 => (intro w hSw; obtain ⟨hz, hf⟩ := hSw; have c0 := hz.cell (i := 0) rfl; have c1 := hz.cell (i := 1) rfl; have c2 := hz.cell (i := 2) rfl; have c3 := hz.cell (i := 3) rfl; have e0 := hf.cell (i := 0) rfl; have e1 := hf.cell (i := 1) rfl; clear hz hf; go_simp; try with_reducible rfl)
            simp only [List.getElem_toArray, List.getElem_cons_zero, List.getElem_cons_succ, Act.put, List.setIfInBounds_toArray, List.set_cons_zero, List.set_cons_succ]
            refine wpAnyH_ready (rs := [3]) (by kernel_rfl) (by simp) (AllReadyH.cons rfl (fun K hK => ?_) AllReadyH.nil)
            go_simp
            have hR5 := (((HD.out.2.1.put 0 (.int .i64 0)).put 1 (.slice none 0 0)).put 2 (.int .i64 0)).put 3 (.int .i64 0)
            have hB5 := (((HD.out.2.2.2.setCell (p := ⟨w.heap.size, 0, none⟩) (Nat.le_refl _) (.int .i64 0)).setCell (p := ⟨w.heap.size, 1, none⟩) (Nat.le_refl _) (.slice none 0 0)).setCell (p := ⟨w.heap.size, 2, none⟩) (Nat.le_refl _) (.int .i64 0)).setCell (p := ⟨w.heap.size, 3, none⟩) (Nat.le_refl _) (.int .i64 0)
            have hZ5 := (((HD.out.2.2.1.setFar (p := ⟨w.heap.size, 0, none⟩) (by simp) (.int .i64 0)).setFar (p := ⟨w.heap.size, 1, none⟩) (by simp) (.slice none 0 0)).setFar (p := ⟨w.heap.size, 2, none⟩) (by simp) (.int .i64 0)).setFar (p := ⟨w.heap.size, 3, none⟩) (by simp) (.int .i64 0)
            have hF5 := (((HD.out.1.setFar (p := ⟨w.heap.size, 0, none⟩) (by simp; omega) (.int .i64 0)).setFar (p := ⟨w.heap.size, 1, none⟩) (by simp; omega) (.slice none 0 0)).setFar (p := ⟨w.heap.size, 2, none⟩) (by simp; omega) (.int .i64 0)).setFar (p := ⟨w.heap.size, 3, none⟩) (by simp; omega) (.int .i64 0)
            go_wp2_with fail
            refine hK.out _ _ (⟨hZ5, hF5⟩) (fun hHeld => ?_)
            clear hK K
            refine wpAnyH_take (i := 4) (v := ?v5) rfl (by kernel_rfl) (by kernel_rfl) (by kernel_rfl) (fun _ _ _ h => h) (Or.inl ⟨by rfl, ?y5⟩) hHeld ?r5
            case y5 => (intro w hSw; obtain ⟨hz, hf⟩ := hSw; have c0 := hz.cell (i := 0) rfl; have c1 := hz.cell (i := 1) rfl; have c2 := hz.cell (i := 2) rfl; have c3 := hz.cell (i := 3) rfl; have e0 := hf.cell (i := 0) rfl; have e1 := hf.cell (i := 1) rfl; clear hz hf; go_simp; try with_reducible rfl)
            simp only [List.getElem_toArray, List.getElem_cons_zero, List.getElem_cons_succ, Act.put, List.setIfInBounds_toArray, List.set_cons_zero, List.set_cons_succ]
            refine wpAnyH_take (i := 5) (v := ?v6) rfl (by kernel_rfl) (by kernel_rfl) (by kernel_rfl) (fun _ _ _ h => h) (Or.inl ⟨by rfl, ?y6⟩) hHeld ?r6
            case y6 => (intro w hSw; obtain ⟨hz, hf⟩ := hSw; have c0 := hz.cell (i := 0) rfl; have c1 := hz.cell (i := 1) rfl; have c2 := hz.cell (i := 2) rfl; have c3 := hz.cell (i := 3) rfl; have e0 := hf.cell (i := 0) rfl; have e1 := hf.cell (i := 1) rfl; clear hz hf; go_simp; try with_reducible rfl)
            simp only [List.getElem_toArray, List.getElem_cons_zero, List.getElem_cons_succ, Act.put, List.setIfInBounds_toArray, List.set_cons_zero, List.set_cons_succ]
            refine wpAnyH_done (by kernel_rfl) ?_ _
            clear hR5
            go_wp2
            have d0 := hR6.out.cell (i := 0) rfl
            have d1 := hR6.out.cell (i := 1) rfl
            have d2 := hR6.out.cell (i := 2) rfl
            have d3 := hR6.out.cell (i := 3) rfl
            exact bodyPost_ret (v := .tuple #[cfg 0 none 0 0 0 0, .int .i64 1, .int .i64 y]) (by simp [results, Tryd.results23, go_sem, d0, d1, d2, d3]) rfl (ParPost.bad HE.out.1 HE0.out.2 HE.out.2 hB5)
          · have hx' : decide (x < 0) = false := decide_eq_false hx
            have hxn : x ≠ -1 := by omega
            have HE := Lib.hid (show paE (bs s) = y ∧ paN (bs s) = x + 2 from ⟨HE0.out.1.1, by rw [HE0.out.1.2, if_neg hxn]⟩)
            have hw2 : IntKind.i64.wrap (x + 2) = x + 2 := IntWalk.i64_in _ (by omega)
            clear hx hxn
            go_wp2_with fail
            generalize w2.alloc (.cells #[.int .i64 x, .int .i64 y] 31) = W at *
            generalize w2.heap.size = F at *
            have hRW : Blk W w.heap.size zc := HD.out.2.1
            have y0 := hRW.cell (i := 0) rfl
            have y1 := hRW.cell (i := 1) rfl
            have y2 := hRW.cell (i := 2) rfl
            have y3 := hRW.cell (i := 3) rfl
            have z0 := hRW.frozen 0
            have z1 := hRW.frozen 1
            have z2 := hRW.frozen 2
            have z3 := hRW.frozen 3
            have hR6 := Lib.hid ((((hRW.put 0 (.int .i64 0)).put 1 (.slice none 0 0)).put 2 (.int .i64 0)).put 3 (.int .i64 0))
            clear hRW
            refine wp_region_held_drew (S := ZF (w.heap.size + 1) F zc [.int .i64 x, .int .i64 y]) (by kernel_rfl) (⟨HD.out.2.2.1, HD.out.1⟩) (fun hHeld => ?_)
            refine wpAnyH_take (i := 0) (v := ?v7) rfl (by kernel_rfl) (by kernel_rfl) (by kernel_rfl) (fun _ _ _ h => h) (Or.inl ⟨by rfl, ?y7⟩) hHeld ?r7
            case y7 => (intro w hSw; obtain ⟨hz, hf⟩ := hSw; have c0 := hz.cell (i := 0) rfl; have c1 := hz.cell (i := 1) rfl; have c2 := hz.cell (i := 2) rfl; have c3 := hz.cell (i := 3) rfl; have e0 := hf.cell (i := 0) rfl; have e1 := hf.cell (i := 1) rfl; clear hz hf; go_simp; try with_reducible rfl)
            simp only [List.getElem_toArray, List.getElem_cons_zero, Act.put, List.setIfInBounds_toArray, List.set_cons_zero, List.set_cons_succ]
            refine wpAnyH_take (i := 1) (v := ?v8) rfl (by kernel_rfl) (by kernel_rfl) (by kernel_rfl) (fun _ _ _ h => h) (Or.inl ⟨by rfl, ?y8⟩) hHeld ?r8
            case y8 => (intro w hSw; obtain ⟨hz, hf⟩ := hSw; have c0 := hz.cell (i := 0) rfl; have c1 := hz.cell (i := 1) rfl; have c2 := hz.cell (i := 2) rfl; have c3 := hz.cell (i := 3) rfl; have e0 := hf.cell (i := 0) rfl; have e1 := hf.cell (i := 1) rfl; clear hz hf; go_simp; try with_reducible rfl)
            simp only [List.getElem_toArray, List.getElem_cons_zero, List.getElem_cons_succ, Act.put, List.setIfInBounds_toArray, List.set_cons_zero, List.set_cons_succ]
            refine wpAnyH_take (i := 2) (v := ?v9) rfl (by kernel_rfl) (by kernel_rfl) (by kernel_rfl) (fun _ _ _ h => h) (Or.inl ⟨by rfl, ?y9⟩) hHeld ?r9
            case y9 => (intro w hSw; obtain ⟨hz, hf⟩ := hSw; have c0 := hz.cell (i := 0) rfl; have c1 := hz.cell (i := 1) rfl; have c2 := hz.cell (i := 2) rfl; have c3 := hz.cell (i := 3) rfl; have e0 := hf.cell (i := 0) rfl; have e1 := hf.cell (i := 1) rfl; clear hz hf; go_simp; try with_reducible rfl)
            simp only [List.getElem_toArray, List.getElem_cons_zero, List.getElem_cons_succ, Act.put, List.setIfInBounds_toArray, List.set_cons_zero, List.set_cons_succ]
            refine wpAnyH_take (i := 3) (v := ?v10) rfl (by kernel_rfl) (by kernel_rfl) (by kernel_rfl) (fun _ _ _ h => h) (Or.inl ⟨by rfl, ?y10⟩) hHeld ?r10
            case y10 => (intro w hSw; obtain ⟨hz, hf⟩ := hSw; have c0 := hz.cell (i := 0) rfl; have c1 := hz.cell (i := 1) rfl; have c2 := hz.cell (i := 2) rfl; have c3 := hz.cell (i := 3) rfl; have e0 := hf.cell (i := 0) rfl; have e1 := hf.cell (i := 1) rfl; clear hz hf; go_simp; try with_reducible rfl)
            simp only [List.getElem_toArray, List.getElem_cons_zero, List.getElem_cons_succ, Act.put, List.setIfInBounds_toArray, List.set_cons_zero, List.set_cons_succ]
            refine wpAnyH_take (i := 4) (v := ?v11) rfl (by kernel_rfl) (by kernel_rfl) (by kernel_rfl) (fun _ _ _ h => h) (Or.inl ⟨by rfl, ?y11⟩) hHeld ?r11
            case y11 => (intro w hSw; obtain ⟨hz, hf⟩ := hSw; have c0 := hz.cell (i := 0) rfl; have c1 := hz.cell (i := 1) rfl; have c2 := hz.cell (i := 2) rfl; have c3 := hz.cell (i := 3) rfl; have e0 := hf.cell (i := 0) rfl; have e1 := hf.cell (i := 1) rfl; clear hz hf; go_simp; try with_reducible rfl)
            simp only [List.getElem_toArray, List.getElem_cons_zero, List.getElem_cons_succ, Act.put, List.setIfInBounds_toArray, List.set_cons_zero, List.set_cons_succ]
            refine wpAnyH_take (i := 5) (v := ?v12) rfl (by kernel_rfl) (by kernel_rfl) (by kernel_rfl) (fun _ _ _ h => h) (Or.inl ⟨by rfl, ?y12⟩) hHeld ?r12
            case y12 => (intro w hSw; obtain ⟨hz, hf⟩ := hSw; have c0 := hz.cell (i := 0) rfl; have c1 := hz.cell (i := 1) rfl; have c2 := hz.cell (i := 2) rfl; have c3 := hz.cell (i := 3) rfl; have e0 := hf.cell (i := 0) rfl; have e1 := hf.cell (i := 1) rfl; clear hz hf; go_simp; try with_reducible rfl)
            simp only [List.getElem_toArray, List.getElem_cons_zero, List.getElem_cons_succ, Act.put, List.setIfInBounds_toArray, List.set_cons_zero, List.set_cons_succ]
            refine wpAnyH_ready (rs := [6]) (by kernel_rfl) (by simp) (AllReadyH.cons rfl (fun K hK => ?_) AllReadyH.nil)
            go_simp
            have hR5 := (((HD.out.2.1.put 0 (.int .i64 0)).put 1 (.slice none 0 0)).put 2 (.int .i64 0)).put 3 (.int .i64 0)
            have hB5 := (((HD.out.2.2.2.setCell (p := ⟨w.heap.size, 0, none⟩) (Nat.le_refl _) (.int .i64 0)).setCell (p := ⟨w.heap.size, 1, none⟩) (Nat.le_refl _) (.slice none 0 0)).setCell (p := ⟨w.heap.size, 2, none⟩) (Nat.le_refl _) (.int .i64 0)).setCell (p := ⟨w.heap.size, 3, none⟩) (Nat.le_refl _) (.int .i64 0)
            have hZ5 := (((HD.out.2.2.1.setFar (p := ⟨w.heap.size, 0, none⟩) (by simp) (.int .i64 0)).setFar (p := ⟨w.heap.size, 1, none⟩) (by simp) (.slice none 0 0)).setFar (p := ⟨w.heap.size, 2, none⟩) (by simp) (.int .i64 0)).setFar (p := ⟨w.heap.size, 3, none⟩) (by simp) (.int .i64 0)
            have hF5 := (((HD.out.1.setFar (p := ⟨w.heap.size, 0, none⟩) (by simp; omega) (.int .i64 0)).setFar (p := ⟨w.heap.size, 1, none⟩) (by simp; omega) (.slice none 0 0)).setFar (p := ⟨w.heap.size, 2, none⟩) (by simp; omega) (.int .i64 0)).setFar (p := ⟨w.heap.size, 3, none⟩) (by simp; omega) (.int .i64 0)
            go_wp2_with fail
            refine hK.out _ _ (⟨hZ5, hF5⟩) (fun hHeld => ?_)
            clear hK K
            refine wpAnyH_take (i := 7) (v := ?v14) rfl (by kernel_rfl) (by kernel_rfl) (by kernel_rfl) (fun _ _ _ h => h) (Or.inl ⟨by rfl, ?y14⟩) hHeld ?r14
            case y14 => (intro w hSw; obtain ⟨hz, hf⟩ := hSw; have c0 := hz.cell (i := 0) rfl; have c1 := hz.cell (i := 1) rfl; have c2 := hz.cell (i := 2) rfl; have c3 := hz.cell (i := 3) rfl; have e0 := hf.cell (i := 0) rfl; have e1 := hf.cell (i := 1) rfl; clear hz hf; go_simp; try with_reducible rfl)
            simp only [List.getElem_toArray, List.getElem_cons_zero, List.getElem_cons_succ, Act.put, List.setIfInBounds_toArray, List.set_cons_zero, List.set_cons_succ]
            refine wpAnyH_take (i := 8) (v := ?v15) rfl (by kernel_rfl) (by kernel_rfl) (by kernel_rfl) (fun _ _ _ h => h) (Or.inl ⟨by rfl, ?y15⟩) hHeld ?r15
            case y15 => (intro w hSw; obtain ⟨hz, hf⟩ := hSw; have c0 := hz.cell (i := 0) rfl; have c1 := hz.cell (i := 1) rfl; have c2 := hz.cell (i := 2) rfl; have c3 := hz.cell (i := 3) rfl; have e0 := hf.cell (i := 0) rfl; have e1 := hf.cell (i := 1) rfl; clear hz hf; go_simp; try with_reducible rfl)
            simp only [List.getElem_toArray, List.getElem_cons_zero, List.getElem_cons_succ, Act.put, List.setIfInBounds_toArray, List.set_cons_zero, List.set_cons_succ]
            refine wpAnyH_done (by kernel_rfl) ?_ _
            clear hR5
            go_wp2
            have d0 := hR6.out.cell (i := 0) rfl
            have d1 := hR6.out.cell (i := 1) rfl
            have d2 := hR6.out.cell (i := 2) rfl
            have d3 := hR6.out.cell (i := 3) rfl
            exact bodyPost_ret (v := .tuple #[cfg 0 none 0 0 0 0, .int .i64 (x + 2), .int .i64 y]) (by simp [results, Tryd.results23, go_sem, d0, d1, d2, d3]) rfl (ParPost.bad HE.out.1 HE0.out.2 HE.out.2 hB5)
      · have hle : (ln.toList == ([] : List UInt8)) = false := by rw [empty_eq]; exact decide_eq_false hp
        have hpe : p ≠ [] := fun e => hp (by rw [← bs_len, hbp, e]; rfl)
        have hE := paE_line (n := k + 1) Hnl.out (ln_last hst hdp hpe) (by omega)
        have HE : Hid (paE (bs s) = 11 ∧ paN (bs s) = (k : Int) + 1) := Lib.hid ⟨hE.1, by rw [hE.2]; simp⟩
        have hR' := Lib.hid (And.intro hR (And.intro hZ hB))
        clear hR hZ hSt hB hst hdp hpk hln hbp hpe hlast HG HSn hE
        go_wp2_with fail
        refine (rcut_any ln 32 wr hlz).mono ?_
        rintro e w3 ⟨g3, c3, ws, rfl, hws, hb3, hg3, hSt3⟩
        have hR := hR'.out.1.low hb3
        have hZ := hR'.out.2.1.low hb3
        have hB := hR'.out.2.2.trans (hb3.mono hR'.out.2.2.size)
        clear hb3 hSt3 hws hR' u0
        have z0 := hR.frozen 0
        have z1 := hR.frozen 1
        have z2 := hR.frozen 2
        have z3 := hR.frozen 3
        have y0 := hR.cell (i := 0) rfl
        have y1 := hR.cell (i := 1) rfl
        have y2 := hR.cell (i := 2) rfl
        have y3 := hR.cell (i := 3) rfl
        have x0 := hZ.cell (i := 0) rfl
        have x1 := hZ.cell (i := 1) rfl
        have x2 := hZ.cell (i := 2) rfl
        have x3 := hZ.cell (i := 3) rfl
        have hR5 := (((hR.put 0 (.int .i64 0)).put 1 (.slice none 0 0)).put 2 (.int .i64 0)).put 3 (.int .i64 0)
        have hB5 := (((hB.setCell (p := ⟨w.heap.size, 0, none⟩) (Nat.le_refl _) (.int .i64 0)).setCell (p := ⟨w.heap.size, 1, none⟩) (Nat.le_refl _) (.slice none 0 0)).setCell (p := ⟨w.heap.size, 2, none⟩) (Nat.le_refl _) (.int .i64 0)).setCell (p := ⟨w.heap.size, 3, none⟩) (Nat.le_refl _) (.int .i64 0)
        have H5 := Lib.hid (And.intro hR5 hB5)
        clear hR5 hB5 hR hZ hB
        go_wp2
        have d0 := H5.out.1.cell (i := 0) rfl
        have d1 := H5.out.1.cell (i := 1) rfl
        have d2 := H5.out.1.cell (i := 2) rfl
        have d3 := H5.out.1.cell (i := 3) rfl
        exact bodyPost_ret (v := .tuple #[cfg 0 none 0 0 0 0, .int .i64 ((k : Int) + 1), .int .i64 11]) (by simp [results, Tryd.results23, go_sem, d0, d1, d2, d3]) rfl (ParPost.bad HE.out.1 (by decide) HE.out.2 H5.out.2)
    · have q9 : ((k : Int) == (ls.length : Int) - 1) = false := by rw [beq_eq_false_iff_ne]; omega
      obtain ⟨p, q, r', hdp, hpk, hd2⟩ := drop_two (l := spl 10 (bs s)) (k := k) (by rw [← HG.out.2]; omega)
      obtain ⟨ln, hln, hbp, hlz⟩ := HG.out.1 k p hpk
      have u0 := hSt.2 k ln hln
      have hR' := Lib.hid (And.intro hR (And.intro hZ (And.intro hB (And.intro hSt (And.intro hst (And.intro hdp (And.intro hd2 hbp)))))))
      clear hR hZ hSt hB hst hdp hpk hln hd2
      go_wp2_with fail
      refine (rcut_any ln 32 wr hlz).mono ?_
      rintro e w3 ⟨g3, c3, ws, rfl, hws, hb3, hg3, hSt3⟩
      rw [hbp] at hws
      have hR := hR'.out.1.low hb3
      have hZ := hR'.out.2.1.low hb3
      have hB := hR'.out.2.2.1.trans (hb3.mono hR'.out.2.2.1.size)
      have hSl := hR'.out.2.2.2.1.low hb3
      have hst := hR'.out.2.2.2.2.1.low hb3
      have hdp := hR'.out.2.2.2.2.2.1
      have hd2 := hR'.out.2.2.2.2.2.2.1
      have hBs3 : B ≤ w3.heap.size := Nat.le_trans hBs hb3.size
      have hg3' : B ≤ g3 := Nat.le_trans hBs hg3
      clear hb3 hR' u0 hbp hg3
      by_cases h6 : ws.length = 6
      · obtain ⟨a0, a1, a2, a3, a4, a5, rfl⟩ := list6 h6
        simp only [List.map_cons, List.map_nil] at hws
        have m0 := hSt3.2 0 a0 rfl
        have m1 := hSt3.2 1 a1 rfl
        have m2 := hSt3.2 2 a2 rfl
        have m3 := hSt3.2 3 a3 rfl
        have m4 := hSt3.2 4 a4 rfl
        have m5 := hSt3.2 5 a5 rfl
        have hz : ∀ x ∈ [a0, a1, a2, a3, a4, a5], x.size ≤ 65536 := fun x hx => by
          have h1 := spl_mem 32 p (bs x) (by rw [← hws]; exact List.mem_map.2 ⟨x, hx, rfl⟩)
          have h2 : p.length ≤ 65536 := by
            have := spl_mem 10 (bs s) p (List.mem_of_mem_drop (by rw [hdp]; exact List.mem_cons_self))
            rw [bs_len] at this
            omega
          rw [bs_len] at h1
          omega
        have r1 := Lib.hid (fun w => rval_any a1 w (Nat.le_trans (hz a1 (by simp)) (by decide)))
        have r3 := Lib.hid (fun w => rval_any a3 w (Nat.le_trans (hz a3 (by simp)) (by decide)))
        have r5 := Lib.hid (fun w => rval_any a5 w (Nat.le_trans (hz a5 (by simp)) (by decide)))
        have hz1' : a1.size ≤ 65536 := hz a1 (by simp)
        unfold ValPost at r1 r3 r5
        have hhd : hdB p = (decide (bs a0 = kTasks) && decide (bs a2 = kTries) && decide (bs a4 = kLog) && nuB (bs a1) && nuB (bs a3) && nuB (bs a5)) := by
          unfold hdB
          rw [← hws, opB_six]
          rfl
        have htb : tpB p = (decide (bs a0 = kTopic) && decide (bs a2 = kWords) && decide (bs a4 = kDepth) && nuB (bs a3) && nuB (bs a5)) := by
          unfold tpB
          rw [← hws, opB_six]
          rfl
        have hhv : hdV p 1 = num (bs a1) ∧ hdV p 3 = num (bs a3) ∧ hdV p 5 = num (bs a5) ∧ tpV p = (a1, (num (bs a3) : Int), (num (bs a5) : Int)) := by
          unfold hdV tpV
          rw [← hws]
          exact ⟨rfl, rfl, rfl, by rw [show wAt [bs a0, bs a1, bs a2, bs a3, bs a4, bs a5] 1 = bs a1 from rfl, str_bs]; rfl⟩
        have HP := Lib.hid (And.intro hhd (And.intro htb hhv))
        have HL := Lib.hid (And.intro hR (And.intro hZ (And.intro hB (And.intro hSl (And.intro hst (And.intro hdp hd2))))))
        clear hhd htb hhv hz hws hR hZ hB hSl hst hdp hd2 h6 hSt3
        obtain ⟨b1, hb1⟩ : ∃ b, nuB (bs a1) = b := ⟨_, rfl⟩
        obtain ⟨b3, hb3⟩ : ∃ b, nuB (bs a3) = b := ⟨_, rfl⟩
        obtain ⟨b5, hb5⟩ : ∃ b, nuB (bs a5) = b := ⟨_, rfl⟩
        rw [hb1] at r1 HP
        rw [hb3] at r3 HP
        rw [hb5] at r5 HP
        obtain ⟨v1, hv1⟩ : ∃ v, (if b1 = true then (num (bs a1) : Int) else 0) = v := ⟨_, rfl⟩
        obtain ⟨v3, hv3⟩ : ∃ v, (if b3 = true then (num (bs a3) : Int) else 0) = v := ⟨_, rfl⟩
        obtain ⟨v5, hv5⟩ : ∃ v, (if b5 = true then (num (bs a5) : Int) else 0) = v := ⟨_, rfl⟩
        rw [hv1] at r1
        rw [hv3] at r3
        rw [hv5] at r5
        have Hv := Lib.hid (And.intro hv1 (And.intro hv3 hv5))
        clear hb1 hb3 hb5 hv1 hv3 hv5
        go_wp2_with fail
        refine (r1.out _).mono ?_
        rintro e w' ⟨rfl, rfl⟩
        go_wp2_with fail
        refine (r3.out _).mono ?_
        rintro e w' ⟨rfl, rfl⟩
        go_wp2_with fail
        refine (r5.out _).mono ?_
        rintro e w' ⟨rfl, rfl⟩
        clear r1 r3 r5
        by_cases hk0 : k = 0
        · subst hk0
          by_cases ea0 : bs a0 = [116, 97, 115, 107, 115]
          · have ha0 : (a0.toList == [116, 97, 115, 107, 115]) = true := by rw [str_lit]; exact decide_eq_true ea0
            have ha0' : (a0.toList != [116, 97, 115, 107, 115]) = false := by rw [bne, ha0]; rfl
            by_cases ea2 : bs a2 = [116, 114, 105, 101, 115]
            · have ha2 : (a2.toList == [116, 114, 105, 101, 115]) = true := by rw [str_lit]; exact decide_eq_true ea2
              have ha2' : (a2.toList != [116, 114, 105, 101, 115]) = false := by rw [bne, ha2]; rfl
              by_cases ea4 : bs a4 = [108, 111, 103]
              · have ha4 : (a4.toList == [108, 111, 103]) = true := by rw [str_lit]; exact decide_eq_true ea4
                have ha4' : (a4.toList != [108, 111, 103]) = false := by rw [bne, ha4]; rfl
                cases b1 with
                | false =>
                  have hE := paE_line (n := 0 + 1) Hnl.out (ln_bad HL.out.2.2.2.2.1 HL.out.2.2.2.2.2.1 (by simp only [if_true]; rw [HP.out.1]; simp [])) (by omega)
                  have HE : Hid (paE (bs s) = 11 ∧ paN (bs s) = 1) := Lib.hid ⟨hE.1, by rw [hE.2]; simp⟩
                  have hR := HL.out.1
                  have hZ := HL.out.2.1
                  have hB := HL.out.2.2.1
                  clear hE HL HP Hv
                  have z0 := hR.frozen 0
                  have z1 := hR.frozen 1
                  have z2 := hR.frozen 2
                  have z3 := hR.frozen 3
                  have y0 := hR.cell (i := 0) rfl
                  have y1 := hR.cell (i := 1) rfl
                  have y2 := hR.cell (i := 2) rfl
                  have y3 := hR.cell (i := 3) rfl
                  have x0 := hZ.cell (i := 0) rfl
                  have x1 := hZ.cell (i := 1) rfl
                  have x2 := hZ.cell (i := 2) rfl
                  have x3 := hZ.cell (i := 3) rfl
                  have hR5 := (((hR.put 0 (.int .i64 0)).put 1 (.slice none 0 0)).put 2 (.int .i64 0)).put 3 (.int .i64 0)
                  have hB5 := (((hB.setCell (p := ⟨w.heap.size, 0, none⟩) (Nat.le_refl _) (.int .i64 0)).setCell (p := ⟨w.heap.size, 1, none⟩) (Nat.le_refl _) (.slice none 0 0)).setCell (p := ⟨w.heap.size, 2, none⟩) (Nat.le_refl _) (.int .i64 0)).setCell (p := ⟨w.heap.size, 3, none⟩) (Nat.le_refl _) (.int .i64 0)
                  have H5 := Lib.hid (And.intro hR5 hB5)
                  clear hR5 hB5 hR hZ hB
                  go_wp2
                  have d0 := H5.out.1.cell (i := 0) rfl
                  have d1 := H5.out.1.cell (i := 1) rfl
                  have d2 := H5.out.1.cell (i := 2) rfl
                  have d3 := H5.out.1.cell (i := 3) rfl
                  exact bodyPost_ret (v := .tuple #[cfg 0 none 0 0 0 0, .int .i64 1, .int .i64 11]) (by simp [results, Tryd.results23, go_sem, d0, d1, d2, d3]) rfl (ParPost.bad HE.out.1 (by decide) HE.out.2 H5.out.2)
                | true =>
                  cases b3 with
                  | false =>
                    have hE := paE_line (n := 0 + 1) Hnl.out (ln_bad HL.out.2.2.2.2.1 HL.out.2.2.2.2.2.1 (by simp only [if_true]; rw [HP.out.1]; simp [])) (by omega)
                    have HE : Hid (paE (bs s) = 11 ∧ paN (bs s) = 1) := Lib.hid ⟨hE.1, by rw [hE.2]; simp⟩
                    have hR := HL.out.1
                    have hZ := HL.out.2.1
                    have hB := HL.out.2.2.1
                    clear hE HL HP Hv
                    have z0 := hR.frozen 0
                    have z1 := hR.frozen 1
                    have z2 := hR.frozen 2
                    have z3 := hR.frozen 3
                    have y0 := hR.cell (i := 0) rfl
                    have y1 := hR.cell (i := 1) rfl
                    have y2 := hR.cell (i := 2) rfl
                    have y3 := hR.cell (i := 3) rfl
                    have x0 := hZ.cell (i := 0) rfl
                    have x1 := hZ.cell (i := 1) rfl
                    have x2 := hZ.cell (i := 2) rfl
                    have x3 := hZ.cell (i := 3) rfl
                    have hR5 := (((hR.put 0 (.int .i64 0)).put 1 (.slice none 0 0)).put 2 (.int .i64 0)).put 3 (.int .i64 0)
                    have hB5 := (((hB.setCell (p := ⟨w.heap.size, 0, none⟩) (Nat.le_refl _) (.int .i64 0)).setCell (p := ⟨w.heap.size, 1, none⟩) (Nat.le_refl _) (.slice none 0 0)).setCell (p := ⟨w.heap.size, 2, none⟩) (Nat.le_refl _) (.int .i64 0)).setCell (p := ⟨w.heap.size, 3, none⟩) (Nat.le_refl _) (.int .i64 0)
                    have H5 := Lib.hid (And.intro hR5 hB5)
                    clear hR5 hB5 hR hZ hB
                    go_wp2
                    have d0 := H5.out.1.cell (i := 0) rfl
                    have d1 := H5.out.1.cell (i := 1) rfl
                    have d2 := H5.out.1.cell (i := 2) rfl
                    have d3 := H5.out.1.cell (i := 3) rfl
                    exact bodyPost_ret (v := .tuple #[cfg 0 none 0 0 0 0, .int .i64 1, .int .i64 11]) (by simp [results, Tryd.results23, go_sem, d0, d1, d2, d3]) rfl (ParPost.bad HE.out.1 (by decide) HE.out.2 H5.out.2)
                  | true =>
                    cases b5 with
                    | false =>
                      have hE := paE_line (n := 0 + 1) Hnl.out (ln_bad HL.out.2.2.2.2.1 HL.out.2.2.2.2.2.1 (by simp only [if_true]; rw [HP.out.1]; simp [])) (by omega)
                      have HE : Hid (paE (bs s) = 11 ∧ paN (bs s) = 1) := Lib.hid ⟨hE.1, by rw [hE.2]; simp⟩
                      have hR := HL.out.1
                      have hZ := HL.out.2.1
                      have hB := HL.out.2.2.1
                      clear hE HL HP Hv
                      have z0 := hR.frozen 0
                      have z1 := hR.frozen 1
                      have z2 := hR.frozen 2
                      have z3 := hR.frozen 3
                      have y0 := hR.cell (i := 0) rfl
                      have y1 := hR.cell (i := 1) rfl
                      have y2 := hR.cell (i := 2) rfl
                      have y3 := hR.cell (i := 3) rfl
                      have x0 := hZ.cell (i := 0) rfl
                      have x1 := hZ.cell (i := 1) rfl
                      have x2 := hZ.cell (i := 2) rfl
                      have x3 := hZ.cell (i := 3) rfl
                      have hR5 := (((hR.put 0 (.int .i64 0)).put 1 (.slice none 0 0)).put 2 (.int .i64 0)).put 3 (.int .i64 0)
                      have hB5 := (((hB.setCell (p := ⟨w.heap.size, 0, none⟩) (Nat.le_refl _) (.int .i64 0)).setCell (p := ⟨w.heap.size, 1, none⟩) (Nat.le_refl _) (.slice none 0 0)).setCell (p := ⟨w.heap.size, 2, none⟩) (Nat.le_refl _) (.int .i64 0)).setCell (p := ⟨w.heap.size, 3, none⟩) (Nat.le_refl _) (.int .i64 0)
                      have H5 := Lib.hid (And.intro hR5 hB5)
                      clear hR5 hB5 hR hZ hB
                      go_wp2
                      have d0 := H5.out.1.cell (i := 0) rfl
                      have d1 := H5.out.1.cell (i := 1) rfl
                      have d2 := H5.out.1.cell (i := 2) rfl
                      have d3 := H5.out.1.cell (i := 3) rfl
                      exact bodyPost_ret (v := .tuple #[cfg 0 none 0 0 0 0, .int .i64 1, .int .i64 11]) (by simp [results, Tryd.results23, go_sem, d0, d1, d2, d3]) rfl (ParPost.bad HE.out.1 (by decide) HE.out.2 H5.out.2)
                    | true =>
                      have hpT : hdB p = true := by rw [HP.out.1]; simp [ea0, ea2, ea4]
                      have hv := HP.out.2.2
                      have e1 : v1 = hdV p 1 := by rw [hv.1]; exact Hv.out.1.symm
                      have e3 : v3 = hdV p 3 := by rw [hv.2.1]; exact Hv.out.2.1.symm
                      have e5 : v5 = hdV p 5 := by rw [hv.2.2.1]; exact Hv.out.2.2.symm
                      obtain ⟨l1, l2, l3⟩ := ln_hd HL.out.2.2.2.2.2.1 hpT
                      have hGz : Blk w3 (w.heap.size + 1 + 1) zc := by
                        rcases HL.out.2.2.2.2.1 with ⟨_, h⟩ | ⟨acc, v, h, _⟩
                        · exact h
                        · omega
                      have z0 := hGz.frozen 0
                      have z2 := hGz.frozen 2
                      have z3 := hGz.frozen 3
                      have y0 := hGz.cell (i := 0) rfl
                      have y2 := hGz.cell (i := 2) rfl
                      have y3 := hGz.cell (i := 3) rfl
                      have hG5 := ((hGz.put 0 (.int .i64 v1)).put 2 (.int .i64 v3)).put 3 (.int .i64 v5)
                      have hR5 := ((HL.out.1.setFar (p := ⟨w.heap.size + 1 + 1, 0, none⟩) (by simp; omega) (.int .i64 v1)).setFar (p := ⟨w.heap.size + 1 + 1, 2, none⟩) (by simp; omega) (.int .i64 v3)).setFar (p := ⟨w.heap.size + 1 + 1, 3, none⟩) (by simp; omega) (.int .i64 v5)
                      have hZ5 := ((HL.out.2.1.setFar (p := ⟨w.heap.size + 1 + 1, 0, none⟩) (by simp) (.int .i64 v1)).setFar (p := ⟨w.heap.size + 1 + 1, 2, none⟩) (by simp) (.int .i64 v3)).setFar (p := ⟨w.heap.size + 1 + 1, 3, none⟩) (by simp) (.int .i64 v5)
                      have hB5 := ((HL.out.2.2.1.setCell (p := ⟨w.heap.size + 1 + 1, 0, none⟩) (by show w.heap.size ≤ w.heap.size + 1 + 1; omega) (.int .i64 v1)).setCell (p := ⟨w.heap.size + 1 + 1, 2, none⟩) (by show w.heap.size ≤ w.heap.size + 1 + 1; omega) (.int .i64 v3)).setCell (p := ⟨w.heap.size + 1 + 1, 3, none⟩) (by show w.heap.size ≤ w.heap.size + 1 + 1; omega) (.int .i64 v5)
                      have hS5 := ((HL.out.2.2.2.1.setFar (g := w.heap.size + 1 + 1) (i := 0) (by omega) (.int .i64 v1)).setFar (g := w.heap.size + 1 + 1) (i := 2) (by omega) (.int .i64 v3)).setFar (g := w.heap.size + 1 + 1) (i := 3) (by omega) (.int .i64 v5)
                      have hst5 : StR (bs s) (w.heap.size + 1 + 1) B 1 (((w3.setCell ⟨w.heap.size + 1 + 1, 0, none⟩ (.int .i64 v1)).setCell ⟨w.heap.size + 1 + 1, 2, none⟩ (.int .i64 v3)).setCell ⟨w.heap.size + 1 + 1, 3, none⟩ (.int .i64 v5)) := by
                        refine Or.inr ⟨[], .slice none 0 0, rfl, l1, by rw [l2]; rfl, fun t ht => by simp at ht, ?_, World.ownsRow_nil _ _ _ _⟩
                        rw [l3, ← e1, ← e3, ← e5]
                        exact hG5
                      have H5 := Lib.hid (And.intro hR5 (And.intro hZ5 (And.intro hS5 (And.intro hB5 hst5))))
                      clear hG5 hR5 hZ5 hB5 hS5 hst5 hGz HL HP Hv hv l1 l2 l3 hpT e1 e3 e5
                      go_wp2
                      go_roundw
                      case rel => exact ⟨0 + 1, by omega, by go_num, H5.out.1, H5.out.2.1, H5.out.2.2.1, H5.out.2.2.2.1, by simp [World.setCell]; exact hBs3, H5.out.2.2.2.2⟩
                      case measure => simp [intOf]; omega
              · have ha4 : (a4.toList == [108, 111, 103]) = false := by rw [str_lit]; exact decide_eq_false ea4
                have ha4' : (a4.toList != [108, 111, 103]) = true := by rw [bne, ha4]; rfl
                have hE := paE_line (n := 0 + 1) Hnl.out (ln_bad HL.out.2.2.2.2.1 HL.out.2.2.2.2.2.1 (by simp only [if_true]; rw [HP.out.1]; simp [ea4])) (by omega)
                have HE : Hid (paE (bs s) = 11 ∧ paN (bs s) = 1) := Lib.hid ⟨hE.1, by rw [hE.2]; simp⟩
                have hR := HL.out.1
                have hZ := HL.out.2.1
                have hB := HL.out.2.2.1
                clear hE HL HP Hv
                have z0 := hR.frozen 0
                have z1 := hR.frozen 1
                have z2 := hR.frozen 2
                have z3 := hR.frozen 3
                have y0 := hR.cell (i := 0) rfl
                have y1 := hR.cell (i := 1) rfl
                have y2 := hR.cell (i := 2) rfl
                have y3 := hR.cell (i := 3) rfl
                have x0 := hZ.cell (i := 0) rfl
                have x1 := hZ.cell (i := 1) rfl
                have x2 := hZ.cell (i := 2) rfl
                have x3 := hZ.cell (i := 3) rfl
                have hR5 := (((hR.put 0 (.int .i64 0)).put 1 (.slice none 0 0)).put 2 (.int .i64 0)).put 3 (.int .i64 0)
                have hB5 := (((hB.setCell (p := ⟨w.heap.size, 0, none⟩) (Nat.le_refl _) (.int .i64 0)).setCell (p := ⟨w.heap.size, 1, none⟩) (Nat.le_refl _) (.slice none 0 0)).setCell (p := ⟨w.heap.size, 2, none⟩) (Nat.le_refl _) (.int .i64 0)).setCell (p := ⟨w.heap.size, 3, none⟩) (Nat.le_refl _) (.int .i64 0)
                have H5 := Lib.hid (And.intro hR5 hB5)
                clear hR5 hB5 hR hZ hB
                go_wp2
                have d0 := H5.out.1.cell (i := 0) rfl
                have d1 := H5.out.1.cell (i := 1) rfl
                have d2 := H5.out.1.cell (i := 2) rfl
                have d3 := H5.out.1.cell (i := 3) rfl
                exact bodyPost_ret (v := .tuple #[cfg 0 none 0 0 0 0, .int .i64 1, .int .i64 11]) (by simp [results, Tryd.results23, go_sem, d0, d1, d2, d3]) rfl (ParPost.bad HE.out.1 (by decide) HE.out.2 H5.out.2)
            · have ha2 : (a2.toList == [116, 114, 105, 101, 115]) = false := by rw [str_lit]; exact decide_eq_false ea2
              have ha2' : (a2.toList != [116, 114, 105, 101, 115]) = true := by rw [bne, ha2]; rfl
              have hE := paE_line (n := 0 + 1) Hnl.out (ln_bad HL.out.2.2.2.2.1 HL.out.2.2.2.2.2.1 (by simp only [if_true]; rw [HP.out.1]; simp [ea2])) (by omega)
              have HE : Hid (paE (bs s) = 11 ∧ paN (bs s) = 1) := Lib.hid ⟨hE.1, by rw [hE.2]; simp⟩
              have hR := HL.out.1
              have hZ := HL.out.2.1
              have hB := HL.out.2.2.1
              clear hE HL HP Hv
              have z0 := hR.frozen 0
              have z1 := hR.frozen 1
              have z2 := hR.frozen 2
              have z3 := hR.frozen 3
              have y0 := hR.cell (i := 0) rfl
              have y1 := hR.cell (i := 1) rfl
              have y2 := hR.cell (i := 2) rfl
              have y3 := hR.cell (i := 3) rfl
              have x0 := hZ.cell (i := 0) rfl
              have x1 := hZ.cell (i := 1) rfl
              have x2 := hZ.cell (i := 2) rfl
              have x3 := hZ.cell (i := 3) rfl
              have hR5 := (((hR.put 0 (.int .i64 0)).put 1 (.slice none 0 0)).put 2 (.int .i64 0)).put 3 (.int .i64 0)
              have hB5 := (((hB.setCell (p := ⟨w.heap.size, 0, none⟩) (Nat.le_refl _) (.int .i64 0)).setCell (p := ⟨w.heap.size, 1, none⟩) (Nat.le_refl _) (.slice none 0 0)).setCell (p := ⟨w.heap.size, 2, none⟩) (Nat.le_refl _) (.int .i64 0)).setCell (p := ⟨w.heap.size, 3, none⟩) (Nat.le_refl _) (.int .i64 0)
              have H5 := Lib.hid (And.intro hR5 hB5)
              clear hR5 hB5 hR hZ hB
              go_wp2
              have d0 := H5.out.1.cell (i := 0) rfl
              have d1 := H5.out.1.cell (i := 1) rfl
              have d2 := H5.out.1.cell (i := 2) rfl
              have d3 := H5.out.1.cell (i := 3) rfl
              exact bodyPost_ret (v := .tuple #[cfg 0 none 0 0 0 0, .int .i64 1, .int .i64 11]) (by simp [results, Tryd.results23, go_sem, d0, d1, d2, d3]) rfl (ParPost.bad HE.out.1 (by decide) HE.out.2 H5.out.2)
          · have ha0 : (a0.toList == [116, 97, 115, 107, 115]) = false := by rw [str_lit]; exact decide_eq_false ea0
            have ha0' : (a0.toList != [116, 97, 115, 107, 115]) = true := by rw [bne, ha0]; rfl
            have hE := paE_line (n := 0 + 1) Hnl.out (ln_bad HL.out.2.2.2.2.1 HL.out.2.2.2.2.2.1 (by simp only [if_true]; rw [HP.out.1]; simp [ea0])) (by omega)
            have HE : Hid (paE (bs s) = 11 ∧ paN (bs s) = 1) := Lib.hid ⟨hE.1, by rw [hE.2]; simp⟩
            have hR := HL.out.1
            have hZ := HL.out.2.1
            have hB := HL.out.2.2.1
            clear hE HL HP Hv
            have z0 := hR.frozen 0
            have z1 := hR.frozen 1
            have z2 := hR.frozen 2
            have z3 := hR.frozen 3
            have y0 := hR.cell (i := 0) rfl
            have y1 := hR.cell (i := 1) rfl
            have y2 := hR.cell (i := 2) rfl
            have y3 := hR.cell (i := 3) rfl
            have x0 := hZ.cell (i := 0) rfl
            have x1 := hZ.cell (i := 1) rfl
            have x2 := hZ.cell (i := 2) rfl
            have x3 := hZ.cell (i := 3) rfl
            have hR5 := (((hR.put 0 (.int .i64 0)).put 1 (.slice none 0 0)).put 2 (.int .i64 0)).put 3 (.int .i64 0)
            have hB5 := (((hB.setCell (p := ⟨w.heap.size, 0, none⟩) (Nat.le_refl _) (.int .i64 0)).setCell (p := ⟨w.heap.size, 1, none⟩) (Nat.le_refl _) (.slice none 0 0)).setCell (p := ⟨w.heap.size, 2, none⟩) (Nat.le_refl _) (.int .i64 0)).setCell (p := ⟨w.heap.size, 3, none⟩) (Nat.le_refl _) (.int .i64 0)
            have H5 := Lib.hid (And.intro hR5 hB5)
            clear hR5 hB5 hR hZ hB
            go_wp2
            have d0 := H5.out.1.cell (i := 0) rfl
            have d1 := H5.out.1.cell (i := 1) rfl
            have d2 := H5.out.1.cell (i := 2) rfl
            have d3 := H5.out.1.cell (i := 3) rfl
            exact bodyPost_ret (v := .tuple #[cfg 0 none 0 0 0 0, .int .i64 1, .int .i64 11]) (by simp [results, Tryd.results23, go_sem, d0, d1, d2, d3]) rfl (ParPost.bad HE.out.1 (by decide) HE.out.2 H5.out.2)
        · have hk0' : ((k : Int) == 0) = false := by rw [beq_eq_false_iff_ne]; omega
          by_cases ea0 : bs a0 = [116, 111, 112, 105, 99]
          · have ha0 : (a0.toList == [116, 111, 112, 105, 99]) = true := by rw [str_lit]; exact decide_eq_true ea0
            have ha0' : (a0.toList != [116, 111, 112, 105, 99]) = false := by rw [bne, ha0]; rfl
            by_cases ea2 : bs a2 = [119, 111, 114, 100, 115]
            · have ha2 : (a2.toList == [119, 111, 114, 100, 115]) = true := by rw [str_lit]; exact decide_eq_true ea2
              have ha2' : (a2.toList != [119, 111, 114, 100, 115]) = false := by rw [bne, ha2]; rfl
              by_cases ea4 : bs a4 = [100, 101, 112, 116, 104]
              · have ha4 : (a4.toList == [100, 101, 112, 116, 104]) = true := by rw [str_lit]; exact decide_eq_true ea4
                have ha4' : (a4.toList != [100, 101, 112, 116, 104]) = false := by rw [bne, ha4]; rfl
                cases b3 with
                | false =>
                  have hE := paE_line (n := k + 1) Hnl.out (ln_bad HL.out.2.2.2.2.1 HL.out.2.2.2.2.2.1 (by rw [if_neg hk0]; rw [HP.out.2.1]; simp [])) (by omega)
                  have HE : Hid (paE (bs s) = 11 ∧ paN (bs s) = (k : Int) + 1) := Lib.hid ⟨hE.1, by rw [hE.2]; simp⟩
                  have hR := HL.out.1
                  have hZ := HL.out.2.1
                  have hB := HL.out.2.2.1
                  clear hE HL HP Hv
                  have z0 := hR.frozen 0
                  have z1 := hR.frozen 1
                  have z2 := hR.frozen 2
                  have z3 := hR.frozen 3
                  have y0 := hR.cell (i := 0) rfl
                  have y1 := hR.cell (i := 1) rfl
                  have y2 := hR.cell (i := 2) rfl
                  have y3 := hR.cell (i := 3) rfl
                  have x0 := hZ.cell (i := 0) rfl
                  have x1 := hZ.cell (i := 1) rfl
                  have x2 := hZ.cell (i := 2) rfl
                  have x3 := hZ.cell (i := 3) rfl
                  have hR5 := (((hR.put 0 (.int .i64 0)).put 1 (.slice none 0 0)).put 2 (.int .i64 0)).put 3 (.int .i64 0)
                  have hB5 := (((hB.setCell (p := ⟨w.heap.size, 0, none⟩) (Nat.le_refl _) (.int .i64 0)).setCell (p := ⟨w.heap.size, 1, none⟩) (Nat.le_refl _) (.slice none 0 0)).setCell (p := ⟨w.heap.size, 2, none⟩) (Nat.le_refl _) (.int .i64 0)).setCell (p := ⟨w.heap.size, 3, none⟩) (Nat.le_refl _) (.int .i64 0)
                  have H5 := Lib.hid (And.intro hR5 hB5)
                  clear hR5 hB5 hR hZ hB
                  go_wp2
                  have d0 := H5.out.1.cell (i := 0) rfl
                  have d1 := H5.out.1.cell (i := 1) rfl
                  have d2 := H5.out.1.cell (i := 2) rfl
                  have d3 := H5.out.1.cell (i := 3) rfl
                  exact bodyPost_ret (v := .tuple #[cfg 0 none 0 0 0 0, .int .i64 ((k : Int) + 1), .int .i64 11]) (by simp [results, Tryd.results23, go_sem, d0, d1, d2, d3]) rfl (ParPost.bad HE.out.1 (by decide) HE.out.2 H5.out.2)
                | true =>
                  cases b5 with
                  | false =>
                    have hE := paE_line (n := k + 1) Hnl.out (ln_bad HL.out.2.2.2.2.1 HL.out.2.2.2.2.2.1 (by rw [if_neg hk0]; rw [HP.out.2.1]; simp [])) (by omega)
                    have HE : Hid (paE (bs s) = 11 ∧ paN (bs s) = (k : Int) + 1) := Lib.hid ⟨hE.1, by rw [hE.2]; simp⟩
                    have hR := HL.out.1
                    have hZ := HL.out.2.1
                    have hB := HL.out.2.2.1
                    clear hE HL HP Hv
                    have z0 := hR.frozen 0
                    have z1 := hR.frozen 1
                    have z2 := hR.frozen 2
                    have z3 := hR.frozen 3
                    have y0 := hR.cell (i := 0) rfl
                    have y1 := hR.cell (i := 1) rfl
                    have y2 := hR.cell (i := 2) rfl
                    have y3 := hR.cell (i := 3) rfl
                    have x0 := hZ.cell (i := 0) rfl
                    have x1 := hZ.cell (i := 1) rfl
                    have x2 := hZ.cell (i := 2) rfl
                    have x3 := hZ.cell (i := 3) rfl
                    have hR5 := (((hR.put 0 (.int .i64 0)).put 1 (.slice none 0 0)).put 2 (.int .i64 0)).put 3 (.int .i64 0)
                    have hB5 := (((hB.setCell (p := ⟨w.heap.size, 0, none⟩) (Nat.le_refl _) (.int .i64 0)).setCell (p := ⟨w.heap.size, 1, none⟩) (Nat.le_refl _) (.slice none 0 0)).setCell (p := ⟨w.heap.size, 2, none⟩) (Nat.le_refl _) (.int .i64 0)).setCell (p := ⟨w.heap.size, 3, none⟩) (Nat.le_refl _) (.int .i64 0)
                    have H5 := Lib.hid (And.intro hR5 hB5)
                    clear hR5 hB5 hR hZ hB
                    go_wp2
                    have d0 := H5.out.1.cell (i := 0) rfl
                    have d1 := H5.out.1.cell (i := 1) rfl
                    have d2 := H5.out.1.cell (i := 2) rfl
                    have d3 := H5.out.1.cell (i := 3) rfl
                    exact bodyPost_ret (v := .tuple #[cfg 0 none 0 0 0 0, .int .i64 ((k : Int) + 1), .int .i64 11]) (by simp [results, Tryd.results23, go_sem, d0, d1, d2, d3]) rfl (ParPost.bad HE.out.1 (by decide) HE.out.2 H5.out.2)
                  | true =>
                    have hpT : tpB p = true := by rw [HP.out.2.1]; simp [ea0, ea2, ea4]
                    have hv := HP.out.2.2.2.2.2
                    have hvt : tpV p = (a1, v3, v5) := by rw [hv, ← Hv.out.2.1, ← Hv.out.2.2]; rfl
                    obtain ⟨acc, v, hka, hN, hL, hsz, hG, hO⟩ : ∃ acc v, k = acc.length + 1 ∧ lnN (spl 10 (bs s)) = scN (k + 1) ((spl 10 (bs s)).drop k) ∧ lnL (spl 10 (bs s)) = acc ++ scL ((spl 10 (bs s)).drop k) ∧ (∀ t ∈ acc, t.1.size ≤ 65536) ∧
                        Blk w3 (w.heap.size + 1 + 1) [.int .i64 (hdV (lnH (spl 10 (bs s))) 1), v, .int .i64 (hdV (lnH (spl 10 (bs s))) 3), .int .i64 (hdV (lnH (spl 10 (bs s))) 5)] ∧ w3.ownsRow B 45 3 v acc.length (tcl acc) := by
                      rcases HL.out.2.2.2.2.1 with ⟨h, _⟩ | h
                      · exact absurd h hk0
                      · exact h
                    obtain ⟨l1, l2⟩ := ln_tp (n := k + 1) HL.out.2.2.2.2.2.1 HL.out.2.2.2.2.2.2 hpT
                    obtain ⟨av, cv, rfl, _⟩ := owns_slice hO
                    have hNx : k + 1 = (acc ++ [tpV p]).length + 1 ∧ lnN (spl 10 (bs s)) = scN (k + 1 + 1) ((spl 10 (bs s)).drop (k + 1)) ∧ lnL (spl 10 (bs s)) = (acc ++ [tpV p]) ++ scL ((spl 10 (bs s)).drop (k + 1)) ∧ (∀ t ∈ acc ++ [tpV p], t.1.size ≤ 65536) := by
                      refine ⟨by simp; omega, by rw [hN, l1], by rw [hL, l2]; simp, fun t ht => ?_⟩
                      rcases List.mem_append.1 ht with h | h
                      · exact hsz t h
                      · obtain rfl : t = tpV p := by simpa using h
                        rw [hvt]
                        exact hz1'
                    have hal : acc.length ≤ 70000 := by omega
                    have hml : acc.length + 1 ≤ maxLen := Nat.le_trans (by omega : acc.length + 1 ≤ 100001) (by decide)
                    generalize hTE : hdV (lnH (spl 10 (bs s))) 1 = T at *
                    have HTE := Lib.hid hTE
                    clear hTE
                    generalize hRE : hdV (lnH (spl 10 (bs s))) 3 = R at *
                    have HRE := Lib.hid hRE
                    clear hRE
                    generalize hLE : hdV (lnH (spl 10 (bs s))) 5 = L at *
                    have HLE := Lib.hid hLE
                    clear hLE
                    have g1 := hG.cell (i := 1) rfl
                    have z1 := hG.frozen 1
                    have g1a := (hG.alloc (.cells #[.string a1, .int .i64 v3, .int .i64 v5] 45)).cell (i := 1) rfl
                    have m1a : (w3.alloc (.cells #[.string a1, .int .i64 v3, .int .i64 v5] 45)).cell? ⟨g3, 1, none⟩ = some (.string a1) := ((Below.refl w3.heap.size w3).alloc (Nat.le_refl _) (.cells #[.string a1, .int .i64 v3, .int .i64 v5] 45)).cell (p := ⟨g3, 1, none⟩) (World.block_lt_of_cell? w3 _ m1) |>.trans m1
                    have hsz3 : w.heap.size + 1 + 1 < w3.heap.size := hG.lt
                    have HB := Lib.hid (And.intro hG (And.intro hO (And.intro hNx hvt)))
                    clear hG hO hNx hN hL hsz l1 l2 hv hvt HP Hv hka hpT
                    go_wp2_with fail
                    go_region_law ((refine step_append_lies _ (by rfl) _ _ _ (by rfl) B 45 i0 _ 3 32 Tryd.underlying22 hi hz0 hz1 hz2 rfl (by omega) (.slice av acc.length cv) acc.length (tcl acc) (by rfl) ((HB.out.2.1.alloc _).drew) ⟨w3.heap.size, 0, none⟩ 1 1 (tcells (a1, v3, v5)) (by rfl) (by rfl) (World.news_of_block (cs := #[.string a1, .int .i64 v3, .int .i64 v5]) (t := 45) (fr := (0, 0)) (heap_alloc_new w3 _)) (by simp [tcells, Value.oneCell']) (by omega) hml (by omega) (by simp; omega) (w3.heap.size + 1) (by simp) ?_; intro gg cap' w4 hown' hgrow hat hlt1; have hG4 : Blk w4 (w.heap.size + 1 + 1) [.int .i64 T, .slice av acc.length cv, .int .i64 R, .int .i64 L] := (HB.out.1.alloc (.cells #[.string a1, .int .i64 v3, .int .i64 v5] 45)).of_block (hgrow.block _ (by simp; omega) (fun e => by have := (HB.out.2.1.lt _ e.symm).1; omega)); have r1 := hG4.cell (i := 1) rfl; have r2 := hG4.frozen 1))
                    all_goals
                      have hR4 : Blk w4 w.heap.size zc := (HL.out.1.alloc (.cells #[.string a1, .int .i64 v3, .int .i64 v5] 45)).of_block (hgrow.block _ (by simp; omega) (fun e => by have := (HB.out.2.1.lt _ e.symm).1; omega))
                      have hZ4 : Blk w4 (w.heap.size + 1) zc := (HL.out.2.1.alloc (.cells #[.string a1, .int .i64 v3, .int .i64 v5] 45)).of_block (hgrow.block _ (by simp; omega) (fun e => by have := (HB.out.2.1.lt _ e.symm).1; omega))
                      have hS4 : Strs w4 Lb ls := (HL.out.2.2.2.1.low ((Below.refl w3.heap.size w3).alloc (Nat.le_refl _) (.cells #[.string a1, .int .i64 v3, .int .i64 v5] 45))).of_block (hgrow.block Lb (by simp; omega) (fun e => by have := (HB.out.2.1.lt _ e.symm).1; omega)) (Nat.lt_of_lt_of_le (by omega : Lb < w3.heap.size) (Nat.le_trans (by simp) hgrow.size))
                      have hBd : Below w.heap.size w ((w3.alloc (.cells #[.string a1, .int .i64 v3, .int .i64 v5] 45)).drew) := belN (HL.out.2.2.1.alloc (by omega) _) 1
                      have hB4 : Below w.heap.size w w4 := hBd.grown hgrow (by simp; omega) (fun q e => by have := (HB.out.2.1.lt q e).1; omega)
                      have hs4 : B ≤ w4.heap.size := Nat.le_trans (by simp; omega) hgrow.size
                      have hst5 : StR (bs s) (w.heap.size + 1 + 1) B (k + 1) (w4.setCell ⟨w.heap.size + 1 + 1, 1, none⟩ (.slice (some ⟨gg, 0, none⟩) (acc.length + 1) cap')) := by
                        refine Or.inr ⟨acc ++ [tpV p], .slice (some ⟨gg, 0, none⟩) (acc.length + 1) cap', HB.out.2.2.1.1, HB.out.2.2.1.2.1, HB.out.2.2.1.2.2.1, HB.out.2.2.1.2.2.2, (by rw [HTE.out, HRE.out, HLE.out]; exact hG4.put 1 _), ?_⟩
                        rw [HB.out.2.2.2, tcl_snoc, List.length_append]
                        exact owns_keep hown' (fun j hj _ => Below.heap_setCell _ _ _ _ (by show j ≠ w.heap.size + 1 + 1; omega))
                      have H5 := Lib.hid (And.intro (hR4.setFar (p := ⟨w.heap.size + 1 + 1, 1, none⟩) (by simp; omega) (.slice (some ⟨gg, 0, none⟩) (acc.length + 1) cap')) (And.intro (hZ4.setFar (p := ⟨w.heap.size + 1 + 1, 1, none⟩) (by simp) (.slice (some ⟨gg, 0, none⟩) (acc.length + 1) cap')) (And.intro (hS4.setFar (g := w.heap.size + 1 + 1) (i := 1) (by omega) (.slice (some ⟨gg, 0, none⟩) (acc.length + 1) cap')) (And.intro (hB4.setCell (p := ⟨w.heap.size + 1 + 1, 1, none⟩) (by show w.heap.size ≤ w.heap.size + 1 + 1; omega) (.slice (some ⟨gg, 0, none⟩) (acc.length + 1) cap')) hst5))))
                      clear hR4 hZ4 hS4 hBd hB4 hst5 hgrow hown' hG4 HL HB hat
                      go_wp2
                      go_roundw
                      case rel => exact ⟨k + 1, by omega, by go_num, H5.out.1, H5.out.2.1, H5.out.2.2.1, H5.out.2.2.2.1, by simp [World.setCell]; exact hs4, H5.out.2.2.2.2⟩
                      case measure => simp [intOf]; omega
              · have ha4 : (a4.toList == [100, 101, 112, 116, 104]) = false := by rw [str_lit]; exact decide_eq_false ea4
                have ha4' : (a4.toList != [100, 101, 112, 116, 104]) = true := by rw [bne, ha4]; rfl
                have hE := paE_line (n := k + 1) Hnl.out (ln_bad HL.out.2.2.2.2.1 HL.out.2.2.2.2.2.1 (by rw [if_neg hk0]; rw [HP.out.2.1]; simp [ea4])) (by omega)
                have HE : Hid (paE (bs s) = 11 ∧ paN (bs s) = (k : Int) + 1) := Lib.hid ⟨hE.1, by rw [hE.2]; simp⟩
                have hR := HL.out.1
                have hZ := HL.out.2.1
                have hB := HL.out.2.2.1
                clear hE HL HP Hv
                have z0 := hR.frozen 0
                have z1 := hR.frozen 1
                have z2 := hR.frozen 2
                have z3 := hR.frozen 3
                have y0 := hR.cell (i := 0) rfl
                have y1 := hR.cell (i := 1) rfl
                have y2 := hR.cell (i := 2) rfl
                have y3 := hR.cell (i := 3) rfl
                have x0 := hZ.cell (i := 0) rfl
                have x1 := hZ.cell (i := 1) rfl
                have x2 := hZ.cell (i := 2) rfl
                have x3 := hZ.cell (i := 3) rfl
                have hR5 := (((hR.put 0 (.int .i64 0)).put 1 (.slice none 0 0)).put 2 (.int .i64 0)).put 3 (.int .i64 0)
                have hB5 := (((hB.setCell (p := ⟨w.heap.size, 0, none⟩) (Nat.le_refl _) (.int .i64 0)).setCell (p := ⟨w.heap.size, 1, none⟩) (Nat.le_refl _) (.slice none 0 0)).setCell (p := ⟨w.heap.size, 2, none⟩) (Nat.le_refl _) (.int .i64 0)).setCell (p := ⟨w.heap.size, 3, none⟩) (Nat.le_refl _) (.int .i64 0)
                have H5 := Lib.hid (And.intro hR5 hB5)
                clear hR5 hB5 hR hZ hB
                go_wp2
                have d0 := H5.out.1.cell (i := 0) rfl
                have d1 := H5.out.1.cell (i := 1) rfl
                have d2 := H5.out.1.cell (i := 2) rfl
                have d3 := H5.out.1.cell (i := 3) rfl
                exact bodyPost_ret (v := .tuple #[cfg 0 none 0 0 0 0, .int .i64 ((k : Int) + 1), .int .i64 11]) (by simp [results, Tryd.results23, go_sem, d0, d1, d2, d3]) rfl (ParPost.bad HE.out.1 (by decide) HE.out.2 H5.out.2)
            · have ha2 : (a2.toList == [119, 111, 114, 100, 115]) = false := by rw [str_lit]; exact decide_eq_false ea2
              have ha2' : (a2.toList != [119, 111, 114, 100, 115]) = true := by rw [bne, ha2]; rfl
              have hE := paE_line (n := k + 1) Hnl.out (ln_bad HL.out.2.2.2.2.1 HL.out.2.2.2.2.2.1 (by rw [if_neg hk0]; rw [HP.out.2.1]; simp [ea2])) (by omega)
              have HE : Hid (paE (bs s) = 11 ∧ paN (bs s) = (k : Int) + 1) := Lib.hid ⟨hE.1, by rw [hE.2]; simp⟩
              have hR := HL.out.1
              have hZ := HL.out.2.1
              have hB := HL.out.2.2.1
              clear hE HL HP Hv
              have z0 := hR.frozen 0
              have z1 := hR.frozen 1
              have z2 := hR.frozen 2
              have z3 := hR.frozen 3
              have y0 := hR.cell (i := 0) rfl
              have y1 := hR.cell (i := 1) rfl
              have y2 := hR.cell (i := 2) rfl
              have y3 := hR.cell (i := 3) rfl
              have x0 := hZ.cell (i := 0) rfl
              have x1 := hZ.cell (i := 1) rfl
              have x2 := hZ.cell (i := 2) rfl
              have x3 := hZ.cell (i := 3) rfl
              have hR5 := (((hR.put 0 (.int .i64 0)).put 1 (.slice none 0 0)).put 2 (.int .i64 0)).put 3 (.int .i64 0)
              have hB5 := (((hB.setCell (p := ⟨w.heap.size, 0, none⟩) (Nat.le_refl _) (.int .i64 0)).setCell (p := ⟨w.heap.size, 1, none⟩) (Nat.le_refl _) (.slice none 0 0)).setCell (p := ⟨w.heap.size, 2, none⟩) (Nat.le_refl _) (.int .i64 0)).setCell (p := ⟨w.heap.size, 3, none⟩) (Nat.le_refl _) (.int .i64 0)
              have H5 := Lib.hid (And.intro hR5 hB5)
              clear hR5 hB5 hR hZ hB
              go_wp2
              have d0 := H5.out.1.cell (i := 0) rfl
              have d1 := H5.out.1.cell (i := 1) rfl
              have d2 := H5.out.1.cell (i := 2) rfl
              have d3 := H5.out.1.cell (i := 3) rfl
              exact bodyPost_ret (v := .tuple #[cfg 0 none 0 0 0 0, .int .i64 ((k : Int) + 1), .int .i64 11]) (by simp [results, Tryd.results23, go_sem, d0, d1, d2, d3]) rfl (ParPost.bad HE.out.1 (by decide) HE.out.2 H5.out.2)
          · have ha0 : (a0.toList == [116, 111, 112, 105, 99]) = false := by rw [str_lit]; exact decide_eq_false ea0
            have ha0' : (a0.toList != [116, 111, 112, 105, 99]) = true := by rw [bne, ha0]; rfl
            have hE := paE_line (n := k + 1) Hnl.out (ln_bad HL.out.2.2.2.2.1 HL.out.2.2.2.2.2.1 (by rw [if_neg hk0]; rw [HP.out.2.1]; simp [ea0])) (by omega)
            have HE : Hid (paE (bs s) = 11 ∧ paN (bs s) = (k : Int) + 1) := Lib.hid ⟨hE.1, by rw [hE.2]; simp⟩
            have hR := HL.out.1
            have hZ := HL.out.2.1
            have hB := HL.out.2.2.1
            clear hE HL HP Hv
            have z0 := hR.frozen 0
            have z1 := hR.frozen 1
            have z2 := hR.frozen 2
            have z3 := hR.frozen 3
            have y0 := hR.cell (i := 0) rfl
            have y1 := hR.cell (i := 1) rfl
            have y2 := hR.cell (i := 2) rfl
            have y3 := hR.cell (i := 3) rfl
            have x0 := hZ.cell (i := 0) rfl
            have x1 := hZ.cell (i := 1) rfl
            have x2 := hZ.cell (i := 2) rfl
            have x3 := hZ.cell (i := 3) rfl
            have hR5 := (((hR.put 0 (.int .i64 0)).put 1 (.slice none 0 0)).put 2 (.int .i64 0)).put 3 (.int .i64 0)
            have hB5 := (((hB.setCell (p := ⟨w.heap.size, 0, none⟩) (Nat.le_refl _) (.int .i64 0)).setCell (p := ⟨w.heap.size, 1, none⟩) (Nat.le_refl _) (.slice none 0 0)).setCell (p := ⟨w.heap.size, 2, none⟩) (Nat.le_refl _) (.int .i64 0)).setCell (p := ⟨w.heap.size, 3, none⟩) (Nat.le_refl _) (.int .i64 0)
            have H5 := Lib.hid (And.intro hR5 hB5)
            clear hR5 hB5 hR hZ hB
            go_wp2
            have d0 := H5.out.1.cell (i := 0) rfl
            have d1 := H5.out.1.cell (i := 1) rfl
            have d2 := H5.out.1.cell (i := 2) rfl
            have d3 := H5.out.1.cell (i := 3) rfl
            exact bodyPost_ret (v := .tuple #[cfg 0 none 0 0 0 0, .int .i64 ((k : Int) + 1), .int .i64 11]) (by simp [results, Tryd.results23, go_sem, d0, d1, d2, d3]) rfl (ParPost.bad HE.out.1 (by decide) HE.out.2 H5.out.2)
      · have h6' : ((ws.length : Int) != 6) = true := by rw [bne_iff_ne]; omega
        have hop : ∀ x y z, opB x y z (spl 32 p) = false := fun x y z => by rw [← hws]; exact opB_len (by rw [List.length_map]; exact h6)
        have hE := paE_line (n := k + 1) Hnl.out (ln_bad hst hdp (by
          split
          · unfold hdB; rw [hop]; rfl
          · unfold tpB; rw [hop]; rfl)) (by omega)
        have HE : Hid (paE (bs s) = 11 ∧ paN (bs s) = (k : Int) + 1) := Lib.hid ⟨hE.1, by rw [hE.2]; simp⟩
        clear hE hop hst hdp hd2 hSl hSt3 hws
        have z0 := hR.frozen 0
        have z1 := hR.frozen 1
        have z2 := hR.frozen 2
        have z3 := hR.frozen 3
        have y0 := hR.cell (i := 0) rfl
        have y1 := hR.cell (i := 1) rfl
        have y2 := hR.cell (i := 2) rfl
        have y3 := hR.cell (i := 3) rfl
        have x0 := hZ.cell (i := 0) rfl
        have x1 := hZ.cell (i := 1) rfl
        have x2 := hZ.cell (i := 2) rfl
        have x3 := hZ.cell (i := 3) rfl
        have hR5 := (((hR.put 0 (.int .i64 0)).put 1 (.slice none 0 0)).put 2 (.int .i64 0)).put 3 (.int .i64 0)
        have hB5 := (((hB.setCell (p := ⟨w.heap.size, 0, none⟩) (Nat.le_refl _) (.int .i64 0)).setCell (p := ⟨w.heap.size, 1, none⟩) (Nat.le_refl _) (.slice none 0 0)).setCell (p := ⟨w.heap.size, 2, none⟩) (Nat.le_refl _) (.int .i64 0)).setCell (p := ⟨w.heap.size, 3, none⟩) (Nat.le_refl _) (.int .i64 0)
        have H5 := Lib.hid (And.intro hR5 hB5)
        clear hR5 hB5 hR hZ hB
        go_wp2
        have d0 := H5.out.1.cell (i := 0) rfl
        have d1 := H5.out.1.cell (i := 1) rfl
        have d2 := H5.out.1.cell (i := 2) rfl
        have d3 := H5.out.1.cell (i := 3) rfl
        exact bodyPost_ret (v := .tuple #[cfg 0 none 0 0 0 0, .int .i64 ((k : Int) + 1), .int .i64 11]) (by simp [results, Tryd.results23, go_sem, d0, d1, d2, d3]) rfl (ParPost.bad HE.out.1 (by decide) HE.out.2 H5.out.2)
end Go.Proofs.YthdchoagdipplaaDoor
