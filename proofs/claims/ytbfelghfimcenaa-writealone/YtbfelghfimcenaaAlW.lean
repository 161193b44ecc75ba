/- WriteAlone: its walk. -/
import Derived.Test.YtbfelghfimcenaaLaM
import Derived.Test.YtbfelghfimcenaaClo
import Derived.Test.YtbfelghfimcenaaArgR
import Derived.Deep.RegionHeld3
import Derived.BigQuiet
namespace Go.Proofs.Ytbfelghfimcenaa
open Go.RowKit

abbrev bs (n d : Int) : Obj := .cells #[.int .i64 0, .int .i64 1, .int .i64 2, .int .i64 n, .int .i64 d] 23
/-- A spot's cells, and one more. -/
def SpC (sp : Nat) (n d : Int) (p : Addr) (v : Value) (w : World) : Prop := Blk w sp (spc 0 1 2 n d) ∧ w.cell? p = some v
def TwC (p1 : Addr) (v1 : Value) (p2 : Addr) (v2 : Value) (w : World) : Prop := w.cell? p1 = some v1 ∧ w.cell? p2 = some v2
theorem cell_low {A B : World} {p : Addr} {v : Value} (h : Below A.heap.size A B) (c : A.cell? p = some v) : B.cell? p = some v := by
  rw [h.cell (World.block_lt_of_cell? _ _ c)]
  exact c

set_option maxRecDepth 100000 in
set_option maxHeartbeats 2000000 in
theorem alo_few (a : Option Addr) (l cap : Nat) (d : Int) (w : World) (h : l < 1 ∨ 12 < l) : Calls Try.prog 4 #[.slice a l cap, .int .i64 d] w (True1 w) := by
  rcases (show (l : Int) < 1 ∨ (1 ≤ (l : Int) ∧ 12 < (l : Int)) by omega) with k | ⟨k1, k2⟩
  all_goals
    clear h
    go_enter Try.func4, Try.ntmps4
    go_wp2_with fail
    refine (awake_any _).mono ?_
    rintro e w1 ⟨rfl, hu1⟩
    have H1 := Lib.hid hu1
    clear hu1
    go_wp2
    go_ret
    exact ⟨rfl, H1.out⟩
set_option maxRecDepth 100000 in
set_option maxHeartbeats 2000000 in
theorem alo_bad (b off l cap : Nat) (d : Int) (w : World) (a0 : Option Addr) (n c0 : Nat) (h1 : 1 ≤ l) (h2 : l ≤ 12) (hc : w.cell? ⟨b, off, none⟩ = some (.slice a0 n c0)) (h : ¬ (1 ≤ n ∧ n ≤ 64 ∧ 2 ≤ d ∧ d ≤ 16)) : Calls Try.prog 4 #[.slice (some ⟨b, off, none⟩) l cap, .int .i64 d] w (True1 w) := by
  have k1 : 1 ≤ (l : Int) := by omega
  have k2 : (l : Int) ≤ 12 := by omega
  have k0 : (0 : Int) < l := by omega
  clear h1 h2
  rcases (show (n : Int) < 1 ∨ (1 ≤ (n : Int) ∧ 64 < (n : Int)) ∨ (1 ≤ (n : Int) ∧ (n : Int) ≤ 64 ∧ d < 2) ∨ (1 ≤ (n : Int) ∧ (n : Int) ≤ 64 ∧ 2 ≤ d ∧ 16 < d) by omega) with k | ⟨k3, k4⟩ | ⟨k3, k4, k5⟩ | ⟨k3, k4, k5, k6⟩
  all_goals
    clear h
    go_enter Try.func4, Try.ntmps4
    go_wp2_with fail
    refine (awake_any _).mono ?_
    rintro e w1 ⟨rfl, hu1⟩
    have H1 := Lib.hid hu1
    clear hu1
    go_wp2
    go_ret
    exact ⟨rfl, H1.out⟩
theorem wrap_sub (q A : Nat) (h : A ≤ q) (h2 : (q : Int) ≤ 1026) : IntKind.i64.wrap ((q : Int) - A) = ((q - A : Nat) : Int) := by
  rw [IntKind.wrap_i64]
  omega
theorem rep0 (n i : Nat) (h : i < n) : (List.replicate n (0 : Int))[i]? = some 0 := by
  rw [List.getElem?_replicate, if_pos h]
/-- The outer loop's head. -/
def AlRel (w : World) (b bg sp : Nat) (n d m : Nat) (i : Value) (wr : World) : Prop :=
  ∃ (k : Nat) (xs : List Int) (t : Int), i = .int .i64 k ∧ k ≤ m ∧ xs.length = 2 + n * d ∧ xs[0]? = some 0 ∧ xs[1]? = some (2 * (k : Int)) ∧ Bk wr b bg xs t ∧ 0 ≤ t ∧ t ≤ 67 * k ∧ Blk wr sp (spc 0 1 2 n d) ∧ Below w.heap.size w wr
/-- What stays while one record is published. -/
structure AlK (w : World) (b bg sp b2 g2 o g : Nat) (n d k : Nat) (ws xs : List Int) (t0 : Int) (wr : World) : Prop where
  spot : Blk wr sp (spc 0 1 2 n d)
  was : Bk wr b2 g2 xs t0
  bel : Below w.heap.size w wr
/-- The steps' loop. -/
def AlRel2 (w : World) (b bg sp b2 g2 o g : Nat) (n d k : Nat) (ws xs : List Int) (t0 : Int) (i : Value) (wr : World) : Prop :=
  ∃ (j : Nat) (x : St) (zs : List Int), i = .int .i64 (j + 1) ∧ j ≤ n + 3 ∧ AlInv n d k ws xs j x zs ∧ OpAt wr o g (spS n d) ws x ∧ Bk wr b bg zs (t0 + j) ∧ Wf (spS n d) ws x ∧ x.steps = j ∧ AlK w b bg sp b2 g2 o g n d k ws xs t0 wr
/-- The words' loop. -/
def AlRel3 (w : World) (b bg sp b2 g2 o g : Nat) (n d k : Nat) (ws xs zs : List Int) (t0 t1 : Int) (i : Value) (wr : World) : Prop :=
  ∃ q : Nat, i = .int .i64 q ∧ 2 ≤ q ∧ q ≤ zs.length ∧ Bk wr b bg zs t1 ∧ AlK w b bg sp b2 g2 o g n d k ws xs t0 wr
theorem AlK.low {w : World} {b bg sp b2 g2 o g n d k : Nat} {ws xs : List Int} {t0 : Int} {A B : World} (h : AlK w b bg sp b2 g2 o g n d k ws xs t0 A) (u : Below A.heap.size A B) : AlK w b bg sp b2 g2 o g n d k ws xs t0 B :=
  ⟨h.spot.low u, h.was.below u, h.bel.trans (u.mono h.bel.size)⟩

set_option maxRecDepth 100000 in
set_option maxHeartbeats 8000000 in
theorem alo_walk (lb loff : Nat) (rs : List Rw) (cap : Nat) (d : Nat) (w : World) (hR : Rws w.heap.size w (some ⟨lb, loff, none⟩) rs) (h1 : 1 ≤ rs.length) (h2 : rs.length ≤ 12) (r0 : Rw) (hr0 : rs[0]? = some r0) (n : Nat) (hn : r0.2.2.length = n) (n1 : 1 ≤ n) (n2 : n ≤ 64) (d1 : 2 ≤ d) (d2 : d ≤ 16) :
    Calls Try.prog 4 #[.slice (some ⟨lb, loff, none⟩) rs.length cap, .int .i64 (d : Int)] w (True1 w) := by
  have HR := Lib.hid hR
  have Hr0 : Hid (∀ W, Below w.heap.size w W → W.cell? ⟨lb, loff, none⟩ = some (.slice r0.1 n r0.2.1)) := Lib.hid (fun W hW => by
    obtain ⟨_, b', off', e, _, hc⟩ := (hR.keep hW) 0 r0 hr0
    cases e
    rw [hn] at hc
    exact hc)
  have Hnw : Hid (nwE (spS n d) n 1 = 0) := Lib.hid (by
    unfold nwE
    rw [if_pos ((mb_iff _ _).2 ⟨by unfold Rt spS; simp only; omega, by omega, by omega⟩), if_pos (show (n : Int) = (spS n d).wd from rfl)])
  have Hs := Lib.hid (fun w => spot_ok n d n1 n2 d1 d2 w)
  have k1 : 1 ≤ (rs.length : Int) := by omega
  have k2 : (rs.length : Int) ≤ 12 := by omega
  have k0 : (0 : Int) < rs.length := by omega
  have k3 : 1 ≤ (n : Int) := by omega
  have k4 : (n : Int) ≤ 64 := by omega
  have k5 : 2 ≤ (d : Int) := by omega
  have k6 : (d : Int) ≤ 16 := by omega
  have c0 := Hr0.out w (Below.refl _ _)
  have Hb := Lib.hid (And.intro n1 (And.intro n2 (And.intro d1 d2)))
  have Hh2 := Lib.hid h2
  clear hR h1 h2 hr0 hn n1 n2 d1 d2
  generalize r0.1 = a0 at *
  generalize r0.2.1 = cap0 at *
  clear r0
  go_enter Try.func4, Try.ntmps4
  go_wp2_with fail
  refine (Hs.out _).mono ?_
  rintro e w1 ⟨b, bg, hb, hg, rfl, hk1, hb1⟩
  have hk2 := hk1.alloc (bs n d)
  have hb2 := hb1.alloc hb1.size (bs n d)
  have hC := Blk.new w1 #[.int .i64 0, .int .i64 1, .int .i64 2, .int .i64 n, .int .i64 d] 23
  have hsz : w1.heap.size < (w1.alloc (bs n d)).heap.size := by simp
  have hq : b < w1.heap.size ∧ bg < w1.heap.size ∧ w.heap.size ≤ w1.heap.size := ⟨hk1.ltb, hk1.ltg, hb1.size⟩
  have H1 := Lib.hid (And.intro hk2 (And.intro hb2 (And.intro hC (And.intro hsz hq))))
  clear hk1 hb1 hk2 hb2 hC hsz hq Hs c0
  go_wp2_with fail
  generalize w1.alloc (bs n d) = w2 at H1 ⊢
  generalize w1.heap.size = sp at *
  obtain ⟨hk2, hb2, hC2, hsz, hq1, hq2, hq3⟩ := H1.out
  have hbs : b ≠ sp ∧ bg ≠ sp := by omega
  obtain ⟨hbs1, hbs2⟩ := hbs
  clear H1 hsz hq1 hq2
  go_loopw [8] (fun i wr => AlRel w b bg sp n d rs.length i wr) (fun i _ => rs.length - (intOf i).toNat)
  case atStart => exact ⟨0, _, 0, rfl, by omega, by simp, rep0 _ 0 (by omega), rep0 _ 1 (by omega), hk2, by omega, by omega, hC2, hb2⟩
  case round =>
    clear hk2 hb2 hC2
    obtain ⟨k, xs, t, rfl, hkm, hxl, hx0, hx1, hK, t0, t1, hC, hu⟩ := hrel
    by_cases hlt : (k : Int) < rs.length
    · have hkk : k < rs.length := by omega
      have HC := Lib.hid (And.intro hK (And.intro hC hu))
      have Hx := Lib.hid (And.intro hxl (And.intro hx0 hx1))
      have Ht := Lib.hid (And.intro t0 t1)
      obtain ⟨_, lb', loff', e, llt, cr⟩ := (HR.out.keep hu) k _ (List.getElem?_eq_getElem hkk)
      cases e
      have Hrk : Hid (rs[k]? = some rs[k]) := Lib.hid (List.getElem?_eq_getElem hkk)
      generalize rs[k] = r at *
      obtain ⟨ra, rcap, ws⟩ := r
      dsimp only at cr
      have c0 := Hr0.out wr hu
      clear hK hC hu hxl hx0 hx1 t0 t1
      go_wp2_with fail
      go_quiet (fail)
      by_cases hwn : ws.length = n
      · subst hwn
        have m0 : ((ws.length : Int) != ws.length) = false := by simp
        clear cr c0
        have HD : Hid (Bk (wr.drewN nq) b bg xs t ∧ Blk (wr.drewN nq) sp (spc 0 1 2 ws.length d) ∧ Below w.heap.size w (wr.drewN nq)) := Lib.hid ⟨HC.out.1.drewN nq, blkN HC.out.2.1 nq, belN HC.out.2.2 nq⟩
        clear HC
        generalize wr.drewN nq = W0 at HD ⊢
        go_wp2_with fail
        refine (clone_any b bg xs t _ HD.out.1 (by have := Hx.out.1; have := Hb.out; have : ws.length * d ≤ 64 * 16 := Nat.mul_le_mul this.2.1 this.2.2.2; omega)).mono ?_
        rintro e W1 ⟨b2, g2, hb2, hg2, rfl, hK2, hu1⟩
        obtain ⟨hK, hC, hu⟩ := HD.out
        have hC1 := hC.low hu1
        have lC := hC.lt
        have lb1 := hK.ltb
        have lg1 := hK.ltg
        have hu2 := hu.trans (hu1.mono hu.size)
        obtain ⟨hWk, lb', loff', e, llt', cr⟩ := (HR.out.keep hu2) k _ Hrk.out
        cases e
        dsimp only at cr hWk
        have hd : b2 ≠ b ∧ b2 ≠ bg ∧ g2 ≠ b ∧ g2 ≠ bg ∧ b2 ≠ sp ∧ g2 ≠ sp := by omega
        have HE := Lib.hid (And.intro (hK.below hu1) (And.intro hC1 (And.intro hu2 (And.intro hK2 (And.intro hWk (And.intro cr hd))))))
        clear HD hK hC hu hC1 lC lb1 lg1 hu2 hWk hK2 hu1 hd hb2 hg2
        go_wp2_with fail
        have HF : Hid (Bk W1.drew b bg xs t ∧ Blk W1.drew sp (spc 0 1 2 ws.length d) ∧ Below w.heap.size w W1.drew ∧ Wds w.heap.size W1.drew ra ws ∧ Bk W1.drew b2 g2 xs t ∧ W1.drew.cell? ⟨lb, loff + k, none⟩ = some (.slice ra ws.length rcap)) :=
          Lib.hid ⟨HE.out.1.drew, HE.out.2.1, belN HE.out.2.2.1 1, HE.out.2.2.2.2.1.keep (belN (Below.refl _ _) 1), HE.out.2.2.2.1.drew, HE.out.2.2.2.2.2.1⟩
        have hne := HE.out.2.2.2.2.2.2
        obtain ⟨q1, q2, q3, q4, q5, q6⟩ := hne
        clear HE cr
        refine wp_region_held_drew (S := SpC sp ws.length d ⟨lb, loff + k, none⟩ (.slice ra ws.length rcap)) (by kernel_rfl) (⟨HF.out.2.1, HF.out.2.2.2.2.2⟩) (fun hHeld => ?_)
        refine wpAnyH_take (i := 0) (v := ?v1) rfl (by kernel_rfl) (by kernel_rfl) (by kernel_rfl) (fun _ _ _ h => h) (Or.inl ⟨by rfl, ?y1⟩) hHeld ?r1
        case y1 => (intro w hSw; obtain ⟨hSp, cS⟩ := hSw; have e0 := hSp.cell (i := 0) rfl; have e1 := hSp.cell (i := 1) rfl; have e2 := hSp.cell (i := 2) rfl; have e3 := hSp.cell (i := 3) rfl; have e4 := hSp.cell (i := 4) rfl; clear hSp; go_simp; try with_reducible rfl)
        simp only [List.getElem_toArray, List.getElem_cons_zero, Act.put, List.setIfInBounds_toArray, List.set_cons_zero, List.set_cons_succ]
        refine wpAnyH_take (i := 1) (v := ?v2) rfl (by kernel_rfl) (by kernel_rfl) (by kernel_rfl) (fun _ _ _ h => h) (Or.inl ⟨by rfl, ?y2⟩) hHeld ?r2
        case y2 => (intro w hSw; obtain ⟨hSp, cS⟩ := hSw; have e0 := hSp.cell (i := 0) rfl; have e1 := hSp.cell (i := 1) rfl; have e2 := hSp.cell (i := 2) rfl; have e3 := hSp.cell (i := 3) rfl; have e4 := hSp.cell (i := 4) rfl; clear hSp; go_simp; try with_reducible rfl)
        simp only [List.getElem_toArray, List.getElem_cons_zero, List.getElem_cons_succ, Act.put, List.setIfInBounds_toArray, List.set_cons_zero, List.set_cons_succ]
        refine wpAnyH_take (i := 2) (v := ?v3) rfl (by kernel_rfl) (by kernel_rfl) (by kernel_rfl) (fun _ _ _ h => h) (Or.inl ⟨by rfl, ?y3⟩) hHeld ?r3
        case y3 => (intro w hSw; obtain ⟨hSp, cS⟩ := hSw; have e0 := hSp.cell (i := 0) rfl; have e1 := hSp.cell (i := 1) rfl; have e2 := hSp.cell (i := 2) rfl; have e3 := hSp.cell (i := 3) rfl; have e4 := hSp.cell (i := 4) rfl; clear hSp; go_simp; try with_reducible rfl)
        simp only [List.getElem_toArray, List.getElem_cons_zero, List.getElem_cons_succ, Act.put, List.setIfInBounds_toArray, List.set_cons_zero, List.set_cons_succ]
        refine wpAnyH_take (i := 3) (v := ?v4) rfl (by kernel_rfl) (by kernel_rfl) (by kernel_rfl) (fun _ _ _ h => h) (Or.inl ⟨by rfl, ?y4⟩) hHeld ?r4
        case y4 => (intro w hSw; obtain ⟨hSp, cS⟩ := hSw; have e0 := hSp.cell (i := 0) rfl; have e1 := hSp.cell (i := 1) rfl; have e2 := hSp.cell (i := 2) rfl; have e3 := hSp.cell (i := 3) rfl; have e4 := hSp.cell (i := 4) rfl; clear hSp; go_simp; try with_reducible rfl)
        simp only [List.getElem_toArray, List.getElem_cons_zero, List.getElem_cons_succ, Act.put, List.setIfInBounds_toArray, List.set_cons_zero, List.set_cons_succ]
        refine wpAnyH_take (i := 4) (v := ?v5) rfl (by kernel_rfl) (by kernel_rfl) (by kernel_rfl) (fun _ _ _ h => h) (Or.inl ⟨by rfl, ?y5⟩) hHeld ?r5
        case y5 => (intro w hSw; obtain ⟨hSp, cS⟩ := hSw; have e0 := hSp.cell (i := 0) rfl; have e1 := hSp.cell (i := 1) rfl; have e2 := hSp.cell (i := 2) rfl; have e3 := hSp.cell (i := 3) rfl; have e4 := hSp.cell (i := 4) rfl; clear hSp; go_simp; try with_reducible rfl)
        simp only [List.getElem_toArray, List.getElem_cons_zero, List.getElem_cons_succ, Act.put, List.setIfInBounds_toArray, List.set_cons_zero, List.set_cons_succ]
        refine wpAnyH_ready (rs := [5]) (by kernel_rfl) (by simp) (AllReadyH.cons rfl (fun K hK => ?_) AllReadyH.nil)
        go_simp
        refine (newo_ok (spS ws.length d) ra ws rcap 1 _ w.heap.size HF.out.2.2.1.size HF.out.2.2.2.1 Hnw.out).mono ?_
        rintro e W2 ⟨o, g, ho, hgo, rfl, hO, hu3⟩
        have hcr := cell_low hu3 HF.out.2.2.2.2.2
        have hkk2 := HF.out.1.below hu3
        have hl1 := HF.out.1.ltb
        have hl2 := HF.out.1.ltg
        have hl3 := HF.out.2.2.2.2.1.ltb
        have hl4 := HF.out.2.2.2.2.1.ltg
        have hl5 := HF.out.2.1.lt
        have HG := Lib.hid (And.intro hkk2 (And.intro (HF.out.2.1.low hu3) (And.intro (HF.out.2.2.1.trans (hu3.mono HF.out.2.2.1.size)) (And.intro (HF.out.2.2.2.2.1.below hu3) (And.intro hO (And.intro hcr (show o ≠ b ∧ o ≠ bg ∧ g ≠ b ∧ g ≠ bg ∧ o ≠ b2 ∧ o ≠ g2 ∧ g ≠ b2 ∧ g ≠ g2 ∧ o ≠ sp ∧ w.heap.size ≤ o by have := HF.out.2.2.1.size; omega)))))))
        clear hcr hkk2 hl1 hl2 hl3 hl4 hl5 hO hu3 ho hgo
        go_wp2_with fail
        refine hK.out _ _ (⟨HG.out.2.1, HG.out.2.2.2.2.2.1⟩) (fun hHeld => ?_)
        clear hK K
        refine wpAnyH_take (i := 6) (v := ?v7) rfl (by kernel_rfl) (by kernel_rfl) (by kernel_rfl) (fun _ _ _ h => h) (Or.inl ⟨by rfl, ?y7⟩) hHeld ?r7
        case y7 => (intro w hSw; obtain ⟨hSp, cS⟩ := hSw; have e0 := hSp.cell (i := 0) rfl; have e1 := hSp.cell (i := 1) rfl; have e2 := hSp.cell (i := 2) rfl; have e3 := hSp.cell (i := 3) rfl; have e4 := hSp.cell (i := 4) rfl; clear hSp; go_simp; try with_reducible rfl)
        simp only [List.getElem_toArray, List.getElem_cons_zero, List.getElem_cons_succ, Act.put, List.setIfInBounds_toArray, List.set_cons_zero, List.set_cons_succ]
        refine wpAnyH_take (i := 7) (v := ?v8) rfl (by kernel_rfl) (by kernel_rfl) (by kernel_rfl) (fun _ _ _ h => h) (Or.inl ⟨by rfl, ?y8⟩) hHeld ?r8
        case y8 => (intro w hSw; obtain ⟨hSp, cS⟩ := hSw; have e0 := hSp.cell (i := 0) rfl; have e1 := hSp.cell (i := 1) rfl; have e2 := hSp.cell (i := 2) rfl; have e3 := hSp.cell (i := 3) rfl; have e4 := hSp.cell (i := 4) rfl; clear hSp; go_simp; try with_reducible rfl)
        simp only [List.getElem_toArray, List.getElem_cons_zero, List.getElem_cons_succ, Act.put, List.setIfInBounds_toArray, List.set_cons_zero, List.set_cons_succ]
        refine wpAnyH_take (i := 8) (v := ?v9) rfl (by kernel_rfl) (by kernel_rfl) (by kernel_rfl) (fun _ _ _ h => h) (Or.inl ⟨by rfl, ?y9⟩) hHeld ?r9
        case y9 => (intro w hSw; obtain ⟨hSp, cS⟩ := hSw; have e0 := hSp.cell (i := 0) rfl; have e1 := hSp.cell (i := 1) rfl; have e2 := hSp.cell (i := 2) rfl; have e3 := hSp.cell (i := 3) rfl; have e4 := hSp.cell (i := 4) rfl; clear hSp; go_simp; try with_reducible rfl)
        simp only [List.getElem_toArray, List.getElem_cons_zero, List.getElem_cons_succ, Act.put, List.setIfInBounds_toArray, List.set_cons_zero, List.set_cons_succ]
        refine wpAnyH_take (i := 9) (v := ?v10) rfl (by kernel_rfl) (by kernel_rfl) (by kernel_rfl) (fun _ _ _ h => h) (Or.inl ⟨by rfl, ?y10⟩) hHeld ?r10
        case y10 => (intro w hSw; obtain ⟨hSp, cS⟩ := hSw; have e0 := hSp.cell (i := 0) rfl; have e1 := hSp.cell (i := 1) rfl; have e2 := hSp.cell (i := 2) rfl; have e3 := hSp.cell (i := 3) rfl; have e4 := hSp.cell (i := 4) rfl; clear hSp; go_simp; try with_reducible rfl)
        simp only [List.getElem_toArray, List.getElem_cons_zero, List.getElem_cons_succ, Act.put, List.setIfInBounds_toArray, List.set_cons_zero, List.set_cons_succ]
        refine wpAnyH_take (i := 10) (v := ?v11) rfl (by kernel_rfl) (by kernel_rfl) (by kernel_rfl) (fun _ _ _ h => h) (Or.inl ⟨by rfl, ?y11⟩) hHeld ?r11
        case y11 => (intro w hSw; obtain ⟨hSp, cS⟩ := hSw; have e0 := hSp.cell (i := 0) rfl; have e1 := hSp.cell (i := 1) rfl; have e2 := hSp.cell (i := 2) rfl; have e3 := hSp.cell (i := 3) rfl; have e4 := hSp.cell (i := 4) rfl; clear hSp; go_simp; try with_reducible rfl)
        simp only [List.getElem_toArray, List.getElem_cons_zero, List.getElem_cons_succ, Act.put, List.setIfInBounds_toArray, List.set_cons_zero, List.set_cons_succ]
        refine wpAnyH_done (by kernel_rfl) ?_ _
        clear hHeld HF
        have c0 := Hr0.out W2 HG.out.2.2.1
        go_wp2_with fail
        clear c0
        obtain ⟨hK, hC, hu, hK2, hO, _, p1, p2, p3, p4, p5, p6, p7, p8, p9, p10⟩ := HG.out
        clear HG
        have HK0 := Lib.hid (And.intro hK (And.intro hC (And.intro hu (And.intro hK2 hO))))
        clear hK hC hu hK2 hO
        have Hp := Lib.hid (And.intro p1 (And.intro p2 (And.intro p3 (And.intro p4 (And.intro p5 (And.intro p6 (And.intro p7 (And.intro p8 (And.intro p9 p10)))))))))
        clear p1 p2 p3 p4 p5 p6 p7 p8 p9 p10
        have Hq := Lib.hid (And.intro q1 (And.intro q2 (And.intro q3 (And.intro q4 (And.intro q5 q6)))))
        clear q1 q2 q3 q4 q5 q6
        go_loopw [13] (fun i wr => AlRel2 w b bg sp b2 g2 o g ws.length d k ws xs t i wr) (fun i _ => ws.length + 4 - (intOf i).toNat)
        case atStart =>
          obtain ⟨hK, hC, hu, hK2, hO⟩ := HK0.out
          exact ⟨0, _, _, rfl, by omega, ⟨rfl, rfl, .inl ⟨rfl, rfl, rfl⟩⟩, hO, by rw [show t + ((0 : Nat) : Int) = t by omega]; exact hK, wf0 Hnw.out ((HR.out k _ Hrk.out).1.us), rfl, ⟨hC, hK2, hu⟩⟩
        case round =>
          clear HK0
          obtain ⟨j, x, zs, rfl, hj, hA, hO, hK, hwf, hst, hAK⟩ := hrel
          obtain ⟨p1, p2, p3, p4, p5, p6, p7, p8, p9, p10⟩ := Hp.out
          obtain ⟨b1, b2', b3, b4⟩ := Hb.out
          obtain ⟨hxl, hx0, hx1⟩ := Hx.out
          obtain ⟨t0, t1⟩ := Ht.out
          have hk12 : k ≤ 11 := by have := Hh2.out; omega
          by_cases hjn : j < ws.length + 3
          · obtain ⟨a1, a2, a3, a4⟩ := al_step b1 b2' b3 b4 (by omega) hxl rfl hx1 hA hjn
            have hwf2 := wf_stp hwf hK.rng
            have Hst := Lib.hid (step_any hO hK p1 p2 p3 p4 hwf (by omega) (by omega) (by omega) (by omega))
            have Htc := Lib.hid (touches_any b bg _ _ _ hK)
            generalize stp (spS ws.length d) ws zs x = r at *
            have Ha2 := Lib.hid a2
            have HA := Lib.hid (And.intro a1 (And.intro hwf2 a3))
            have HAK := Lib.hid hAK
            have Ha4 := Lib.hid a4
            have i1 : (j : Int) + 1 ≤ (ws.length : Int) + 3 := by omega
            have i2 : (j : Int) ≤ 67 := by omega
            have i3 : 0 ≤ (j : Int) := by omega
            have t2 : t + (j : Int) ≤ 1000000 := by omega
            have t3 : 0 ≤ t + (j : Int) := by omega
            have Hbb := Lib.hid (And.intro hb hg)
            clear a1 a2 a3 a4 hwf2 hwf hst hAK hA hO hK hxl hx0 hx1 t0 t1 b1 b2' b3 b4 hj hk12
            generalize htt : t + (j : Int) = tj at *
            have Htt := Lib.hid htt
            clear htt
            go_wp2_with fail
            refine Htc.out.mono ?_
            rintro e w' ⟨rfl, rfl⟩
            clear Htc
            go_wp2_with fail
            refine Hst.out.mono ?_
            rintro e W3 ⟨rfl, hO3, hK3, hu3⟩
            rw [Ha2.out] at hK3
            clear Hst Ha2
            have nO : ∀ q, q ≠ o → q ≠ b → q ≠ bg → ¬ OwnS o b bg q := fun q c1 c2 c3 c => by rcases c with c | c | c <;> contradiction
            obtain ⟨q1, q2, q3, q4, q5, q6⟩ := Hq.out
            have hAK3 : AlK w b bg sp b2 g2 o g ws.length d k ws xs t W3 :=
              ⟨HAK.out.spot.of_block (hu3.block sp HAK.out.spot.lt (nO _ p9.symm hbs1.symm hbs2.symm)), HAK.out.was.upd hu3 (nO _ p5.symm q1 q2) (nO _ p6.symm q3 q4), Below.ownS HAK.out.bel hu3 HAK.out.bel.size p10 Hbb.out.1 Hbb.out.2⟩
            have HO3 := Lib.hid (And.intro hO3 (And.intro hK3 hAK3))
            clear hu3 hO3 hK3 hAK3 q1 q2 q3 q4 q5 q6 nO HAK
            go_wp2_with fail
            refine (touches_any b bg _ _ _ HO3.out.2.1).mono ?_
            rintro e w' ⟨rfl, rfl⟩
            have Hps := Lib.hid (steps_any HO3.out.1)
            rw [HA.out.2.2] at Hps
            go_wp2_with fail
            refine Hps.out.mono ?_
            rintro e w' ⟨rfl, rfl⟩
            clear Hps
            by_cases hend : j + 1 = ws.length + 3
            · have e4 := Ha4.out
              rw [if_pos hend] at e4
              rw [e4]
              have i5 : ((j : Int) + 1 == (ws.length : Int) + 3) = true := by simp; omega
              have i6 : decide ((j : Int) + 1 < (ws.length : Int) + 3) = false := by simp; omega
              have Hi := Lib.hid hend
              clear e4 Ha4 hend
              go_wp2_with fail
              go_roundw
              case rel => exact ⟨j + 1, _, _, by go_num, by omega, HA.out.1, HO3.out.1, by rw [show t + ((j + 1 : Nat) : Int) = tj + 1 by have := Htt.out; omega]; exact HO3.out.2.1, HA.out.2.1, by have := HA.out.2.2; omega, HO3.out.2.2⟩
              case measure => simp [intOf]; omega
            · have e4 := Ha4.out
              rw [if_neg hend] at e4
              rw [e4]
              have i5 : ((j : Int) + 1 == (ws.length : Int) + 3) = false := by simp; omega
              have i6 : decide ((j : Int) + 1 < (ws.length : Int) + 3) = true := by simp; omega
              have Hi := Lib.hid hend
              clear e4 Ha4 hend
              go_wp2_with fail
              go_roundw
              case rel => exact ⟨j + 1, _, _, by go_num, by omega, HA.out.1, HO3.out.1, by rw [show t + ((j + 1 : Nat) : Int) = tj + 1 by have := Htt.out; omega]; exact HO3.out.2.1, HA.out.2.1, by have := HA.out.2.2; omega, HO3.out.2.2⟩
              case measure => simp [intOf]; omega
          · obtain rfl : j = ws.length + 3 := by omega
            obtain ⟨hA1, hA2, hA3⟩ := hA
            have hA4 : x = ⟨1, 3 + ws.length, 1, 3, ws.length, 2 * k⟩ ∧ zs[1]? = some (2 * (k : Int) + 2) ∧ Laid (plc ws.length d k) ws.length ws xs zs := by
              rcases hA3 with ⟨c, _⟩ | ⟨c, _⟩ | ⟨m, c, c2, _⟩ | ⟨_, e1, e2, e3⟩
              · omega
              · omega
              · omega
              · exact ⟨e1, e2, e3⟩
            obtain ⟨rfl, hz1, hLd⟩ := hA4
            have hz0 : zs[0]? = some 0 := hA2.trans hx0
            have ei : (((ws.length + 3 : Nat) : Int) + 1) = (ws.length : Int) + 4 := by omega
            rw [ei]
            have et : t + ((ws.length + 3 : Nat) : Int) = t + ws.length + 3 := by omega
            rw [et] at hK
            have Hgn := Lib.hid (gen_any hO hwf.s)
            rw [if_pos rfl] at Hgn
            dsimp only at Hgn
            rw [show 2 * (k : Int) / 2 + 1 = k + 1 by omega] at Hgn
            have HE := Lib.hid (And.intro hO (And.intro hK hAK))
            have HZ := Lib.hid (And.intro hz1 (And.intro hz0 (And.intro hLd (And.intro hA1 (And.intro hx1 hx0)))))
            have HT : Hid (0 ≤ t + ws.length + 3 ∧ t + ws.length + 3 ≤ 67 * (k + 1)) := Lib.hid (by omega)
            have HAt : Hid (∀ W, Calls Try.prog 26 #[.agg #[.int .i64 0, .int .i64 1, .int .i64 2, .int .i64 ws.length, .int .i64 d], .int .u64 ((k : Int) + 1)] W (Ret (.int .i64 (plc ws.length d k : Int)) W)) := Lib.hid (fun W => by
              have := at_any 0 1 2 ws.length d ((k : Int) + 1) W (by omega) (by omega)
              rw [plc_at b1 b2' b3 b4] at this
              exact this)
            have Hpi := Lib.hid (plc_in (n := ws.length) (d := d) (k := k) b3)
            have Hzl : Hid (zs.length = 2 + ws.length * d ∧ zs.length ≤ 1026) := Lib.hid (by have : ws.length * d ≤ 64 * 16 := Nat.mul_le_mul b2' b4; omega)
            have kk1 : (k : Int) ≤ 11 := by omega
            have kk2 : 0 ≤ (k : Int) := by omega
            clear hA1 hA2 hA3 hz1 hz0 hLd hO hK hAK hx0 hx1 hxl hwf hst ei et t0 t1 b1 b2' b3 b4 hj hk12 hjn p1 p2 p3 p4 p5 p6 p7 p8 p9 p10
            generalize hT1 : t + (ws.length : Int) + 3 = T1 at *
            clear hT1
            generalize hpl : plc ws.length d k = A at *
            have Hpl := Lib.hid hpl
            clear hpl
            go_wp2_with fail
            refine (touches_any b bg _ _ _ HE.out.2.1).mono ?_
            rintro e w' ⟨rfl, rfl⟩
            go_wp2_with fail
            refine Hgn.out.mono ?_
            rintro e w' ⟨rfl, rfl⟩
            clear Hgn
            go_wp2_with fail
            refine (peek_in b bg _ _ _ 1 _ HE.out.2.1 HZ.out.1).mono ?_
            rintro e V1 ⟨rfl, hK1, hu1⟩
            have HE1 := Lib.hid (And.intro (HE.out.1.below hu1) (And.intro hK1 (HE.out.2.2.low hu1)))
            clear hK1 hu1 HE
            go_wp2_with fail
            refine (step_ended HE1.out.1 _ (by show ¬ (1 : Int) = 0; omega)).mono ?_
            rintro e w' ⟨rfl, rfl⟩
            go_wp2_with fail
            refine (touches_any b bg _ _ _ HE1.out.2.1).mono ?_
            rintro e w' ⟨rfl, rfl⟩
            go_wp2_with fail
            refine (peek_in b bg _ _ _ 0 _ HE1.out.2.1 HZ.out.2.1).mono ?_
            rintro e V2 ⟨rfl, hK2, hu2⟩
            have HE2 := Lib.hid (And.intro hK2 (HE1.out.2.2.low hu2))
            have hSp := HE2.out.2.spot
            have e0 := hSp.cell (i := 0) rfl
            have e1 := hSp.cell (i := 1) rfl
            have e2 := hSp.cell (i := 2) rfl
            have e3 := hSp.cell (i := 3) rfl
            have e4 := hSp.cell (i := 4) rfl
            clear hSp hK2 hu2 HE1
            go_wp2_with fail
            refine (HAt.out _).mono ?_
            rintro e V3 ⟨rfl, hu3⟩
            clear e0 e1 e2 e3 e4 HAt
            have hK3 := HE2.out.1.below hu3
            have hA3 := HE2.out.2.low hu3
            clear HE2 hu3
            go_wp2_with fail
            go_loopw [18] (fun i wr => AlRel3 w b bg sp b2 g2 o g ws.length d k ws xs zs t T1 i wr) (fun i _ => zs.length - (intOf i).toNat)
            case atStart => exact ⟨2, rfl, by omega, by have := Hzl.out.1; omega, hK3, hA3⟩
            case round =>
              clear hK3 hA3
              obtain ⟨q, rfl, hq2, hqz, hK, hAK⟩ := hrel
              have HE := Lib.hid (And.intro hK hAK)
              have c0 := Hr0.out _ hAK.bel
              have hu := hAK.bel
              obtain ⟨zl1, zl2⟩ := Hzl.out
              clear hK hAK
              by_cases hlt2 : (q : Int) < zs.length
              · have hqq : q < zs.length := by omega
                have hzq : zs[q]? = some zs[q] := List.getElem?_eq_getElem hqq
                have hLq := HZ.out.2.2.1 q hq2
                rw [hzq] at hLq
                have hxq : q < xs.length := by have := HZ.out.2.2.2.1; omega
                have q1 : (q : Int) ≤ 1026 := by omega
                have q0 : (2 : Int) ≤ q := by omega
                obtain ⟨pi1, pi2⟩ := Hpi.out
                have a0' : (0 : Int) ≤ A := by omega
                have a1' : (A : Int) ≤ 1026 := by omega
                generalize zs[q] = zv at *
                have Hqq := Lib.hid (And.intro hzq (And.intro hqq hxq))
                have Hz3 := Lib.hid (And.intro zl1 (And.intro zl2 hqz))
                clear hzq hqq hxq pi1 pi2 zl1 zl2 hqz
                by_cases hin : A ≤ q ∧ q < A + ws.length
                · rw [if_pos hin] at hLq
                  obtain ⟨hin1, hin2⟩ := hin
                  obtain ⟨_, lb', loff', e, llt', cr⟩ := (HR.out.keep hu) k _ Hrk.out
                  cases e
                  dsimp only at cr
                  obtain ⟨_, rb, roff, re, rlt, cw⟩ := ((HR.out.keep hu) k _ Hrk.out).1 (q - A) _ hLq.symm
                  dsimp only at re
                  have Hre := Lib.hid re
                  have g1 : (A : Int) ≤ q := by omega
                  have g2' : (q : Int) < (A : Int) + ws.length := by omega
                  have g3 : ((q - A : Nat) : Int) < ws.length := by omega
                  have hw := wrap_sub q A hin1 q1
                  have Hin := Lib.hid (And.intro hin1 hin2)
                  have HS : Hid (TwC ⟨lb, loff + k, none⟩ (.slice (some ⟨rb, roff, none⟩) ws.length rcap) ⟨rb, roff + (q - A), none⟩ (.int .u64 zv) wr) := Lib.hid ⟨by rw [← re]; exact cr, cw⟩
                  clear hin1 hin2 re cr cw hLq hu
                  go_wp2_with fail
                  refine (len_any b bg _ _ _ HE.out.1).mono ?_
                  rintro e w' ⟨rfl, rfl⟩
                  go_wp2_with fail
                  clear c0
                  have HD : Hid (Bk wr.drew b bg zs T1 ∧ AlK w b bg sp b2 g2 o g ws.length d k ws xs t wr.drew ∧ TwC ⟨lb, loff + k, none⟩ (.slice (some ⟨rb, roff, none⟩) ws.length rcap) ⟨rb, roff + (q - A), none⟩ (.int .u64 zv) wr.drew) :=
                    Lib.hid ⟨HE.out.1.drew, HE.out.2.low (belN (Below.refl _ _) 1), HS.out⟩
                  clear HE HS
                  refine wp_region_held_drew (S := TwC ⟨lb, loff + k, none⟩ (.slice (some ⟨rb, roff, none⟩) ws.length rcap) ⟨rb, roff + (q - A), none⟩ (.int .u64 zv)) (by kernel_rfl) (HD.out.2.2) (fun hHeld => ?_)
                  refine wpAnyH_take (i := 0) (v := ?v12) rfl (by kernel_rfl) (by kernel_rfl) (by kernel_rfl) (fun _ _ _ h => h) (Or.inl ⟨by rfl, ?y12⟩) hHeld ?r12
                  case y12 => (intro w hSw; obtain ⟨cS, cT⟩ := hSw; go_simp; try with_reducible rfl)
                  simp only [List.getElem_toArray, List.getElem_cons_zero, Act.put, List.setIfInBounds_toArray, List.set_cons_zero, List.set_cons_succ]
                  refine wpAnyH_take (i := 1) (v := ?v13) rfl (by kernel_rfl) (by kernel_rfl) (by kernel_rfl) (fun _ _ _ h => h) (Or.inl ⟨by rfl, ?y13⟩) hHeld ?r13
                  case y13 => (intro w hSw; obtain ⟨cS, cT⟩ := hSw; go_simp; try with_reducible rfl)
                  simp only [List.getElem_toArray, List.getElem_cons_zero, List.getElem_cons_succ, Act.put, List.setIfInBounds_toArray, List.set_cons_zero, List.set_cons_succ]
                  refine wpAnyH_take (i := 3) (v := ?v14) rfl (by kernel_rfl) (by kernel_rfl) (by kernel_rfl) (fun _ _ _ h => h) (Or.inl ⟨by rfl, ?y14⟩) hHeld ?r14
                  case y14 => (intro w hSw; obtain ⟨cS, cT⟩ := hSw; go_simp; try with_reducible rfl)
                  simp only [List.getElem_toArray, List.getElem_cons_zero, List.getElem_cons_succ, Act.put, List.setIfInBounds_toArray, List.set_cons_zero, List.set_cons_succ]
                  refine wpAnyH_take (i := 4) (v := ?v15) rfl (by kernel_rfl) (by kernel_rfl) (by kernel_rfl) (fun _ _ _ h => h) (Or.inl ⟨by rfl, ?y15⟩) hHeld ?r15
                  case y15 => (intro w hSw; obtain ⟨cS, cT⟩ := hSw; go_simp; try with_reducible rfl)
                  simp only [List.getElem_toArray, List.getElem_cons_zero, List.getElem_cons_succ, Act.put, List.setIfInBounds_toArray, List.set_cons_zero, List.set_cons_succ]
                  refine wpAnyH_take (i := 5) (v := ?v16) rfl (by kernel_rfl) (by kernel_rfl) (by kernel_rfl) (fun _ _ _ h => h) (Or.inl ⟨by rfl, ?y16⟩) hHeld ?r16
                  case y16 => (intro w hSw; obtain ⟨cS, cT⟩ := hSw; go_simp; try with_reducible rfl)
                  simp only [List.getElem_toArray, List.getElem_cons_zero, List.getElem_cons_succ, Act.put, List.setIfInBounds_toArray, List.set_cons_zero, List.set_cons_succ]
                  refine wpAnyH_take (i := 6) (v := ?v17) rfl (by kernel_rfl) (by kernel_rfl) (by kernel_rfl) (fun _ _ _ h => h) (Or.inl ⟨by rfl, ?y17⟩) hHeld ?r17
                  case y17 => (intro w hSw; obtain ⟨cS, cT⟩ := hSw; go_simp; try with_reducible rfl)
                  simp only [List.getElem_toArray, List.getElem_cons_zero, List.getElem_cons_succ, Act.put, List.setIfInBounds_toArray, List.set_cons_zero, List.set_cons_succ]
                  refine wpAnyH_take (i := 7) (v := ?v18) rfl (by kernel_rfl) (by kernel_rfl) (by kernel_rfl) (fun _ _ _ h => h) (Or.inl ⟨by rfl, ?y18⟩) hHeld ?r18
                  case y18 => (intro w hSw; obtain ⟨cS, cT⟩ := hSw; go_simp; try with_reducible rfl)
                  simp only [List.getElem_toArray, List.getElem_cons_zero, List.getElem_cons_succ, Act.put, List.setIfInBounds_toArray, List.set_cons_zero, List.set_cons_succ]
                  refine wpAnyH_take (i := 8) (v := ?v19) rfl (by kernel_rfl) (by kernel_rfl) (by kernel_rfl) (fun _ _ _ h => h) (Or.inl ⟨by rfl, ?y19⟩) hHeld ?r19
                  case y19 => (intro w hSw; obtain ⟨cS, cT⟩ := hSw; go_simp; try with_reducible rfl)
                  simp only [List.getElem_toArray, List.getElem_cons_zero, List.getElem_cons_succ, Act.put, List.setIfInBounds_toArray, List.set_cons_zero, List.set_cons_succ]
                  refine wpAnyH_take (i := 9) (v := .int .i64 ((q - A : Nat) : Int)) rfl (by kernel_rfl) (by kernel_rfl) (by kernel_rfl) (fun _ _ _ h => h) (Or.inl ⟨by rfl, ?y20⟩) hHeld ?r20
                  case y20 => (intro w hSw; obtain ⟨cS, cT⟩ := hSw; go_simp; try with_reducible rfl)
                  simp only [List.getElem_toArray, List.getElem_cons_zero, List.getElem_cons_succ, Act.put, List.setIfInBounds_toArray, List.set_cons_zero, List.set_cons_succ]
                  refine wpAnyH_take (i := 10) (v := ?v21) rfl (by kernel_rfl) (by kernel_rfl) (by kernel_rfl) (fun _ _ _ h => h) (Or.inl ⟨by rfl, ?y21⟩) hHeld ?r21
                  case y21 => (intro w hSw; obtain ⟨cS, cT⟩ := hSw; go_simp; try with_reducible rfl)
                  simp only [List.getElem_toArray, List.getElem_cons_zero, List.getElem_cons_succ, Act.put, List.setIfInBounds_toArray, List.set_cons_zero, List.set_cons_succ]
                  refine wpAnyH_take (i := 11) (v := ?v22) rfl (by kernel_rfl) (by kernel_rfl) (by kernel_rfl) (fun _ _ _ h => h) (Or.inl ⟨by rfl, ?y22⟩) hHeld ?r22
                  case y22 => (intro w hSw; obtain ⟨cS, cT⟩ := hSw; go_simp; try with_reducible rfl)
                  simp only [List.getElem_toArray, List.getElem_cons_zero, List.getElem_cons_succ, Act.put, List.setIfInBounds_toArray, List.set_cons_zero, List.set_cons_succ]
                  refine wpAnyH_ready (rs := [2]) (by kernel_rfl) (by simp) (AllReadyH.cons rfl (fun K hK => ?_) AllReadyH.nil)
                  go_simp
                  refine (peek_in b bg _ _ zv q _ HD.out.1 Hqq.out.1).mono ?_
                  rintro e V4 ⟨rfl, hK4, hu4⟩
                  have HE4 := Lib.hid (And.intro hK4 (HD.out.2.1.low hu4))
                  have HS4 := Lib.hid (show TwC ⟨lb, loff + k, none⟩ (.slice (some ⟨rb, roff, none⟩) ws.length rcap) ⟨rb, roff + (q - A), none⟩ (.int .u64 zv) V4 from ⟨cell_low hu4 HD.out.2.2.1, cell_low hu4 HD.out.2.2.2⟩)
                  clear hK4 hu4
                  go_wp2_with fail
                  refine hK.out _ _ (HS4.out) (fun hHeld => ?_)
                  clear hK K
                  refine wpAnyH_take (i := 12) (v := ?v24) rfl (by kernel_rfl) (by kernel_rfl) (by kernel_rfl) (fun _ _ _ h => h) (Or.inl ⟨by rfl, ?y24⟩) hHeld ?r24
                  case y24 => (intro w hSw; obtain ⟨cS, cT⟩ := hSw; go_simp; try with_reducible rfl)
                  simp only [List.getElem_toArray, List.getElem_cons_zero, List.getElem_cons_succ, Act.put, List.setIfInBounds_toArray, List.set_cons_zero, List.set_cons_succ]
                  refine wpAnyH_done (by kernel_rfl) ?_ _
                  clear hHeld HD
                  go_wp2_with fail
                  go_roundw
                  case rel => exact ⟨q + 1, by go_num, by omega, by have := Hqq.out; omega, HE4.out.1, HE4.out.2⟩
                  case measure => simp [intOf]; have := Hqq.out; omega
                · rw [if_neg hin] at hLq
                  have g1 : ((q : Int) < A) ∨ ((A : Int) ≤ q ∧ (A : Int) + ws.length ≤ q) := by omega
                  have Hin := Lib.hid hin
                  clear hin hu
                  rcases g1 with g1 | ⟨g1, g2'⟩
                  all_goals
                    go_wp2_with fail
                    refine (len_any b bg _ _ _ HE.out.1).mono ?_
                    rintro e w' ⟨rfl, rfl⟩
                    go_wp2_with fail
                    refine (peek_in b bg _ _ zv q _ HE.out.1 Hqq.out.1).mono ?_
                    rintro e V4 ⟨rfl, hK4, hu4⟩
                    have HE4 := Lib.hid (And.intro hK4 (HE.out.2.low hu4))
                    clear hK4 hu4 c0
                    go_wp2_with fail
                    refine (peek_in b2 g2 _ _ zv q _ HE4.out.2.was hLq.symm).mono ?_
                    rintro e V5 ⟨rfl, _, hu5⟩
                    have HE5 := Lib.hid (And.intro (HE4.out.1.below hu5) (HE4.out.2.low hu5))
                    clear hu5 HE4
                    go_wp2_with fail
                    go_roundw
                    case rel => exact ⟨q + 1, by go_num, by omega, by have := Hqq.out; omega, HE5.out.1, HE5.out.2⟩
                    case measure => simp [intOf]; have := Hqq.out; omega
              · obtain rfl : q = zs.length := by omega
                clear c0 hu
                go_wp2_with fail
                refine (len_any b bg _ _ _ HE.out.1).mono ?_
                rintro e w' ⟨rfl, rfl⟩
                go_wp2_with fail
                go_roundw
                case rel => exact ⟨k + 1, zs, T1, by go_num, by omega, zl1, HZ.out.2.1, by rw [show 2 * ((k + 1 : Nat) : Int) = 2 * (k : Int) + 2 by omega]; exact HZ.out.1, HE.out.1, HT.out.1, by have := HT.out.2; omega, HE.out.2.spot, HE.out.2.bel⟩
                case measure => simp [intOf]; omega
      · have m0 : ((ws.length : Int) != n) = true := by simp; omega
        have Hu := Lib.hid (belN HC.out.2.2 nq)
        clear HC cr c0
        go_wp2_with fail
        refine (awake_any _).mono ?_
        rintro e w5 ⟨rfl, hb5⟩
        have H5 := Lib.hid (Hu.out.trans (hb5.mono Hu.out.size))
        clear hb5 Hu
        go_wp2
        go_ret
        exact ⟨rfl, H5.out⟩
    · obtain rfl : k = rs.length := by omega
      have Hu := Lib.hid hu
      clear hK hC hu hxl hx0 hx1 t0 t1
      go_wp2_with fail
      refine (awake_any _).mono ?_
      rintro e w5 ⟨rfl, hb5⟩
      have H5 := Lib.hid (Hu.out.trans (hb5.mono Hu.out.size))
      clear hb5 Hu
      go_wp2
      go_ret
      exact ⟨rfl, H5.out⟩
theorem alo_law (a : Option Addr) (rs : List Rw) (cap : Nat) (d : Int) (w : World) (hR : Rws w.heap.size w a rs) : Calls Try.prog 4 #[.slice a rs.length cap, .int .i64 d] w (True1 w) := by
  by_cases h : 1 ≤ rs.length ∧ rs.length ≤ 12
  · obtain ⟨h1, h2⟩ := h
    have hr0 : rs[0]? = some (rs[0]'(by omega)) := List.getElem?_eq_getElem _
    obtain ⟨_, lb, loff, rfl, _, hc⟩ := hR 0 _ hr0
    generalize rs[0]'(by omega) = r0 at *
    by_cases k : 1 ≤ r0.2.2.length ∧ r0.2.2.length ≤ 64 ∧ 2 ≤ d ∧ d ≤ 16
    · obtain ⟨n1, n2, d1, d2⟩ := k
      obtain ⟨e, rfl⟩ := Int.eq_ofNat_of_zero_le (by omega : 0 ≤ d)
      exact alo_walk lb loff rs cap e w hR h1 h2 r0 hr0 _ rfl n1 n2 (by omega) (by omega)
    · exact alo_bad lb loff rs.length cap d w r0.1 r0.2.2.length r0.2.1 h1 h2 hc k
  · exact alo_few a rs.length cap d w (by omega)
end Go.Proofs.Ytbfelghfimcenaa
