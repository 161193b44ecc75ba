/- WriteSteps: its walk. -/
import Derived.Test.YtbfelghfimcenaaSpB
namespace Go.Proofs.Ytbfelghfimcenaa
open Go.RowKit

set_option maxRecDepth 100000 in
set_option maxHeartbeats 8000000 in
theorem steps_walk (n : Nat) (S : Sp) (J : Nat → Jb) (aa : Option Addr) (acl : List (Int × Int × Int)) (ac : Nat) (w : World) (hJ : ∀ k, k < 3 → Wds w.heap.size w (J k).1 (J k).2.2.1) (hA : Acs w.heap.size w aa acl) (n1 : 1 ≤ n) (n2 : n ≤ 60) (hm : acl.length ≤ 200) (hl : lnB (J 0).2.2.1.length (J 1).2.2.1.length (J 2).2.2.1.length = false) :
    Calls Try.prog 3 #[.int .i64 (n : Int), spV S, .agg (jbc J (.slice aa acl.length ac)).toArray] w (True1 w) := by
  have HJ := Lib.hid hJ
  have HA := Lib.hid hA
  have Hb := Lib.hid (And.intro n1 (And.intro n2 hm))
  have Hl := Lib.hid (fun W => long_any (J 0).1 (J 1).1 (J 2).1 (J 0).2.2.1.length (J 1).2.2.1.length (J 2).2.2.1.length (J 0).2.1 (J 1).2.1 (J 2).2.1 (J 0).2.2.2 (J 1).2.2.2 (J 2).2.2.2 W)
  rw [hl] at Hl
  have hbx := (Blk.new (w.alloc (sb S)) (jbc J (.slice aa acl.length ac)).toArray 30)
  simp only [World.size_alloc] at hbx
  have HB := Lib.hid (And.intro (((Below.refl w.heap.size w).alloc (Nat.le_refl _) (sb S)).alloc (by simp) (.cells (jbc J (.slice aa acl.length ac)).toArray 30)) (And.intro ((Blk.new w #[.int .i64 S.ow, .int .i64 S.sq, .int .i64 S.fs, .int .i64 S.wd, .int .i64 S.dp] 23).alloc (.cells (jbc J (.slice aa acl.length ac)).toArray 30)) (And.intro hbx
    (show ((w.alloc (sb S)).alloc (.cells (jbc J (.slice aa acl.length ac)).toArray 30)).heap.size = w.heap.size + 2 by simp))))
  unfold jbc at HB ⊢
  have k1 : 1 ≤ (n : Int) := by omega
  have k2 : (n : Int) ≤ 60 := by omega
  have k3 : (acl.length : Int) ≤ 200 := by omega
  have hmk := make_w n n2
  clear hJ hA hm hl hbx
  go_enter Try.func3, Try.ntmps3
  go_wp2_with fail
  generalize ((w.alloc (sb S)).alloc _) = w0 at HB ⊢
  refine (Hl.out _).mono ?_
  rintro e w1 ⟨rfl, hu1⟩
  have H1 := Lib.hid (And.intro (HB.out.1.trans (hu1.mono HB.out.1.size)) (And.intro (HB.out.2.1.low hu1) (And.intro (HB.out.2.2.1.low hu1) (show w.heap.size + 2 ≤ w1.heap.size by have := HB.out.2.2.2; have := hu1.size; omega))))
  clear hu1 HB Hl
  go_wp2_with fail
  refine (new_ok n _ n1 (by omega)).mono ?_
  rintro e w2 ⟨b, bg, hb, hg, rfl, hk2, hu2⟩
  have H2 : Hid (∃ W0, W0 = (((w2.alloc (.cells (zeros n) 49)).alloc (.cells #[.pointer none, .pointer none, .pointer none] 38)).alloc (.cells #[.pointer none, .pointer none, .pointer none] 40)) ∧ SpMem w ⟨b, bg, w.heap.size, w.heap.size + 1, w2.heap.size, w2.heap.size + 1, w2.heap.size + 1 + 1⟩ S J (.slice aa acl.length ac) (fun _ => none) 0 (List.replicate n 0) 0 W0 ∧ Bks.dis ⟨b, bg, w.heap.size, w.heap.size + 1, w2.heap.size, w2.heap.size + 1, w2.heap.size + 1 + 1⟩ w) := by
    obtain ⟨x1, x2, x3, x4⟩ := H1.out
    have hbl := x1.trans (hu2.mono x1.size)
    have s1 := hu2.size
    have s2 := hk2.ltb
    have s3 := hk2.ltg
    refine Lib.hid ⟨_, rfl, ⟨((hk2.alloc _).alloc _).alloc _, ?_, (((x2.low hu2).alloc _).alloc _).alloc _, (((x3.low hu2).alloc _).alloc _).alloc _, ?_, ?_, fun _ _ _ _ _ c => (by cases c), fun _ _ _ _ _ _ _ _ _ _ _ c => (by cases c), ((hbl.alloc hbl.size _).alloc (by simp; omega) _).alloc (by simp; omega) _⟩, ⟨by show w.heap.size ≤ b; omega, by show w.heap.size ≤ bg; omega, by show w.heap.size ≤ w2.heap.size; omega, by show w.heap.size ≤ w2.heap.size + 1; omega, by show w.heap.size ≤ w2.heap.size + 1 + 1; omega, by dsimp only; omega, by dsimp only; omega, by dsimp only; omega, by dsimp only; omega, by dsimp only; omega⟩⟩
    · exact Row.alloc (Row.alloc (show Row (w2.alloc (.cells (zeros n) 49)) w2.heap.size (List.replicate n 0) from ⟨49, by
        show (w2.heap.push _)[w2.heap.size]? = _
        simp [zeros]⟩) _) _
    · have := Blk.new (w2.alloc (.cells (zeros n) 49)) #[.pointer none, .pointer none, .pointer none] 38
      simp only [World.size_alloc] at this
      exact this.alloc _
    · have := Blk.new ((w2.alloc (.cells (zeros n) 49)).alloc (.cells #[.pointer none, .pointer none, .pointer none] 38)) #[.pointer none, .pointer none, .pointer none] 40
      simp only [World.size_alloc] at this
      exact this
  clear hb hg hk2 hu2 H1
  go_wp2_with fail
  obtain ⟨W0, hW0, hM, hDs⟩ := H2.out
  rw [← hW0]
  clear hW0 H2 hmk
  generalize w2.heap.size + 1 + 1 = fb at *
  generalize w2.heap.size + 1 = ob at *
  generalize w2.heap.size = wb at *
  generalize w.heap.size + 1 = xb at *
  have HD := Lib.hid hDs
  clear hDs
  go_loopw [12] (fun k wr => SpRel w ⟨b, bg, w.heap.size, xb, wb, ob, fb⟩ S J (.slice aa acl.length ac) n k wr) (fun k _ => 3 - (intOf k).toNat)
  case atStart => exact ⟨0, _, rfl, by omega, fun _ _ => rfl, hM⟩
  case round =>
    clear hM
    obtain ⟨q, X, rfl, hq3, hX, hM⟩ := hrel
    by_cases hlt : (q : Int) < 3
    · have hk3 : q < 3 := by omega
      have q0 : 0 ≤ (q : Int) := by omega
      have HX := Lib.hid hX
      have HM := Lib.hid hM.drew
      have HWq := Lib.hid ((HJ.out q hk3).keep hM.drew.bel)
      clear hM hX
      by_cases hnw : nwE S (J q).2.2.1.length (J q).2.2.2 = 0
      · have Hnw := Lib.hid hnw
        clear hnw
        go_wp2_with fail
        refine wp_region_held_drew (S := SpJ w.heap.size xb q S (J q)) (by kernel_rfl) (HM.out.spj hk3) (fun hHeld => ?_)
        refine wpAnyH_take (i := 0) (v := ?v33) rfl (by kernel_rfl) (by kernel_rfl) (by kernel_rfl) (fun _ _ _ h => h) (Or.inl ⟨by rfl, ?y33⟩) hHeld ?r33
        case y33 => (intro w hSw; obtain ⟨hSp, cS, cT⟩ := hSw; have e0 := hSp.cell (i := 0) rfl; have e1 := hSp.cell (i := 1) rfl; have e2 := hSp.cell (i := 2) rfl; have e3 := hSp.cell (i := 3) rfl; have e4 := hSp.cell (i := 4) rfl; have el := hSp.lt; clear hSp; go_simp; try with_reducible rfl)
        simp only [List.getElem_toArray, List.getElem_cons_zero, Act.put, List.setIfInBounds_toArray, List.set_cons_zero, List.set_cons_succ]
        refine wpAnyH_take (i := 1) (v := ?v34) rfl (by kernel_rfl) (by kernel_rfl) (by kernel_rfl) (fun _ _ _ h => h) (Or.inl ⟨by rfl, ?y34⟩) hHeld ?r34
        case y34 => (intro w hSw; obtain ⟨hSp, cS, cT⟩ := hSw; have e0 := hSp.cell (i := 0) rfl; have e1 := hSp.cell (i := 1) rfl; have e2 := hSp.cell (i := 2) rfl; have e3 := hSp.cell (i := 3) rfl; have e4 := hSp.cell (i := 4) rfl; have el := hSp.lt; clear hSp; go_simp; try with_reducible rfl)
        simp only [List.getElem_toArray, List.getElem_cons_zero, List.getElem_cons_succ, Act.put, List.setIfInBounds_toArray, List.set_cons_zero, List.set_cons_succ]
        refine wpAnyH_take (i := 2) (v := ?v35) rfl (by kernel_rfl) (by kernel_rfl) (by kernel_rfl) (fun _ _ _ h => h) (Or.inl ⟨by rfl, ?y35⟩) hHeld ?r35
        case y35 => (intro w hSw; obtain ⟨hSp, cS, cT⟩ := hSw; have e0 := hSp.cell (i := 0) rfl; have e1 := hSp.cell (i := 1) rfl; have e2 := hSp.cell (i := 2) rfl; have e3 := hSp.cell (i := 3) rfl; have e4 := hSp.cell (i := 4) rfl; have el := hSp.lt; clear hSp; go_simp; try with_reducible rfl)
        simp only [List.getElem_toArray, List.getElem_cons_zero, List.getElem_cons_succ, Act.put, List.setIfInBounds_toArray, List.set_cons_zero, List.set_cons_succ]
        refine wpAnyH_take (i := 3) (v := ?v36) rfl (by kernel_rfl) (by kernel_rfl) (by kernel_rfl) (fun _ _ _ h => h) (Or.inl ⟨by rfl, ?y36⟩) hHeld ?r36
        case y36 => (intro w hSw; obtain ⟨hSp, cS, cT⟩ := hSw; have e0 := hSp.cell (i := 0) rfl; have e1 := hSp.cell (i := 1) rfl; have e2 := hSp.cell (i := 2) rfl; have e3 := hSp.cell (i := 3) rfl; have e4 := hSp.cell (i := 4) rfl; have el := hSp.lt; clear hSp; go_simp; try with_reducible rfl)
        simp only [List.getElem_toArray, List.getElem_cons_zero, List.getElem_cons_succ, Act.put, List.setIfInBounds_toArray, List.set_cons_zero, List.set_cons_succ]
        refine wpAnyH_take (i := 4) (v := ?v37) rfl (by kernel_rfl) (by kernel_rfl) (by kernel_rfl) (fun _ _ _ h => h) (Or.inl ⟨by rfl, ?y37⟩) hHeld ?r37
        case y37 => (intro w hSw; obtain ⟨hSp, cS, cT⟩ := hSw; have e0 := hSp.cell (i := 0) rfl; have e1 := hSp.cell (i := 1) rfl; have e2 := hSp.cell (i := 2) rfl; have e3 := hSp.cell (i := 3) rfl; have e4 := hSp.cell (i := 4) rfl; have el := hSp.lt; clear hSp; go_simp; try with_reducible rfl)
        simp only [List.getElem_toArray, List.getElem_cons_zero, List.getElem_cons_succ, Act.put, List.setIfInBounds_toArray, List.set_cons_zero, List.set_cons_succ]
        refine wpAnyH_take (i := 5) (v := ?v38) rfl (by kernel_rfl) (by kernel_rfl) (by kernel_rfl) (fun _ _ _ h => h) (Or.inl ⟨by rfl, ?y38⟩) hHeld ?r38
        case y38 => (intro w hSw; obtain ⟨hSp, cS, cT⟩ := hSw; have e0 := hSp.cell (i := 0) rfl; have e1 := hSp.cell (i := 1) rfl; have e2 := hSp.cell (i := 2) rfl; have e3 := hSp.cell (i := 3) rfl; have e4 := hSp.cell (i := 4) rfl; have el := hSp.lt; clear hSp; go_simp; try with_reducible rfl)
        simp only [List.getElem_toArray, List.getElem_cons_zero, List.getElem_cons_succ, Act.put, List.setIfInBounds_toArray, List.set_cons_zero, List.set_cons_succ]
        refine wpAnyH_take (i := 6) (v := ?v39) rfl (by kernel_rfl) (by kernel_rfl) (by kernel_rfl) (fun _ _ _ h => h) (Or.inl ⟨by rfl, ?y39⟩) hHeld ?r39
        case y39 => (intro w hSw; obtain ⟨hSp, cS, cT⟩ := hSw; have e0 := hSp.cell (i := 0) rfl; have e1 := hSp.cell (i := 1) rfl; have e2 := hSp.cell (i := 2) rfl; have e3 := hSp.cell (i := 3) rfl; have e4 := hSp.cell (i := 4) rfl; have el := hSp.lt; clear hSp; go_simp; try with_reducible rfl)
        simp only [List.getElem_toArray, List.getElem_cons_zero, List.getElem_cons_succ, Act.put, List.setIfInBounds_toArray, List.set_cons_zero, List.set_cons_succ]
        refine wpAnyH_take (i := 7) (v := ?v40) rfl (by kernel_rfl) (by kernel_rfl) (by kernel_rfl) (fun _ _ _ h => h) (Or.inl ⟨by rfl, ?y40⟩) hHeld ?r40
        case y40 => (intro w hSw; obtain ⟨hSp, cS, cT⟩ := hSw; have e0 := hSp.cell (i := 0) rfl; have e1 := hSp.cell (i := 1) rfl; have e2 := hSp.cell (i := 2) rfl; have e3 := hSp.cell (i := 3) rfl; have e4 := hSp.cell (i := 4) rfl; have el := hSp.lt; clear hSp; go_simp; try with_reducible rfl)
        simp only [List.getElem_toArray, List.getElem_cons_zero, List.getElem_cons_succ, Act.put, List.setIfInBounds_toArray, List.set_cons_zero, List.set_cons_succ]
        refine wpAnyH_take (i := 8) (v := ?v41) rfl (by kernel_rfl) (by kernel_rfl) (by kernel_rfl) (fun _ _ _ h => h) (Or.inl ⟨by rfl, ?y41⟩) hHeld ?r41
        case y41 => (intro w hSw; obtain ⟨hSp, cS, cT⟩ := hSw; have e0 := hSp.cell (i := 0) rfl; have e1 := hSp.cell (i := 1) rfl; have e2 := hSp.cell (i := 2) rfl; have e3 := hSp.cell (i := 3) rfl; have e4 := hSp.cell (i := 4) rfl; have el := hSp.lt; clear hSp; go_simp; try with_reducible rfl)
        simp only [List.getElem_toArray, List.getElem_cons_zero, List.getElem_cons_succ, Act.put, List.setIfInBounds_toArray, List.set_cons_zero, List.set_cons_succ]
        refine wpAnyH_take (i := 9) (v := ?v42) rfl (by kernel_rfl) (by kernel_rfl) (by kernel_rfl) (fun _ _ _ h => h) (Or.inl ⟨by rfl, ?y42⟩) hHeld ?r42
        case y42 => (intro w hSw; obtain ⟨hSp, cS, cT⟩ := hSw; have e0 := hSp.cell (i := 0) rfl; have e1 := hSp.cell (i := 1) rfl; have e2 := hSp.cell (i := 2) rfl; have e3 := hSp.cell (i := 3) rfl; have e4 := hSp.cell (i := 4) rfl; have el := hSp.lt; clear hSp; go_simp; try with_reducible rfl)
        simp only [List.getElem_toArray, List.getElem_cons_zero, List.getElem_cons_succ, Act.put, List.setIfInBounds_toArray, List.set_cons_zero, List.set_cons_succ]
        refine wpAnyH_take (i := 10) (v := ?v43) rfl (by kernel_rfl) (by kernel_rfl) (by kernel_rfl) (fun _ _ _ h => h) (Or.inl ⟨by rfl, ?y43⟩) hHeld ?r43
        case y43 => (intro w hSw; obtain ⟨hSp, cS, cT⟩ := hSw; have e0 := hSp.cell (i := 0) rfl; have e1 := hSp.cell (i := 1) rfl; have e2 := hSp.cell (i := 2) rfl; have e3 := hSp.cell (i := 3) rfl; have e4 := hSp.cell (i := 4) rfl; have el := hSp.lt; clear hSp; go_simp; try with_reducible rfl)
        simp only [List.getElem_toArray, List.getElem_cons_zero, List.getElem_cons_succ, Act.put, List.setIfInBounds_toArray, List.set_cons_zero, List.set_cons_succ]
        refine wpAnyH_ready (rs := [11]) (by kernel_rfl) (by simp) (AllReadyH.cons rfl (fun K hK => ?_) AllReadyH.nil)
        go_simp
        refine (newo_ok S (J q).1 (J q).2.2.1 (J q).2.1 (J q).2.2.2 _ w.heap.size HM.out.bel.size HWq.out Hnw.out).mono ?_
        rintro e W1 ⟨o, g, ho, hgo, rfl, hO, hu1⟩
        have HM1 : Hid (SpMem w ⟨b, bg, w.heap.size, xb, wb, ob, fb⟩ S J (.slice aa acl.length ac) X 0 (List.replicate n 0) 0 W1 ∧ OpAt W1 o g S (J q).2.2.1 (st0 (J q).2.2.2) ∧ Nwb w ⟨b, bg, w.heap.size, xb, wb, ob, fb⟩ X o ∧ Nwb w ⟨b, bg, w.heap.size, xb, wb, ob, fb⟩ X g) := Lib.hid ⟨HM.out.low hu1, hO, HM.out.nwb ho, HM.out.nwb hgo⟩
        clear hO hu1 ho hgo
        go_wp2_with fail
        refine hK.out _ _ (HM1.out.1.spj hk3) (fun hHeld => ?_)
        clear hK K
        refine wpAnyH_take (i := 12) (v := ?v45) rfl (by kernel_rfl) (by kernel_rfl) (by kernel_rfl) (fun _ _ _ h => h) (Or.inl ⟨by rfl, ?y45⟩) hHeld ?r45
        case y45 => (intro w hSw; obtain ⟨hSp, cS, cT⟩ := hSw; have e0 := hSp.cell (i := 0) rfl; have e1 := hSp.cell (i := 1) rfl; have e2 := hSp.cell (i := 2) rfl; have e3 := hSp.cell (i := 3) rfl; have e4 := hSp.cell (i := 4) rfl; have el := hSp.lt; clear hSp; go_simp; try with_reducible rfl)
        simp only [List.getElem_toArray, List.getElem_cons_zero, List.getElem_cons_succ, Act.put, List.setIfInBounds_toArray, List.set_cons_zero, List.set_cons_succ]
        refine wpAnyH_take (i := 13) (v := ?v46) rfl (by kernel_rfl) (by kernel_rfl) (by kernel_rfl) (fun _ _ _ h => h) (Or.inl ⟨by rfl, ?y46⟩) hHeld ?r46
        case y46 => (intro w hSw; obtain ⟨hSp, cS, cT⟩ := hSw; have e0 := hSp.cell (i := 0) rfl; have e1 := hSp.cell (i := 1) rfl; have e2 := hSp.cell (i := 2) rfl; have e3 := hSp.cell (i := 3) rfl; have e4 := hSp.cell (i := 4) rfl; have el := hSp.lt; clear hSp; go_simp; try with_reducible rfl)
        simp only [List.getElem_toArray, List.getElem_cons_zero, List.getElem_cons_succ, Act.put, List.setIfInBounds_toArray, List.set_cons_zero, List.set_cons_succ]
        refine wpAnyH_take (i := 14) (v := ?v47) rfl (by kernel_rfl) (by kernel_rfl) (by kernel_rfl) (fun _ _ _ h => h) (Or.inl ⟨by rfl, ?y47⟩) hHeld ?r47
        case y47 => (intro w hSw; obtain ⟨hSp, cS, cT⟩ := hSw; have e0 := hSp.cell (i := 0) rfl; have e1 := hSp.cell (i := 1) rfl; have e2 := hSp.cell (i := 2) rfl; have e3 := hSp.cell (i := 3) rfl; have e4 := hSp.cell (i := 4) rfl; have el := hSp.lt; clear hSp; go_simp; try with_reducible rfl)
        simp only [List.getElem_toArray, List.getElem_cons_zero, List.getElem_cons_succ, Act.put, List.setIfInBounds_toArray, List.set_cons_zero, List.set_cons_succ]
        refine wpAnyH_take (i := 15) (v := ?v48) rfl (by kernel_rfl) (by kernel_rfl) (by kernel_rfl) (fun _ _ _ h => h) (Or.inl ⟨by rfl, ?y48⟩) hHeld ?r48
        case y48 => (intro w hSw; obtain ⟨hSp, cS, cT⟩ := hSw; have e0 := hSp.cell (i := 0) rfl; have e1 := hSp.cell (i := 1) rfl; have e2 := hSp.cell (i := 2) rfl; have e3 := hSp.cell (i := 3) rfl; have e4 := hSp.cell (i := 4) rfl; have el := hSp.lt; clear hSp; go_simp; try with_reducible rfl)
        simp only [List.getElem_toArray, List.getElem_cons_zero, List.getElem_cons_succ, Act.put, List.setIfInBounds_toArray, List.set_cons_zero, List.set_cons_succ]
        refine wpAnyH_take (i := 16) (v := ?v49) rfl (by kernel_rfl) (by kernel_rfl) (by kernel_rfl) (fun _ _ _ h => h) (Or.inl ⟨by rfl, ?y49⟩) hHeld ?r49
        case y49 => (intro w hSw; obtain ⟨hSp, cS, cT⟩ := hSw; have e0 := hSp.cell (i := 0) rfl; have e1 := hSp.cell (i := 1) rfl; have e2 := hSp.cell (i := 2) rfl; have e3 := hSp.cell (i := 3) rfl; have e4 := hSp.cell (i := 4) rfl; have el := hSp.lt; clear hSp; go_simp; try with_reducible rfl)
        simp only [List.getElem_toArray, List.getElem_cons_zero, List.getElem_cons_succ, Act.put, List.setIfInBounds_toArray, List.set_cons_zero, List.set_cons_succ]
        refine wpAnyH_done (by kernel_rfl) ?_ _
        clear hHeld HM
        have HM2 := Lib.hid (And.intro HM1.out.1.drew (And.intro (HM1.out.2.1.drew) HM1.out.2.2))
        clear HM1
        go_wp2_with fail
        refine wp_region_held_drew (S := SpJ w.heap.size xb q S (J q)) (by kernel_rfl) (HM2.out.1.spj hk3) (fun hHeld => ?_)
        refine wpAnyH_take (i := 0) (v := ?v50) rfl (by kernel_rfl) (by kernel_rfl) (by kernel_rfl) (fun _ _ _ h => h) (Or.inl ⟨by rfl, ?y50⟩) hHeld ?r50
        case y50 => (intro w hSw; obtain ⟨hSp, cS, cT⟩ := hSw; have e0 := hSp.cell (i := 0) rfl; have e1 := hSp.cell (i := 1) rfl; have e2 := hSp.cell (i := 2) rfl; have e3 := hSp.cell (i := 3) rfl; have e4 := hSp.cell (i := 4) rfl; have el := hSp.lt; clear hSp; go_simp; try with_reducible rfl)
        simp only [List.getElem_toArray, List.getElem_cons_zero, Act.put, List.setIfInBounds_toArray, List.set_cons_zero, List.set_cons_succ]
        refine wpAnyH_take (i := 2) (v := ?v51) rfl (by kernel_rfl) (by kernel_rfl) (by kernel_rfl) (fun _ _ _ h => h) (Or.inl ⟨by rfl, ?y51⟩) hHeld ?r51
        case y51 => (intro w hSw; obtain ⟨hSp, cS, cT⟩ := hSw; have e0 := hSp.cell (i := 0) rfl; have e1 := hSp.cell (i := 1) rfl; have e2 := hSp.cell (i := 2) rfl; have e3 := hSp.cell (i := 3) rfl; have e4 := hSp.cell (i := 4) rfl; have el := hSp.lt; clear hSp; go_simp; try with_reducible rfl)
        simp only [List.getElem_toArray, List.getElem_cons_zero, List.getElem_cons_succ, Act.put, List.setIfInBounds_toArray, List.set_cons_zero, List.set_cons_succ]
        refine wpAnyH_take (i := 3) (v := ?v52) rfl (by kernel_rfl) (by kernel_rfl) (by kernel_rfl) (fun _ _ _ h => h) (Or.inl ⟨by rfl, ?y52⟩) hHeld ?r52
        case y52 => (intro w hSw; obtain ⟨hSp, cS, cT⟩ := hSw; have e0 := hSp.cell (i := 0) rfl; have e1 := hSp.cell (i := 1) rfl; have e2 := hSp.cell (i := 2) rfl; have e3 := hSp.cell (i := 3) rfl; have e4 := hSp.cell (i := 4) rfl; have el := hSp.lt; clear hSp; go_simp; try with_reducible rfl)
        simp only [List.getElem_toArray, List.getElem_cons_zero, List.getElem_cons_succ, Act.put, List.setIfInBounds_toArray, List.set_cons_zero, List.set_cons_succ]
        refine wpAnyH_take (i := 4) (v := ?v53) rfl (by kernel_rfl) (by kernel_rfl) (by kernel_rfl) (fun _ _ _ h => h) (Or.inl ⟨by rfl, ?y53⟩) hHeld ?r53
        case y53 => (intro w hSw; obtain ⟨hSp, cS, cT⟩ := hSw; have e0 := hSp.cell (i := 0) rfl; have e1 := hSp.cell (i := 1) rfl; have e2 := hSp.cell (i := 2) rfl; have e3 := hSp.cell (i := 3) rfl; have e4 := hSp.cell (i := 4) rfl; have el := hSp.lt; clear hSp; go_simp; try with_reducible rfl)
        simp only [List.getElem_toArray, List.getElem_cons_zero, List.getElem_cons_succ, Act.put, List.setIfInBounds_toArray, List.set_cons_zero, List.set_cons_succ]
        refine wpAnyH_take (i := 5) (v := ?v54) rfl (by kernel_rfl) (by kernel_rfl) (by kernel_rfl) (fun _ _ _ h => h) (Or.inl ⟨by rfl, ?y54⟩) hHeld ?r54
        case y54 => (intro w hSw; obtain ⟨hSp, cS, cT⟩ := hSw; have e0 := hSp.cell (i := 0) rfl; have e1 := hSp.cell (i := 1) rfl; have e2 := hSp.cell (i := 2) rfl; have e3 := hSp.cell (i := 3) rfl; have e4 := hSp.cell (i := 4) rfl; have el := hSp.lt; clear hSp; go_simp; try with_reducible rfl)
        simp only [List.getElem_toArray, List.getElem_cons_zero, List.getElem_cons_succ, Act.put, List.setIfInBounds_toArray, List.set_cons_zero, List.set_cons_succ]
        refine wpAnyH_take (i := 6) (v := ?v55) rfl (by kernel_rfl) (by kernel_rfl) (by kernel_rfl) (fun _ _ _ h => h) (Or.inl ⟨by rfl, ?y55⟩) hHeld ?r55
        case y55 => (intro w hSw; obtain ⟨hSp, cS, cT⟩ := hSw; have e0 := hSp.cell (i := 0) rfl; have e1 := hSp.cell (i := 1) rfl; have e2 := hSp.cell (i := 2) rfl; have e3 := hSp.cell (i := 3) rfl; have e4 := hSp.cell (i := 4) rfl; have el := hSp.lt; clear hSp; go_simp; try with_reducible rfl)
        simp only [List.getElem_toArray, List.getElem_cons_zero, List.getElem_cons_succ, Act.put, List.setIfInBounds_toArray, List.set_cons_zero, List.set_cons_succ]
        refine wpAnyH_take (i := 7) (v := ?v56) rfl (by kernel_rfl) (by kernel_rfl) (by kernel_rfl) (fun _ _ _ h => h) (Or.inl ⟨by rfl, ?y56⟩) hHeld ?r56
        case y56 => (intro w hSw; obtain ⟨hSp, cS, cT⟩ := hSw; have e0 := hSp.cell (i := 0) rfl; have e1 := hSp.cell (i := 1) rfl; have e2 := hSp.cell (i := 2) rfl; have e3 := hSp.cell (i := 3) rfl; have e4 := hSp.cell (i := 4) rfl; have el := hSp.lt; clear hSp; go_simp; try with_reducible rfl)
        simp only [List.getElem_toArray, List.getElem_cons_zero, List.getElem_cons_succ, Act.put, List.setIfInBounds_toArray, List.set_cons_zero, List.set_cons_succ]
        refine wpAnyH_take (i := 8) (v := ?v57) rfl (by kernel_rfl) (by kernel_rfl) (by kernel_rfl) (fun _ _ _ h => h) (Or.inl ⟨by rfl, ?y57⟩) hHeld ?r57
        case y57 => (intro w hSw; obtain ⟨hSp, cS, cT⟩ := hSw; have e0 := hSp.cell (i := 0) rfl; have e1 := hSp.cell (i := 1) rfl; have e2 := hSp.cell (i := 2) rfl; have e3 := hSp.cell (i := 3) rfl; have e4 := hSp.cell (i := 4) rfl; have el := hSp.lt; clear hSp; go_simp; try with_reducible rfl)
        simp only [List.getElem_toArray, List.getElem_cons_zero, List.getElem_cons_succ, Act.put, List.setIfInBounds_toArray, List.set_cons_zero, List.set_cons_succ]
        refine wpAnyH_take (i := 9) (v := ?v58) rfl (by kernel_rfl) (by kernel_rfl) (by kernel_rfl) (fun _ _ _ h => h) (Or.inl ⟨by rfl, ?y58⟩) hHeld ?r58
        case y58 => (intro w hSw; obtain ⟨hSp, cS, cT⟩ := hSw; have e0 := hSp.cell (i := 0) rfl; have e1 := hSp.cell (i := 1) rfl; have e2 := hSp.cell (i := 2) rfl; have e3 := hSp.cell (i := 3) rfl; have e4 := hSp.cell (i := 4) rfl; have el := hSp.lt; clear hSp; go_simp; try with_reducible rfl)
        simp only [List.getElem_toArray, List.getElem_cons_zero, List.getElem_cons_succ, Act.put, List.setIfInBounds_toArray, List.set_cons_zero, List.set_cons_succ]
        refine wpAnyH_take (i := 10) (v := ?v59) rfl (by kernel_rfl) (by kernel_rfl) (by kernel_rfl) (fun _ _ _ h => h) (Or.inl ⟨by rfl, ?y59⟩) hHeld ?r59
        case y59 => (intro w hSw; obtain ⟨hSp, cS, cT⟩ := hSw; have e0 := hSp.cell (i := 0) rfl; have e1 := hSp.cell (i := 1) rfl; have e2 := hSp.cell (i := 2) rfl; have e3 := hSp.cell (i := 3) rfl; have e4 := hSp.cell (i := 4) rfl; have el := hSp.lt; clear hSp; go_simp; try with_reducible rfl)
        simp only [List.getElem_toArray, List.getElem_cons_zero, List.getElem_cons_succ, Act.put, List.setIfInBounds_toArray, List.set_cons_zero, List.set_cons_succ]
        refine wpAnyH_take (i := 11) (v := ?v60) rfl (by kernel_rfl) (by kernel_rfl) (by kernel_rfl) (fun _ _ _ h => h) (Or.inl ⟨by rfl, ?y60⟩) hHeld ?r60
        case y60 => (intro w hSw; obtain ⟨hSp, cS, cT⟩ := hSw; have e0 := hSp.cell (i := 0) rfl; have e1 := hSp.cell (i := 1) rfl; have e2 := hSp.cell (i := 2) rfl; have e3 := hSp.cell (i := 3) rfl; have e4 := hSp.cell (i := 4) rfl; have el := hSp.lt; clear hSp; go_simp; try with_reducible rfl)
        simp only [List.getElem_toArray, List.getElem_cons_zero, List.getElem_cons_succ, Act.put, List.setIfInBounds_toArray, List.set_cons_zero, List.set_cons_succ]
        refine wpAnyH_ready (rs := [1]) (by kernel_rfl) (by simp) (AllReadyH.cons rfl (fun K hK => ?_) AllReadyH.nil)
        go_simp
        refine (plain_any S.ow S.sq S.fs S.wd S.dp _).mono ?_
        rintro e W3 ⟨rfl, hu3⟩
        have HM3 := Lib.hid (And.intro (HM2.out.1.low hu3) (And.intro (HM2.out.2.1.below hu3) HM2.out.2.2))
        clear hu3
        go_wp2_with fail
        refine hK.out _ _ (HM3.out.1.spj hk3) (fun hHeld => ?_)
        clear hK K
        refine wpAnyH_ready (rs := [12]) (by kernel_rfl) (by simp) (AllReadyH.cons rfl (fun K hK => ?_) AllReadyH.nil)
        go_simp
        refine (rnew_ok S (J q).1 (J q).2.2.1 (J q).2.1 (J q).2.2.2 _ Hnw.out).mono ?_
        rintro e W4 ⟨r, hr, rfl, hR, hu4⟩
        have HM4 : Hid (NwF w ⟨b, bg, w.heap.size, xb, wb, ob, fb⟩ S J (.slice aa acl.length ac) X (List.replicate n 0) q o g r W4 ∧ Nwb w ⟨b, bg, w.heap.size, xb, wb, ob, fb⟩ X o ∧ Nwb w ⟨b, bg, w.heap.size, xb, wb, ob, fb⟩ X g ∧ Nwb w ⟨b, bg, w.heap.size, xb, wb, ob, fb⟩ X r ∧ o ≠ r ∧ g ≠ r) := Lib.hid ⟨⟨HM3.out.1.low hu4, HM3.out.2.1.below hu4, hR⟩, HM3.out.2.2.1, HM3.out.2.2.2, HM3.out.1.nwb hr, by have := HM3.out.2.1.lto; omega, by have := HM3.out.2.1.ltg; omega⟩
        clear hR hu4 hr
        go_wp2_with fail
        refine hK.out _ _ (HM4.out.1.mem.spj hk3) (fun hHeld => ?_)
        clear hK K
        refine wpAnyH_take (i := 13) (v := ?v63) rfl (by kernel_rfl) (by kernel_rfl) (by kernel_rfl) (fun _ _ _ h => h) (Or.inl ⟨by rfl, ?y63⟩) hHeld ?r63
        case y63 => (intro w hSw; obtain ⟨hSp, cS, cT⟩ := hSw; have e0 := hSp.cell (i := 0) rfl; have e1 := hSp.cell (i := 1) rfl; have e2 := hSp.cell (i := 2) rfl; have e3 := hSp.cell (i := 3) rfl; have e4 := hSp.cell (i := 4) rfl; have el := hSp.lt; clear hSp; go_simp; try with_reducible rfl)
        simp only [List.getElem_toArray, List.getElem_cons_zero, List.getElem_cons_succ, Act.put, List.setIfInBounds_toArray, List.set_cons_zero, List.set_cons_succ]
        refine wpAnyH_take (i := 14) (v := ?v64) rfl (by kernel_rfl) (by kernel_rfl) (by kernel_rfl) (fun _ _ _ h => h) (Or.inl ⟨by rfl, ?y64⟩) hHeld ?r64
        case y64 => (intro w hSw; obtain ⟨hSp, cS, cT⟩ := hSw; have e0 := hSp.cell (i := 0) rfl; have e1 := hSp.cell (i := 1) rfl; have e2 := hSp.cell (i := 2) rfl; have e3 := hSp.cell (i := 3) rfl; have e4 := hSp.cell (i := 4) rfl; have el := hSp.lt; clear hSp; go_simp; try with_reducible rfl)
        simp only [List.getElem_toArray, List.getElem_cons_zero, List.getElem_cons_succ, Act.put, List.setIfInBounds_toArray, List.set_cons_zero, List.set_cons_succ]
        refine wpAnyH_take (i := 15) (v := ?v65) rfl (by kernel_rfl) (by kernel_rfl) (by kernel_rfl) (fun _ _ _ h => h) (Or.inl ⟨by rfl, ?y65⟩) hHeld ?r65
        case y65 => (intro w hSw; obtain ⟨hSp, cS, cT⟩ := hSw; have e0 := hSp.cell (i := 0) rfl; have e1 := hSp.cell (i := 1) rfl; have e2 := hSp.cell (i := 2) rfl; have e3 := hSp.cell (i := 3) rfl; have e4 := hSp.cell (i := 4) rfl; have el := hSp.lt; clear hSp; go_simp; try with_reducible rfl)
        simp only [List.getElem_toArray, List.getElem_cons_zero, List.getElem_cons_succ, Act.put, List.setIfInBounds_toArray, List.set_cons_zero, List.set_cons_succ]
        refine wpAnyH_take (i := 16) (v := ?v66) rfl (by kernel_rfl) (by kernel_rfl) (by kernel_rfl) (fun _ _ _ h => h) (Or.inl ⟨by rfl, ?y66⟩) hHeld ?r66
        case y66 => (intro w hSw; obtain ⟨hSp, cS, cT⟩ := hSw; have e0 := hSp.cell (i := 0) rfl; have e1 := hSp.cell (i := 1) rfl; have e2 := hSp.cell (i := 2) rfl; have e3 := hSp.cell (i := 3) rfl; have e4 := hSp.cell (i := 4) rfl; have el := hSp.lt; clear hSp; go_simp; try with_reducible rfl)
        simp only [List.getElem_toArray, List.getElem_cons_zero, List.getElem_cons_succ, Act.put, List.setIfInBounds_toArray, List.set_cons_zero, List.set_cons_succ]
        refine wpAnyH_take (i := 17) (v := ?v67) rfl (by kernel_rfl) (by kernel_rfl) (by kernel_rfl) (fun _ _ _ h => h) (Or.inl ⟨by rfl, ?y67⟩) hHeld ?r67
        case y67 => (intro w hSw; obtain ⟨hSp, cS, cT⟩ := hSw; have e0 := hSp.cell (i := 0) rfl; have e1 := hSp.cell (i := 1) rfl; have e2 := hSp.cell (i := 2) rfl; have e3 := hSp.cell (i := 3) rfl; have e4 := hSp.cell (i := 4) rfl; have el := hSp.lt; clear hSp; go_simp; try with_reducible rfl)
        simp only [List.getElem_toArray, List.getElem_cons_zero, List.getElem_cons_succ, Act.put, List.setIfInBounds_toArray, List.set_cons_zero, List.set_cons_succ]
        refine wpAnyH_done (by kernel_rfl) ?_ _
        clear hHeld HM2 HM3
        have HA0 : Hid (NwF w ⟨b, bg, w.heap.size, xb, wb, ob, fb⟩ S J (.slice aa acl.length ac) X (List.replicate n 0) q o g r W4.drew) := Lib.hid (HM4.out.1.low (belN (Below.refl _ _) 1))
        have m2 : (mst S (J q).2.2.2 != mst S (J q).2.2.2) = false := by simp
        generalize hms : mst S (J q).2.2.2 = M at *
        have Hms := Lib.hid hms
        clear hms
        go_wp2_with fail
        refine wp_region_held_drew (S := SpJ w.heap.size xb q S (J q)) (by kernel_rfl) (HA0.out.mem.spj hk3) (fun hHeld => ?_)
        refine wpAnyH_take (i := 0) (v := ?v68) rfl (by kernel_rfl) (by kernel_rfl) (by kernel_rfl) (fun _ _ _ h => h) (Or.inl ⟨by rfl, ?y68⟩) hHeld ?r68
        case y68 => (intro w hSw; obtain ⟨hSp, cS, cT⟩ := hSw; have e0 := hSp.cell (i := 0) rfl; have e1 := hSp.cell (i := 1) rfl; have e2 := hSp.cell (i := 2) rfl; have e3 := hSp.cell (i := 3) rfl; have e4 := hSp.cell (i := 4) rfl; have el := hSp.lt; clear hSp; go_simp; try with_reducible rfl)
        simp only [List.getElem_toArray, List.getElem_cons_zero, Act.put, List.setIfInBounds_toArray, List.set_cons_zero, List.set_cons_succ]
        refine wpAnyH_take (i := 1) (v := ?v69) rfl (by kernel_rfl) (by kernel_rfl) (by kernel_rfl) (fun _ _ _ h => h) (Or.inl ⟨by rfl, ?y69⟩) hHeld ?r69
        case y69 => (intro w hSw; obtain ⟨hSp, cS, cT⟩ := hSw; have e0 := hSp.cell (i := 0) rfl; have e1 := hSp.cell (i := 1) rfl; have e2 := hSp.cell (i := 2) rfl; have e3 := hSp.cell (i := 3) rfl; have e4 := hSp.cell (i := 4) rfl; have el := hSp.lt; clear hSp; go_simp; try with_reducible rfl)
        simp only [List.getElem_toArray, List.getElem_cons_zero, List.getElem_cons_succ, Act.put, List.setIfInBounds_toArray, List.set_cons_zero, List.set_cons_succ]
        refine wpAnyH_take (i := 2) (v := .bool false) rfl (by kernel_rfl) (by kernel_rfl) (by kernel_rfl) (fun _ _ _ h => h) (Or.inl ⟨by rfl, ?y70⟩) hHeld ?r70
        case y70 => (intro w hSw; obtain ⟨hSp, cS, cT⟩ := hSw; have e0 := hSp.cell (i := 0) rfl; have e1 := hSp.cell (i := 1) rfl; have e2 := hSp.cell (i := 2) rfl; have e3 := hSp.cell (i := 3) rfl; have e4 := hSp.cell (i := 4) rfl; have el := hSp.lt; clear hSp; go_simp; try with_reducible rfl)
        simp only [List.getElem_toArray, List.getElem_cons_zero, List.getElem_cons_succ, Act.put, List.setIfInBounds_toArray, List.set_cons_zero, List.set_cons_succ]
        refine wpAnyH_take (i := 3) (v := ?v71) rfl (by kernel_rfl) (by kernel_rfl) (by kernel_rfl) (fun _ _ _ h => h) (Or.inl ⟨by rfl, ?y71⟩) hHeld ?r71
        case y71 => (intro w hSw; obtain ⟨hSp, cS, cT⟩ := hSw; have e0 := hSp.cell (i := 0) rfl; have e1 := hSp.cell (i := 1) rfl; have e2 := hSp.cell (i := 2) rfl; have e3 := hSp.cell (i := 3) rfl; have e4 := hSp.cell (i := 4) rfl; have el := hSp.lt; clear hSp; go_simp; try with_reducible rfl)
        simp only [List.getElem_toArray, List.getElem_cons_zero, List.getElem_cons_succ, Act.put, List.setIfInBounds_toArray, List.set_cons_zero, List.set_cons_succ]
        refine wpAnyH_take (i := 4) (v := ?v72) rfl (by kernel_rfl) (by kernel_rfl) (by kernel_rfl) (fun _ _ _ h => h) (Or.inl ⟨by rfl, ?y72⟩) hHeld ?r72
        case y72 => (intro w hSw; obtain ⟨hSp, cS, cT⟩ := hSw; have e0 := hSp.cell (i := 0) rfl; have e1 := hSp.cell (i := 1) rfl; have e2 := hSp.cell (i := 2) rfl; have e3 := hSp.cell (i := 3) rfl; have e4 := hSp.cell (i := 4) rfl; have el := hSp.lt; clear hSp; go_simp; try with_reducible rfl)
        simp only [List.getElem_toArray, List.getElem_cons_zero, List.getElem_cons_succ, Act.put, List.setIfInBounds_toArray, List.set_cons_zero, List.set_cons_succ]
        refine wpAnyH_take (i := 5) (v := ?v73) rfl (by kernel_rfl) (by kernel_rfl) (by kernel_rfl) (fun _ _ _ h => h) (Or.inl ⟨by rfl, ?y73⟩) hHeld ?r73
        case y73 => (intro w hSw; obtain ⟨hSp, cS, cT⟩ := hSw; have e0 := hSp.cell (i := 0) rfl; have e1 := hSp.cell (i := 1) rfl; have e2 := hSp.cell (i := 2) rfl; have e3 := hSp.cell (i := 3) rfl; have e4 := hSp.cell (i := 4) rfl; have el := hSp.lt; clear hSp; go_simp; try with_reducible rfl)
        simp only [List.getElem_toArray, List.getElem_cons_zero, List.getElem_cons_succ, Act.put, List.setIfInBounds_toArray, List.set_cons_zero, List.set_cons_succ]
        refine wpAnyH_take (i := 6) (v := ?v74) rfl (by kernel_rfl) (by kernel_rfl) (by kernel_rfl) (fun _ _ _ h => h) (Or.inl ⟨by rfl, ?y74⟩) hHeld ?r74
        case y74 => (intro w hSw; obtain ⟨hSp, cS, cT⟩ := hSw; have e0 := hSp.cell (i := 0) rfl; have e1 := hSp.cell (i := 1) rfl; have e2 := hSp.cell (i := 2) rfl; have e3 := hSp.cell (i := 3) rfl; have e4 := hSp.cell (i := 4) rfl; have el := hSp.lt; clear hSp; go_simp; try with_reducible rfl)
        simp only [List.getElem_toArray, List.getElem_cons_zero, List.getElem_cons_succ, Act.put, List.setIfInBounds_toArray, List.set_cons_zero, List.set_cons_succ]
        refine wpAnyH_take (i := 7) (v := ?v75) rfl (by kernel_rfl) (by kernel_rfl) (by kernel_rfl) (fun _ _ _ h => h) (Or.inl ⟨by rfl, ?y75⟩) hHeld ?r75
        case y75 => (intro w hSw; obtain ⟨hSp, cS, cT⟩ := hSw; have e0 := hSp.cell (i := 0) rfl; have e1 := hSp.cell (i := 1) rfl; have e2 := hSp.cell (i := 2) rfl; have e3 := hSp.cell (i := 3) rfl; have e4 := hSp.cell (i := 4) rfl; have el := hSp.lt; clear hSp; go_simp; try with_reducible rfl)
        simp only [List.getElem_toArray, List.getElem_cons_zero, List.getElem_cons_succ, Act.put, List.setIfInBounds_toArray, List.set_cons_zero, List.set_cons_succ]
        refine wpAnyH_take (i := 8) (v := .bool false) rfl (by kernel_rfl) (by kernel_rfl) (by kernel_rfl) (fun _ _ _ h => h) (Or.inl ⟨by rfl, ?y76⟩) hHeld ?r76
        case y76 => (intro w hSw; obtain ⟨hSp, cS, cT⟩ := hSw; have e0 := hSp.cell (i := 0) rfl; have e1 := hSp.cell (i := 1) rfl; have e2 := hSp.cell (i := 2) rfl; have e3 := hSp.cell (i := 3) rfl; have e4 := hSp.cell (i := 4) rfl; have el := hSp.lt; clear hSp; go_simp; try with_reducible rfl)
        simp only [List.getElem_toArray, List.getElem_cons_zero, List.getElem_cons_succ, Act.put, List.setIfInBounds_toArray, List.set_cons_zero, List.set_cons_succ]
        refine wpAnyH_take (i := 9) (v := ?v77) rfl (by kernel_rfl) (by kernel_rfl) (by kernel_rfl) (fun _ _ _ h => h) (Or.inl ⟨by rfl, ?y77⟩) hHeld ?r77
        case y77 => (intro w hSw; obtain ⟨hSp, cS, cT⟩ := hSw; have e0 := hSp.cell (i := 0) rfl; have e1 := hSp.cell (i := 1) rfl; have e2 := hSp.cell (i := 2) rfl; have e3 := hSp.cell (i := 3) rfl; have e4 := hSp.cell (i := 4) rfl; have el := hSp.lt; clear hSp; go_simp; try with_reducible rfl)
        simp only [List.getElem_toArray, List.getElem_cons_zero, List.getElem_cons_succ, Act.put, List.setIfInBounds_toArray, List.set_cons_zero, List.set_cons_succ]
        refine wpAnyH_take (i := 10) (v := ?v78) rfl (by kernel_rfl) (by kernel_rfl) (by kernel_rfl) (fun _ _ _ h => h) (Or.inl ⟨by rfl, ?y78⟩) hHeld ?r78
        case y78 => (intro w hSw; obtain ⟨hSp, cS, cT⟩ := hSw; have e0 := hSp.cell (i := 0) rfl; have e1 := hSp.cell (i := 1) rfl; have e2 := hSp.cell (i := 2) rfl; have e3 := hSp.cell (i := 3) rfl; have e4 := hSp.cell (i := 4) rfl; have el := hSp.lt; clear hSp; go_simp; try with_reducible rfl)
        simp only [List.getElem_toArray, List.getElem_cons_zero, List.getElem_cons_succ, Act.put, List.setIfInBounds_toArray, List.set_cons_zero, List.set_cons_succ]
        refine wpAnyH_take (i := 11) (v := ?v79) rfl (by kernel_rfl) (by kernel_rfl) (by kernel_rfl) (fun _ _ _ h => h) (Or.inl ⟨by rfl, ?y79⟩) hHeld ?r79
        case y79 => (intro w hSw; obtain ⟨hSp, cS, cT⟩ := hSw; have e0 := hSp.cell (i := 0) rfl; have e1 := hSp.cell (i := 1) rfl; have e2 := hSp.cell (i := 2) rfl; have e3 := hSp.cell (i := 3) rfl; have e4 := hSp.cell (i := 4) rfl; have el := hSp.lt; clear hSp; go_simp; try with_reducible rfl)
        simp only [List.getElem_toArray, List.getElem_cons_zero, List.getElem_cons_succ, Act.put, List.setIfInBounds_toArray, List.set_cons_zero, List.set_cons_succ]
        refine wpAnyH_take (i := 12) (v := ?v80) rfl (by kernel_rfl) (by kernel_rfl) (by kernel_rfl) (fun _ _ _ h => h) (Or.inl ⟨by rfl, ?y80⟩) hHeld ?r80
        case y80 => (intro w hSw; obtain ⟨hSp, cS, cT⟩ := hSw; have e0 := hSp.cell (i := 0) rfl; have e1 := hSp.cell (i := 1) rfl; have e2 := hSp.cell (i := 2) rfl; have e3 := hSp.cell (i := 3) rfl; have e4 := hSp.cell (i := 4) rfl; have el := hSp.lt; clear hSp; go_simp; try with_reducible rfl)
        simp only [List.getElem_toArray, List.getElem_cons_zero, List.getElem_cons_succ, Act.put, List.setIfInBounds_toArray, List.set_cons_zero, List.set_cons_succ]
        refine wpAnyH_take (i := 13) (v := ?v81) rfl (by kernel_rfl) (by kernel_rfl) (by kernel_rfl) (fun _ _ _ h => h) (Or.inl ⟨by rfl, ?y81⟩) hHeld ?r81
        case y81 => (intro w hSw; obtain ⟨hSp, cS, cT⟩ := hSw; have e0 := hSp.cell (i := 0) rfl; have e1 := hSp.cell (i := 1) rfl; have e2 := hSp.cell (i := 2) rfl; have e3 := hSp.cell (i := 3) rfl; have e4 := hSp.cell (i := 4) rfl; have el := hSp.lt; clear hSp; go_simp; try with_reducible rfl)
        simp only [List.getElem_toArray, List.getElem_cons_zero, List.getElem_cons_succ, Act.put, List.setIfInBounds_toArray, List.set_cons_zero, List.set_cons_succ]
        refine wpAnyH_take (i := 14) (v := ?v82) rfl (by kernel_rfl) (by kernel_rfl) (by kernel_rfl) (fun _ _ _ h => h) (Or.inl ⟨by rfl, ?y82⟩) hHeld ?r82
        case y82 => (intro w hSw; obtain ⟨hSp, cS, cT⟩ := hSw; have e0 := hSp.cell (i := 0) rfl; have e1 := hSp.cell (i := 1) rfl; have e2 := hSp.cell (i := 2) rfl; have e3 := hSp.cell (i := 3) rfl; have e4 := hSp.cell (i := 4) rfl; have el := hSp.lt; clear hSp; go_simp; try with_reducible rfl)
        simp only [List.getElem_toArray, List.getElem_cons_zero, List.getElem_cons_succ, Act.put, List.setIfInBounds_toArray, List.set_cons_zero, List.set_cons_succ]
        refine wpAnyH_take (i := 15) (v := ?v83) rfl (by kernel_rfl) (by kernel_rfl) (by kernel_rfl) (fun _ _ _ h => h) (Or.inl ⟨by rfl, ?y83⟩) hHeld ?r83
        case y83 => (intro w hSw; obtain ⟨hSp, cS, cT⟩ := hSw; have e0 := hSp.cell (i := 0) rfl; have e1 := hSp.cell (i := 1) rfl; have e2 := hSp.cell (i := 2) rfl; have e3 := hSp.cell (i := 3) rfl; have e4 := hSp.cell (i := 4) rfl; have el := hSp.lt; clear hSp; go_simp; try with_reducible rfl)
        simp only [List.getElem_toArray, List.getElem_cons_zero, List.getElem_cons_succ, Act.put, List.setIfInBounds_toArray, List.set_cons_zero, List.set_cons_succ]
        refine wpAnyH_take (i := 16) (v := ?v84) rfl (by kernel_rfl) (by kernel_rfl) (by kernel_rfl) (fun _ _ _ h => h) (Or.inl ⟨by rfl, ?y84⟩) hHeld ?r84
        case y84 => (intro w hSw; obtain ⟨hSp, cS, cT⟩ := hSw; have e0 := hSp.cell (i := 0) rfl; have e1 := hSp.cell (i := 1) rfl; have e2 := hSp.cell (i := 2) rfl; have e3 := hSp.cell (i := 3) rfl; have e4 := hSp.cell (i := 4) rfl; have el := hSp.lt; clear hSp; go_simp; try with_reducible rfl)
        simp only [List.getElem_toArray, List.getElem_cons_zero, List.getElem_cons_succ, Act.put, List.setIfInBounds_toArray, List.set_cons_zero, List.set_cons_succ]
        refine wpAnyH_take (i := 18) (v := ?v85) rfl (by kernel_rfl) (by kernel_rfl) (by kernel_rfl) (fun _ _ _ h => h) (Or.inl ⟨by rfl, ?y85⟩) hHeld ?r85
        case y85 => (intro w hSw; obtain ⟨hSp, cS, cT⟩ := hSw; have e0 := hSp.cell (i := 0) rfl; have e1 := hSp.cell (i := 1) rfl; have e2 := hSp.cell (i := 2) rfl; have e3 := hSp.cell (i := 3) rfl; have e4 := hSp.cell (i := 4) rfl; have el := hSp.lt; clear hSp; go_simp; try with_reducible rfl)
        simp only [List.getElem_toArray, List.getElem_cons_zero, List.getElem_cons_succ, Act.put, List.setIfInBounds_toArray, List.set_cons_zero, List.set_cons_succ]
        refine wpAnyH_take (i := 20) (v := ?v86) rfl (by kernel_rfl) (by kernel_rfl) (by kernel_rfl) (fun _ _ _ h => h) (Or.inl ⟨by rfl, ?y86⟩) hHeld ?r86
        case y86 => (intro w hSw; obtain ⟨hSp, cS, cT⟩ := hSw; have e0 := hSp.cell (i := 0) rfl; have e1 := hSp.cell (i := 1) rfl; have e2 := hSp.cell (i := 2) rfl; have e3 := hSp.cell (i := 3) rfl; have e4 := hSp.cell (i := 4) rfl; have el := hSp.lt; clear hSp; go_simp; try with_reducible rfl)
        simp only [List.getElem_toArray, List.getElem_cons_zero, List.getElem_cons_succ, Act.put, List.setIfInBounds_toArray, List.set_cons_zero, List.set_cons_succ]
        refine wpAnyH_take (i := 21) (v := ?v87) rfl (by kernel_rfl) (by kernel_rfl) (by kernel_rfl) (fun _ _ _ h => h) (Or.inl ⟨by rfl, ?y87⟩) hHeld ?r87
        case y87 => (intro w hSw; obtain ⟨hSp, cS, cT⟩ := hSw; have e0 := hSp.cell (i := 0) rfl; have e1 := hSp.cell (i := 1) rfl; have e2 := hSp.cell (i := 2) rfl; have e3 := hSp.cell (i := 3) rfl; have e4 := hSp.cell (i := 4) rfl; have el := hSp.lt; clear hSp; go_simp; try with_reducible rfl)
        simp only [List.getElem_toArray, List.getElem_cons_zero, List.getElem_cons_succ, Act.put, List.setIfInBounds_toArray, List.set_cons_zero, List.set_cons_succ]
        refine wpAnyH_take (i := 22) (v := ?v88) rfl (by kernel_rfl) (by kernel_rfl) (by kernel_rfl) (fun _ _ _ h => h) (Or.inl ⟨by rfl, ?y88⟩) hHeld ?r88
        case y88 => (intro w hSw; obtain ⟨hSp, cS, cT⟩ := hSw; have e0 := hSp.cell (i := 0) rfl; have e1 := hSp.cell (i := 1) rfl; have e2 := hSp.cell (i := 2) rfl; have e3 := hSp.cell (i := 3) rfl; have e4 := hSp.cell (i := 4) rfl; have el := hSp.lt; clear hSp; go_simp; try with_reducible rfl)
        simp only [List.getElem_toArray, List.getElem_cons_zero, List.getElem_cons_succ, Act.put, List.setIfInBounds_toArray, List.set_cons_zero, List.set_cons_succ]
        refine wpAnyH_take (i := 23) (v := ?v89) rfl (by kernel_rfl) (by kernel_rfl) (by kernel_rfl) (fun _ _ _ h => h) (Or.inl ⟨by rfl, ?y89⟩) hHeld ?r89
        case y89 => (intro w hSw; obtain ⟨hSp, cS, cT⟩ := hSw; have e0 := hSp.cell (i := 0) rfl; have e1 := hSp.cell (i := 1) rfl; have e2 := hSp.cell (i := 2) rfl; have e3 := hSp.cell (i := 3) rfl; have e4 := hSp.cell (i := 4) rfl; have el := hSp.lt; clear hSp; go_simp; try with_reducible rfl)
        simp only [List.getElem_toArray, List.getElem_cons_zero, List.getElem_cons_succ, Act.put, List.setIfInBounds_toArray, List.set_cons_zero, List.set_cons_succ]
        refine wpAnyH_take (i := 24) (v := ?v90) rfl (by kernel_rfl) (by kernel_rfl) (by kernel_rfl) (fun _ _ _ h => h) (Or.inl ⟨by rfl, ?y90⟩) hHeld ?r90
        case y90 => (intro w hSw; obtain ⟨hSp, cS, cT⟩ := hSw; have e0 := hSp.cell (i := 0) rfl; have e1 := hSp.cell (i := 1) rfl; have e2 := hSp.cell (i := 2) rfl; have e3 := hSp.cell (i := 3) rfl; have e4 := hSp.cell (i := 4) rfl; have el := hSp.lt; clear hSp; go_simp; try with_reducible rfl)
        simp only [List.getElem_toArray, List.getElem_cons_zero, List.getElem_cons_succ, Act.put, List.setIfInBounds_toArray, List.set_cons_zero, List.set_cons_succ]
        refine wpAnyH_ready (rs := [17]) (by kernel_rfl) (by simp) (AllReadyH.cons rfl (fun K hK => ?_) AllReadyH.nil)
        go_simp
        have hcc := fun W => most_any S (J q).2.2.2 W
        rw [Hms.out] at hcc
        refine (hcc _).mono ?_
        rintro e W5 ⟨rfl, hu5⟩
        have HA5 : Hid (NwF w ⟨b, bg, w.heap.size, xb, wb, ob, fb⟩ S J (.slice aa acl.length ac) X (List.replicate n 0) q o g r W5) := Lib.hid (HA0.out.low hu5)
        clear hu5 hcc
        go_wp2_with fail
        refine hK.out _ _ (HA5.out.mem.spj hk3) (fun hHeld => ?_)
        clear hK K
        refine wpAnyH_ready (rs := [19]) (by kernel_rfl) (by simp) (AllReadyH.cons rfl (fun K hK => ?_) AllReadyH.nil)
        go_simp
        have hcc := fun W => plain_any S.ow S.sq S.fs S.wd S.dp W
        refine (hcc _).mono ?_
        rintro e W6 ⟨rfl, hu6⟩
        have HA6 : Hid (NwF w ⟨b, bg, w.heap.size, xb, wb, ob, fb⟩ S J (.slice aa acl.length ac) X (List.replicate n 0) q o g r W6) := Lib.hid (HA5.out.low hu6)
        clear hu6 hcc
        go_wp2_with fail
        refine hK.out _ _ (HA6.out.mem.spj hk3) (fun hHeld => ?_)
        clear hK K
        refine wpAnyH_ready (rs := [25]) (by kernel_rfl) (by simp) (AllReadyH.cons rfl (fun K hK => ?_) AllReadyH.nil)
        go_simp
        have hcc := fun W => rmost_any S (J q).2.2.2 W
        rw [Hms.out] at hcc
        refine (hcc _).mono ?_
        rintro e W7 ⟨rfl, hu7⟩
        have HA7 : Hid (NwF w ⟨b, bg, w.heap.size, xb, wb, ob, fb⟩ S J (.slice aa acl.length ac) X (List.replicate n 0) q o g r W7) := Lib.hid (HA6.out.low hu7)
        clear hu7 hcc
        go_wp2_with fail
        refine hK.out _ _ (HA7.out.mem.spj hk3) (fun hHeld => ?_)
        clear hK K
        refine wpAnyH_take (i := 26) (v := .bool false) rfl (by kernel_rfl) (by kernel_rfl) (by kernel_rfl) (fun _ _ _ h => h) (Or.inl ⟨by rfl, ?y94⟩) hHeld ?r94
        case y94 => (intro w hSw; obtain ⟨hSp, cS, cT⟩ := hSw; have e0 := hSp.cell (i := 0) rfl; have e1 := hSp.cell (i := 1) rfl; have e2 := hSp.cell (i := 2) rfl; have e3 := hSp.cell (i := 3) rfl; have e4 := hSp.cell (i := 4) rfl; have el := hSp.lt; clear hSp; go_simp; try with_reducible rfl)
        simp only [List.getElem_toArray, List.getElem_cons_zero, List.getElem_cons_succ, Act.put, List.setIfInBounds_toArray, List.set_cons_zero, List.set_cons_succ]
        refine wpAnyH_take (i := 27) (v := ?v95) rfl (by kernel_rfl) (by kernel_rfl) (by kernel_rfl) (fun _ _ _ h => h) (Or.inl ⟨by rfl, ?y95⟩) hHeld ?r95
        case y95 => (intro w hSw; obtain ⟨hSp, cS, cT⟩ := hSw; have e0 := hSp.cell (i := 0) rfl; have e1 := hSp.cell (i := 1) rfl; have e2 := hSp.cell (i := 2) rfl; have e3 := hSp.cell (i := 3) rfl; have e4 := hSp.cell (i := 4) rfl; have el := hSp.lt; clear hSp; go_simp; try with_reducible rfl)
        simp only [List.getElem_toArray, List.getElem_cons_zero, List.getElem_cons_succ, Act.put, List.setIfInBounds_toArray, List.set_cons_zero, List.set_cons_succ]
        refine wpAnyH_done (by kernel_rfl) ?_ _
        clear hHeld HA0 HA5 HA6
        have hQ := HA7.out
        have cop := hQ.mem.op hk3
        have crf := hQ.mem.rf hk3
        have zop := hQ.mem.ops.frozen q
        have zrf := hQ.mem.refs.frozen q
        have lop := hQ.mem.ops.lt
        have lrf := hQ.mem.refs.lt
        dsimp only at cop crf zop zrf lop lrf
        rw [HX.out q (Nat.le_refl _)] at cop crf
        change _ = some (Value.pointer none) at cop
        change _ = some (Value.pointer none) at crf
        have hof : ob ≠ fb := HD.out.o1.2.2
        have hfo : fb ≠ ob := HD.out.o1.2.2.symm
        have HQ := Lib.hid hQ
        have HM5 := Lib.hid HM4.out.2
        clear hQ HM4 HA7
        go_wp2_with fail
        go_roundw
        case rel => exact ⟨q + 1, _, by go_num, by omega, fun j hj => by rw [updP_ne _ _ (by omega)]; exact HX.out j (by omega), HQ.out.put HD.out hk3 HM5.out.1 HM5.out.2.1 HM5.out.2.2.1 HM5.out.2.2.2.1 HM5.out.2.2.2.2 (wf0 Hnw.out ((HJ.out q hk3).us)) (nw_tr Hnw.out)⟩
        case measure => simp [intOf]; omega
      · have Hnw := Lib.hid hnw
        clear hnw
        go_wp2_with fail
        refine wp_region_held_drew (S := SpJ w.heap.size xb q S (J q)) (by kernel_rfl) (HM.out.spj hk3) (fun hHeld => ?_)
        refine wpAnyH_take (i := 0) (v := ?v96) rfl (by kernel_rfl) (by kernel_rfl) (by kernel_rfl) (fun _ _ _ h => h) (Or.inl ⟨by rfl, ?y96⟩) hHeld ?r96
        case y96 => (intro w hSw; obtain ⟨hSp, cS, cT⟩ := hSw; have e0 := hSp.cell (i := 0) rfl; have e1 := hSp.cell (i := 1) rfl; have e2 := hSp.cell (i := 2) rfl; have e3 := hSp.cell (i := 3) rfl; have e4 := hSp.cell (i := 4) rfl; have el := hSp.lt; clear hSp; go_simp; try with_reducible rfl)
        simp only [List.getElem_toArray, List.getElem_cons_zero, Act.put, List.setIfInBounds_toArray, List.set_cons_zero, List.set_cons_succ]
        refine wpAnyH_take (i := 1) (v := ?v97) rfl (by kernel_rfl) (by kernel_rfl) (by kernel_rfl) (fun _ _ _ h => h) (Or.inl ⟨by rfl, ?y97⟩) hHeld ?r97
        case y97 => (intro w hSw; obtain ⟨hSp, cS, cT⟩ := hSw; have e0 := hSp.cell (i := 0) rfl; have e1 := hSp.cell (i := 1) rfl; have e2 := hSp.cell (i := 2) rfl; have e3 := hSp.cell (i := 3) rfl; have e4 := hSp.cell (i := 4) rfl; have el := hSp.lt; clear hSp; go_simp; try with_reducible rfl)
        simp only [List.getElem_toArray, List.getElem_cons_zero, List.getElem_cons_succ, Act.put, List.setIfInBounds_toArray, List.set_cons_zero, List.set_cons_succ]
        refine wpAnyH_take (i := 2) (v := ?v98) rfl (by kernel_rfl) (by kernel_rfl) (by kernel_rfl) (fun _ _ _ h => h) (Or.inl ⟨by rfl, ?y98⟩) hHeld ?r98
        case y98 => (intro w hSw; obtain ⟨hSp, cS, cT⟩ := hSw; have e0 := hSp.cell (i := 0) rfl; have e1 := hSp.cell (i := 1) rfl; have e2 := hSp.cell (i := 2) rfl; have e3 := hSp.cell (i := 3) rfl; have e4 := hSp.cell (i := 4) rfl; have el := hSp.lt; clear hSp; go_simp; try with_reducible rfl)
        simp only [List.getElem_toArray, List.getElem_cons_zero, List.getElem_cons_succ, Act.put, List.setIfInBounds_toArray, List.set_cons_zero, List.set_cons_succ]
        refine wpAnyH_take (i := 3) (v := ?v99) rfl (by kernel_rfl) (by kernel_rfl) (by kernel_rfl) (fun _ _ _ h => h) (Or.inl ⟨by rfl, ?y99⟩) hHeld ?r99
        case y99 => (intro w hSw; obtain ⟨hSp, cS, cT⟩ := hSw; have e0 := hSp.cell (i := 0) rfl; have e1 := hSp.cell (i := 1) rfl; have e2 := hSp.cell (i := 2) rfl; have e3 := hSp.cell (i := 3) rfl; have e4 := hSp.cell (i := 4) rfl; have el := hSp.lt; clear hSp; go_simp; try with_reducible rfl)
        simp only [List.getElem_toArray, List.getElem_cons_zero, List.getElem_cons_succ, Act.put, List.setIfInBounds_toArray, List.set_cons_zero, List.set_cons_succ]
        refine wpAnyH_take (i := 4) (v := ?v100) rfl (by kernel_rfl) (by kernel_rfl) (by kernel_rfl) (fun _ _ _ h => h) (Or.inl ⟨by rfl, ?y100⟩) hHeld ?r100
        case y100 => (intro w hSw; obtain ⟨hSp, cS, cT⟩ := hSw; have e0 := hSp.cell (i := 0) rfl; have e1 := hSp.cell (i := 1) rfl; have e2 := hSp.cell (i := 2) rfl; have e3 := hSp.cell (i := 3) rfl; have e4 := hSp.cell (i := 4) rfl; have el := hSp.lt; clear hSp; go_simp; try with_reducible rfl)
        simp only [List.getElem_toArray, List.getElem_cons_zero, List.getElem_cons_succ, Act.put, List.setIfInBounds_toArray, List.set_cons_zero, List.set_cons_succ]
        refine wpAnyH_take (i := 5) (v := ?v101) rfl (by kernel_rfl) (by kernel_rfl) (by kernel_rfl) (fun _ _ _ h => h) (Or.inl ⟨by rfl, ?y101⟩) hHeld ?r101
        case y101 => (intro w hSw; obtain ⟨hSp, cS, cT⟩ := hSw; have e0 := hSp.cell (i := 0) rfl; have e1 := hSp.cell (i := 1) rfl; have e2 := hSp.cell (i := 2) rfl; have e3 := hSp.cell (i := 3) rfl; have e4 := hSp.cell (i := 4) rfl; have el := hSp.lt; clear hSp; go_simp; try with_reducible rfl)
        simp only [List.getElem_toArray, List.getElem_cons_zero, List.getElem_cons_succ, Act.put, List.setIfInBounds_toArray, List.set_cons_zero, List.set_cons_succ]
        refine wpAnyH_take (i := 6) (v := ?v102) rfl (by kernel_rfl) (by kernel_rfl) (by kernel_rfl) (fun _ _ _ h => h) (Or.inl ⟨by rfl, ?y102⟩) hHeld ?r102
        case y102 => (intro w hSw; obtain ⟨hSp, cS, cT⟩ := hSw; have e0 := hSp.cell (i := 0) rfl; have e1 := hSp.cell (i := 1) rfl; have e2 := hSp.cell (i := 2) rfl; have e3 := hSp.cell (i := 3) rfl; have e4 := hSp.cell (i := 4) rfl; have el := hSp.lt; clear hSp; go_simp; try with_reducible rfl)
        simp only [List.getElem_toArray, List.getElem_cons_zero, List.getElem_cons_succ, Act.put, List.setIfInBounds_toArray, List.set_cons_zero, List.set_cons_succ]
        refine wpAnyH_take (i := 7) (v := ?v103) rfl (by kernel_rfl) (by kernel_rfl) (by kernel_rfl) (fun _ _ _ h => h) (Or.inl ⟨by rfl, ?y103⟩) hHeld ?r103
        case y103 => (intro w hSw; obtain ⟨hSp, cS, cT⟩ := hSw; have e0 := hSp.cell (i := 0) rfl; have e1 := hSp.cell (i := 1) rfl; have e2 := hSp.cell (i := 2) rfl; have e3 := hSp.cell (i := 3) rfl; have e4 := hSp.cell (i := 4) rfl; have el := hSp.lt; clear hSp; go_simp; try with_reducible rfl)
        simp only [List.getElem_toArray, List.getElem_cons_zero, List.getElem_cons_succ, Act.put, List.setIfInBounds_toArray, List.set_cons_zero, List.set_cons_succ]
        refine wpAnyH_take (i := 8) (v := ?v104) rfl (by kernel_rfl) (by kernel_rfl) (by kernel_rfl) (fun _ _ _ h => h) (Or.inl ⟨by rfl, ?y104⟩) hHeld ?r104
        case y104 => (intro w hSw; obtain ⟨hSp, cS, cT⟩ := hSw; have e0 := hSp.cell (i := 0) rfl; have e1 := hSp.cell (i := 1) rfl; have e2 := hSp.cell (i := 2) rfl; have e3 := hSp.cell (i := 3) rfl; have e4 := hSp.cell (i := 4) rfl; have el := hSp.lt; clear hSp; go_simp; try with_reducible rfl)
        simp only [List.getElem_toArray, List.getElem_cons_zero, List.getElem_cons_succ, Act.put, List.setIfInBounds_toArray, List.set_cons_zero, List.set_cons_succ]
        refine wpAnyH_take (i := 9) (v := ?v105) rfl (by kernel_rfl) (by kernel_rfl) (by kernel_rfl) (fun _ _ _ h => h) (Or.inl ⟨by rfl, ?y105⟩) hHeld ?r105
        case y105 => (intro w hSw; obtain ⟨hSp, cS, cT⟩ := hSw; have e0 := hSp.cell (i := 0) rfl; have e1 := hSp.cell (i := 1) rfl; have e2 := hSp.cell (i := 2) rfl; have e3 := hSp.cell (i := 3) rfl; have e4 := hSp.cell (i := 4) rfl; have el := hSp.lt; clear hSp; go_simp; try with_reducible rfl)
        simp only [List.getElem_toArray, List.getElem_cons_zero, List.getElem_cons_succ, Act.put, List.setIfInBounds_toArray, List.set_cons_zero, List.set_cons_succ]
        refine wpAnyH_take (i := 10) (v := ?v106) rfl (by kernel_rfl) (by kernel_rfl) (by kernel_rfl) (fun _ _ _ h => h) (Or.inl ⟨by rfl, ?y106⟩) hHeld ?r106
        case y106 => (intro w hSw; obtain ⟨hSp, cS, cT⟩ := hSw; have e0 := hSp.cell (i := 0) rfl; have e1 := hSp.cell (i := 1) rfl; have e2 := hSp.cell (i := 2) rfl; have e3 := hSp.cell (i := 3) rfl; have e4 := hSp.cell (i := 4) rfl; have el := hSp.lt; clear hSp; go_simp; try with_reducible rfl)
        simp only [List.getElem_toArray, List.getElem_cons_zero, List.getElem_cons_succ, Act.put, List.setIfInBounds_toArray, List.set_cons_zero, List.set_cons_succ]
        refine wpAnyH_ready (rs := [11]) (by kernel_rfl) (by simp) (AllReadyH.cons rfl (fun K hK => ?_) AllReadyH.nil)
        go_simp
        refine (newo_bad S (J q).1 (J q).2.2.1.length (J q).2.1 (J q).2.2.2 _ Hnw.out).mono ?_
        rintro e W1 ⟨rfl, hu1⟩
        have HM1 : Hid (SpMem w ⟨b, bg, w.heap.size, xb, wb, ob, fb⟩ S J (.slice aa acl.length ac) X 0 (List.replicate n 0) 0 W1 ∧ True) := Lib.hid ⟨HM.out.low hu1, trivial⟩
        clear hu1
        go_wp2_with fail
        refine hK.out _ _ (HM1.out.1.spj hk3) (fun hHeld => ?_)
        clear hK K
        refine wpAnyH_take (i := 12) (v := ?v108) rfl (by kernel_rfl) (by kernel_rfl) (by kernel_rfl) (fun _ _ _ h => h) (Or.inl ⟨by rfl, ?y108⟩) hHeld ?r108
        case y108 => (intro w hSw; obtain ⟨hSp, cS, cT⟩ := hSw; have e0 := hSp.cell (i := 0) rfl; have e1 := hSp.cell (i := 1) rfl; have e2 := hSp.cell (i := 2) rfl; have e3 := hSp.cell (i := 3) rfl; have e4 := hSp.cell (i := 4) rfl; have el := hSp.lt; clear hSp; go_simp; try with_reducible rfl)
        simp only [List.getElem_toArray, List.getElem_cons_zero, List.getElem_cons_succ, Act.put, List.setIfInBounds_toArray, List.set_cons_zero, List.set_cons_succ]
        refine wpAnyH_take (i := 13) (v := ?v109) rfl (by kernel_rfl) (by kernel_rfl) (by kernel_rfl) (fun _ _ _ h => h) (Or.inl ⟨by rfl, ?y109⟩) hHeld ?r109
        case y109 => (intro w hSw; obtain ⟨hSp, cS, cT⟩ := hSw; have e0 := hSp.cell (i := 0) rfl; have e1 := hSp.cell (i := 1) rfl; have e2 := hSp.cell (i := 2) rfl; have e3 := hSp.cell (i := 3) rfl; have e4 := hSp.cell (i := 4) rfl; have el := hSp.lt; clear hSp; go_simp; try with_reducible rfl)
        simp only [List.getElem_toArray, List.getElem_cons_zero, List.getElem_cons_succ, Act.put, List.setIfInBounds_toArray, List.set_cons_zero, List.set_cons_succ]
        refine wpAnyH_take (i := 14) (v := ?v110) rfl (by kernel_rfl) (by kernel_rfl) (by kernel_rfl) (fun _ _ _ h => h) (Or.inl ⟨by rfl, ?y110⟩) hHeld ?r110
        case y110 => (intro w hSw; obtain ⟨hSp, cS, cT⟩ := hSw; have e0 := hSp.cell (i := 0) rfl; have e1 := hSp.cell (i := 1) rfl; have e2 := hSp.cell (i := 2) rfl; have e3 := hSp.cell (i := 3) rfl; have e4 := hSp.cell (i := 4) rfl; have el := hSp.lt; clear hSp; go_simp; try with_reducible rfl)
        simp only [List.getElem_toArray, List.getElem_cons_zero, List.getElem_cons_succ, Act.put, List.setIfInBounds_toArray, List.set_cons_zero, List.set_cons_succ]
        refine wpAnyH_take (i := 15) (v := ?v111) rfl (by kernel_rfl) (by kernel_rfl) (by kernel_rfl) (fun _ _ _ h => h) (Or.inl ⟨by rfl, ?y111⟩) hHeld ?r111
        case y111 => (intro w hSw; obtain ⟨hSp, cS, cT⟩ := hSw; have e0 := hSp.cell (i := 0) rfl; have e1 := hSp.cell (i := 1) rfl; have e2 := hSp.cell (i := 2) rfl; have e3 := hSp.cell (i := 3) rfl; have e4 := hSp.cell (i := 4) rfl; have el := hSp.lt; clear hSp; go_simp; try with_reducible rfl)
        simp only [List.getElem_toArray, List.getElem_cons_zero, List.getElem_cons_succ, Act.put, List.setIfInBounds_toArray, List.set_cons_zero, List.set_cons_succ]
        refine wpAnyH_take (i := 16) (v := ?v112) rfl (by kernel_rfl) (by kernel_rfl) (by kernel_rfl) (fun _ _ _ h => h) (Or.inl ⟨by rfl, ?y112⟩) hHeld ?r112
        case y112 => (intro w hSw; obtain ⟨hSp, cS, cT⟩ := hSw; have e0 := hSp.cell (i := 0) rfl; have e1 := hSp.cell (i := 1) rfl; have e2 := hSp.cell (i := 2) rfl; have e3 := hSp.cell (i := 3) rfl; have e4 := hSp.cell (i := 4) rfl; have el := hSp.lt; clear hSp; go_simp; try with_reducible rfl)
        simp only [List.getElem_toArray, List.getElem_cons_zero, List.getElem_cons_succ, Act.put, List.setIfInBounds_toArray, List.set_cons_zero, List.set_cons_succ]
        refine wpAnyH_done (by kernel_rfl) ?_ _
        clear hHeld HM
        have HM2 := Lib.hid (And.intro HM1.out.1.drew trivial)
        clear HM1
        go_wp2_with fail
        refine wp_region_held_drew (S := SpJ w.heap.size xb q S (J q)) (by kernel_rfl) (HM2.out.1.spj hk3) (fun hHeld => ?_)
        refine wpAnyH_take (i := 0) (v := ?v113) rfl (by kernel_rfl) (by kernel_rfl) (by kernel_rfl) (fun _ _ _ h => h) (Or.inl ⟨by rfl, ?y113⟩) hHeld ?r113
        case y113 => (intro w hSw; obtain ⟨hSp, cS, cT⟩ := hSw; have e0 := hSp.cell (i := 0) rfl; have e1 := hSp.cell (i := 1) rfl; have e2 := hSp.cell (i := 2) rfl; have e3 := hSp.cell (i := 3) rfl; have e4 := hSp.cell (i := 4) rfl; have el := hSp.lt; clear hSp; go_simp; try with_reducible rfl)
        simp only [List.getElem_toArray, List.getElem_cons_zero, Act.put, List.setIfInBounds_toArray, List.set_cons_zero, List.set_cons_succ]
        refine wpAnyH_take (i := 2) (v := ?v114) rfl (by kernel_rfl) (by kernel_rfl) (by kernel_rfl) (fun _ _ _ h => h) (Or.inl ⟨by rfl, ?y114⟩) hHeld ?r114
        case y114 => (intro w hSw; obtain ⟨hSp, cS, cT⟩ := hSw; have e0 := hSp.cell (i := 0) rfl; have e1 := hSp.cell (i := 1) rfl; have e2 := hSp.cell (i := 2) rfl; have e3 := hSp.cell (i := 3) rfl; have e4 := hSp.cell (i := 4) rfl; have el := hSp.lt; clear hSp; go_simp; try with_reducible rfl)
        simp only [List.getElem_toArray, List.getElem_cons_zero, List.getElem_cons_succ, Act.put, List.setIfInBounds_toArray, List.set_cons_zero, List.set_cons_succ]
        refine wpAnyH_take (i := 3) (v := ?v115) rfl (by kernel_rfl) (by kernel_rfl) (by kernel_rfl) (fun _ _ _ h => h) (Or.inl ⟨by rfl, ?y115⟩) hHeld ?r115
        case y115 => (intro w hSw; obtain ⟨hSp, cS, cT⟩ := hSw; have e0 := hSp.cell (i := 0) rfl; have e1 := hSp.cell (i := 1) rfl; have e2 := hSp.cell (i := 2) rfl; have e3 := hSp.cell (i := 3) rfl; have e4 := hSp.cell (i := 4) rfl; have el := hSp.lt; clear hSp; go_simp; try with_reducible rfl)
        simp only [List.getElem_toArray, List.getElem_cons_zero, List.getElem_cons_succ, Act.put, List.setIfInBounds_toArray, List.set_cons_zero, List.set_cons_succ]
        refine wpAnyH_take (i := 4) (v := ?v116) rfl (by kernel_rfl) (by kernel_rfl) (by kernel_rfl) (fun _ _ _ h => h) (Or.inl ⟨by rfl, ?y116⟩) hHeld ?r116
        case y116 => (intro w hSw; obtain ⟨hSp, cS, cT⟩ := hSw; have e0 := hSp.cell (i := 0) rfl; have e1 := hSp.cell (i := 1) rfl; have e2 := hSp.cell (i := 2) rfl; have e3 := hSp.cell (i := 3) rfl; have e4 := hSp.cell (i := 4) rfl; have el := hSp.lt; clear hSp; go_simp; try with_reducible rfl)
        simp only [List.getElem_toArray, List.getElem_cons_zero, List.getElem_cons_succ, Act.put, List.setIfInBounds_toArray, List.set_cons_zero, List.set_cons_succ]
        refine wpAnyH_take (i := 5) (v := ?v117) rfl (by kernel_rfl) (by kernel_rfl) (by kernel_rfl) (fun _ _ _ h => h) (Or.inl ⟨by rfl, ?y117⟩) hHeld ?r117
        case y117 => (intro w hSw; obtain ⟨hSp, cS, cT⟩ := hSw; have e0 := hSp.cell (i := 0) rfl; have e1 := hSp.cell (i := 1) rfl; have e2 := hSp.cell (i := 2) rfl; have e3 := hSp.cell (i := 3) rfl; have e4 := hSp.cell (i := 4) rfl; have el := hSp.lt; clear hSp; go_simp; try with_reducible rfl)
        simp only [List.getElem_toArray, List.getElem_cons_zero, List.getElem_cons_succ, Act.put, List.setIfInBounds_toArray, List.set_cons_zero, List.set_cons_succ]
        refine wpAnyH_take (i := 6) (v := ?v118) rfl (by kernel_rfl) (by kernel_rfl) (by kernel_rfl) (fun _ _ _ h => h) (Or.inl ⟨by rfl, ?y118⟩) hHeld ?r118
        case y118 => (intro w hSw; obtain ⟨hSp, cS, cT⟩ := hSw; have e0 := hSp.cell (i := 0) rfl; have e1 := hSp.cell (i := 1) rfl; have e2 := hSp.cell (i := 2) rfl; have e3 := hSp.cell (i := 3) rfl; have e4 := hSp.cell (i := 4) rfl; have el := hSp.lt; clear hSp; go_simp; try with_reducible rfl)
        simp only [List.getElem_toArray, List.getElem_cons_zero, List.getElem_cons_succ, Act.put, List.setIfInBounds_toArray, List.set_cons_zero, List.set_cons_succ]
        refine wpAnyH_take (i := 7) (v := ?v119) rfl (by kernel_rfl) (by kernel_rfl) (by kernel_rfl) (fun _ _ _ h => h) (Or.inl ⟨by rfl, ?y119⟩) hHeld ?r119
        case y119 => (intro w hSw; obtain ⟨hSp, cS, cT⟩ := hSw; have e0 := hSp.cell (i := 0) rfl; have e1 := hSp.cell (i := 1) rfl; have e2 := hSp.cell (i := 2) rfl; have e3 := hSp.cell (i := 3) rfl; have e4 := hSp.cell (i := 4) rfl; have el := hSp.lt; clear hSp; go_simp; try with_reducible rfl)
        simp only [List.getElem_toArray, List.getElem_cons_zero, List.getElem_cons_succ, Act.put, List.setIfInBounds_toArray, List.set_cons_zero, List.set_cons_succ]
        refine wpAnyH_take (i := 8) (v := ?v120) rfl (by kernel_rfl) (by kernel_rfl) (by kernel_rfl) (fun _ _ _ h => h) (Or.inl ⟨by rfl, ?y120⟩) hHeld ?r120
        case y120 => (intro w hSw; obtain ⟨hSp, cS, cT⟩ := hSw; have e0 := hSp.cell (i := 0) rfl; have e1 := hSp.cell (i := 1) rfl; have e2 := hSp.cell (i := 2) rfl; have e3 := hSp.cell (i := 3) rfl; have e4 := hSp.cell (i := 4) rfl; have el := hSp.lt; clear hSp; go_simp; try with_reducible rfl)
        simp only [List.getElem_toArray, List.getElem_cons_zero, List.getElem_cons_succ, Act.put, List.setIfInBounds_toArray, List.set_cons_zero, List.set_cons_succ]
        refine wpAnyH_take (i := 9) (v := ?v121) rfl (by kernel_rfl) (by kernel_rfl) (by kernel_rfl) (fun _ _ _ h => h) (Or.inl ⟨by rfl, ?y121⟩) hHeld ?r121
        case y121 => (intro w hSw; obtain ⟨hSp, cS, cT⟩ := hSw; have e0 := hSp.cell (i := 0) rfl; have e1 := hSp.cell (i := 1) rfl; have e2 := hSp.cell (i := 2) rfl; have e3 := hSp.cell (i := 3) rfl; have e4 := hSp.cell (i := 4) rfl; have el := hSp.lt; clear hSp; go_simp; try with_reducible rfl)
        simp only [List.getElem_toArray, List.getElem_cons_zero, List.getElem_cons_succ, Act.put, List.setIfInBounds_toArray, List.set_cons_zero, List.set_cons_succ]
        refine wpAnyH_take (i := 10) (v := ?v122) rfl (by kernel_rfl) (by kernel_rfl) (by kernel_rfl) (fun _ _ _ h => h) (Or.inl ⟨by rfl, ?y122⟩) hHeld ?r122
        case y122 => (intro w hSw; obtain ⟨hSp, cS, cT⟩ := hSw; have e0 := hSp.cell (i := 0) rfl; have e1 := hSp.cell (i := 1) rfl; have e2 := hSp.cell (i := 2) rfl; have e3 := hSp.cell (i := 3) rfl; have e4 := hSp.cell (i := 4) rfl; have el := hSp.lt; clear hSp; go_simp; try with_reducible rfl)
        simp only [List.getElem_toArray, List.getElem_cons_zero, List.getElem_cons_succ, Act.put, List.setIfInBounds_toArray, List.set_cons_zero, List.set_cons_succ]
        refine wpAnyH_take (i := 11) (v := ?v123) rfl (by kernel_rfl) (by kernel_rfl) (by kernel_rfl) (fun _ _ _ h => h) (Or.inl ⟨by rfl, ?y123⟩) hHeld ?r123
        case y123 => (intro w hSw; obtain ⟨hSp, cS, cT⟩ := hSw; have e0 := hSp.cell (i := 0) rfl; have e1 := hSp.cell (i := 1) rfl; have e2 := hSp.cell (i := 2) rfl; have e3 := hSp.cell (i := 3) rfl; have e4 := hSp.cell (i := 4) rfl; have el := hSp.lt; clear hSp; go_simp; try with_reducible rfl)
        simp only [List.getElem_toArray, List.getElem_cons_zero, List.getElem_cons_succ, Act.put, List.setIfInBounds_toArray, List.set_cons_zero, List.set_cons_succ]
        refine wpAnyH_ready (rs := [1]) (by kernel_rfl) (by simp) (AllReadyH.cons rfl (fun K hK => ?_) AllReadyH.nil)
        go_simp
        refine (plain_any S.ow S.sq S.fs S.wd S.dp _).mono ?_
        rintro e W3 ⟨rfl, hu3⟩
        have HM3 := Lib.hid (And.intro (HM2.out.1.low hu3) trivial)
        clear hu3
        go_wp2_with fail
        refine hK.out _ _ (HM3.out.1.spj hk3) (fun hHeld => ?_)
        clear hK K
        refine wpAnyH_ready (rs := [12]) (by kernel_rfl) (by simp) (AllReadyH.cons rfl (fun K hK => ?_) AllReadyH.nil)
        go_simp
        refine (rnew_bad S (J q).1 (J q).2.2.1.length (J q).2.1 (J q).2.2.2 _ Hnw.out).mono ?_
        rintro e W4 ⟨rfl, hu4⟩
        have HM4 := Lib.hid (And.intro (HM3.out.1.low hu4) trivial)
        clear hu4
        go_wp2_with fail
        refine hK.out _ _ (HM4.out.1.spj hk3) (fun hHeld => ?_)
        clear hK K
        refine wpAnyH_take (i := 13) (v := ?v126) rfl (by kernel_rfl) (by kernel_rfl) (by kernel_rfl) (fun _ _ _ h => h) (Or.inl ⟨by rfl, ?y126⟩) hHeld ?r126
        case y126 => (intro w hSw; obtain ⟨hSp, cS, cT⟩ := hSw; have e0 := hSp.cell (i := 0) rfl; have e1 := hSp.cell (i := 1) rfl; have e2 := hSp.cell (i := 2) rfl; have e3 := hSp.cell (i := 3) rfl; have e4 := hSp.cell (i := 4) rfl; have el := hSp.lt; clear hSp; go_simp; try with_reducible rfl)
        simp only [List.getElem_toArray, List.getElem_cons_zero, List.getElem_cons_succ, Act.put, List.setIfInBounds_toArray, List.set_cons_zero, List.set_cons_succ]
        refine wpAnyH_take (i := 14) (v := ?v127) rfl (by kernel_rfl) (by kernel_rfl) (by kernel_rfl) (fun _ _ _ h => h) (Or.inl ⟨by rfl, ?y127⟩) hHeld ?r127
        case y127 => (intro w hSw; obtain ⟨hSp, cS, cT⟩ := hSw; have e0 := hSp.cell (i := 0) rfl; have e1 := hSp.cell (i := 1) rfl; have e2 := hSp.cell (i := 2) rfl; have e3 := hSp.cell (i := 3) rfl; have e4 := hSp.cell (i := 4) rfl; have el := hSp.lt; clear hSp; go_simp; try with_reducible rfl)
        simp only [List.getElem_toArray, List.getElem_cons_zero, List.getElem_cons_succ, Act.put, List.setIfInBounds_toArray, List.set_cons_zero, List.set_cons_succ]
        refine wpAnyH_take (i := 15) (v := ?v128) rfl (by kernel_rfl) (by kernel_rfl) (by kernel_rfl) (fun _ _ _ h => h) (Or.inl ⟨by rfl, ?y128⟩) hHeld ?r128
        case y128 => (intro w hSw; obtain ⟨hSp, cS, cT⟩ := hSw; have e0 := hSp.cell (i := 0) rfl; have e1 := hSp.cell (i := 1) rfl; have e2 := hSp.cell (i := 2) rfl; have e3 := hSp.cell (i := 3) rfl; have e4 := hSp.cell (i := 4) rfl; have el := hSp.lt; clear hSp; go_simp; try with_reducible rfl)
        simp only [List.getElem_toArray, List.getElem_cons_zero, List.getElem_cons_succ, Act.put, List.setIfInBounds_toArray, List.set_cons_zero, List.set_cons_succ]
        refine wpAnyH_take (i := 16) (v := ?v129) rfl (by kernel_rfl) (by kernel_rfl) (by kernel_rfl) (fun _ _ _ h => h) (Or.inl ⟨by rfl, ?y129⟩) hHeld ?r129
        case y129 => (intro w hSw; obtain ⟨hSp, cS, cT⟩ := hSw; have e0 := hSp.cell (i := 0) rfl; have e1 := hSp.cell (i := 1) rfl; have e2 := hSp.cell (i := 2) rfl; have e3 := hSp.cell (i := 3) rfl; have e4 := hSp.cell (i := 4) rfl; have el := hSp.lt; clear hSp; go_simp; try with_reducible rfl)
        simp only [List.getElem_toArray, List.getElem_cons_zero, List.getElem_cons_succ, Act.put, List.setIfInBounds_toArray, List.set_cons_zero, List.set_cons_succ]
        refine wpAnyH_take (i := 17) (v := ?v130) rfl (by kernel_rfl) (by kernel_rfl) (by kernel_rfl) (fun _ _ _ h => h) (Or.inl ⟨by rfl, ?y130⟩) hHeld ?r130
        case y130 => (intro w hSw; obtain ⟨hSp, cS, cT⟩ := hSw; have e0 := hSp.cell (i := 0) rfl; have e1 := hSp.cell (i := 1) rfl; have e2 := hSp.cell (i := 2) rfl; have e3 := hSp.cell (i := 3) rfl; have e4 := hSp.cell (i := 4) rfl; have el := hSp.lt; clear hSp; go_simp; try with_reducible rfl)
        simp only [List.getElem_toArray, List.getElem_cons_zero, List.getElem_cons_succ, Act.put, List.setIfInBounds_toArray, List.set_cons_zero, List.set_cons_succ]
        refine wpAnyH_done (by kernel_rfl) ?_ _
        clear hHeld HM2 HM3
        generalize nwE S (J q).2.2.1.length (J q).2.2.2 = E at *
        have m0 : (E != E) = false := by simp
        have HA0 : Hid (SpMem w ⟨b, bg, w.heap.size, xb, wb, ob, fb⟩ S J (.slice aa acl.length ac) X 0 (List.replicate n 0) 0 W4.drew) := Lib.hid (HM4.out.1.low (belN (Below.refl _ _) 1))
        have m2 : (mst S (J q).2.2.2 != mst S (J q).2.2.2) = false := by simp
        generalize hms : mst S (J q).2.2.2 = M at *
        have Hms := Lib.hid hms
        clear hms
        go_wp2_with fail
        refine wp_region_held_drew (S := SpJ w.heap.size xb q S (J q)) (by kernel_rfl) (HA0.out.spj hk3) (fun hHeld => ?_)
        refine wpAnyH_take (i := 0) (v := ?v131) rfl (by kernel_rfl) (by kernel_rfl) (by kernel_rfl) (fun _ _ _ h => h) (Or.inl ⟨by rfl, ?y131⟩) hHeld ?r131
        case y131 => (intro w hSw; obtain ⟨hSp, cS, cT⟩ := hSw; have e0 := hSp.cell (i := 0) rfl; have e1 := hSp.cell (i := 1) rfl; have e2 := hSp.cell (i := 2) rfl; have e3 := hSp.cell (i := 3) rfl; have e4 := hSp.cell (i := 4) rfl; have el := hSp.lt; clear hSp; go_simp; try with_reducible rfl)
        simp only [List.getElem_toArray, List.getElem_cons_zero, Act.put, List.setIfInBounds_toArray, List.set_cons_zero, List.set_cons_succ]
        refine wpAnyH_take (i := 1) (v := ?v132) rfl (by kernel_rfl) (by kernel_rfl) (by kernel_rfl) (fun _ _ _ h => h) (Or.inl ⟨by rfl, ?y132⟩) hHeld ?r132
        case y132 => (intro w hSw; obtain ⟨hSp, cS, cT⟩ := hSw; have e0 := hSp.cell (i := 0) rfl; have e1 := hSp.cell (i := 1) rfl; have e2 := hSp.cell (i := 2) rfl; have e3 := hSp.cell (i := 3) rfl; have e4 := hSp.cell (i := 4) rfl; have el := hSp.lt; clear hSp; go_simp; try with_reducible rfl)
        simp only [List.getElem_toArray, List.getElem_cons_zero, List.getElem_cons_succ, Act.put, List.setIfInBounds_toArray, List.set_cons_zero, List.set_cons_succ]
        refine wpAnyH_take (i := 2) (v := .bool false) rfl (by kernel_rfl) (by kernel_rfl) (by kernel_rfl) (fun _ _ _ h => h) (Or.inl ⟨by rfl, ?y133⟩) hHeld ?r133
        case y133 => (intro w hSw; obtain ⟨hSp, cS, cT⟩ := hSw; have e0 := hSp.cell (i := 0) rfl; have e1 := hSp.cell (i := 1) rfl; have e2 := hSp.cell (i := 2) rfl; have e3 := hSp.cell (i := 3) rfl; have e4 := hSp.cell (i := 4) rfl; have el := hSp.lt; clear hSp; go_simp; try with_reducible rfl)
        simp only [List.getElem_toArray, List.getElem_cons_zero, List.getElem_cons_succ, Act.put, List.setIfInBounds_toArray, List.set_cons_zero, List.set_cons_succ]
        refine wpAnyH_take (i := 3) (v := ?v134) rfl (by kernel_rfl) (by kernel_rfl) (by kernel_rfl) (fun _ _ _ h => h) (Or.inl ⟨by rfl, ?y134⟩) hHeld ?r134
        case y134 => (intro w hSw; obtain ⟨hSp, cS, cT⟩ := hSw; have e0 := hSp.cell (i := 0) rfl; have e1 := hSp.cell (i := 1) rfl; have e2 := hSp.cell (i := 2) rfl; have e3 := hSp.cell (i := 3) rfl; have e4 := hSp.cell (i := 4) rfl; have el := hSp.lt; clear hSp; go_simp; try with_reducible rfl)
        simp only [List.getElem_toArray, List.getElem_cons_zero, List.getElem_cons_succ, Act.put, List.setIfInBounds_toArray, List.set_cons_zero, List.set_cons_succ]
        refine wpAnyH_take (i := 4) (v := ?v135) rfl (by kernel_rfl) (by kernel_rfl) (by kernel_rfl) (fun _ _ _ h => h) (Or.inl ⟨by rfl, ?y135⟩) hHeld ?r135
        case y135 => (intro w hSw; obtain ⟨hSp, cS, cT⟩ := hSw; have e0 := hSp.cell (i := 0) rfl; have e1 := hSp.cell (i := 1) rfl; have e2 := hSp.cell (i := 2) rfl; have e3 := hSp.cell (i := 3) rfl; have e4 := hSp.cell (i := 4) rfl; have el := hSp.lt; clear hSp; go_simp; try with_reducible rfl)
        simp only [List.getElem_toArray, List.getElem_cons_zero, List.getElem_cons_succ, Act.put, List.setIfInBounds_toArray, List.set_cons_zero, List.set_cons_succ]
        refine wpAnyH_take (i := 5) (v := ?v136) rfl (by kernel_rfl) (by kernel_rfl) (by kernel_rfl) (fun _ _ _ h => h) (Or.inl ⟨by rfl, ?y136⟩) hHeld ?r136
        case y136 => (intro w hSw; obtain ⟨hSp, cS, cT⟩ := hSw; have e0 := hSp.cell (i := 0) rfl; have e1 := hSp.cell (i := 1) rfl; have e2 := hSp.cell (i := 2) rfl; have e3 := hSp.cell (i := 3) rfl; have e4 := hSp.cell (i := 4) rfl; have el := hSp.lt; clear hSp; go_simp; try with_reducible rfl)
        simp only [List.getElem_toArray, List.getElem_cons_zero, List.getElem_cons_succ, Act.put, List.setIfInBounds_toArray, List.set_cons_zero, List.set_cons_succ]
        refine wpAnyH_take (i := 6) (v := ?v137) rfl (by kernel_rfl) (by kernel_rfl) (by kernel_rfl) (fun _ _ _ h => h) (Or.inl ⟨by rfl, ?y137⟩) hHeld ?r137
        case y137 => (intro w hSw; obtain ⟨hSp, cS, cT⟩ := hSw; have e0 := hSp.cell (i := 0) rfl; have e1 := hSp.cell (i := 1) rfl; have e2 := hSp.cell (i := 2) rfl; have e3 := hSp.cell (i := 3) rfl; have e4 := hSp.cell (i := 4) rfl; have el := hSp.lt; clear hSp; go_simp; try with_reducible rfl)
        simp only [List.getElem_toArray, List.getElem_cons_zero, List.getElem_cons_succ, Act.put, List.setIfInBounds_toArray, List.set_cons_zero, List.set_cons_succ]
        refine wpAnyH_take (i := 7) (v := ?v138) rfl (by kernel_rfl) (by kernel_rfl) (by kernel_rfl) (fun _ _ _ h => h) (Or.inl ⟨by rfl, ?y138⟩) hHeld ?r138
        case y138 => (intro w hSw; obtain ⟨hSp, cS, cT⟩ := hSw; have e0 := hSp.cell (i := 0) rfl; have e1 := hSp.cell (i := 1) rfl; have e2 := hSp.cell (i := 2) rfl; have e3 := hSp.cell (i := 3) rfl; have e4 := hSp.cell (i := 4) rfl; have el := hSp.lt; clear hSp; go_simp; try with_reducible rfl)
        simp only [List.getElem_toArray, List.getElem_cons_zero, List.getElem_cons_succ, Act.put, List.setIfInBounds_toArray, List.set_cons_zero, List.set_cons_succ]
        refine wpAnyH_take (i := 8) (v := .bool false) rfl (by kernel_rfl) (by kernel_rfl) (by kernel_rfl) (fun _ _ _ h => h) (Or.inl ⟨by rfl, ?y139⟩) hHeld ?r139
        case y139 => (intro w hSw; obtain ⟨hSp, cS, cT⟩ := hSw; have e0 := hSp.cell (i := 0) rfl; have e1 := hSp.cell (i := 1) rfl; have e2 := hSp.cell (i := 2) rfl; have e3 := hSp.cell (i := 3) rfl; have e4 := hSp.cell (i := 4) rfl; have el := hSp.lt; clear hSp; go_simp; try with_reducible rfl)
        simp only [List.getElem_toArray, List.getElem_cons_zero, List.getElem_cons_succ, Act.put, List.setIfInBounds_toArray, List.set_cons_zero, List.set_cons_succ]
        refine wpAnyH_take (i := 9) (v := ?v140) rfl (by kernel_rfl) (by kernel_rfl) (by kernel_rfl) (fun _ _ _ h => h) (Or.inl ⟨by rfl, ?y140⟩) hHeld ?r140
        case y140 => (intro w hSw; obtain ⟨hSp, cS, cT⟩ := hSw; have e0 := hSp.cell (i := 0) rfl; have e1 := hSp.cell (i := 1) rfl; have e2 := hSp.cell (i := 2) rfl; have e3 := hSp.cell (i := 3) rfl; have e4 := hSp.cell (i := 4) rfl; have el := hSp.lt; clear hSp; go_simp; try with_reducible rfl)
        simp only [List.getElem_toArray, List.getElem_cons_zero, List.getElem_cons_succ, Act.put, List.setIfInBounds_toArray, List.set_cons_zero, List.set_cons_succ]
        refine wpAnyH_take (i := 10) (v := ?v141) rfl (by kernel_rfl) (by kernel_rfl) (by kernel_rfl) (fun _ _ _ h => h) (Or.inl ⟨by rfl, ?y141⟩) hHeld ?r141
        case y141 => (intro w hSw; obtain ⟨hSp, cS, cT⟩ := hSw; have e0 := hSp.cell (i := 0) rfl; have e1 := hSp.cell (i := 1) rfl; have e2 := hSp.cell (i := 2) rfl; have e3 := hSp.cell (i := 3) rfl; have e4 := hSp.cell (i := 4) rfl; have el := hSp.lt; clear hSp; go_simp; try with_reducible rfl)
        simp only [List.getElem_toArray, List.getElem_cons_zero, List.getElem_cons_succ, Act.put, List.setIfInBounds_toArray, List.set_cons_zero, List.set_cons_succ]
        refine wpAnyH_take (i := 11) (v := ?v142) rfl (by kernel_rfl) (by kernel_rfl) (by kernel_rfl) (fun _ _ _ h => h) (Or.inl ⟨by rfl, ?y142⟩) hHeld ?r142
        case y142 => (intro w hSw; obtain ⟨hSp, cS, cT⟩ := hSw; have e0 := hSp.cell (i := 0) rfl; have e1 := hSp.cell (i := 1) rfl; have e2 := hSp.cell (i := 2) rfl; have e3 := hSp.cell (i := 3) rfl; have e4 := hSp.cell (i := 4) rfl; have el := hSp.lt; clear hSp; go_simp; try with_reducible rfl)
        simp only [List.getElem_toArray, List.getElem_cons_zero, List.getElem_cons_succ, Act.put, List.setIfInBounds_toArray, List.set_cons_zero, List.set_cons_succ]
        refine wpAnyH_take (i := 12) (v := ?v143) rfl (by kernel_rfl) (by kernel_rfl) (by kernel_rfl) (fun _ _ _ h => h) (Or.inl ⟨by rfl, ?y143⟩) hHeld ?r143
        case y143 => (intro w hSw; obtain ⟨hSp, cS, cT⟩ := hSw; have e0 := hSp.cell (i := 0) rfl; have e1 := hSp.cell (i := 1) rfl; have e2 := hSp.cell (i := 2) rfl; have e3 := hSp.cell (i := 3) rfl; have e4 := hSp.cell (i := 4) rfl; have el := hSp.lt; clear hSp; go_simp; try with_reducible rfl)
        simp only [List.getElem_toArray, List.getElem_cons_zero, List.getElem_cons_succ, Act.put, List.setIfInBounds_toArray, List.set_cons_zero, List.set_cons_succ]
        refine wpAnyH_take (i := 13) (v := ?v144) rfl (by kernel_rfl) (by kernel_rfl) (by kernel_rfl) (fun _ _ _ h => h) (Or.inl ⟨by rfl, ?y144⟩) hHeld ?r144
        case y144 => (intro w hSw; obtain ⟨hSp, cS, cT⟩ := hSw; have e0 := hSp.cell (i := 0) rfl; have e1 := hSp.cell (i := 1) rfl; have e2 := hSp.cell (i := 2) rfl; have e3 := hSp.cell (i := 3) rfl; have e4 := hSp.cell (i := 4) rfl; have el := hSp.lt; clear hSp; go_simp; try with_reducible rfl)
        simp only [List.getElem_toArray, List.getElem_cons_zero, List.getElem_cons_succ, Act.put, List.setIfInBounds_toArray, List.set_cons_zero, List.set_cons_succ]
        refine wpAnyH_take (i := 14) (v := ?v145) rfl (by kernel_rfl) (by kernel_rfl) (by kernel_rfl) (fun _ _ _ h => h) (Or.inl ⟨by rfl, ?y145⟩) hHeld ?r145
        case y145 => (intro w hSw; obtain ⟨hSp, cS, cT⟩ := hSw; have e0 := hSp.cell (i := 0) rfl; have e1 := hSp.cell (i := 1) rfl; have e2 := hSp.cell (i := 2) rfl; have e3 := hSp.cell (i := 3) rfl; have e4 := hSp.cell (i := 4) rfl; have el := hSp.lt; clear hSp; go_simp; try with_reducible rfl)
        simp only [List.getElem_toArray, List.getElem_cons_zero, List.getElem_cons_succ, Act.put, List.setIfInBounds_toArray, List.set_cons_zero, List.set_cons_succ]
        refine wpAnyH_take (i := 15) (v := ?v146) rfl (by kernel_rfl) (by kernel_rfl) (by kernel_rfl) (fun _ _ _ h => h) (Or.inl ⟨by rfl, ?y146⟩) hHeld ?r146
        case y146 => (intro w hSw; obtain ⟨hSp, cS, cT⟩ := hSw; have e0 := hSp.cell (i := 0) rfl; have e1 := hSp.cell (i := 1) rfl; have e2 := hSp.cell (i := 2) rfl; have e3 := hSp.cell (i := 3) rfl; have e4 := hSp.cell (i := 4) rfl; have el := hSp.lt; clear hSp; go_simp; try with_reducible rfl)
        simp only [List.getElem_toArray, List.getElem_cons_zero, List.getElem_cons_succ, Act.put, List.setIfInBounds_toArray, List.set_cons_zero, List.set_cons_succ]
        refine wpAnyH_take (i := 16) (v := ?v147) rfl (by kernel_rfl) (by kernel_rfl) (by kernel_rfl) (fun _ _ _ h => h) (Or.inl ⟨by rfl, ?y147⟩) hHeld ?r147
        case y147 => (intro w hSw; obtain ⟨hSp, cS, cT⟩ := hSw; have e0 := hSp.cell (i := 0) rfl; have e1 := hSp.cell (i := 1) rfl; have e2 := hSp.cell (i := 2) rfl; have e3 := hSp.cell (i := 3) rfl; have e4 := hSp.cell (i := 4) rfl; have el := hSp.lt; clear hSp; go_simp; try with_reducible rfl)
        simp only [List.getElem_toArray, List.getElem_cons_zero, List.getElem_cons_succ, Act.put, List.setIfInBounds_toArray, List.set_cons_zero, List.set_cons_succ]
        refine wpAnyH_take (i := 18) (v := ?v148) rfl (by kernel_rfl) (by kernel_rfl) (by kernel_rfl) (fun _ _ _ h => h) (Or.inl ⟨by rfl, ?y148⟩) hHeld ?r148
        case y148 => (intro w hSw; obtain ⟨hSp, cS, cT⟩ := hSw; have e0 := hSp.cell (i := 0) rfl; have e1 := hSp.cell (i := 1) rfl; have e2 := hSp.cell (i := 2) rfl; have e3 := hSp.cell (i := 3) rfl; have e4 := hSp.cell (i := 4) rfl; have el := hSp.lt; clear hSp; go_simp; try with_reducible rfl)
        simp only [List.getElem_toArray, List.getElem_cons_zero, List.getElem_cons_succ, Act.put, List.setIfInBounds_toArray, List.set_cons_zero, List.set_cons_succ]
        refine wpAnyH_take (i := 20) (v := ?v149) rfl (by kernel_rfl) (by kernel_rfl) (by kernel_rfl) (fun _ _ _ h => h) (Or.inl ⟨by rfl, ?y149⟩) hHeld ?r149
        case y149 => (intro w hSw; obtain ⟨hSp, cS, cT⟩ := hSw; have e0 := hSp.cell (i := 0) rfl; have e1 := hSp.cell (i := 1) rfl; have e2 := hSp.cell (i := 2) rfl; have e3 := hSp.cell (i := 3) rfl; have e4 := hSp.cell (i := 4) rfl; have el := hSp.lt; clear hSp; go_simp; try with_reducible rfl)
        simp only [List.getElem_toArray, List.getElem_cons_zero, List.getElem_cons_succ, Act.put, List.setIfInBounds_toArray, List.set_cons_zero, List.set_cons_succ]
        refine wpAnyH_take (i := 21) (v := ?v150) rfl (by kernel_rfl) (by kernel_rfl) (by kernel_rfl) (fun _ _ _ h => h) (Or.inl ⟨by rfl, ?y150⟩) hHeld ?r150
        case y150 => (intro w hSw; obtain ⟨hSp, cS, cT⟩ := hSw; have e0 := hSp.cell (i := 0) rfl; have e1 := hSp.cell (i := 1) rfl; have e2 := hSp.cell (i := 2) rfl; have e3 := hSp.cell (i := 3) rfl; have e4 := hSp.cell (i := 4) rfl; have el := hSp.lt; clear hSp; go_simp; try with_reducible rfl)
        simp only [List.getElem_toArray, List.getElem_cons_zero, List.getElem_cons_succ, Act.put, List.setIfInBounds_toArray, List.set_cons_zero, List.set_cons_succ]
        refine wpAnyH_take (i := 22) (v := ?v151) rfl (by kernel_rfl) (by kernel_rfl) (by kernel_rfl) (fun _ _ _ h => h) (Or.inl ⟨by rfl, ?y151⟩) hHeld ?r151
        case y151 => (intro w hSw; obtain ⟨hSp, cS, cT⟩ := hSw; have e0 := hSp.cell (i := 0) rfl; have e1 := hSp.cell (i := 1) rfl; have e2 := hSp.cell (i := 2) rfl; have e3 := hSp.cell (i := 3) rfl; have e4 := hSp.cell (i := 4) rfl; have el := hSp.lt; clear hSp; go_simp; try with_reducible rfl)
        simp only [List.getElem_toArray, List.getElem_cons_zero, List.getElem_cons_succ, Act.put, List.setIfInBounds_toArray, List.set_cons_zero, List.set_cons_succ]
        refine wpAnyH_take (i := 23) (v := ?v152) rfl (by kernel_rfl) (by kernel_rfl) (by kernel_rfl) (fun _ _ _ h => h) (Or.inl ⟨by rfl, ?y152⟩) hHeld ?r152
        case y152 => (intro w hSw; obtain ⟨hSp, cS, cT⟩ := hSw; have e0 := hSp.cell (i := 0) rfl; have e1 := hSp.cell (i := 1) rfl; have e2 := hSp.cell (i := 2) rfl; have e3 := hSp.cell (i := 3) rfl; have e4 := hSp.cell (i := 4) rfl; have el := hSp.lt; clear hSp; go_simp; try with_reducible rfl)
        simp only [List.getElem_toArray, List.getElem_cons_zero, List.getElem_cons_succ, Act.put, List.setIfInBounds_toArray, List.set_cons_zero, List.set_cons_succ]
        refine wpAnyH_take (i := 24) (v := ?v153) rfl (by kernel_rfl) (by kernel_rfl) (by kernel_rfl) (fun _ _ _ h => h) (Or.inl ⟨by rfl, ?y153⟩) hHeld ?r153
        case y153 => (intro w hSw; obtain ⟨hSp, cS, cT⟩ := hSw; have e0 := hSp.cell (i := 0) rfl; have e1 := hSp.cell (i := 1) rfl; have e2 := hSp.cell (i := 2) rfl; have e3 := hSp.cell (i := 3) rfl; have e4 := hSp.cell (i := 4) rfl; have el := hSp.lt; clear hSp; go_simp; try with_reducible rfl)
        simp only [List.getElem_toArray, List.getElem_cons_zero, List.getElem_cons_succ, Act.put, List.setIfInBounds_toArray, List.set_cons_zero, List.set_cons_succ]
        refine wpAnyH_ready (rs := [17]) (by kernel_rfl) (by simp) (AllReadyH.cons rfl (fun K hK => ?_) AllReadyH.nil)
        go_simp
        have hcc := fun W => most_any S (J q).2.2.2 W
        rw [Hms.out] at hcc
        refine (hcc _).mono ?_
        rintro e W5 ⟨rfl, hu5⟩
        have HA5 : Hid (SpMem w ⟨b, bg, w.heap.size, xb, wb, ob, fb⟩ S J (.slice aa acl.length ac) X 0 (List.replicate n 0) 0 W5) := Lib.hid (HA0.out.low hu5)
        clear hu5 hcc
        go_wp2_with fail
        refine hK.out _ _ (HA5.out.spj hk3) (fun hHeld => ?_)
        clear hK K
        refine wpAnyH_ready (rs := [19]) (by kernel_rfl) (by simp) (AllReadyH.cons rfl (fun K hK => ?_) AllReadyH.nil)
        go_simp
        have hcc := fun W => plain_any S.ow S.sq S.fs S.wd S.dp W
        refine (hcc _).mono ?_
        rintro e W6 ⟨rfl, hu6⟩
        have HA6 : Hid (SpMem w ⟨b, bg, w.heap.size, xb, wb, ob, fb⟩ S J (.slice aa acl.length ac) X 0 (List.replicate n 0) 0 W6) := Lib.hid (HA5.out.low hu6)
        clear hu6 hcc
        go_wp2_with fail
        refine hK.out _ _ (HA6.out.spj hk3) (fun hHeld => ?_)
        clear hK K
        refine wpAnyH_ready (rs := [25]) (by kernel_rfl) (by simp) (AllReadyH.cons rfl (fun K hK => ?_) AllReadyH.nil)
        go_simp
        have hcc := fun W => rmost_any S (J q).2.2.2 W
        rw [Hms.out] at hcc
        refine (hcc _).mono ?_
        rintro e W7 ⟨rfl, hu7⟩
        have HA7 : Hid (SpMem w ⟨b, bg, w.heap.size, xb, wb, ob, fb⟩ S J (.slice aa acl.length ac) X 0 (List.replicate n 0) 0 W7) := Lib.hid (HA6.out.low hu7)
        clear hu7 hcc
        go_wp2_with fail
        refine hK.out _ _ (HA7.out.spj hk3) (fun hHeld => ?_)
        clear hK K
        refine wpAnyH_take (i := 26) (v := .bool false) rfl (by kernel_rfl) (by kernel_rfl) (by kernel_rfl) (fun _ _ _ h => h) (Or.inl ⟨by rfl, ?y157⟩) hHeld ?r157
        case y157 => (intro w hSw; obtain ⟨hSp, cS, cT⟩ := hSw; have e0 := hSp.cell (i := 0) rfl; have e1 := hSp.cell (i := 1) rfl; have e2 := hSp.cell (i := 2) rfl; have e3 := hSp.cell (i := 3) rfl; have e4 := hSp.cell (i := 4) rfl; have el := hSp.lt; clear hSp; go_simp; try with_reducible rfl)
        simp only [List.getElem_toArray, List.getElem_cons_zero, List.getElem_cons_succ, Act.put, List.setIfInBounds_toArray, List.set_cons_zero, List.set_cons_succ]
        refine wpAnyH_take (i := 27) (v := ?v158) rfl (by kernel_rfl) (by kernel_rfl) (by kernel_rfl) (fun _ _ _ h => h) (Or.inl ⟨by rfl, ?y158⟩) hHeld ?r158
        case y158 => (intro w hSw; obtain ⟨hSp, cS, cT⟩ := hSw; have e0 := hSp.cell (i := 0) rfl; have e1 := hSp.cell (i := 1) rfl; have e2 := hSp.cell (i := 2) rfl; have e3 := hSp.cell (i := 3) rfl; have e4 := hSp.cell (i := 4) rfl; have el := hSp.lt; clear hSp; go_simp; try with_reducible rfl)
        simp only [List.getElem_toArray, List.getElem_cons_zero, List.getElem_cons_succ, Act.put, List.setIfInBounds_toArray, List.set_cons_zero, List.set_cons_succ]
        refine wpAnyH_done (by kernel_rfl) ?_ _
        clear hHeld HA0 HA5 HA6
        have hQ := HA7.out
        have cop := hQ.op hk3
        have crf := hQ.rf hk3
        have zop := hQ.ops.frozen q
        have zrf := hQ.refs.frozen q
        have lop := hQ.ops.lt
        have lrf := hQ.refs.lt
        dsimp only at cop crf zop zrf lop lrf
        rw [HX.out q (Nat.le_refl _)] at cop crf
        change _ = some (Value.pointer none) at cop
        change _ = some (Value.pointer none) at crf
        have hof : ob ≠ fb := HD.out.o1.2.2
        have hfo : fb ≠ ob := HD.out.o1.2.2.symm
        have HQ := Lib.hid hQ
        have HM5 := Lib.hid HM4.out.2
        clear hQ HM4 HA7
        go_wp2_with fail
        go_roundw
        case rel => exact ⟨q + 1, X, by go_num, by omega, fun j hj => HX.out j (by omega), by
          have := HQ.out.put HD.out hk3 none (fun _ _ _ _ c => by cases c) (fun _ _ _ _ _ _ _ _ _ c => by cases c)
          rw [updP_none X q (HX.out q (Nat.le_refl _))] at this
          exact this⟩
        case measure => simp [intOf]; omega
    · obtain rfl : q = 3 := by omega
      have HX0 := Lib.hid hX
      clear hX
      go_wp2_with fail
      go_loopw [17] (fun i wr => SpRel2 w ⟨b, bg, w.heap.size, xb, wb, ob, fb⟩ S J (.slice aa acl.length ac) n acl.length i wr) (fun i _ => acl.length - (intOf i).toNat)
      case atStart => exact ⟨0, X, _, 0, rfl, by omega, by simp, HX0.out, hM, by omega, by omega⟩
      case round =>
        clear hM HX0
        clear X
        obtain ⟨i, X, zs, t, rfl, him, hzl, hX3, hM, t0, t1⟩ := hrel
        have cact := hM.act
        dsimp only at cact
        by_cases hlt2 : (i : Int) < acl.length
        · have hii : i < acl.length := by omega
          obtain ⟨⟨i1, i2⟩, ⟨i3, i4⟩, ux, ab, aoff, rfl, alt, a1, a2, a3⟩ := (HA.out.keep hM.bel) i _ (List.getElem?_eq_getElem hii)
          generalize acl[i] = act at *
          obtain ⟨who, att, xv⟩ := act
          dsimp only at i1 i2 i3 i4 ux a1 a2 a3
          have HM0 : Hid (SpMem w ⟨b, bg, w.heap.size, xb, wb, ob, fb⟩ S J (.slice (some ⟨ab, aoff, none⟩) acl.length ac) X i zs t (wr.alloc (.cells #[.int .i64 who, .int .i64 att, .int .u64 xv] 51)) ∧ Blk (wr.alloc (.cells #[.int .i64 who, .int .i64 att, .int .u64 xv] 51)) wr.heap.size [.int .i64 who, .int .i64 att, .int .u64 xv] ∧ wr.heap.size ≠ wb ∧ wr.heap.size ≠ b ∧ wr.heap.size ≠ bg ∧ (∀ k o g r x, X k = some (o, g, r, x) → wr.heap.size ≠ o ∧ wr.heap.size ≠ r)) := by
            have hf := far_lt hM
            dsimp only at hf
            refine Lib.hid ⟨hM.low ((Below.refl _ _).alloc (Nat.le_refl _) _), Blk.new wr #[.int .i64 who, .int .i64 att, .int .u64 xv] 51, by omega, by omega, by omega, fun k o g r x hx => ?_⟩
            have p := hM.each k _ _ _ _ hx
            have p1 := p.1.lto
            have p2 := p.2.1.lt
            omega
          have HX3 := Lib.hid hX3
          have Hz := Lib.hid (And.intro hzl (And.intro t0 t1))
          clear hM hX3 hzl t0 t1
          go_upto_region 22 with fail
          generalize wr.alloc (.cells #[.int .i64 who, .int .i64 att, .int .u64 xv] 51) = W0 at HM0 ⊢
          generalize wr.heap.size = A0 at *
          clear a1 a2 a3 cact
          go_cut [137] (fun c wx => c = .bool (whB who) ∧ W0 = wx)
          case first =>
            have c0 := HM0.out.2.1.cell (i := 0) rfl
            have lA := HM0.out.2.1.lt
            by_cases h0 : who < 0
            · have e : whB who = true := by unfold whB; rw [decide_eq_true h0]; rfl
              have He := Lib.hid e
              clear e
              go_wp2
              go_meet
              exact ⟨by rw [He.out], rfl⟩
            · have e : whB who = decide (2 < who) := by unfold whB; rw [decide_eq_false h0]; rfl
              have He := Lib.hid e
              clear e
              go_wp2
              go_meet
              exact ⟨by rw [He.out], rfl⟩
          case rest =>
          obtain ⟨rfl, rfl⟩ := hcut
          go_upto_if 137 with fail
          go_cut [19, 20] (fun _ _ wx => SpMid w ⟨b, bg, w.heap.size, xb, wb, ob, fb⟩ S J (.slice (some ⟨ab, aoff, none⟩) acl.length ac) n (i + 1) wx)
          case first =>
            have c0 := HM0.out.2.1.cell (i := 0) rfl
            have c1 := HM0.out.2.1.cell (i := 1) rfl
            have c2 := HM0.out.2.1.cell (i := 2) rfl
            by_cases hw : who < 0 ∨ 2 < who
            · have wb1 : whB who = true := by unfold whB; simpa using hw
              rw [wb1]
              clear wb1
              by_cases hat : 0 ≤ att ∧ att < n
              · obtain ⟨h0, h1⟩ := hat
                obtain ⟨an, rfl⟩ := Int.eq_ofNat_of_zero_le h0
                have hzl := Hz.out.1
                have hza : zs[an]? = some (zs[an]'(by omega)) := List.getElem?_eq_getElem _
                generalize zs[an]'(by omega) = zv at *
                have Hst := Lib.hid (store_in b bg zs t xv zv an W0 HM0.out.1.bank hza Hz.out.2.1 (by have := Hz.out.2.2; omega) ux)
                have Hza := Lib.hid hza
                clear hza hzl hw
                go_wp2_with fail
                refine Hst.out.mono ?_
                rintro e W1 ⟨rfl, hB1, hu1⟩
                obtain ⟨x1, x2, x3, x4, x5, x6⟩ := HM0.out
                have nO : ∀ q, q ≠ b → q ≠ bg → ¬ Own b bg q := fun q c1 c2 c => by rcases c with c | c <;> contradiction
                have hA1 := x2.of_block (hu1.block A0 x2.lt (nO _ x4 x5))
                have hr1 : Row W1 wb zs := x1.wds.upd hu1 (nO _ HD.out.b1.2.2.1.symm HD.out.b2.2.2.1.symm)
                have d1 := hA1.cell (i := 1) rfl
                have d2 := hA1.cell (i := 2) rfl
                have d3 := hr1.cell Hza.out
                have d4 := hr1.frozen an
                have d5 := hr1.lt
                have H2 := Lib.hid (And.intro (x1.store HD.out hu1 hB1) True.intro)
                clear hB1 hu1 x1 x2 x3 x4 x5 x6 hA1 hr1 nO c0 c1 c2 Hst
                go_wp2_with fail
                go_meet
                exact ⟨X, _, _, by rw [List.length_set]; exact Hz.out.1, HX3.out, H2.out.1.more, by have := Hz.out.2; omega, by have := Hz.out.2; omega⟩
              · have hno : att < 0 ∨ (0 ≤ att ∧ (n : Int) ≤ att) := by omega
                clear hat hw
                rcases hno with h0 | ⟨h0, h1⟩
                all_goals
                  go_wp2_with fail
                  go_meet
                  exact ⟨X, zs, t, Hz.out.1, HX3.out, HM0.out.1.more, Hz.out.2.1, by have := Hz.out.2.2; omega⟩
            · have wb1 : whB who = false := by unfold whB; simp; omega
              rw [wb1]
              clear wb1
              obtain ⟨k, rfl⟩ := Int.eq_ofNat_of_zero_le (show 0 ≤ who by omega)
              have hk3 : k < 3 := by omega
              have kk : (k : Int) < 3 := by omega
              have crf := HM0.out.1.rf hk3
              have cop := HM0.out.1.op hk3
              dsimp only at crf cop
              clear hw
              cases hXk : X k with
              | none =>
                rw [hXk] at crf
                change _ = some (Value.pointer none) at crf
                clear hXk
                go_wp2_with fail
                go_meet
                exact ⟨X, zs, t, Hz.out.1, HX3.out, HM0.out.1.more, Hz.out.2.1, by have := Hz.out.2.2; omega⟩
              | some v =>
                obtain ⟨o, g, r, x⟩ := v
                rw [hXk] at crf cop
                change _ = some (Value.pointer (some ⟨r, 0, none⟩)) at crf
                change _ = some (Value.pointer (some ⟨o, 0, none⟩)) at cop
                obtain ⟨x1, x2, x3, x4, x5, x6⟩ := HM0.out
                obtain ⟨p1, p2, ⟨f1, f2, f3, f4, f5, f6, f7, f8⟩, ⟨g1, g2, g3, g4, g5, g6, g7, g8⟩, ⟨r1, r2, r3, r4, r5, r6, r7, r8⟩, p6, p7, hwf, hl1, hl2, s0, s1⟩ := x1.each k _ _ _ _ hXk
                dsimp only at f1 f2 f3 f4 f5 f6 f7 g1 g2 g5 r1 r2 r3 r4 r5 r6 r7
                have hy1 := x6 k _ _ _ _ hXk
                have hwf2 := wf_stp hwf x1.bank.rng
                have hst := steps_stp S (J k).2.2.1 zs x
                have hlf := left_stp S (J k).2.2.1 zs x
                have hln := len_stp S (J k).2.2.1 zs x
                have Hrs := Lib.hid (rstep_any p2 x1.wds r5 ((HJ.out k hk3).keep x1.bel) r8 HD.out.l3 hwf x1.bank.rng hl1 hl2 s0 (by omega))
                have Hps : Hid (∀ W, OpAt W o g S (J k).2.2.1 x → Bk W b bg zs t → Calls Try.prog 18 #[.pointer (some ⟨o, 0, none⟩), .pointer (some ⟨b, 0, none⟩)] W (StepPost o g b bg S (J k).2.2.1 (stp S (J k).2.2.1 zs x) t W)) :=
                  Lib.hid (fun W hO hK => step_any hO hK f1 f2 g1 g2 hwf Hz.out.2.1 (by have := Hz.out.2.2; omega) s0 (by omega))
                dsimp only at Hrs
                rw [Hz.out.1] at Hrs
                generalize stp S (J k).2.2.1 zs x = R at *
                have HXk := Lib.hid hXk
                have HR := Lib.hid (And.intro hwf2 (And.intro hst (And.intro hlf hln)))
                have Hff := Lib.hid (show r ≠ o ∧ r ≠ b ∧ r ≠ bg ∧ A0 ≠ r ∧ A0 ≠ wb ∧ o ≠ r ∧ o ≠ wb ∧ g ≠ r ∧ g ≠ wb ∧ ob ≠ r ∧ ob ≠ wb ∧ b ≠ r ∧ b ≠ wb ∧ bg ≠ r ∧ bg ≠ wb from ⟨p6.symm, r1, r2, hy1.2, x3, p6, f5, p7, g5, r6.symm, HD.out.w1.2.2.1.symm, r1.symm, HD.out.b1.2.2.1, r2.symm, HD.out.b2.2.2.1⟩)
                clear x1 x2 x3 x4 x5 x6 p1 p2 f1 f2 f3 f4 f5 f6 f7 f8 g1 g2 g3 g4 g5 g6 g7 g8 r1 r2 r3 r4 r5 r6 r7 r8 p6 p7 hwf hl1 hl2 s0 s1 hy1 hwf2 hst hlf hln hXk
                go_wp2_with fail
                refine Hrs.out.mono ?_
                rintro e W1 ⟨rfl, ⟨sq, hR1, hsq⟩, hW1, hu1⟩
                obtain ⟨y1, y2, y3, y4, y5, y6, y7, y8, y9, y10, y11, y12, y13, y14, y15⟩ := Hff.out
                obtain ⟨x1, x2, _, _, _, _⟩ := HM0.out
                have p := x1.each k _ _ _ _ HXk.out
                have n1' : ∀ q, q ≠ r → q ≠ wb → ¬ Ow2 r wb q := fun q a1 a2 a => by rcases a with a | a <;> contradiction
                have hA1 := x2.of_block (hu1.block A0 x2.lt (n1' _ y4 y5))
                have d0 := hA1.cell (i := 0) rfl
                have hob := x1.ops.of_block (hu1.block ob x1.ops.lt (n1' _ y10 y11))
                have cop1 : W1.cell? ⟨ob, k, none⟩ = some (.pointer (some ⟨o, 0, none⟩)) := by
                  rw [hu1.cell (p := ⟨ob, k, none⟩) x1.ops.lt (n1' _ y10 y11)]
                  exact cop
                have H1 : Hid (RfAt W1 r S (J k).1 (J k).2.2.1 (J k).2.1 (J k).2.2.2 R.1 ∧ RB r (rfx S (.slice (J k).1 (J k).2.2.1.length (J k).2.1) (J k).2.2.2 (R.1.line + 1) ((J k).2.2.2 - R.1.left) sq R.1.n R.1.how R.1.steps) W1 ∧ Row W1 wb R.2.1 ∧ Upd (Ow2 r wb) W0 W1 ∧ OpAt W1 o g S (J k).2.2.1 x ∧ Bk W1 b bg zs t) :=
                  Lib.hid ⟨⟨sq, hR1, hsq⟩, hR1, hW1, hu1, p.1.upd hu1 (n1' _ y6 y7) (n1' _ y8 y9), x1.bank.upd hu1 (n1' _ y12 y13) (n1' _ y14 y15)⟩
                clear hR1 hsq hW1 hu1 y1 y2 y3 y4 y5 y6 y7 y8 y9 y10 y11 y12 y13 y14 y15 x1 x2 p n1' hA1 hob c0 c1 c2 crf cop Hrs
                go_wp2_with fail
                clear d0 cop1
                have Hs2 := Lib.hid (Hps.out W1.drew H1.out.2.2.2.2.1.drew H1.out.2.2.2.2.2.drew)
                clear Hps
                generalize hG : (if R.1.how = 1 then R.1.s / 2 + 1 else 0) = G
                have HG := Lib.hid hG
                have m1 : (R.1.how != R.1.how) = false := by simp
                have m2 : (G != G) = false := by simp
                have m3 : (R.1.steps != R.1.steps) = false := by simp
                clear hG
                refine wp_region_held_drew (S := RB r (rfx S (.slice (J k).1 (J k).2.2.1.length (J k).2.1) (J k).2.2.2 (R.1.line + 1) ((J k).2.2.2 - R.1.left) sq R.1.n R.1.how R.1.steps)) (by kernel_rfl) (H1.out.2.1) (fun hHeld => ?_)
                refine wpAnyH_take (i := 0) (v := ?v1) rfl (by kernel_rfl) (by kernel_rfl) (by kernel_rfl) (fun _ _ _ h => h) (Or.inl ⟨by rfl, ?y1⟩) hHeld ?r1
                case y1 => (intro w hSw; have y11 := Blk.cell (i := 11) hSw rfl; have y12 := Blk.cell (i := 12) hSw rfl; have yl := Blk.lt hSw; go_simp; try with_reducible rfl)
                simp only [List.getElem_toArray, List.getElem_cons_zero, Act.put, List.setIfInBounds_toArray, List.set_cons_zero, List.set_cons_succ]
                refine wpAnyH_take (i := 1) (v := ?v2) rfl (by kernel_rfl) (by kernel_rfl) (by kernel_rfl) (fun _ _ _ h => h) (Or.inl ⟨by rfl, ?y2⟩) hHeld ?r2
                case y2 => (intro w hSw; have y11 := Blk.cell (i := 11) hSw rfl; have y12 := Blk.cell (i := 12) hSw rfl; have yl := Blk.lt hSw; go_simp; try with_reducible rfl)
                simp only [List.getElem_toArray, List.getElem_cons_zero, List.getElem_cons_succ, Act.put, List.setIfInBounds_toArray, List.set_cons_zero, List.set_cons_succ]
                refine wpAnyH_take (i := 3) (v := ?v3) rfl (by kernel_rfl) (by kernel_rfl) (by kernel_rfl) (fun _ _ _ h => h) (Or.inl ⟨by rfl, ?y3⟩) hHeld ?r3
                case y3 => (intro w hSw; have y11 := Blk.cell (i := 11) hSw rfl; have y12 := Blk.cell (i := 12) hSw rfl; have yl := Blk.lt hSw; go_simp; try with_reducible rfl)
                simp only [List.getElem_toArray, List.getElem_cons_zero, List.getElem_cons_succ, Act.put, List.setIfInBounds_toArray, List.set_cons_zero, List.set_cons_succ]
                refine wpAnyH_take (i := 4) (v := ?v4) rfl (by kernel_rfl) (by kernel_rfl) (by kernel_rfl) (fun _ _ _ h => h) (Or.inl ⟨by rfl, ?y4⟩) hHeld ?r4
                case y4 => (intro w hSw; have y11 := Blk.cell (i := 11) hSw rfl; have y12 := Blk.cell (i := 12) hSw rfl; have yl := Blk.lt hSw; go_simp; try with_reducible rfl)
                simp only [List.getElem_toArray, List.getElem_cons_zero, List.getElem_cons_succ, Act.put, List.setIfInBounds_toArray, List.set_cons_zero, List.set_cons_succ]
                refine wpAnyH_take (i := 5) (v := ?v5) rfl (by kernel_rfl) (by kernel_rfl) (by kernel_rfl) (fun _ _ _ h => h) (Or.inl ⟨by rfl, ?y5⟩) hHeld ?r5
                case y5 => (intro w hSw; have y11 := Blk.cell (i := 11) hSw rfl; have y12 := Blk.cell (i := 12) hSw rfl; have yl := Blk.lt hSw; go_simp; try with_reducible rfl)
                simp only [List.getElem_toArray, List.getElem_cons_zero, List.getElem_cons_succ, Act.put, List.setIfInBounds_toArray, List.set_cons_zero, List.set_cons_succ]
                refine wpAnyH_take (i := 6) (v := ?v6) rfl (by kernel_rfl) (by kernel_rfl) (by kernel_rfl) (fun _ _ _ h => h) (Or.inl ⟨by rfl, ?y6⟩) hHeld ?r6
                case y6 => (intro w hSw; have y11 := Blk.cell (i := 11) hSw rfl; have y12 := Blk.cell (i := 12) hSw rfl; have yl := Blk.lt hSw; go_simp; try with_reducible rfl)
                simp only [List.getElem_toArray, List.getElem_cons_zero, List.getElem_cons_succ, Act.put, List.setIfInBounds_toArray, List.set_cons_zero, List.set_cons_succ]
                refine wpAnyH_ready (rs := [2]) (by kernel_rfl) (by simp) (AllReadyH.cons rfl (fun K hK => ?_) AllReadyH.nil)
                go_simp
                refine Hs2.out.mono ?_
                rintro e W2 ⟨rfl, hO2, hB2, hu2⟩
                have H2 : Hid (OpAt W2 o g S (J k).2.2.1 R.1 ∧ Bk W2 b bg R.2.1 (t + R.2.2) ∧ Upd (OwnS o b bg) W1 W2 ∧ RfAt W2 r S (J k).1 (J k).2.2.1 (J k).2.1 (J k).2.2.2 R.1) := by
                  obtain ⟨y1, y2, y3, _⟩ := Hff.out
                  have hu3 := (Upd.refl (OwnS o b bg) W1).drew.trans hu2
                  exact Lib.hid ⟨hO2, hB2, hu3, H1.out.1.of_block (hu3.block r H1.out.1.lt (fun c => by rcases c with c | c | c <;> contradiction))⟩
                have HB2 : Hid (RB r (rfx S (.slice (J k).1 (J k).2.2.1.length (J k).2.1) (J k).2.2.2 (R.1.line + 1) ((J k).2.2.2 - R.1.left) sq R.1.n R.1.how R.1.steps) W2) := by
                  obtain ⟨y1, y2, y3, _⟩ := Hff.out
                  exact Lib.hid (Blk.of_block H1.out.2.1 (H2.out.2.2.1.block r (Blk.lt H1.out.2.1) (fun c => by rcases c with c | c | c <;> contradiction)))
                clear hO2 hB2 hu2
                go_wp2_with fail
                refine hK.out _ _ (HB2.out) (fun hHeld => ?_)
                clear hK K
                refine wpAnyH_take (i := 7) (v := .bool false) rfl (by kernel_rfl) (by kernel_rfl) (by kernel_rfl) (fun _ _ _ h => h) (Or.inl ⟨by rfl, ?y8⟩) hHeld ?r8
                case y8 => (intro w hSw; have y11 := Blk.cell (i := 11) hSw rfl; have y12 := Blk.cell (i := 12) hSw rfl; have yl := Blk.lt hSw; go_simp; try with_reducible rfl)
                simp only [List.getElem_toArray, List.getElem_cons_zero, List.getElem_cons_succ, Act.put, List.setIfInBounds_toArray, List.set_cons_zero, List.set_cons_succ]
                refine wpAnyH_take (i := 8) (v := ?v9) rfl (by kernel_rfl) (by kernel_rfl) (by kernel_rfl) (fun _ _ _ h => h) (Or.inl ⟨by rfl, ?y9⟩) hHeld ?r9
                case y9 => (intro w hSw; have y11 := Blk.cell (i := 11) hSw rfl; have y12 := Blk.cell (i := 12) hSw rfl; have yl := Blk.lt hSw; go_simp; try with_reducible rfl)
                simp only [List.getElem_toArray, List.getElem_cons_zero, List.getElem_cons_succ, Act.put, List.setIfInBounds_toArray, List.set_cons_zero, List.set_cons_succ]
                refine wpAnyH_take (i := 9) (v := ?v10) rfl (by kernel_rfl) (by kernel_rfl) (by kernel_rfl) (fun _ _ _ h => h) (Or.inl ⟨by rfl, ?y10⟩) hHeld ?r10
                case y10 => (intro w hSw; have y11 := Blk.cell (i := 11) hSw rfl; have y12 := Blk.cell (i := 12) hSw rfl; have yl := Blk.lt hSw; go_simp; try with_reducible rfl)
                simp only [List.getElem_toArray, List.getElem_cons_zero, List.getElem_cons_succ, Act.put, List.setIfInBounds_toArray, List.set_cons_zero, List.set_cons_succ]
                refine wpAnyH_take (i := 11) (v := ?v11) rfl (by kernel_rfl) (by kernel_rfl) (by kernel_rfl) (fun _ _ _ h => h) (Or.inl ⟨by rfl, ?y11⟩) hHeld ?r11
                case y11 => (intro w hSw; have y11 := Blk.cell (i := 11) hSw rfl; have y12 := Blk.cell (i := 12) hSw rfl; have yl := Blk.lt hSw; go_simp; try with_reducible rfl)
                simp only [List.getElem_toArray, List.getElem_cons_zero, List.getElem_cons_succ, Act.put, List.setIfInBounds_toArray, List.set_cons_zero, List.set_cons_succ]
                refine wpAnyH_ready (rs := [10]) (by kernel_rfl) (by simp) (AllReadyH.cons rfl (fun K hK => ?_) AllReadyH.nil)
                go_simp
                have hcc := gen_any H2.out.1 HR.out.1.s
                rw [HG.out] at hcc
                refine hcc.mono ?_
                rintro e w' ⟨rfl, rfl⟩
                clear hcc
                go_wp2_with fail
                refine hK.out _ _ (HB2.out) (fun hHeld => ?_)
                clear hK K
                refine wpAnyH_ready (rs := [12]) (by kernel_rfl) (by simp) (AllReadyH.cons rfl (fun K hK => ?_) AllReadyH.nil)
                go_simp
                have hcc := rgen_any H2.out.2.2.2 HR.out.1.s
                rw [HG.out] at hcc
                refine hcc.mono ?_
                rintro e w' ⟨rfl, rfl⟩
                clear hcc
                go_wp2_with fail
                refine hK.out _ _ (HB2.out) (fun hHeld => ?_)
                clear hK K
                refine wpAnyH_take (i := 13) (v := .bool false) rfl (by kernel_rfl) (by kernel_rfl) (by kernel_rfl) (fun _ _ _ h => h) (Or.inl ⟨by rfl, ?y14⟩) hHeld ?r14
                case y14 => (intro w hSw; have y11 := Blk.cell (i := 11) hSw rfl; have y12 := Blk.cell (i := 12) hSw rfl; have yl := Blk.lt hSw; go_simp; try with_reducible rfl)
                simp only [List.getElem_toArray, List.getElem_cons_zero, List.getElem_cons_succ, Act.put, List.setIfInBounds_toArray, List.set_cons_zero, List.set_cons_succ]
                refine wpAnyH_take (i := 14) (v := ?v15) rfl (by kernel_rfl) (by kernel_rfl) (by kernel_rfl) (fun _ _ _ h => h) (Or.inl ⟨by rfl, ?y15⟩) hHeld ?r15
                case y15 => (intro w hSw; have y11 := Blk.cell (i := 11) hSw rfl; have y12 := Blk.cell (i := 12) hSw rfl; have yl := Blk.lt hSw; go_simp; try with_reducible rfl)
                simp only [List.getElem_toArray, List.getElem_cons_zero, List.getElem_cons_succ, Act.put, List.setIfInBounds_toArray, List.set_cons_zero, List.set_cons_succ]
                refine wpAnyH_take (i := 15) (v := ?v16) rfl (by kernel_rfl) (by kernel_rfl) (by kernel_rfl) (fun _ _ _ h => h) (Or.inl ⟨by rfl, ?y16⟩) hHeld ?r16
                case y16 => (intro w hSw; have y11 := Blk.cell (i := 11) hSw rfl; have y12 := Blk.cell (i := 12) hSw rfl; have yl := Blk.lt hSw; go_simp; try with_reducible rfl)
                simp only [List.getElem_toArray, List.getElem_cons_zero, List.getElem_cons_succ, Act.put, List.setIfInBounds_toArray, List.set_cons_zero, List.set_cons_succ]
                refine wpAnyH_take (i := 16) (v := ?v17) rfl (by kernel_rfl) (by kernel_rfl) (by kernel_rfl) (fun _ _ _ h => h) (Or.inl ⟨by rfl, ?y17⟩) hHeld ?r17
                case y17 => (intro w hSw; have y11 := Blk.cell (i := 11) hSw rfl; have y12 := Blk.cell (i := 12) hSw rfl; have yl := Blk.lt hSw; go_simp; try with_reducible rfl)
                simp only [List.getElem_toArray, List.getElem_cons_zero, List.getElem_cons_succ, Act.put, List.setIfInBounds_toArray, List.set_cons_zero, List.set_cons_succ]
                refine wpAnyH_take (i := 18) (v := ?v18) rfl (by kernel_rfl) (by kernel_rfl) (by kernel_rfl) (fun _ _ _ h => h) (Or.inl ⟨by rfl, ?y18⟩) hHeld ?r18
                case y18 => (intro w hSw; have y11 := Blk.cell (i := 11) hSw rfl; have y12 := Blk.cell (i := 12) hSw rfl; have yl := Blk.lt hSw; go_simp; try with_reducible rfl)
                simp only [List.getElem_toArray, List.getElem_cons_zero, List.getElem_cons_succ, Act.put, List.setIfInBounds_toArray, List.set_cons_zero, List.set_cons_succ]
                refine wpAnyH_take (i := 19) (v := ?v19) rfl (by kernel_rfl) (by kernel_rfl) (by kernel_rfl) (fun _ _ _ h => h) (Or.inl ⟨by rfl, ?y19⟩) hHeld ?r19
                case y19 => (intro w hSw; have y11 := Blk.cell (i := 11) hSw rfl; have y12 := Blk.cell (i := 12) hSw rfl; have yl := Blk.lt hSw; go_simp; try with_reducible rfl)
                simp only [List.getElem_toArray, List.getElem_cons_zero, List.getElem_cons_succ, Act.put, List.setIfInBounds_toArray, List.set_cons_zero, List.set_cons_succ]
                refine wpAnyH_take (i := 20) (v := ?v20) rfl (by kernel_rfl) (by kernel_rfl) (by kernel_rfl) (fun _ _ _ h => h) (Or.inl ⟨by rfl, ?y20⟩) hHeld ?r20
                case y20 => (intro w hSw; have y11 := Blk.cell (i := 11) hSw rfl; have y12 := Blk.cell (i := 12) hSw rfl; have yl := Blk.lt hSw; go_simp; try with_reducible rfl)
                simp only [List.getElem_toArray, List.getElem_cons_zero, List.getElem_cons_succ, Act.put, List.setIfInBounds_toArray, List.set_cons_zero, List.set_cons_succ]
                refine wpAnyH_take (i := 21) (v := ?v21) rfl (by kernel_rfl) (by kernel_rfl) (by kernel_rfl) (fun _ _ _ h => h) (Or.inl ⟨by rfl, ?y21⟩) hHeld ?r21
                case y21 => (intro w hSw; have y11 := Blk.cell (i := 11) hSw rfl; have y12 := Blk.cell (i := 12) hSw rfl; have yl := Blk.lt hSw; go_simp; try with_reducible rfl)
                simp only [List.getElem_toArray, List.getElem_cons_zero, List.getElem_cons_succ, Act.put, List.setIfInBounds_toArray, List.set_cons_zero, List.set_cons_succ]
                refine wpAnyH_ready (rs := [17]) (by kernel_rfl) (by simp) (AllReadyH.cons rfl (fun K hK => ?_) AllReadyH.nil)
                go_simp
                refine (steps_any H2.out.1).mono ?_
                rintro e w' ⟨rfl, rfl⟩
                go_wp2_with fail
                refine hK.out _ _ (HB2.out) (fun hHeld => ?_)
                clear hK K
                refine wpAnyH_take (i := 22) (v := .bool false) rfl (by kernel_rfl) (by kernel_rfl) (by kernel_rfl) (fun _ _ _ h => h) (Or.inl ⟨by rfl, ?y23⟩) hHeld ?r23
                case y23 => (intro w hSw; have y11 := Blk.cell (i := 11) hSw rfl; have y12 := Blk.cell (i := 12) hSw rfl; have yl := Blk.lt hSw; go_simp; try with_reducible rfl)
                simp only [List.getElem_toArray, List.getElem_cons_zero, List.getElem_cons_succ, Act.put, List.setIfInBounds_toArray, List.set_cons_zero, List.set_cons_succ]
                refine wpAnyH_take (i := 23) (v := ?v24) rfl (by kernel_rfl) (by kernel_rfl) (by kernel_rfl) (fun _ _ _ h => h) (Or.inl ⟨by rfl, ?y24⟩) hHeld ?r24
                case y24 => (intro w hSw; have y11 := Blk.cell (i := 11) hSw rfl; have y12 := Blk.cell (i := 12) hSw rfl; have yl := Blk.lt hSw; go_simp; try with_reducible rfl)
                simp only [List.getElem_toArray, List.getElem_cons_zero, List.getElem_cons_succ, Act.put, List.setIfInBounds_toArray, List.set_cons_zero, List.set_cons_succ]
                refine wpAnyH_done (by kernel_rfl) ?_ _
                clear hHeld Hs2
                go_wp2_with fail
                go_meet
                obtain ⟨h1, h2, h3, h4⟩ := H2.out
                refine ⟨_, R.2.1, t + R.2.2, by rw [HR.out.2.2.2]; exact Hz.out.1, fun j hj => by rw [updP_ne _ _ (by omega)]; exact HX3.out j hj, HM0.out.1.step HD.out hk3 HXk.out H1.out.2.2.2.1 H1.out.1 H1.out.2.2.1 h3 h1 h2 HR.out.1 HR.out.2.2.1 (by have := HR.out.2.1; omega) (by have := HR.out.2.1; omega), by have := HR.out.2.1; have := Hz.out.2; omega, by have := HR.out.2.1; have := Hz.out.2; omega⟩
          case rest =>
            obtain ⟨X1, zs1, t1, hz1, hX1, hM1, u0, u1'⟩ := hcut
            have HX1 := Lib.hid (And.intro hX1 (And.intro hz1 (And.intro u0 u1')))
            clear hX1 u0 u1' HM0 HX3 Hz
            go_wp2_with fail
            go_loopw [21] (fun j wr => SpRel3 w ⟨b, bg, w.heap.size, xb, wb, ob, fb⟩ S J (.slice (some ⟨ab, aoff, none⟩) acl.length ac) X1 n (i + 1) zs1 t1 j wr) (fun j _ => n - (intOf j).toNat)
            case atStart => exact ⟨0, rfl, by omega, hM1⟩
            case round =>
              clear hM1
              obtain ⟨j, rfl, hjn, hM1⟩ := hrel
              by_cases hlt3 : (j : Int) < n
              · have hzj : zs1[j]? = some (zs1[j]'(by omega)) := List.getElem?_eq_getElem _
                generalize zs1[j]'(by omega) = zv at *
                have HM1 := Lib.hid hM1.drew
                have Hzj := Lib.hid hzj
                have m0 : (zv != zv) = false := by simp
                clear hM1 hzj hz1
                go_wp2_with fail
                refine wp_region_held_drew (S := CellA ⟨wb, j, none⟩ (.int .u64 zv)) (by kernel_rfl) (HM1.out.wds.cell Hzj.out) (fun hHeld => ?_)
                refine wpAnyH_take (i := 0) (v := ?v25) rfl (by kernel_rfl) (by kernel_rfl) (by kernel_rfl) (fun _ _ _ h => h) (Or.inl ⟨by rfl, ?y25⟩) hHeld ?r25
                case y25 => (intro w hSw; have cS := (show _ = _ from hSw); go_simp; try with_reducible rfl)
                simp only [List.getElem_toArray, List.getElem_cons_zero, Act.put, List.setIfInBounds_toArray, List.set_cons_zero, List.set_cons_succ]
                refine wpAnyH_take (i := 1) (v := ?v26) rfl (by kernel_rfl) (by kernel_rfl) (by kernel_rfl) (fun _ _ _ h => h) (Or.inl ⟨by rfl, ?y26⟩) hHeld ?r26
                case y26 => (intro w hSw; have cS := (show _ = _ from hSw); go_simp; try with_reducible rfl)
                simp only [List.getElem_toArray, List.getElem_cons_zero, List.getElem_cons_succ, Act.put, List.setIfInBounds_toArray, List.set_cons_zero, List.set_cons_succ]
                refine wpAnyH_take (i := 3) (v := ?v27) rfl (by kernel_rfl) (by kernel_rfl) (by kernel_rfl) (fun _ _ _ h => h) (Or.inl ⟨by rfl, ?y27⟩) hHeld ?r27
                case y27 => (intro w hSw; have cS := (show _ = _ from hSw); go_simp; try with_reducible rfl)
                simp only [List.getElem_toArray, List.getElem_cons_zero, List.getElem_cons_succ, Act.put, List.setIfInBounds_toArray, List.set_cons_zero, List.set_cons_succ]
                refine wpAnyH_take (i := 4) (v := ?v28) rfl (by kernel_rfl) (by kernel_rfl) (by kernel_rfl) (fun _ _ _ h => h) (Or.inl ⟨by rfl, ?y28⟩) hHeld ?r28
                case y28 => (intro w hSw; have cS := (show _ = _ from hSw); go_simp; try with_reducible rfl)
                simp only [List.getElem_toArray, List.getElem_cons_zero, List.getElem_cons_succ, Act.put, List.setIfInBounds_toArray, List.set_cons_zero, List.set_cons_succ]
                refine wpAnyH_take (i := 5) (v := ?v29) rfl (by kernel_rfl) (by kernel_rfl) (by kernel_rfl) (fun _ _ _ h => h) (Or.inl ⟨by rfl, ?y29⟩) hHeld ?r29
                case y29 => (intro w hSw; have cS := (show _ = _ from hSw); go_simp; try with_reducible rfl)
                simp only [List.getElem_toArray, List.getElem_cons_zero, List.getElem_cons_succ, Act.put, List.setIfInBounds_toArray, List.set_cons_zero, List.set_cons_succ]
                refine wpAnyH_take (i := 6) (v := ?v30) rfl (by kernel_rfl) (by kernel_rfl) (by kernel_rfl) (fun _ _ _ h => h) (Or.inl ⟨by rfl, ?y30⟩) hHeld ?r30
                case y30 => (intro w hSw; have cS := (show _ = _ from hSw); go_simp; try with_reducible rfl)
                simp only [List.getElem_toArray, List.getElem_cons_zero, List.getElem_cons_succ, Act.put, List.setIfInBounds_toArray, List.set_cons_zero, List.set_cons_succ]
                refine wpAnyH_ready (rs := [2]) (by kernel_rfl) (by simp) (AllReadyH.cons rfl (fun K hK => ?_) AllReadyH.nil)
                go_simp
                refine (peek_in b bg _ _ zv j _ HM1.out.bank Hzj.out).mono ?_
                rintro e W2 ⟨rfl, _, hu2⟩
                have HM2 := Lib.hid (HM1.out.low hu2)
                clear hu2
                go_wp2_with fail
                refine hK.out _ _ (HM2.out.wds.cell Hzj.out) (fun hHeld => ?_)
                clear hK K
                refine wpAnyH_take (i := 7) (v := .bool false) rfl (by kernel_rfl) (by kernel_rfl) (by kernel_rfl) (fun _ _ _ h => h) (Or.inl ⟨by rfl, ?y32⟩) hHeld ?r32
                case y32 => (intro w hSw; have cS := (show _ = _ from hSw); go_simp; try with_reducible rfl)
                simp only [List.getElem_toArray, List.getElem_cons_zero, List.getElem_cons_succ, Act.put, List.setIfInBounds_toArray, List.set_cons_zero, List.set_cons_succ]
                refine wpAnyH_done (by kernel_rfl) ?_ _
                clear hHeld HM1
                go_wp2_with fail
                go_roundw
                case rel => exact ⟨j + 1, by go_num, by omega, HM2.out⟩
                case measure => simp [intOf]; omega
              · obtain rfl : j = n := by omega
                have HM1 := Lib.hid hM1
                clear hM1
                go_wp2_with fail
                go_roundw
                case rel => exact ⟨i + 1, X1, zs1, t1, by go_num, by omega, HX1.out.2.1, HX1.out.1, HM1.out, HX1.out.2.2.1, by have := HX1.out.2.2.2; omega⟩
                case measure => simp [intOf]; omega
        · obtain rfl : i = acl.length := by omega
          have Hu := Lib.hid hM.bel
          clear hM hX3 hzl t0 t1
          go_wp2_with fail
          refine (awake_any _).mono ?_
          rintro e w5 ⟨rfl, hb5⟩
          have H5 := Lib.hid (Hu.out.trans (hb5.mono Hu.out.size))
          clear hb5 Hu
          go_wp2
          go_ret
          exact ⟨rfl, H5.out⟩
end Go.Proofs.Ytbfelghfimcenaa
