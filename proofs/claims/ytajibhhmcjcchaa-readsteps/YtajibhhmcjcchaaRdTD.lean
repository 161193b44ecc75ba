/- The third line: whether it is whole. -/
import Derived.Test.YtajibhhmcjcchaaRdTA
import Derived.Deep.RegionHeld3
namespace Go.Proofs.Ytajibhhmcjcchaa
open Go.RowKit
section
variable {w : World} {o g b bg : Nat} {S : Sp} {xs : List Int} {x : RSt} {t : Int}
/-- What the third line reads. -/
def RQ (o : Nat) (gen dp : Int) (w' : World) : Prop := w'.cell? ⟨o, 10, none⟩ = some (.int .u64 gen) ∧ w'.cell? ⟨o, 4, none⟩ = some (.int .i64 dp)
set_option maxRecDepth 100000 in
set_option maxHeartbeats 1000000 in
theorem rstep_kept (h : RdAt w o g S x) (hB : Bk w b bg xs t) (d1 : o ≠ b) (d2 : o ≠ bg) (d3 : g ≠ b) (d4 : g ≠ bg) (hw : RWf S x) (hh : x.how = 0) (hl : x.line = 2) (v : Int) (hv : getI xs (rdl S x) = some v) (hkp : Sq.kp v x.gen S.dp = true) (t0 : 0 ≤ t) (t1 : t ≤ 1000000) (p0 : 0 ≤ x.steps) (p1 : x.steps ≤ 1000000) :
    Calls Try.prog 16 #[.pointer (some ⟨o, 0, none⟩), .pointer (some ⟨b, 0, none⟩)] w (RdPost o g b bg S xs ({ x with steps := x.steps + 1, how := 1 }, 1) t w) := by
  have Hkp := Lib.hid (fun W => Sq.kept_any v x.gen S.dp (hB.rngAt (getI_some hv).2) hw.gen W)
  rw [hkp] at Hkp
  clear hkp
  have c5 := h.cell (i := 5) rfl
  rw [hh] at c5
  have lo := h.lto
  have Hh := Lib.hid hh
  have Hl := Lib.hid hl
  have Hw := Lib.hid hw
  have Hnx := Lib.hid (rnext_any h hw)
  obtain ⟨q0, hv'⟩ := getI_some hv
  have Hv := Lib.hid (hB.rngAt hv')
  have Hld := Lib.hid (fun W (k : Bk W b bg xs t) => load_at b bg xs t v (rdl S x) W q0 k hv' t0 t1)
  have H := Lib.hid h
  have HB := Lib.hid hB
  clear h hB hh hl hw hv hv' q0
  generalize rdl S x = at0 at *
  go_enter Try.func16, Try.ntmps16
  go_wp2
  refine wp_scope_ahead 0 rfl ?_
  go_wp2_with fail
  refine Hnx.out.mono ?_
  rintro e w1 ⟨rfl, hb1⟩
  have HK := Lib.hid (And.intro (H.out.below hb1) (And.intro (HB.out.below hb1) (Upd.of_below (OwnR o g b bg) hb1)))
  clear hb1
  go_wp2_with fail
  refine (Hld.out _ HK.out.2.1).mono ?_
  rintro e v1 ⟨rfl, hk1, hu1'⟩
  have h1 := HK.out.1.upd hu1' (fun q => q.elim d1 d2) (fun q => q.elim d3 d4)
  have hu1 := HK.out.2.2.trans (hu1'.mono (ownR_of (o := o) (g := g)))
  clear HK Hld Hnx H HB c5 lo hu1'
  have lo1 := h1.lto
  have z1 := h1.frozen 8
  have e1 := h1.cell (i := 8) rfl
  have e1_6 := h1.cell (i := 6) rfl
  try dsimp only at e1_6
  rw [Hl.out] at e1_6
  have H2 := Lib.hid (And.intro (h1.put 8 (.int .i64 (x.steps + 1)) ({ x with steps := x.steps + 1 }) rfl (fun _ _ k => k)) (And.intro (hk1.setFar (p := ⟨o, 8, none⟩) d1.symm d2.symm (.int .i64 (x.steps + 1))) (hu1.setCell (p := ⟨o, 8, none⟩) (.inl (.inl rfl)) (.int .i64 (x.steps + 1)))))
  clear h1 hk1 hu1
  go_wp2_with fail
  obtain ⟨h2, hk2, hu2⟩ := H2.out
  clear H2 lo1 z1 e1 e1_6
  generalize v1.setCell ⟨o, 8, none⟩ (.int .i64 (x.steps + 1)) = v2 at h2 hk2 hu2 ⊢
  have hq : RQ o x.gen S.dp v2.drew := ⟨h2.drew.cell rfl, h2.drew.cell rfl⟩
  have HV := Lib.hid (And.intro h2.drew (And.intro hk2.drew hu2.drew))
  clear h2 hk2 hu2
  refine wp_region_held_drew (S := RQ o x.gen S.dp) (by kernel_rfl) (hq) (fun hHeld => ?_)
  refine wpAnyH_take (i := 0) (v := ?v35) rfl (by kernel_rfl) (by kernel_rfl) (by kernel_rfl) (fun _ _ _ h => h) (Or.inl ⟨by rfl, ?y35⟩) hHeld ?r35
  case y35 => (intro w hSw; obtain ⟨q0, q1⟩ := hSw; go_simp; try with_reducible rfl)
  simp only [List.getElem_toArray, List.getElem_cons_zero, Act.put, List.setIfInBounds_toArray, List.set_cons_zero, List.set_cons_succ]
  refine wpAnyH_take (i := 1) (v := ?v36) rfl (by kernel_rfl) (by kernel_rfl) (by kernel_rfl) (fun _ _ _ h => h) (Or.inl ⟨by rfl, ?y36⟩) hHeld ?r36
  case y36 => (intro w hSw; obtain ⟨q0, q1⟩ := hSw; go_simp; try with_reducible rfl)
  simp only [List.getElem_toArray, List.getElem_cons_zero, List.getElem_cons_succ, Act.put, List.setIfInBounds_toArray, List.set_cons_zero, List.set_cons_succ]
  refine wpAnyH_take (i := 2) (v := ?v37) rfl (by kernel_rfl) (by kernel_rfl) (by kernel_rfl) (fun _ _ _ h => h) (Or.inl ⟨by rfl, ?y37⟩) hHeld ?r37
  case y37 => (intro w hSw; obtain ⟨q0, q1⟩ := hSw; go_simp; try with_reducible rfl)
  simp only [List.getElem_toArray, List.getElem_cons_zero, List.getElem_cons_succ, Act.put, List.setIfInBounds_toArray, List.set_cons_zero, List.set_cons_succ]
  refine wpAnyH_take (i := 3) (v := ?v38) rfl (by kernel_rfl) (by kernel_rfl) (by kernel_rfl) (fun _ _ _ h => h) (Or.inl ⟨by rfl, ?y38⟩) hHeld ?r38
  case y38 => (intro w hSw; obtain ⟨q0, q1⟩ := hSw; go_simp; try with_reducible rfl)
  simp only [List.getElem_toArray, List.getElem_cons_zero, List.getElem_cons_succ, Act.put, List.setIfInBounds_toArray, List.set_cons_zero, List.set_cons_succ]
  refine wpAnyH_take (i := 4) (v := ?v39) rfl (by kernel_rfl) (by kernel_rfl) (by kernel_rfl) (fun _ _ _ h => h) (Or.inl ⟨by rfl, ?y39⟩) hHeld ?r39
  case y39 => (intro w hSw; obtain ⟨q0, q1⟩ := hSw; go_simp; try with_reducible rfl)
  simp only [List.getElem_toArray, List.getElem_cons_zero, List.getElem_cons_succ, Act.put, List.setIfInBounds_toArray, List.set_cons_zero, List.set_cons_succ]
  refine wpAnyH_take (i := 5) (v := ?v40) rfl (by kernel_rfl) (by kernel_rfl) (by kernel_rfl) (fun _ _ _ h => h) (Or.inl ⟨by rfl, ?y40⟩) hHeld ?r40
  case y40 => (intro w hSw; obtain ⟨q0, q1⟩ := hSw; go_simp; try with_reducible rfl)
  simp only [List.getElem_toArray, List.getElem_cons_zero, List.getElem_cons_succ, Act.put, List.setIfInBounds_toArray, List.set_cons_zero, List.set_cons_succ]
  refine wpAnyH_take (i := 6) (v := ?v41) rfl (by kernel_rfl) (by kernel_rfl) (by kernel_rfl) (fun _ _ _ h => h) (Or.inl ⟨by rfl, ?y41⟩) hHeld ?r41
  case y41 => (intro w hSw; obtain ⟨q0, q1⟩ := hSw; go_simp; try with_reducible rfl)
  simp only [List.getElem_toArray, List.getElem_cons_zero, List.getElem_cons_succ, Act.put, List.setIfInBounds_toArray, List.set_cons_zero, List.set_cons_succ]
  refine wpAnyH_take (i := 7) (v := ?v42) rfl (by kernel_rfl) (by kernel_rfl) (by kernel_rfl) (fun _ _ _ h => h) (Or.inl ⟨by rfl, ?y42⟩) hHeld ?r42
  case y42 => (intro w hSw; obtain ⟨q0, q1⟩ := hSw; go_simp; try with_reducible rfl)
  simp only [List.getElem_toArray, List.getElem_cons_zero, List.getElem_cons_succ, Act.put, List.setIfInBounds_toArray, List.set_cons_zero, List.set_cons_succ]
  refine wpAnyH_take (i := 8) (v := ?v43) rfl (by kernel_rfl) (by kernel_rfl) (by kernel_rfl) (fun _ _ _ h => h) (Or.inl ⟨by rfl, ?y43⟩) hHeld ?r43
  case y43 => (intro w hSw; obtain ⟨q0, q1⟩ := hSw; go_simp; try with_reducible rfl)
  simp only [List.getElem_toArray, List.getElem_cons_zero, List.getElem_cons_succ, Act.put, List.setIfInBounds_toArray, List.set_cons_zero, List.set_cons_succ]
  refine wpAnyH_take (i := 9) (v := ?v44) rfl (by kernel_rfl) (by kernel_rfl) (by kernel_rfl) (fun _ _ _ h => h) (Or.inl ⟨by rfl, ?y44⟩) hHeld ?r44
  case y44 => (intro w hSw; obtain ⟨q0, q1⟩ := hSw; go_simp; try with_reducible rfl)
  simp only [List.getElem_toArray, List.getElem_cons_zero, List.getElem_cons_succ, Act.put, List.setIfInBounds_toArray, List.set_cons_zero, List.set_cons_succ]
  refine wpAnyH_ready (rs := [10]) (by kernel_rfl) (by simp) (AllReadyH.cons rfl (fun K hK => ?_) AllReadyH.nil)
  go_simp
  refine (Hkp.out _).mono ?_
  rintro e v3 ⟨rfl, hb3⟩
  have h3 := HV.out.1.below hb3
  have hk3 := HV.out.2.1.below hb3
  have hu3 := HV.out.2.2.trans (Upd.of_below (OwnR o g b bg) hb3)
  have hq3 : RQ o x.gen S.dp v3 := ⟨h3.cell rfl, h3.cell rfl⟩
  have H3 := Lib.hid (And.intro h3 (And.intro hk3 hu3))
  clear h3 hk3 hu3 hb3
  go_wp2_with fail
  refine hK.out _ _ (hq3) (fun hHeld => ?_)
  clear hK K
  refine wpAnyH_take (i := 11) (v := ?v46) rfl (by kernel_rfl) (by kernel_rfl) (by kernel_rfl) (fun _ _ _ h => h) (Or.inl ⟨by rfl, ?y46⟩) hHeld ?r46
  case y46 => (intro w hSw; obtain ⟨q0, q1⟩ := hSw; go_simp; try with_reducible rfl)
  simp only [List.getElem_toArray, List.getElem_cons_zero, List.getElem_cons_succ, Act.put, List.setIfInBounds_toArray, List.set_cons_zero, List.set_cons_succ]
  refine wpAnyH_done (by kernel_rfl) ?_ _
  obtain ⟨h3, hk3, hu3⟩ := H3.out
  clear H3 HV hHeld hq hq3
  have lo3 := h3.lto
  have z3 := h3.frozen 5
  have e3 := h3.cell (i := 5) rfl
  have H4 := Lib.hid (And.intro (h3.put 5 (.int .i64 1) ({ x with steps := x.steps + 1, how := 1 }) rfl (fun _ _ k => k)) (And.intro (hk3.setFar (p := ⟨o, 5, none⟩) d1.symm d2.symm (.int .i64 1)) (hu3.setCell (p := ⟨o, 5, none⟩) (.inl (.inl rfl)) (.int .i64 1))))
  clear h3 hk3 hu3
  go_wp2
  go_step3
  refine ahead_goto ?_
  obtain ⟨h4, hk4, hu4⟩ := H4.out
  clear H4 lo3 z3 e3 
  generalize v3.setCell ⟨o, 5, none⟩ (.int .i64 1) = v4 at h4 hk4 hu4 ⊢
  have lo4 := h4.lto
  have e4 := h4.cell (i := 5) rfl
  try dsimp only at e4
  have HH := Lib.hid (And.intro h4 (And.intro hk4 hu4))
  clear h4 hk4 hu4
  go_wp2
  try rw [Exit.noGoto_ret]
  go_ret
  obtain ⟨h4, hk4, hu4⟩ := HH.out
  exact ⟨by first | rfl | (simp [Hh.out]), h4, hk4, hu4⟩
set_option maxRecDepth 100000 in
set_option maxHeartbeats 1000000 in
theorem rstep_again (h : RdAt w o g S x) (hB : Bk w b bg xs t) (d1 : o ≠ b) (d2 : o ≠ bg) (d3 : g ≠ b) (d4 : g ≠ bg) (hw : RWf S x) (hh : x.how = 0) (hl : x.line = 2) (v : Int) (hv : getI xs (rdl S x) = some v) (hkp : Sq.kp v x.gen S.dp = false) (hf : ¬ x.left - 1 = 0) (t0 : 0 ≤ t) (t1 : t ≤ 1000000) (p0 : 0 ≤ x.steps) (p1 : x.steps ≤ 1000000) :
    Calls Try.prog 16 #[.pointer (some ⟨o, 0, none⟩), .pointer (some ⟨b, 0, none⟩)] w (RdPost o g b bg S xs (ragn x, 1) t w) := by
  have HL := Lib.hid hf
  have Hkp := Lib.hid (fun W => Sq.kept_any v x.gen S.dp (hB.rngAt (getI_some hv).2) hw.gen W)
  rw [hkp] at Hkp
  clear hkp
  have c5 := h.cell (i := 5) rfl
  rw [hh] at c5
  have lo := h.lto
  have Hh := Lib.hid hh
  have Hl := Lib.hid hl
  have Hw := Lib.hid hw
  have Hnx := Lib.hid (rnext_any h hw)
  obtain ⟨q0, hv'⟩ := getI_some hv
  have Hv := Lib.hid (hB.rngAt hv')
  have Hld := Lib.hid (fun W (k : Bk W b bg xs t) => load_at b bg xs t v (rdl S x) W q0 k hv' t0 t1)
  have H := Lib.hid h
  have HB := Lib.hid hB
  clear h hB hh hl hw hv hv' q0
  generalize rdl S x = at0 at *
  go_enter Try.func16, Try.ntmps16
  go_wp2
  refine wp_scope_ahead 1 rfl ?_
  go_wp2_with fail
  refine Hnx.out.mono ?_
  rintro e w1 ⟨rfl, hb1⟩
  have HK := Lib.hid (And.intro (H.out.below hb1) (And.intro (HB.out.below hb1) (Upd.of_below (OwnR o g b bg) hb1)))
  clear hb1
  go_wp2_with fail
  refine (Hld.out _ HK.out.2.1).mono ?_
  rintro e v1 ⟨rfl, hk1, hu1'⟩
  have h1 := HK.out.1.upd hu1' (fun q => q.elim d1 d2) (fun q => q.elim d3 d4)
  have hu1 := HK.out.2.2.trans (hu1'.mono (ownR_of (o := o) (g := g)))
  clear HK Hld Hnx H HB c5 lo hu1'
  have lo1 := h1.lto
  have z1 := h1.frozen 8
  have e1 := h1.cell (i := 8) rfl
  have e1_6 := h1.cell (i := 6) rfl
  try dsimp only at e1_6
  rw [Hl.out] at e1_6
  have H2 := Lib.hid (And.intro (h1.put 8 (.int .i64 (x.steps + 1)) ({ x with steps := x.steps + 1 }) rfl (fun _ _ k => k)) (And.intro (hk1.setFar (p := ⟨o, 8, none⟩) d1.symm d2.symm (.int .i64 (x.steps + 1))) (hu1.setCell (p := ⟨o, 8, none⟩) (.inl (.inl rfl)) (.int .i64 (x.steps + 1)))))
  clear h1 hk1 hu1
  go_wp2_with fail
  obtain ⟨h2, hk2, hu2⟩ := H2.out
  clear H2 lo1 z1 e1 e1_6
  generalize v1.setCell ⟨o, 8, none⟩ (.int .i64 (x.steps + 1)) = v2 at h2 hk2 hu2 ⊢
  have hq : RQ o x.gen S.dp v2.drew := ⟨h2.drew.cell rfl, h2.drew.cell rfl⟩
  have HV := Lib.hid (And.intro h2.drew (And.intro hk2.drew hu2.drew))
  clear h2 hk2 hu2
  refine wp_region_held_drew (S := RQ o x.gen S.dp) (by kernel_rfl) (hq) (fun hHeld => ?_)
  refine wpAnyH_take (i := 0) (v := ?v47) rfl (by kernel_rfl) (by kernel_rfl) (by kernel_rfl) (fun _ _ _ h => h) (Or.inl ⟨by rfl, ?y47⟩) hHeld ?r47
  case y47 => (intro w hSw; obtain ⟨q0, q1⟩ := hSw; go_simp; try with_reducible rfl)
  simp only [List.getElem_toArray, List.getElem_cons_zero, Act.put, List.setIfInBounds_toArray, List.set_cons_zero, List.set_cons_succ]
  refine wpAnyH_take (i := 1) (v := ?v48) rfl (by kernel_rfl) (by kernel_rfl) (by kernel_rfl) (fun _ _ _ h => h) (Or.inl ⟨by rfl, ?y48⟩) hHeld ?r48
  case y48 => (intro w hSw; obtain ⟨q0, q1⟩ := hSw; go_simp; try with_reducible rfl)
  simp only [List.getElem_toArray, List.getElem_cons_zero, List.getElem_cons_succ, Act.put, List.setIfInBounds_toArray, List.set_cons_zero, List.set_cons_succ]
  refine wpAnyH_take (i := 2) (v := ?v49) rfl (by kernel_rfl) (by kernel_rfl) (by kernel_rfl) (fun _ _ _ h => h) (Or.inl ⟨by rfl, ?y49⟩) hHeld ?r49
  case y49 => (intro w hSw; obtain ⟨q0, q1⟩ := hSw; go_simp; try with_reducible rfl)
  simp only [List.getElem_toArray, List.getElem_cons_zero, List.getElem_cons_succ, Act.put, List.setIfInBounds_toArray, List.set_cons_zero, List.set_cons_succ]
  refine wpAnyH_take (i := 3) (v := ?v50) rfl (by kernel_rfl) (by kernel_rfl) (by kernel_rfl) (fun _ _ _ h => h) (Or.inl ⟨by rfl, ?y50⟩) hHeld ?r50
  case y50 => (intro w hSw; obtain ⟨q0, q1⟩ := hSw; go_simp; try with_reducible rfl)
  simp only [List.getElem_toArray, List.getElem_cons_zero, List.getElem_cons_succ, Act.put, List.setIfInBounds_toArray, List.set_cons_zero, List.set_cons_succ]
  refine wpAnyH_take (i := 4) (v := ?v51) rfl (by kernel_rfl) (by kernel_rfl) (by kernel_rfl) (fun _ _ _ h => h) (Or.inl ⟨by rfl, ?y51⟩) hHeld ?r51
  case y51 => (intro w hSw; obtain ⟨q0, q1⟩ := hSw; go_simp; try with_reducible rfl)
  simp only [List.getElem_toArray, List.getElem_cons_zero, List.getElem_cons_succ, Act.put, List.setIfInBounds_toArray, List.set_cons_zero, List.set_cons_succ]
  refine wpAnyH_take (i := 5) (v := ?v52) rfl (by kernel_rfl) (by kernel_rfl) (by kernel_rfl) (fun _ _ _ h => h) (Or.inl ⟨by rfl, ?y52⟩) hHeld ?r52
  case y52 => (intro w hSw; obtain ⟨q0, q1⟩ := hSw; go_simp; try with_reducible rfl)
  simp only [List.getElem_toArray, List.getElem_cons_zero, List.getElem_cons_succ, Act.put, List.setIfInBounds_toArray, List.set_cons_zero, List.set_cons_succ]
  refine wpAnyH_take (i := 6) (v := ?v53) rfl (by kernel_rfl) (by kernel_rfl) (by kernel_rfl) (fun _ _ _ h => h) (Or.inl ⟨by rfl, ?y53⟩) hHeld ?r53
  case y53 => (intro w hSw; obtain ⟨q0, q1⟩ := hSw; go_simp; try with_reducible rfl)
  simp only [List.getElem_toArray, List.getElem_cons_zero, List.getElem_cons_succ, Act.put, List.setIfInBounds_toArray, List.set_cons_zero, List.set_cons_succ]
  refine wpAnyH_take (i := 7) (v := ?v54) rfl (by kernel_rfl) (by kernel_rfl) (by kernel_rfl) (fun _ _ _ h => h) (Or.inl ⟨by rfl, ?y54⟩) hHeld ?r54
  case y54 => (intro w hSw; obtain ⟨q0, q1⟩ := hSw; go_simp; try with_reducible rfl)
  simp only [List.getElem_toArray, List.getElem_cons_zero, List.getElem_cons_succ, Act.put, List.setIfInBounds_toArray, List.set_cons_zero, List.set_cons_succ]
  refine wpAnyH_take (i := 8) (v := ?v55) rfl (by kernel_rfl) (by kernel_rfl) (by kernel_rfl) (fun _ _ _ h => h) (Or.inl ⟨by rfl, ?y55⟩) hHeld ?r55
  case y55 => (intro w hSw; obtain ⟨q0, q1⟩ := hSw; go_simp; try with_reducible rfl)
  simp only [List.getElem_toArray, List.getElem_cons_zero, List.getElem_cons_succ, Act.put, List.setIfInBounds_toArray, List.set_cons_zero, List.set_cons_succ]
  refine wpAnyH_take (i := 9) (v := ?v56) rfl (by kernel_rfl) (by kernel_rfl) (by kernel_rfl) (fun _ _ _ h => h) (Or.inl ⟨by rfl, ?y56⟩) hHeld ?r56
  case y56 => (intro w hSw; obtain ⟨q0, q1⟩ := hSw; go_simp; try with_reducible rfl)
  simp only [List.getElem_toArray, List.getElem_cons_zero, List.getElem_cons_succ, Act.put, List.setIfInBounds_toArray, List.set_cons_zero, List.set_cons_succ]
  refine wpAnyH_ready (rs := [10]) (by kernel_rfl) (by simp) (AllReadyH.cons rfl (fun K hK => ?_) AllReadyH.nil)
  go_simp
  refine (Hkp.out _).mono ?_
  rintro e v3 ⟨rfl, hb3⟩
  have h3 := HV.out.1.below hb3
  have hk3 := HV.out.2.1.below hb3
  have hu3 := HV.out.2.2.trans (Upd.of_below (OwnR o g b bg) hb3)
  have hq3 : RQ o x.gen S.dp v3 := ⟨h3.cell rfl, h3.cell rfl⟩
  have H3 := Lib.hid (And.intro h3 (And.intro hk3 hu3))
  clear h3 hk3 hu3 hb3
  go_wp2_with fail
  refine hK.out _ _ (hq3) (fun hHeld => ?_)
  clear hK K
  refine wpAnyH_take (i := 11) (v := ?v58) rfl (by kernel_rfl) (by kernel_rfl) (by kernel_rfl) (fun _ _ _ h => h) (Or.inl ⟨by rfl, ?y58⟩) hHeld ?r58
  case y58 => (intro w hSw; obtain ⟨q0, q1⟩ := hSw; go_simp; try with_reducible rfl)
  simp only [List.getElem_toArray, List.getElem_cons_zero, List.getElem_cons_succ, Act.put, List.setIfInBounds_toArray, List.set_cons_zero, List.set_cons_succ]
  refine wpAnyH_done (by kernel_rfl) ?_ _
  obtain ⟨h3, hk3, hu3⟩ := H3.out
  clear H3 HV hHeld hq hq3
  go_wp2
  go_step3
  refine ahead_goto ?_
  have lo3 := h3.lto
  have z3 := h3.frozen 6
  have e3 := h3.cell (i := 6) rfl
  have H4 := Lib.hid (And.intro (h3.put 6 (.int .i64 0) ({ x with steps := x.steps + 1, line := 0 }) rfl (fun _ _ k => k)) (And.intro (hk3.setFar (p := ⟨o, 6, none⟩) d1.symm d2.symm (.int .i64 0)) (hu3.setCell (p := ⟨o, 6, none⟩) (.inl (.inl rfl)) (.int .i64 0))))
  clear h3 hk3 hu3
  have e3_7 := H4.out.1.cell (i := 7) rfl
  generalize hvv : v3.setCell ⟨o, 6, none⟩ (.int .i64 0) = v4 at *
  have z4 := H4.out.1.frozen 7
  have lo4 := H4.out.1.lto
  obtain ⟨h4, hk4, hu4⟩ := H4.out
  clear H4
  have h5 := h4.put 7 (.int .i64 (x.left - 1)) { x with steps := x.steps + 1, line := 0, left := x.left - 1 } rfl (fun _ _ k => k)
  have hk5 := hk4.setFar (p := ⟨o, 7, none⟩) d1.symm d2.symm (.int .i64 (x.left - 1))
  have hu5 := hu4.setCell (p := ⟨o, 7, none⟩) (.inl (.inl rfl)) (.int .i64 (x.left - 1))
  clear h4 hk4 hu4
  generalize hv5 : v4.setCell ⟨o, 7, none⟩ (.int .i64 (x.left - 1)) = v5 at h5 hk5 hu5
  have lo5 := h5.lto
  have e5_7 := h5.cell (i := 7) rfl
  have e5_5 := h5.cell (i := 5) rfl
  have z5 := h5.frozen 5
  try dsimp only at e5_7 e5_5
  rw [Hh.out] at e5_5
  have Her := Lib.hid (show ragn x = { x with steps := x.steps + 1, line := 0, left := x.left - 1 } from by unfold ragn; rw [if_neg HL.out])
  have HH := Lib.hid (And.intro h5 (And.intro hk5 hu5))
  clear h5 hk5 hu5
  have Hf := Lib.hid hf
  have hf0 : ((x.left - 1) == 0) = false := by simpa using hf
  have ff0 := Hw.out.f0
  have ff1 := Hw.out.f1
  clear hf
  generalize x.left = l at *
  go_wp2
  go_step3
  go_wp2
  try rw [Exit.noGoto_ret]
  go_ret
  obtain ⟨h5, hk5, hu5⟩ := HH.out
  have er := Her.out
  exact ⟨by rw [er]; show _ = Ending.returned (.int .i64 x.how); rw [Hh.out]; rfl, by rw [er]; exact h5, hk5, hu5⟩
set_option maxRecDepth 100000 in
set_option maxHeartbeats 1000000 in
theorem rstep_spent (h : RdAt w o g S x) (hB : Bk w b bg xs t) (d1 : o ≠ b) (d2 : o ≠ bg) (d3 : g ≠ b) (d4 : g ≠ bg) (hw : RWf S x) (hh : x.how = 0) (hl : x.line = 2) (v : Int) (hv : getI xs (rdl S x) = some v) (hkp : Sq.kp v x.gen S.dp = false) (hf : x.left = 1) (t0 : 0 ≤ t) (t1 : t ≤ 1000000) (p0 : 0 ≤ x.steps) (p1 : x.steps ≤ 1000000) :
    Calls Try.prog 16 #[.pointer (some ⟨o, 0, none⟩), .pointer (some ⟨b, 0, none⟩)] w (RdPost o g b bg S xs (ragn x, 1) t w) := by
  have Hkp := Lib.hid (fun W => Sq.kept_any v x.gen S.dp (hB.rngAt (getI_some hv).2) hw.gen W)
  rw [hkp] at Hkp
  clear hkp
  have c5 := h.cell (i := 5) rfl
  rw [hh] at c5
  have lo := h.lto
  have Hh := Lib.hid hh
  have Hl := Lib.hid hl
  have Hw := Lib.hid hw
  have Hnx := Lib.hid (rnext_any h hw)
  obtain ⟨q0, hv'⟩ := getI_some hv
  have Hv := Lib.hid (hB.rngAt hv')
  have Hld := Lib.hid (fun W (k : Bk W b bg xs t) => load_at b bg xs t v (rdl S x) W q0 k hv' t0 t1)
  have H := Lib.hid h
  have HB := Lib.hid hB
  clear h hB hh hl hw hv hv' q0
  generalize rdl S x = at0 at *
  go_enter Try.func16, Try.ntmps16
  go_wp2
  refine wp_scope_ahead 1 rfl ?_
  go_wp2_with fail
  refine Hnx.out.mono ?_
  rintro e w1 ⟨rfl, hb1⟩
  have HK := Lib.hid (And.intro (H.out.below hb1) (And.intro (HB.out.below hb1) (Upd.of_below (OwnR o g b bg) hb1)))
  clear hb1
  go_wp2_with fail
  refine (Hld.out _ HK.out.2.1).mono ?_
  rintro e v1 ⟨rfl, hk1, hu1'⟩
  have h1 := HK.out.1.upd hu1' (fun q => q.elim d1 d2) (fun q => q.elim d3 d4)
  have hu1 := HK.out.2.2.trans (hu1'.mono (ownR_of (o := o) (g := g)))
  clear HK Hld Hnx H HB c5 lo hu1'
  have lo1 := h1.lto
  have z1 := h1.frozen 8
  have e1 := h1.cell (i := 8) rfl
  have e1_6 := h1.cell (i := 6) rfl
  try dsimp only at e1_6
  rw [Hl.out] at e1_6
  have H2 := Lib.hid (And.intro (h1.put 8 (.int .i64 (x.steps + 1)) ({ x with steps := x.steps + 1 }) rfl (fun _ _ k => k)) (And.intro (hk1.setFar (p := ⟨o, 8, none⟩) d1.symm d2.symm (.int .i64 (x.steps + 1))) (hu1.setCell (p := ⟨o, 8, none⟩) (.inl (.inl rfl)) (.int .i64 (x.steps + 1)))))
  clear h1 hk1 hu1
  go_wp2_with fail
  obtain ⟨h2, hk2, hu2⟩ := H2.out
  clear H2 lo1 z1 e1 e1_6
  generalize v1.setCell ⟨o, 8, none⟩ (.int .i64 (x.steps + 1)) = v2 at h2 hk2 hu2 ⊢
  have hq : RQ o x.gen S.dp v2.drew := ⟨h2.drew.cell rfl, h2.drew.cell rfl⟩
  have HV := Lib.hid (And.intro h2.drew (And.intro hk2.drew hu2.drew))
  clear h2 hk2 hu2
  refine wp_region_held_drew (S := RQ o x.gen S.dp) (by kernel_rfl) (hq) (fun hHeld => ?_)
  refine wpAnyH_take (i := 0) (v := ?v59) rfl (by kernel_rfl) (by kernel_rfl) (by kernel_rfl) (fun _ _ _ h => h) (Or.inl ⟨by rfl, ?y59⟩) hHeld ?r59
  case y59 => (intro w hSw; obtain ⟨q0, q1⟩ := hSw; go_simp; try with_reducible rfl)
  simp only [List.getElem_toArray, List.getElem_cons_zero, Act.put, List.setIfInBounds_toArray, List.set_cons_zero, List.set_cons_succ]
  refine wpAnyH_take (i := 1) (v := ?v60) rfl (by kernel_rfl) (by kernel_rfl) (by kernel_rfl) (fun _ _ _ h => h) (Or.inl ⟨by rfl, ?y60⟩) hHeld ?r60
  case y60 => (intro w hSw; obtain ⟨q0, q1⟩ := hSw; go_simp; try with_reducible rfl)
  simp only [List.getElem_toArray, List.getElem_cons_zero, List.getElem_cons_succ, Act.put, List.setIfInBounds_toArray, List.set_cons_zero, List.set_cons_succ]
  refine wpAnyH_take (i := 2) (v := ?v61) rfl (by kernel_rfl) (by kernel_rfl) (by kernel_rfl) (fun _ _ _ h => h) (Or.inl ⟨by rfl, ?y61⟩) hHeld ?r61
  case y61 => (intro w hSw; obtain ⟨q0, q1⟩ := hSw; go_simp; try with_reducible rfl)
  simp only [List.getElem_toArray, List.getElem_cons_zero, List.getElem_cons_succ, Act.put, List.setIfInBounds_toArray, List.set_cons_zero, List.set_cons_succ]
  refine wpAnyH_take (i := 3) (v := ?v62) rfl (by kernel_rfl) (by kernel_rfl) (by kernel_rfl) (fun _ _ _ h => h) (Or.inl ⟨by rfl, ?y62⟩) hHeld ?r62
  case y62 => (intro w hSw; obtain ⟨q0, q1⟩ := hSw; go_simp; try with_reducible rfl)
  simp only [List.getElem_toArray, List.getElem_cons_zero, List.getElem_cons_succ, Act.put, List.setIfInBounds_toArray, List.set_cons_zero, List.set_cons_succ]
  refine wpAnyH_take (i := 4) (v := ?v63) rfl (by kernel_rfl) (by kernel_rfl) (by kernel_rfl) (fun _ _ _ h => h) (Or.inl ⟨by rfl, ?y63⟩) hHeld ?r63
  case y63 => (intro w hSw; obtain ⟨q0, q1⟩ := hSw; go_simp; try with_reducible rfl)
  simp only [List.getElem_toArray, List.getElem_cons_zero, List.getElem_cons_succ, Act.put, List.setIfInBounds_toArray, List.set_cons_zero, List.set_cons_succ]
  refine wpAnyH_take (i := 5) (v := ?v64) rfl (by kernel_rfl) (by kernel_rfl) (by kernel_rfl) (fun _ _ _ h => h) (Or.inl ⟨by rfl, ?y64⟩) hHeld ?r64
  case y64 => (intro w hSw; obtain ⟨q0, q1⟩ := hSw; go_simp; try with_reducible rfl)
  simp only [List.getElem_toArray, List.getElem_cons_zero, List.getElem_cons_succ, Act.put, List.setIfInBounds_toArray, List.set_cons_zero, List.set_cons_succ]
  refine wpAnyH_take (i := 6) (v := ?v65) rfl (by kernel_rfl) (by kernel_rfl) (by kernel_rfl) (fun _ _ _ h => h) (Or.inl ⟨by rfl, ?y65⟩) hHeld ?r65
  case y65 => (intro w hSw; obtain ⟨q0, q1⟩ := hSw; go_simp; try with_reducible rfl)
  simp only [List.getElem_toArray, List.getElem_cons_zero, List.getElem_cons_succ, Act.put, List.setIfInBounds_toArray, List.set_cons_zero, List.set_cons_succ]
  refine wpAnyH_take (i := 7) (v := ?v66) rfl (by kernel_rfl) (by kernel_rfl) (by kernel_rfl) (fun _ _ _ h => h) (Or.inl ⟨by rfl, ?y66⟩) hHeld ?r66
  case y66 => (intro w hSw; obtain ⟨q0, q1⟩ := hSw; go_simp; try with_reducible rfl)
  simp only [List.getElem_toArray, List.getElem_cons_zero, List.getElem_cons_succ, Act.put, List.setIfInBounds_toArray, List.set_cons_zero, List.set_cons_succ]
  refine wpAnyH_take (i := 8) (v := ?v67) rfl (by kernel_rfl) (by kernel_rfl) (by kernel_rfl) (fun _ _ _ h => h) (Or.inl ⟨by rfl, ?y67⟩) hHeld ?r67
  case y67 => (intro w hSw; obtain ⟨q0, q1⟩ := hSw; go_simp; try with_reducible rfl)
  simp only [List.getElem_toArray, List.getElem_cons_zero, List.getElem_cons_succ, Act.put, List.setIfInBounds_toArray, List.set_cons_zero, List.set_cons_succ]
  refine wpAnyH_take (i := 9) (v := ?v68) rfl (by kernel_rfl) (by kernel_rfl) (by kernel_rfl) (fun _ _ _ h => h) (Or.inl ⟨by rfl, ?y68⟩) hHeld ?r68
  case y68 => (intro w hSw; obtain ⟨q0, q1⟩ := hSw; go_simp; try with_reducible rfl)
  simp only [List.getElem_toArray, List.getElem_cons_zero, List.getElem_cons_succ, Act.put, List.setIfInBounds_toArray, List.set_cons_zero, List.set_cons_succ]
  refine wpAnyH_ready (rs := [10]) (by kernel_rfl) (by simp) (AllReadyH.cons rfl (fun K hK => ?_) AllReadyH.nil)
  go_simp
  refine (Hkp.out _).mono ?_
  rintro e v3 ⟨rfl, hb3⟩
  have h3 := HV.out.1.below hb3
  have hk3 := HV.out.2.1.below hb3
  have hu3 := HV.out.2.2.trans (Upd.of_below (OwnR o g b bg) hb3)
  have hq3 : RQ o x.gen S.dp v3 := ⟨h3.cell rfl, h3.cell rfl⟩
  have H3 := Lib.hid (And.intro h3 (And.intro hk3 hu3))
  clear h3 hk3 hu3 hb3
  go_wp2_with fail
  refine hK.out _ _ (hq3) (fun hHeld => ?_)
  clear hK K
  refine wpAnyH_take (i := 11) (v := ?v70) rfl (by kernel_rfl) (by kernel_rfl) (by kernel_rfl) (fun _ _ _ h => h) (Or.inl ⟨by rfl, ?y70⟩) hHeld ?r70
  case y70 => (intro w hSw; obtain ⟨q0, q1⟩ := hSw; go_simp; try with_reducible rfl)
  simp only [List.getElem_toArray, List.getElem_cons_zero, List.getElem_cons_succ, Act.put, List.setIfInBounds_toArray, List.set_cons_zero, List.set_cons_succ]
  refine wpAnyH_done (by kernel_rfl) ?_ _
  obtain ⟨h3, hk3, hu3⟩ := H3.out
  clear H3 HV hHeld hq hq3
  go_wp2
  go_step3
  refine ahead_goto ?_
  have lo3 := h3.lto
  have z3 := h3.frozen 6
  have e3 := h3.cell (i := 6) rfl
  have H4 := Lib.hid (And.intro (h3.put 6 (.int .i64 0) ({ x with steps := x.steps + 1, line := 0 }) rfl (fun _ _ k => k)) (And.intro (hk3.setFar (p := ⟨o, 6, none⟩) d1.symm d2.symm (.int .i64 0)) (hu3.setCell (p := ⟨o, 6, none⟩) (.inl (.inl rfl)) (.int .i64 0))))
  clear h3 hk3 hu3
  have e3_7 := H4.out.1.cell (i := 7) rfl
  dsimp only at e3_7
  rw [hf] at e3_7
  generalize hvv : v3.setCell ⟨o, 6, none⟩ (.int .i64 0) = v4 at *
  have z4 := H4.out.1.frozen 7
  have lo4 := H4.out.1.lto
  obtain ⟨h4, hk4, hu4⟩ := H4.out
  clear H4
  have h5 := h4.put 7 (.int .i64 0) { x with steps := x.steps + 1, line := 0, left := 0 } rfl (fun _ _ k => k)
  have hk5 := hk4.setFar (p := ⟨o, 7, none⟩) d1.symm d2.symm (.int .i64 0)
  have hu5 := hu4.setCell (p := ⟨o, 7, none⟩) (.inl (.inl rfl)) (.int .i64 0)
  clear h4 hk4 hu4
  generalize hv5 : v4.setCell ⟨o, 7, none⟩ (.int .i64 0) = v5 at h5 hk5 hu5
  have lo5 := h5.lto
  have e5_7 := h5.cell (i := 7) rfl
  have e5_5 := h5.cell (i := 5) rfl
  have z5 := h5.frozen 5
  try dsimp only at e5_7 e5_5
  have h6 := h5.put 5 (.int .i64 2) { x with steps := x.steps + 1, line := 0, left := 0, how := 2 } rfl (fun _ _ k => k)
  have hk6 := hk5.setFar (p := ⟨o, 5, none⟩) d1.symm d2.symm (.int .i64 2)
  have hu6 := hu5.setCell (p := ⟨o, 5, none⟩) (.inl (.inl rfl)) (.int .i64 2)
  clear h5 hk5 hu5
  generalize hv6 : v5.setCell ⟨o, 5, none⟩ (.int .i64 2) = v6 at h6 hk6 hu6
  have lo6 := h6.lto
  have e6 := h6.cell (i := 5) rfl
  try dsimp only at e6
  have HH := Lib.hid (And.intro h6 (And.intro hk6 hu6))
  clear h6 hk6 hu6
  go_wp2
  go_step3
  go_wp2
  try rw [Exit.noGoto_ret]
  go_ret
  obtain ⟨h5, hk5, hu5⟩ := HH.out
  have er : ragn x = { x with steps := x.steps + 1, line := 0, left := 0, how := 2 } := by unfold ragn; rw [if_pos (by omega), show x.left - 1 = 0 by omega]
  exact ⟨by rw [er]; rfl, by rw [er]; exact h5, hk5, hu5⟩
end
end Go.Proofs.Ytajibhhmcjcchaa
