/- The first line: which record is the newest one. -/
import Derived.Test.YtajibhhmcjcchaaRdTA
import Derived.Deep.RegionHeld3
namespace Go.Proofs.Ytajibhhmcjcchaa
open Go.RowKit
section
variable {w : World} {o g b bg : Nat} {S : Sp} {xs : List Int} {x : RSt} {t : Int}
/-- What the first line reads. -/
def RA (o : Nat) (p : Int) (w' : World) : Prop := w'.cell? ⟨o, 8, none⟩ = some (.int .i64 p)
set_option maxRecDepth 100000 in
set_option maxHeartbeats 1000000 in
theorem rstep_new (h : RdAt w o g S x) (hB : Bk w b bg xs t) (d1 : o ≠ b) (d2 : o ≠ bg) (d3 : g ≠ b) (d4 : g ≠ bg) (hw : RWf S x) (hh : x.how = 0) (hl : x.line = 0) (v : Int) (hv : getI xs (rdl S x) = some v) (t0 : 0 ≤ t) (t1 : t ≤ 1000000) (p0 : 0 ≤ x.steps) (p1 : x.steps ≤ 1000000) :
    Calls Try.prog 16 #[.pointer (some ⟨o, 0, none⟩), .pointer (some ⟨b, 0, none⟩)] w (RdPost o g b bg S xs ({ x with steps := x.steps + 1, bgn := x.steps + 1, gen := v / 2, rw := [], line := 1 }, 1) t w) := by
  have c5 := h.cell (i := 5) rfl
  rw [hh] at c5
  have lo := h.lto
  have Hh := Lib.hid hh
  have Hl := Lib.hid hl
  have Hw := Lib.hid hw
  have Hnx := Lib.hid (rnext_any h hw)
  obtain ⟨q0, hv'⟩ := getI_some hv
  have Hv := Lib.hid (hB.rngAt hv')
  have Hld := Lib.hid (fun W (k : Bk W b bg xs t) => load_at b bg xs t v (rdl S x) W q0 k hv' t0 t1)
  have H := Lib.hid h
  have HB := Lib.hid hB
  clear h hB hh hl hw hv hv' q0
  generalize rdl S x = at0 at *
  go_enter Try.func16, Try.ntmps16
  go_wp2
  refine wp_scope_ahead 0 rfl ?_
  go_wp2_with fail
  refine Hnx.out.mono ?_
  rintro e w1 ⟨rfl, hb1⟩
  have HK := Lib.hid (And.intro (H.out.below hb1) (And.intro (HB.out.below hb1) (Upd.of_below (OwnR o g b bg) hb1)))
  clear hb1
  go_wp2_with fail
  refine (Hld.out _ HK.out.2.1).mono ?_
  rintro e v1 ⟨rfl, hk1, hu1'⟩
  have h1 := HK.out.1.upd hu1' (fun q => q.elim d1 d2) (fun q => q.elim d3 d4)
  have hu1 := HK.out.2.2.trans (hu1'.mono (ownR_of (o := o) (g := g)))
  clear HK Hld Hnx H HB c5 lo hu1'
  have lo1 := h1.lto
  have z1 := h1.frozen 8
  have e1 := h1.cell (i := 8) rfl
  have e1_6 := h1.cell (i := 6) rfl
  try dsimp only at e1_6
  rw [Hl.out] at e1_6
  have H2 := Lib.hid (And.intro (h1.put 8 (.int .i64 (x.steps + 1)) ({ x with steps := x.steps + 1 }) rfl (fun _ _ k => k)) (And.intro (hk1.setFar (p := ⟨o, 8, none⟩) d1.symm d2.symm (.int .i64 (x.steps + 1))) (hu1.setCell (p := ⟨o, 8, none⟩) (.inl (.inl rfl)) (.int .i64 (x.steps + 1)))))
  clear h1 hk1 hu1
  go_wp2_with fail
  obtain ⟨h2, hk2, hu2⟩ := H2.out
  clear H2 lo1 z1 e1 e1_6
  generalize v1.setCell ⟨o, 8, none⟩ (.int .i64 (x.steps + 1)) = v2 at h2 hk2 hu2 ⊢
  have f1 := Hw.out.rt.1
  have hcap : 1 ≤ S.wd.toNat := by omega
  have hle : x.rw.length ≤ S.wd.toNat := by have := Hw.out.len; omega
  have h20 := h2.drew
  have hk20 := hk2.drew
  have hu20 := hu2.drew
  clear h2 hk2 hu2
  generalize hv20 : v2.drew = v20 at *
  have lo2 := h20.lto
  have e8 := h20.cell (i := 8) rfl
  have e11 := h20.cell (i := 11) rfl
  have e9 := h20.cell (i := 9) rfl
  have e10 := h20.cell (i := 10) rfl
  have z9 := h20.frozen 9
  have z10 := h20.frozen 10
  have z11 := h20.frozen 11
  try dsimp only at e8 e11 e9 e10
  have h21 := h20.put 9 (.int .i64 (x.steps + 1)) { x with steps := x.steps + 1, bgn := x.steps + 1 } rfl (fun _ _ k => k)
  have hk21 := hk20.setFar (p := ⟨o, 9, none⟩) d1.symm d2.symm (.int .i64 (x.steps + 1))
  have hu21 := hu20.setCell (p := ⟨o, 9, none⟩) (.inl (.inl rfl)) (.int .i64 (x.steps + 1))
  clear h20 hk20 hu20
  generalize hv21 : v20.setCell ⟨o, 9, none⟩ (.int .i64 (x.steps + 1)) = v21 at h21 hk21 hu21
  have y21 := h21.frozen 10
  have x21 := h21.cell (i := 10) rfl
  have s21 : RA o (x.steps + 1) v21 := h21.cell (i := 8) rfl
  try dsimp only at x21
  have h22 := h21.put 10 (.int .u64 (v / 2)) { x with steps := x.steps + 1, bgn := x.steps + 1, gen := v / 2 } rfl (fun _ _ k => k)
  have hk22 := hk21.setFar (p := ⟨o, 10, none⟩) d1.symm d2.symm (.int .u64 (v / 2))
  have hu22 := hu21.setCell (p := ⟨o, 10, none⟩) (.inl (.inl rfl)) (.int .u64 (v / 2))
  clear h21 hk21 hu21
  generalize hv22 : v21.setCell ⟨o, 10, none⟩ (.int .u64 (v / 2)) = v22 at h22 hk22 hu22
  have y22 := h22.frozen 11
  have x22 := h22.cell (i := 11) rfl
  have s22 : RA o (x.steps + 1) v22 := h22.cell (i := 8) rfl
  try dsimp only at x22
  have h23 := h22.put 11 (.slice (some ⟨g, 0, none⟩) 0 S.wd.toNat) { x with steps := x.steps + 1, bgn := x.steps + 1, gen := v / 2, rw := [] } rfl (fun _ _ k => by simp at k)
  have hk23 := hk22.setFar (p := ⟨o, 11, none⟩) d1.symm d2.symm (.slice (some ⟨g, 0, none⟩) 0 S.wd.toNat)
  have hu23 := hu22.setCell (p := ⟨o, 11, none⟩) (.inl (.inl rfl)) (.slice (some ⟨g, 0, none⟩) 0 S.wd.toNat)
  clear h22 hk22 hu22
  generalize hv23 : v22.setCell ⟨o, 11, none⟩ (.slice (some ⟨g, 0, none⟩) 0 S.wd.toNat) = v23 at h23 hk23 hu23
  have s23 : RA o (x.steps + 1) v23 := h23.cell (i := 8) rfl
  have H5 := Lib.hid (And.intro h23 (And.intro hk23 hu23))
  clear h23 hk23 hu23 f1
  generalize S.wd.toNat = cap at *
  generalize x.rw.length = rl at *
  refine wp_region_held_drew (S := RA o (x.steps + 1)) (by kernel_rfl) (by rw [hv20]; exact e8) (fun hHeld => ?_)
  refine wpAnyH_take (i := 0) (v := ?v1) rfl (by kernel_rfl) (by kernel_rfl) (by kernel_rfl) (fun _ _ _ h => h) (Or.inl ⟨by rfl, ?y1⟩) hHeld ?r1
  case y1 => (intro w hSw; have e8 := hSw; unfold RA at e8; go_simp; try with_reducible rfl)
  simp only [List.getElem_toArray, List.getElem_cons_zero, Act.put, List.setIfInBounds_toArray, List.set_cons_zero, List.set_cons_succ]
  refine wpAnyH_take (i := 1) (v := ?v2) rfl (by kernel_rfl) (by kernel_rfl) (by kernel_rfl) (fun _ _ _ h => h) (Or.inl ⟨by rfl, ?y2⟩) hHeld ?r2
  case y2 => (intro w hSw; have e8 := hSw; unfold RA at e8; go_simp; try with_reducible rfl)
  simp only [List.getElem_toArray, List.getElem_cons_zero, List.getElem_cons_succ, Act.put, List.setIfInBounds_toArray, List.set_cons_zero, List.set_cons_succ]
  refine wpAnyH_take (i := 2) (v := ?v3) rfl (by kernel_rfl) (by kernel_rfl) (by kernel_rfl) (fun _ _ _ h => h) (Or.inl ⟨by rfl, ?y3⟩) hHeld ?r3
  case y3 => (intro w hSw; have e8 := hSw; unfold RA at e8; go_simp; try with_reducible rfl)
  simp only [List.getElem_toArray, List.getElem_cons_zero, List.getElem_cons_succ, Act.put, List.setIfInBounds_toArray, List.set_cons_zero, List.set_cons_succ]
  refine wpAnyH_take (i := 3) (v := ?v4) rfl (by kernel_rfl) (by kernel_rfl) (by kernel_rfl) (fun _ _ _ h => h) (Or.inl ⟨by rfl, ?y4⟩) hHeld ?r4
  case y4 => (intro w hSw; have e8 := hSw; unfold RA at e8; go_simp; try with_reducible rfl)
  simp only [List.getElem_toArray, List.getElem_cons_zero, List.getElem_cons_succ, Act.put, List.setIfInBounds_toArray, List.set_cons_zero, List.set_cons_succ]
  refine wpAnyH_take (i := 4) (v := ?v5) rfl (by kernel_rfl) (by kernel_rfl) (by kernel_rfl) (fun _ _ _ h => h) (Or.inl ⟨by rfl, ?y5⟩) hHeld ?r5
  case y5 => (intro w hSw; have e8 := hSw; unfold RA at e8; go_simp; try with_reducible rfl)
  simp only [List.getElem_toArray, List.getElem_cons_zero, List.getElem_cons_succ, Act.put, List.setIfInBounds_toArray, List.set_cons_zero, List.set_cons_succ]
  refine wpAnyH_take (i := 5) (v := ?v6) rfl (by kernel_rfl) (by kernel_rfl) (by kernel_rfl) (fun _ _ _ h => h) (Or.inl ⟨by rfl, ?y6⟩) hHeld ?r6
  case y6 => (intro w hSw; have e8 := hSw; unfold RA at e8; go_simp; try with_reducible rfl)
  simp only [List.getElem_toArray, List.getElem_cons_zero, List.getElem_cons_succ, Act.put, List.setIfInBounds_toArray, List.set_cons_zero, List.set_cons_succ]
  refine wpAnyH_take (i := 6) (v := ?v7) rfl (by kernel_rfl) (by kernel_rfl) (by kernel_rfl) (fun _ _ _ h => h) (Or.inl ⟨by rfl, ?y7⟩) hHeld ?r7
  case y7 => (intro w hSw; have e8 := hSw; unfold RA at e8; go_simp; try with_reducible rfl)
  simp only [List.getElem_toArray, List.getElem_cons_zero, List.getElem_cons_succ, Act.put, List.setIfInBounds_toArray, List.set_cons_zero, List.set_cons_succ]
  refine wpAnyH_take (i := 7) (v := ?v8) rfl (by kernel_rfl) (by kernel_rfl) (by kernel_rfl) (fun _ _ _ h => h) (Or.inl ⟨by rfl, ?y8⟩) hHeld ?r8
  case y8 => (intro w hSw; have e8 := hSw; unfold RA at e8; go_simp; try with_reducible rfl)
  simp only [List.getElem_toArray, List.getElem_cons_zero, List.getElem_cons_succ, Act.put, List.setIfInBounds_toArray, List.set_cons_zero, List.set_cons_succ]
  refine wpAnyH_take (i := 9) (v := ?v9) rfl (by kernel_rfl) (by kernel_rfl) (by kernel_rfl) (fun _ _ _ h => h) (Or.inl ⟨by rfl, ?y9⟩) hHeld ?r9
  case y9 => (intro w hSw; have e8 := hSw; unfold RA at e8; go_simp; try with_reducible rfl)
  simp only [List.getElem_toArray, List.getElem_cons_zero, List.getElem_cons_succ, Act.put, List.setIfInBounds_toArray, List.set_cons_zero, List.set_cons_succ]
  refine wpAnyH_take (i := 10) (v := ?v10) rfl (by kernel_rfl) (by kernel_rfl) (by kernel_rfl) (fun _ _ _ h => h) (Or.inl ⟨by rfl, ?y10⟩) hHeld ?r10
  case y10 => (intro w hSw; have e8 := hSw; unfold RA at e8; go_simp; try with_reducible rfl)
  simp only [List.getElem_toArray, List.getElem_cons_zero, List.getElem_cons_succ, Act.put, List.setIfInBounds_toArray, List.set_cons_zero, List.set_cons_succ]
  refine wpAnyH_take (i := 11) (v := ?v11) rfl (by kernel_rfl) (by kernel_rfl) (by kernel_rfl) (fun _ _ _ h => h) (Or.inl ⟨by rfl, ?y11⟩) hHeld ?r11
  case y11 => (intro w hSw; have e8 := hSw; unfold RA at e8; go_simp; try with_reducible rfl)
  simp only [List.getElem_toArray, List.getElem_cons_zero, List.getElem_cons_succ, Act.put, List.setIfInBounds_toArray, List.set_cons_zero, List.set_cons_succ]
  refine wpAnyH_ready (rs := [8, 12]) (by kernel_rfl) (by simp) (AllReadyH.cons rfl (fun K hK => ?_) (AllReadyH.cons rfl (fun K hK => ?_) AllReadyH.nil))
  · go_simp
    refine (sgen_any v Hv.out _).mono ?_
    rintro e v3 ⟨rfl, rfl⟩
    go_wp2_with fail
    refine hK.out _ _ (e8) (fun hHeld => ?_)
    clear hK K
    refine wpAnyH_ready (rs := [12]) (by kernel_rfl) (by simp) (AllReadyH.cons rfl (fun K hK => ?_) AllReadyH.nil)
    go_simp
    refine hK.out _ _ (e8) (fun hHeld => ?_)
    clear hK K
    refine wpAnyH_take (i := 13) (v := ?v14) rfl (by kernel_rfl) (by kernel_rfl) (by kernel_rfl) (fun _ _ _ h => h) (Or.inl ⟨by rfl, ?y14⟩) hHeld ?r14
    case y14 => (intro w hSw; have e8 := hSw; unfold RA at e8; go_simp; try with_reducible rfl)
    simp only [List.getElem_toArray, List.getElem_cons_zero, List.getElem_cons_succ, Act.put, List.setIfInBounds_toArray, List.set_cons_zero, List.set_cons_succ]
    refine wpAnyH_take (i := 14) (v := ?v15) rfl (by kernel_rfl) (by kernel_rfl) (by kernel_rfl) (fun _ _ _ h => h) (Or.inl ⟨by rfl, ?y15⟩) hHeld ?r15
    case y15 => (intro w hSw; have e8 := hSw; unfold RA at e8; go_simp; try with_reducible rfl)
    simp only [List.getElem_toArray, List.getElem_cons_zero, List.getElem_cons_succ, Act.put, List.setIfInBounds_toArray, List.set_cons_zero, List.set_cons_succ]
    refine wpAnyH_take (i := 15) (v := ?v16) rfl (by kernel_rfl) (by kernel_rfl) (by kernel_rfl) (fun _ _ _ h => h) (Or.inl ⟨by rfl, ?y16⟩) hHeld ?r16
    case y16 => (intro w hSw; have e8 := hSw; unfold RA at e8; go_simp; try with_reducible rfl)
    simp only [List.getElem_toArray, List.getElem_cons_zero, List.getElem_cons_succ, Act.put, List.setIfInBounds_toArray, List.set_cons_zero, List.set_cons_succ]
    refine wpAnyH_ready (rs := [16]) (by kernel_rfl) (by simp) (AllReadyH.cons rfl (fun K hK => ?_) AllReadyH.nil)
    go_simp
    go_wp2_with fail
    refine hK.out _ _ (s21) (fun hHeld => ?_)
    clear hK K
    refine wpAnyH_take (i := 17) (v := ?v18) rfl (by kernel_rfl) (by kernel_rfl) (by kernel_rfl) (fun _ _ _ h => h) (Or.inl ⟨by rfl, ?y18⟩) hHeld ?r18
    case y18 => (intro w hSw; have e8 := hSw; unfold RA at e8; go_simp; try with_reducible rfl)
    simp only [List.getElem_toArray, List.getElem_cons_zero, List.getElem_cons_succ, Act.put, List.setIfInBounds_toArray, List.set_cons_zero, List.set_cons_succ]
    refine wpAnyH_take (i := 18) (v := ?v19) rfl (by kernel_rfl) (by kernel_rfl) (by kernel_rfl) (fun _ _ _ h => h) (Or.inl ⟨by rfl, ?y19⟩) hHeld ?r19
    case y19 => (intro w hSw; have e8 := hSw; unfold RA at e8; go_simp; try with_reducible rfl)
    simp only [List.getElem_toArray, List.getElem_cons_zero, List.getElem_cons_succ, Act.put, List.setIfInBounds_toArray, List.set_cons_zero, List.set_cons_succ]
    refine wpAnyH_ready (rs := [19]) (by kernel_rfl) (by simp) (AllReadyH.cons rfl (fun K hK => ?_) AllReadyH.nil)
    go_simp
    go_wp2_with fail
    refine hK.out _ _ (s22) (fun hHeld => ?_)
    clear hK K
    refine wpAnyH_take (i := 20) (v := ?v21) rfl (by kernel_rfl) (by kernel_rfl) (by kernel_rfl) (fun _ _ _ h => h) (Or.inl ⟨by rfl, ?y21⟩) hHeld ?r21
    case y21 => (intro w hSw; have e8 := hSw; unfold RA at e8; go_simp; try with_reducible rfl)
    simp only [List.getElem_toArray, List.getElem_cons_zero, List.getElem_cons_succ, Act.put, List.setIfInBounds_toArray, List.set_cons_zero, List.set_cons_succ]
    refine wpAnyH_take (i := 21) (v := ?v22) rfl (by kernel_rfl) (by kernel_rfl) (by kernel_rfl) (fun _ _ _ h => h) (Or.inl ⟨by rfl, ?y22⟩) hHeld ?r22
    case y22 => (intro w hSw; have e8 := hSw; unfold RA at e8; go_simp; try with_reducible rfl)
    simp only [List.getElem_toArray, List.getElem_cons_zero, List.getElem_cons_succ, Act.put, List.setIfInBounds_toArray, List.set_cons_zero, List.set_cons_succ]
    refine wpAnyH_ready (rs := [22]) (by kernel_rfl) (by simp) (AllReadyH.cons rfl (fun K hK => ?_) AllReadyH.nil)
    go_simp
    go_wp2_with fail
    refine hK.out _ _ (s23) (fun hHeld => ?_)
    clear hK K
    refine wpAnyH_done (by kernel_rfl) ?_ _
    obtain ⟨h5, hk5, hu5⟩ := H5.out
    clear H5 hHeld s21 s22 s23 hv21 hv22 hv23 x21 x22 y21 y22 e8 e9 e10 e11 z9 z10 z11 lo2
    generalize v23 = v5 at *
    have lo5 := h5.lto
    have z5 := h5.frozen 6
    have e5 := h5.cell (i := 6) rfl
    have H6 := Lib.hid (And.intro (h5.put 6 (.int .i64 1) ({ x with steps := x.steps + 1, bgn := x.steps + 1, gen := v / 2, rw := [], line := 1 }) rfl (fun _ _ k => k)) (And.intro (hk5.setFar (p := ⟨o, 6, none⟩) d1.symm d2.symm (.int .i64 1)) (hu5.setCell (p := ⟨o, 6, none⟩) (.inl (.inl rfl)) (.int .i64 1))))
    clear h5 hk5 hu5
    go_wp2
    go_step3
    refine ahead_goto ?_
    obtain ⟨h6, hk6, hu6⟩ := H6.out
    clear H6 lo5 z5 e5 
    generalize v5.setCell ⟨o, 6, none⟩ (.int .i64 1) = v6 at h6 hk6 hu6 ⊢
    have lo6 := h6.lto
    have e6 := h6.cell (i := 5) rfl
    try dsimp only at e6
    rw [Hh.out] at e6
    have HH := Lib.hid (And.intro h6 (And.intro hk6 hu6))
    clear h6 hk6 hu6
    go_wp2
    try rw [Exit.noGoto_ret]
    go_ret
    obtain ⟨h6, hk6, hu6⟩ := HH.out
    exact ⟨by first | rfl | (simp [Hh.out]), h6, hk6, hu6⟩
  · go_simp
    refine hK.out _ _ (e8) (fun hHeld => ?_)
    clear hK K
    refine wpAnyH_take (i := 13) (v := ?v24) rfl (by kernel_rfl) (by kernel_rfl) (by kernel_rfl) (fun _ _ _ h => h) (Or.inl ⟨by rfl, ?y24⟩) hHeld ?r24
    case y24 => (intro w hSw; have e8 := hSw; unfold RA at e8; go_simp; try with_reducible rfl)
    simp only [List.getElem_toArray, List.getElem_cons_zero, List.getElem_cons_succ, Act.put, List.setIfInBounds_toArray, List.set_cons_zero, List.set_cons_succ]
    refine wpAnyH_ready (rs := [8]) (by kernel_rfl) (by simp) (AllReadyH.cons rfl (fun K hK => ?_) AllReadyH.nil)
    go_simp
    refine (sgen_any v Hv.out _).mono ?_
    rintro e v3 ⟨rfl, rfl⟩
    go_wp2_with fail
    refine hK.out _ _ (e8) (fun hHeld => ?_)
    clear hK K
    refine wpAnyH_take (i := 14) (v := ?v26) rfl (by kernel_rfl) (by kernel_rfl) (by kernel_rfl) (fun _ _ _ h => h) (Or.inl ⟨by rfl, ?y26⟩) hHeld ?r26
    case y26 => (intro w hSw; have e8 := hSw; unfold RA at e8; go_simp; try with_reducible rfl)
    simp only [List.getElem_toArray, List.getElem_cons_zero, List.getElem_cons_succ, Act.put, List.setIfInBounds_toArray, List.set_cons_zero, List.set_cons_succ]
    refine wpAnyH_take (i := 15) (v := ?v27) rfl (by kernel_rfl) (by kernel_rfl) (by kernel_rfl) (fun _ _ _ h => h) (Or.inl ⟨by rfl, ?y27⟩) hHeld ?r27
    case y27 => (intro w hSw; have e8 := hSw; unfold RA at e8; go_simp; try with_reducible rfl)
    simp only [List.getElem_toArray, List.getElem_cons_zero, List.getElem_cons_succ, Act.put, List.setIfInBounds_toArray, List.set_cons_zero, List.set_cons_succ]
    refine wpAnyH_ready (rs := [16]) (by kernel_rfl) (by simp) (AllReadyH.cons rfl (fun K hK => ?_) AllReadyH.nil)
    go_simp
    go_wp2_with fail
    refine hK.out _ _ (s21) (fun hHeld => ?_)
    clear hK K
    refine wpAnyH_take (i := 17) (v := ?v29) rfl (by kernel_rfl) (by kernel_rfl) (by kernel_rfl) (fun _ _ _ h => h) (Or.inl ⟨by rfl, ?y29⟩) hHeld ?r29
    case y29 => (intro w hSw; have e8 := hSw; unfold RA at e8; go_simp; try with_reducible rfl)
    simp only [List.getElem_toArray, List.getElem_cons_zero, List.getElem_cons_succ, Act.put, List.setIfInBounds_toArray, List.set_cons_zero, List.set_cons_succ]
    refine wpAnyH_take (i := 18) (v := ?v30) rfl (by kernel_rfl) (by kernel_rfl) (by kernel_rfl) (fun _ _ _ h => h) (Or.inl ⟨by rfl, ?y30⟩) hHeld ?r30
    case y30 => (intro w hSw; have e8 := hSw; unfold RA at e8; go_simp; try with_reducible rfl)
    simp only [List.getElem_toArray, List.getElem_cons_zero, List.getElem_cons_succ, Act.put, List.setIfInBounds_toArray, List.set_cons_zero, List.set_cons_succ]
    refine wpAnyH_ready (rs := [19]) (by kernel_rfl) (by simp) (AllReadyH.cons rfl (fun K hK => ?_) AllReadyH.nil)
    go_simp
    go_wp2_with fail
    refine hK.out _ _ (s22) (fun hHeld => ?_)
    clear hK K
    refine wpAnyH_take (i := 20) (v := ?v32) rfl (by kernel_rfl) (by kernel_rfl) (by kernel_rfl) (fun _ _ _ h => h) (Or.inl ⟨by rfl, ?y32⟩) hHeld ?r32
    case y32 => (intro w hSw; have e8 := hSw; unfold RA at e8; go_simp; try with_reducible rfl)
    simp only [List.getElem_toArray, List.getElem_cons_zero, List.getElem_cons_succ, Act.put, List.setIfInBounds_toArray, List.set_cons_zero, List.set_cons_succ]
    refine wpAnyH_take (i := 21) (v := ?v33) rfl (by kernel_rfl) (by kernel_rfl) (by kernel_rfl) (fun _ _ _ h => h) (Or.inl ⟨by rfl, ?y33⟩) hHeld ?r33
    case y33 => (intro w hSw; have e8 := hSw; unfold RA at e8; go_simp; try with_reducible rfl)
    simp only [List.getElem_toArray, List.getElem_cons_zero, List.getElem_cons_succ, Act.put, List.setIfInBounds_toArray, List.set_cons_zero, List.set_cons_succ]
    refine wpAnyH_ready (rs := [22]) (by kernel_rfl) (by simp) (AllReadyH.cons rfl (fun K hK => ?_) AllReadyH.nil)
    go_simp
    go_wp2_with fail
    refine hK.out _ _ (s23) (fun hHeld => ?_)
    clear hK K
    refine wpAnyH_done (by kernel_rfl) ?_ _
    obtain ⟨h5, hk5, hu5⟩ := H5.out
    clear H5 hHeld s21 s22 s23 hv21 hv22 hv23 x21 x22 y21 y22 e8 e9 e10 e11 z9 z10 z11 lo2
    generalize v23 = v5 at *
    have lo5 := h5.lto
    have z5 := h5.frozen 6
    have e5 := h5.cell (i := 6) rfl
    have H6 := Lib.hid (And.intro (h5.put 6 (.int .i64 1) ({ x with steps := x.steps + 1, bgn := x.steps + 1, gen := v / 2, rw := [], line := 1 }) rfl (fun _ _ k => k)) (And.intro (hk5.setFar (p := ⟨o, 6, none⟩) d1.symm d2.symm (.int .i64 1)) (hu5.setCell (p := ⟨o, 6, none⟩) (.inl (.inl rfl)) (.int .i64 1))))
    clear h5 hk5 hu5
    go_wp2
    go_step3
    refine ahead_goto ?_
    obtain ⟨h6, hk6, hu6⟩ := H6.out
    clear H6 lo5 z5 e5 
    generalize v5.setCell ⟨o, 6, none⟩ (.int .i64 1) = v6 at h6 hk6 hu6 ⊢
    have lo6 := h6.lto
    have e6 := h6.cell (i := 5) rfl
    try dsimp only at e6
    rw [Hh.out] at e6
    have HH := Lib.hid (And.intro h6 (And.intro hk6 hu6))
    clear h6 hk6 hu6
    go_wp2
    try rw [Exit.noGoto_ret]
    go_ret
    obtain ⟨h6, hk6, hu6⟩ := HH.out
    exact ⟨by first | rfl | (simp [Hh.out]), h6, hk6, hu6⟩
end
end Go.Proofs.Ytajibhhmcjcchaa
