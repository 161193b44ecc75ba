/- The second line: a word. -/
import Derived.Test.YtflgggfomhifeaaSnTC
namespace Go.Proofs.Ytflgggfomhifeaa
open Go.RowKit
section
variable {w : World} {o gs g b bg : Nat} {SS : List Sp} {xs : List Int} {t v left p bn : Int} {k n : Nat} {tl : List Int}
set_option maxRecDepth 100000 in
set_option maxHeartbeats 2000000 in
theorem nstep_word (h : NAt w o gs g SS ⟨0, 1, k, n, left, p, bn, tl⟩) (hB : Bk w b bg xs t) (ap : Apt o gs g b bg) (hw : NWf SS ⟨0, 1, k, n, left, p, bn, tl⟩) (hv : getI xs (nxl SS ⟨0, 1, k, n, left, p, bn, tl⟩) = some v) (hm : (n : Int) + 1 < (nxs SS ⟨0, 1, k, n, left, p, bn, tl⟩).wd) (t0 : 0 ≤ t) (t1 : t ≤ 1000000) (p0 : 0 ≤ p) (p1 : p ≤ 1000000):
    Calls Try.prog 17 #[.pointer (some ⟨o, 0, none⟩), .pointer (some ⟨b, 0, none⟩)] w (NdPost o gs g b bg SS xs (⟨0, 1, k, (n + 1), left, p + 1, bn, (tl ++ [v])⟩, 1) t w) := by
  have S0 := Stg.start h hB ap 31
  have Hnx := Lib.hid (fun W (q : NAt W o gs g SS ⟨0, 1, k, n, left, p, bn, tl⟩) => nnext_any q hw)
  obtain ⟨q0, hv2⟩ := getI_some hv
  have Hv := Lib.hid (hB.rngAt hv2)
  have Hld := Lib.hid (fun W (q : Bk W b bg xs t) => load_at b bg xs t v (nxl SS ⟨0, 1, k, n, left, p, bn, tl⟩) W q0 q hv2 t0 t1)
  have Hw := Lib.hid hw
  have b0 := S0.box
  have lo0 := S0.n.lto
  have lm0 := S0.bx.lt
  have e0_1 := S0.cell (i := 1) (v := .int .i64 0) (fun _ => rfl)
  have HS0 := Lib.hid S0
  have lw := h.lto
  clear h hB ap hw hv hv2 q0 S0
  generalize nxl SS ⟨0, 1, k, n, left, p, bn, tl⟩ = at0 at *
  go_enter Try.func17, Try.ntmps17
  go_wp2
  refine wp_scope_ahead 0 rfl ?_
  go_wp2_with fail
  generalize hmsz : w.heap.size = m at *
  refine (Hnx.out _ HS0.out.n).mono ?_
  rintro e w1 ⟨rfl, hb1⟩
  have HS1 := Lib.hid (HS0.out.low hb1)
  clear hb1
  go_wp2_with fail
  refine (Hld.out _ HS1.out.bk).mono ?_
  rintro e v1 ⟨rfl, hk1, hu1⟩
  have S1 := HS1.out.touch hk1 hu1
  clear HS1 HS0 Hld Hnx hk1 hu1 b0 lo0 lm0 e0_1 lw
  have b1 := S1.box
  have lo1 := S1.n.lto
  have lm1 := S1.bx.lt
  have e1_6 := S1.cell (i := 6) (v := .int .i64 (p)) (fun _ => rfl)
  have z1_6 := S1.n.frozen 6
  have S2 := S1.put 6 (.int .i64 (p + 1)) ⟨0, 1, k, n, left, p + 1, bn, tl⟩ (fun _ => rfl) (fun _ _ q => q)
  generalize hv2 : v1.setCell ⟨o, 6, none⟩ (.int .i64 (p + 1)) = v2 at S2
  have b2 := S2.box
  have lo2 := S2.n.lto
  have lm2 := S2.bx.lt
  have e2_2 := S2.cell (i := 2) (v := .int .i64 (1)) (fun _ => rfl)
  have hnl := (Hw.out.a1 rfl).2
  have hw64 := Hw.out.rts.2.1
  have hsp := Hw.out.sp
  have HS2 := Lib.hid S2
  have hs64 := Hw.out.s64
  have hk := Hw.out.k
  clear S1
  go_wp2_with fail
  clear HS2 hv2 b1 lo1 lm1 e1_6 z1_6
  have S2d := S2.drew
  have hroom : tl.length < room SS := Hw.out.room1 (by show (1 : Int) ≤ 1; omega)
  have hap := append_run S2d.n (v) hroom
  dsimp only at hap
  have S2a := S2d.alloc (.cells #[.int .u64 (v)] 42)
  have S3 := S2a.app (v) hroom
  dsimp only at S3
  have e8 := S2.cell (i := 8) (v := .slice (some ⟨g, 0, none⟩) tl.length (room SS)) (fun _ => rfl)
  have e8d := S2d.cell (i := 8) (v := .slice (some ⟨g, 0, none⟩) tl.length (room SS)) (fun _ => rfl)
  have e8a := S2a.cell (i := 8) (v := .slice (some ⟨g, 0, none⟩) tl.length (room SS)) (fun _ => rfl)
  have e8b := (S2.alloc (.cells #[.int .u64 (v)] 42)).cell (i := 8) (v := .slice (some ⟨g, 0, none⟩) tl.length (room SS)) (fun _ => rfl)
  have kb0 : RB m o v2.drew := S2d.box
  have kbA : RB m o (v2.drew.alloc (.cells #[.int .u64 (v)] 42)) := S2a.box
  have hng := S2a.n.ne.1
  have kb5 : RB m o ((v2.drew.alloc (.cells #[.int .u64 (v)] 42)).setCell ⟨g, tl.length, none⟩ (.int .u64 (v))) := (S2a.bx.setFar (p := ⟨g, tl.length, none⟩) S2a.mm.2.2.1 _).cell rfl
  have e5_8 := (S2a.n.cells.elim (fun c hc => (hc.setFar (p := ⟨g, tl.length, none⟩) hng (.int .u64 (v))).cell (i := 8) (v := .slice (some ⟨g, 0, none⟩) tl.length (room SS)) rfl))
  have z5_8 := (S2a.n.cells.elim (fun c hc => (hc.setFar (p := ⟨g, tl.length, none⟩) hng (.int .u64 (v))).frozen 8))
  generalize hvA : (v2.drew.alloc (.cells #[.int .u64 (v)] 42)).setCell ⟨g, tl.length, none⟩ (.int .u64 (v)) = vA at S3 kb5 e5_8 z5_8 hap
  have loA : o < vA.heap.size := World.block_lt_of_cell? _ _ e5_8
  have Hap := Lib.hid hap
  generalize hv3 : vA.setCell ⟨o, 8, none⟩ (.slice (some ⟨g, 0, none⟩) (tl.length + 1) (room SS)) = v3 at S3
  have kb6 : RB m o v3 := S3.box
  have HS3 := Lib.hid S3
  clear S2 S2d S2a S3 hap hroom hng
  refine wp_region_held_drew (S := RB m o) (by kernel_rfl) (kb0) (fun hHeld => ?_)
  refine wpAnyH_take (i := 0) (v := ?v89) rfl (by kernel_rfl) (by kernel_rfl) (by kernel_rfl) (fun _ _ _ h => h) (Or.inl ⟨by rfl, ?y89⟩) hHeld ?r89
  case y89 => (intro w hSw; have q0 := hSw; unfold RB at q0; go_simp; try with_reducible rfl)
  simp only [List.getElem_toArray, List.getElem_cons_zero, Act.put, List.setIfInBounds_toArray, List.set_cons_zero, List.set_cons_succ]
  refine wpAnyH_take (i := 1) (v := ?v90) rfl (by kernel_rfl) (by kernel_rfl) (by kernel_rfl) (fun _ _ _ h => h) (Or.inl ⟨by rfl, ?y90⟩) hHeld ?r90
  case y90 => (intro w hSw; have q0 := hSw; unfold RB at q0; go_simp; try with_reducible rfl)
  simp only [List.getElem_toArray, List.getElem_cons_zero, List.getElem_cons_succ, Act.put, List.setIfInBounds_toArray, List.set_cons_zero, List.set_cons_succ]
  refine wpAnyH_take (i := 2) (v := ?v91) rfl (by kernel_rfl) (by kernel_rfl) (by kernel_rfl) (fun _ _ _ h => h) (Or.inl ⟨by rfl, ?y91⟩) hHeld ?r91
  case y91 => (intro w hSw; have q0 := hSw; unfold RB at q0; go_simp; try with_reducible rfl)
  simp only [List.getElem_toArray, List.getElem_cons_zero, List.getElem_cons_succ, Act.put, List.setIfInBounds_toArray, List.set_cons_zero, List.set_cons_succ]
  refine wpAnyH_take (i := 3) (v := ?v92) rfl (by kernel_rfl) (by kernel_rfl) (by kernel_rfl) (fun _ _ _ h => h) (Or.inl ⟨by rfl, ?y92⟩) hHeld ?r92
  case y92 => (intro w hSw; have q0 := hSw; unfold RB at q0; go_simp; try with_reducible rfl)
  simp only [List.getElem_toArray, List.getElem_cons_zero, List.getElem_cons_succ, Act.put, List.setIfInBounds_toArray, List.set_cons_zero, List.set_cons_succ]
  refine wpAnyH_take (i := 5) (v := ?v93) rfl (by kernel_rfl) (by kernel_rfl) (by kernel_rfl) (fun _ _ _ h => h) (Or.inl ⟨by rfl, ?y93⟩) hHeld ?r93
  case y93 => (intro w hSw; have q0 := hSw; unfold RB at q0; go_simp; try with_reducible rfl)
  simp only [List.getElem_toArray, List.getElem_cons_zero, List.getElem_cons_succ, Act.put, List.setIfInBounds_toArray, List.set_cons_zero, List.set_cons_succ]
  refine wpAnyH_ready (rs := [4, 6]) (by kernel_rfl) (by simp) (AllReadyH.cons rfl (fun K hK => ?_) (AllReadyH.cons rfl (fun K hK => ?_) AllReadyH.nil))
  · go_simp
    refine hK.out _ _ (kb0) (fun hHeld => ?_)
    clear hK K
    refine wpAnyH_ready (rs := [6]) (by kernel_rfl) (by simp) (AllReadyH.cons rfl (fun K hK => ?_) AllReadyH.nil)
    go_simp
    refine hK.out _ _ (kbA) (fun hHeld => ?_)
    clear hK K
    refine wpAnyH_ready (rs := [7]) (by kernel_rfl) (by simp) (AllReadyH.cons rfl (fun K hK => ?_) AllReadyH.nil)
    refine wp_append_run _ (.tmp 98) (.tmp 100) 41 41 rfl _ _ rfl rfl Hap.out ?_
    refine hK.out _ _ (kb5) (fun hHeld => ?_)
    clear hK K
    refine wpAnyH_take (i := 8) (v := ?v96) rfl (by kernel_rfl) (by kernel_rfl) (by kernel_rfl) (fun _ _ _ h => h) (Or.inl ⟨by rfl, ?y96⟩) hHeld ?r96
    case y96 => (intro w hSw; have q0 := hSw; unfold RB at q0; go_simp; try with_reducible rfl)
    simp only [List.getElem_toArray, List.getElem_cons_zero, List.getElem_cons_succ, Act.put, List.setIfInBounds_toArray, List.set_cons_zero, List.set_cons_succ]
    refine wpAnyH_take (i := 9) (v := ?v97) rfl (by kernel_rfl) (by kernel_rfl) (by kernel_rfl) (fun _ _ _ h => h) (Or.inl ⟨by rfl, ?y97⟩) hHeld ?r97
    case y97 => (intro w hSw; have q0 := hSw; unfold RB at q0; go_simp; try with_reducible rfl)
    simp only [List.getElem_toArray, List.getElem_cons_zero, List.getElem_cons_succ, Act.put, List.setIfInBounds_toArray, List.set_cons_zero, List.set_cons_succ]
    refine wpAnyH_ready (rs := [10]) (by kernel_rfl) (by simp) (AllReadyH.cons rfl (fun K hK => ?_) AllReadyH.nil)
    go_simp
    skip
    refine hK.out _ _ (kb6) (fun hHeld => ?_)
    clear hK K
    refine wpAnyH_done (by kernel_rfl) ?_ _
    clear hHeld kb0 kbA kb5 kb6 e8 e8d e8a e8b e5_8 z5_8 loA Hap hvA hv3
    have S3 := HS3.out
    have b3 := S3.box
    have lo3 := S3.n.lto
    have lm3 := S3.bx.lt
    have e3_4 := S3.cell (i := 4) (v := .int .i64 ((n : Nat) : Int)) (fun _ => rfl)
    have z3_4 := S3.n.frozen 4
    have S4 := S3.put 4 (.int .i64 ((n : Int) + 1)) ⟨0, 1, k, (n + 1), left, p + 1, bn, (tl ++ [v])⟩ (fun _ => rfl) (fun _ _ q => q)
    generalize hv4 : v3.setCell ⟨o, 4, none⟩ (.int .i64 ((n : Int) + 1)) = v4 at S4
    have b4 := S4.box
    have lo4 := S4.n.lto
    have lm4 := S4.bx.lt
    have e4_4 := S4.cell (i := 4) (v := .int .i64 ((n : Int) + 1)) (fun _ => rfl)
    obtain ⟨c, e4_0⟩ := S4.n.slice
    have e4_3 := S4.cell (i := 3) (v := .int .i64 ((k : Nat) : Int)) (fun _ => rfl)
    have d4 := S4.n.spot hsp 3 _ rfl
    have HS4 := Lib.hid (fun q => S4.drewN q)
    obtain ⟨wd, hwd⟩ : ∃ wd, (nxs SS ⟨0, 1, k, n, left, p, bn, tl⟩).wd = wd := ⟨_, rfl⟩
    rw [hwd] at d4 hnl hw64 hm
    have hkl : (k : Int) < SS.length := by omega
    have hn0 : (0 : Int) ≤ n := by omega
    try dsimp only at hnl
    have HK := Lib.hid (And.intro hsp hk)
    clear S3 S4 HS3 hsp hwd hk
    go_wp2_with fail
    go_quiet (fail)
    have S5 := HS4.out nq
    clear HS4 b4 lo4 lm4 e4_4 e4_0 e4_3 d4 b3 lo3 lm3 e3_4 z3_4 hv4
    generalize v4.drewN nq = v5 at S5 ⊢
    have b5 := S5.box
    have lo5 := S5.n.lto
    have lm5 := S5.bx.lt
    have e5_1 := S5.cell (i := 1) (v := .int .i64 (0)) (fun _ => rfl)
    have HS5 := Lib.hid S5
    clear S5
    go_wp2
    go_step3
    refine ahead_goto ?_
    go_wp2
    try rw [Exit.noGoto_ret]
    go_ret
    exact HS5.out.post (r := (⟨0, 1, k, (n + 1), left, p + 1, bn, (tl ++ [v])⟩, 1))
  · go_simp
    refine hK.out _ _ (kbA) (fun hHeld => ?_)
    clear hK K
    refine wpAnyH_ready (rs := [4]) (by kernel_rfl) (by simp) (AllReadyH.cons rfl (fun K hK => ?_) AllReadyH.nil)
    go_simp
    refine hK.out _ _ (kbA) (fun hHeld => ?_)
    clear hK K
    refine wpAnyH_ready (rs := [7]) (by kernel_rfl) (by simp) (AllReadyH.cons rfl (fun K hK => ?_) AllReadyH.nil)
    refine wp_append_run _ (.tmp 98) (.tmp 100) 41 41 rfl _ _ rfl rfl Hap.out ?_
    refine hK.out _ _ (kb5) (fun hHeld => ?_)
    clear hK K
    refine wpAnyH_take (i := 8) (v := ?v100) rfl (by kernel_rfl) (by kernel_rfl) (by kernel_rfl) (fun _ _ _ h => h) (Or.inl ⟨by rfl, ?y100⟩) hHeld ?r100
    case y100 => (intro w hSw; have q0 := hSw; unfold RB at q0; go_simp; try with_reducible rfl)
    simp only [List.getElem_toArray, List.getElem_cons_zero, List.getElem_cons_succ, Act.put, List.setIfInBounds_toArray, List.set_cons_zero, List.set_cons_succ]
    refine wpAnyH_take (i := 9) (v := ?v101) rfl (by kernel_rfl) (by kernel_rfl) (by kernel_rfl) (fun _ _ _ h => h) (Or.inl ⟨by rfl, ?y101⟩) hHeld ?r101
    case y101 => (intro w hSw; have q0 := hSw; unfold RB at q0; go_simp; try with_reducible rfl)
    simp only [List.getElem_toArray, List.getElem_cons_zero, List.getElem_cons_succ, Act.put, List.setIfInBounds_toArray, List.set_cons_zero, List.set_cons_succ]
    refine wpAnyH_ready (rs := [10]) (by kernel_rfl) (by simp) (AllReadyH.cons rfl (fun K hK => ?_) AllReadyH.nil)
    go_simp
    skip
    refine hK.out _ _ (kb6) (fun hHeld => ?_)
    clear hK K
    refine wpAnyH_done (by kernel_rfl) ?_ _
    clear hHeld kb0 kbA kb5 kb6 e8 e8d e8a e8b e5_8 z5_8 loA Hap hvA hv3
    have S3 := HS3.out
    have b3 := S3.box
    have lo3 := S3.n.lto
    have lm3 := S3.bx.lt
    have e3_4 := S3.cell (i := 4) (v := .int .i64 ((n : Nat) : Int)) (fun _ => rfl)
    have z3_4 := S3.n.frozen 4
    have S4 := S3.put 4 (.int .i64 ((n : Int) + 1)) ⟨0, 1, k, (n + 1), left, p + 1, bn, (tl ++ [v])⟩ (fun _ => rfl) (fun _ _ q => q)
    generalize hv4 : v3.setCell ⟨o, 4, none⟩ (.int .i64 ((n : Int) + 1)) = v4 at S4
    have b4 := S4.box
    have lo4 := S4.n.lto
    have lm4 := S4.bx.lt
    have e4_4 := S4.cell (i := 4) (v := .int .i64 ((n : Int) + 1)) (fun _ => rfl)
    obtain ⟨c, e4_0⟩ := S4.n.slice
    have e4_3 := S4.cell (i := 3) (v := .int .i64 ((k : Nat) : Int)) (fun _ => rfl)
    have d4 := S4.n.spot hsp 3 _ rfl
    have HS4 := Lib.hid (fun q => S4.drewN q)
    obtain ⟨wd, hwd⟩ : ∃ wd, (nxs SS ⟨0, 1, k, n, left, p, bn, tl⟩).wd = wd := ⟨_, rfl⟩
    rw [hwd] at d4 hnl hw64 hm
    have hkl : (k : Int) < SS.length := by omega
    have hn0 : (0 : Int) ≤ n := by omega
    try dsimp only at hnl
    have HK := Lib.hid (And.intro hsp hk)
    clear S3 S4 HS3 hsp hwd hk
    go_wp2_with fail
    go_quiet (fail)
    have S5 := HS4.out nq
    clear HS4 b4 lo4 lm4 e4_4 e4_0 e4_3 d4 b3 lo3 lm3 e3_4 z3_4 hv4
    generalize v4.drewN nq = v5 at S5 ⊢
    have b5 := S5.box
    have lo5 := S5.n.lto
    have lm5 := S5.bx.lt
    have e5_1 := S5.cell (i := 1) (v := .int .i64 (0)) (fun _ => rfl)
    have HS5 := Lib.hid S5
    clear S5
    go_wp2
    go_step3
    refine ahead_goto ?_
    go_wp2
    try rw [Exit.noGoto_ret]
    go_ret
    exact HS5.out.post (r := (⟨0, 1, k, (n + 1), left, p + 1, bn, (tl ++ [v])⟩, 1))
set_option maxRecDepth 100000 in
set_option maxHeartbeats 2000000 in
theorem nstep_word_next (h : NAt w o gs g SS ⟨0, 1, k, n, left, p, bn, tl⟩) (hB : Bk w b bg xs t) (ap : Apt o gs g b bg) (hw : NWf SS ⟨0, 1, k, n, left, p, bn, tl⟩) (hv : getI xs (nxl SS ⟨0, 1, k, n, left, p, bn, tl⟩) = some v) (hm : (n : Int) + 1 = (nxs SS ⟨0, 1, k, n, left, p, bn, tl⟩).wd) (hlast : k + 1 < SS.length) (t0 : 0 ≤ t) (t1 : t ≤ 1000000) (p0 : 0 ≤ p) (p1 : p ≤ 1000000):
    Calls Try.prog 17 #[.pointer (some ⟨o, 0, none⟩), .pointer (some ⟨b, 0, none⟩)] w (NdPost o gs g b bg SS xs (⟨0, 1, (k + 1), 0, left, p + 1, bn, (tl ++ [v])⟩, 1) t w) := by
  have S0 := Stg.start h hB ap 31
  have Hnx := Lib.hid (fun W (q : NAt W o gs g SS ⟨0, 1, k, n, left, p, bn, tl⟩) => nnext_any q hw)
  obtain ⟨q0, hv2⟩ := getI_some hv
  have Hv := Lib.hid (hB.rngAt hv2)
  have Hld := Lib.hid (fun W (q : Bk W b bg xs t) => load_at b bg xs t v (nxl SS ⟨0, 1, k, n, left, p, bn, tl⟩) W q0 q hv2 t0 t1)
  have Hw := Lib.hid hw
  have b0 := S0.box
  have lo0 := S0.n.lto
  have lm0 := S0.bx.lt
  have e0_1 := S0.cell (i := 1) (v := .int .i64 0) (fun _ => rfl)
  have HS0 := Lib.hid S0
  have lw := h.lto
  clear h hB ap hw hv hv2 q0 S0
  generalize nxl SS ⟨0, 1, k, n, left, p, bn, tl⟩ = at0 at *
  go_enter Try.func17, Try.ntmps17
  go_wp2
  refine wp_scope_ahead 0 rfl ?_
  go_wp2_with fail
  generalize hmsz : w.heap.size = m at *
  refine (Hnx.out _ HS0.out.n).mono ?_
  rintro e w1 ⟨rfl, hb1⟩
  have HS1 := Lib.hid (HS0.out.low hb1)
  clear hb1
  go_wp2_with fail
  refine (Hld.out _ HS1.out.bk).mono ?_
  rintro e v1 ⟨rfl, hk1, hu1⟩
  have S1 := HS1.out.touch hk1 hu1
  clear HS1 HS0 Hld Hnx hk1 hu1 b0 lo0 lm0 e0_1 lw
  have b1 := S1.box
  have lo1 := S1.n.lto
  have lm1 := S1.bx.lt
  have e1_6 := S1.cell (i := 6) (v := .int .i64 (p)) (fun _ => rfl)
  have z1_6 := S1.n.frozen 6
  have S2 := S1.put 6 (.int .i64 (p + 1)) ⟨0, 1, k, n, left, p + 1, bn, tl⟩ (fun _ => rfl) (fun _ _ q => q)
  generalize hv2 : v1.setCell ⟨o, 6, none⟩ (.int .i64 (p + 1)) = v2 at S2
  have b2 := S2.box
  have lo2 := S2.n.lto
  have lm2 := S2.bx.lt
  have e2_2 := S2.cell (i := 2) (v := .int .i64 (1)) (fun _ => rfl)
  have hnl := (Hw.out.a1 rfl).2
  have hw64 := Hw.out.rts.2.1
  have hsp := Hw.out.sp
  have HS2 := Lib.hid S2
  have hs64 := Hw.out.s64
  have hk := Hw.out.k
  clear S1
  go_wp2_with fail
  clear HS2 hv2 b1 lo1 lm1 e1_6 z1_6
  have S2d := S2.drew
  have hroom : tl.length < room SS := Hw.out.room1 (by show (1 : Int) ≤ 1; omega)
  have hap := append_run S2d.n (v) hroom
  dsimp only at hap
  have S2a := S2d.alloc (.cells #[.int .u64 (v)] 42)
  have S3 := S2a.app (v) hroom
  dsimp only at S3
  have e8 := S2.cell (i := 8) (v := .slice (some ⟨g, 0, none⟩) tl.length (room SS)) (fun _ => rfl)
  have e8d := S2d.cell (i := 8) (v := .slice (some ⟨g, 0, none⟩) tl.length (room SS)) (fun _ => rfl)
  have e8a := S2a.cell (i := 8) (v := .slice (some ⟨g, 0, none⟩) tl.length (room SS)) (fun _ => rfl)
  have e8b := (S2.alloc (.cells #[.int .u64 (v)] 42)).cell (i := 8) (v := .slice (some ⟨g, 0, none⟩) tl.length (room SS)) (fun _ => rfl)
  have kb0 : RB m o v2.drew := S2d.box
  have kbA : RB m o (v2.drew.alloc (.cells #[.int .u64 (v)] 42)) := S2a.box
  have hng := S2a.n.ne.1
  have kb5 : RB m o ((v2.drew.alloc (.cells #[.int .u64 (v)] 42)).setCell ⟨g, tl.length, none⟩ (.int .u64 (v))) := (S2a.bx.setFar (p := ⟨g, tl.length, none⟩) S2a.mm.2.2.1 _).cell rfl
  have e5_8 := (S2a.n.cells.elim (fun c hc => (hc.setFar (p := ⟨g, tl.length, none⟩) hng (.int .u64 (v))).cell (i := 8) (v := .slice (some ⟨g, 0, none⟩) tl.length (room SS)) rfl))
  have z5_8 := (S2a.n.cells.elim (fun c hc => (hc.setFar (p := ⟨g, tl.length, none⟩) hng (.int .u64 (v))).frozen 8))
  generalize hvA : (v2.drew.alloc (.cells #[.int .u64 (v)] 42)).setCell ⟨g, tl.length, none⟩ (.int .u64 (v)) = vA at S3 kb5 e5_8 z5_8 hap
  have loA : o < vA.heap.size := World.block_lt_of_cell? _ _ e5_8
  have Hap := Lib.hid hap
  generalize hv3 : vA.setCell ⟨o, 8, none⟩ (.slice (some ⟨g, 0, none⟩) (tl.length + 1) (room SS)) = v3 at S3
  have kb6 : RB m o v3 := S3.box
  have HS3 := Lib.hid S3
  clear S2 S2d S2a S3 hap hroom hng
  refine wp_region_held_drew (S := RB m o) (by kernel_rfl) (kb0) (fun hHeld => ?_)
  refine wpAnyH_take (i := 0) (v := ?v103) rfl (by kernel_rfl) (by kernel_rfl) (by kernel_rfl) (fun _ _ _ h => h) (Or.inl ⟨by rfl, ?y103⟩) hHeld ?r103
  case y103 => (intro w hSw; have q0 := hSw; unfold RB at q0; go_simp; try with_reducible rfl)
  simp only [List.getElem_toArray, List.getElem_cons_zero, Act.put, List.setIfInBounds_toArray, List.set_cons_zero, List.set_cons_succ]
  refine wpAnyH_take (i := 1) (v := ?v104) rfl (by kernel_rfl) (by kernel_rfl) (by kernel_rfl) (fun _ _ _ h => h) (Or.inl ⟨by rfl, ?y104⟩) hHeld ?r104
  case y104 => (intro w hSw; have q0 := hSw; unfold RB at q0; go_simp; try with_reducible rfl)
  simp only [List.getElem_toArray, List.getElem_cons_zero, List.getElem_cons_succ, Act.put, List.setIfInBounds_toArray, List.set_cons_zero, List.set_cons_succ]
  refine wpAnyH_take (i := 2) (v := ?v105) rfl (by kernel_rfl) (by kernel_rfl) (by kernel_rfl) (fun _ _ _ h => h) (Or.inl ⟨by rfl, ?y105⟩) hHeld ?r105
  case y105 => (intro w hSw; have q0 := hSw; unfold RB at q0; go_simp; try with_reducible rfl)
  simp only [List.getElem_toArray, List.getElem_cons_zero, List.getElem_cons_succ, Act.put, List.setIfInBounds_toArray, List.set_cons_zero, List.set_cons_succ]
  refine wpAnyH_take (i := 3) (v := ?v106) rfl (by kernel_rfl) (by kernel_rfl) (by kernel_rfl) (fun _ _ _ h => h) (Or.inl ⟨by rfl, ?y106⟩) hHeld ?r106
  case y106 => (intro w hSw; have q0 := hSw; unfold RB at q0; go_simp; try with_reducible rfl)
  simp only [List.getElem_toArray, List.getElem_cons_zero, List.getElem_cons_succ, Act.put, List.setIfInBounds_toArray, List.set_cons_zero, List.set_cons_succ]
  refine wpAnyH_take (i := 5) (v := ?v107) rfl (by kernel_rfl) (by kernel_rfl) (by kernel_rfl) (fun _ _ _ h => h) (Or.inl ⟨by rfl, ?y107⟩) hHeld ?r107
  case y107 => (intro w hSw; have q0 := hSw; unfold RB at q0; go_simp; try with_reducible rfl)
  simp only [List.getElem_toArray, List.getElem_cons_zero, List.getElem_cons_succ, Act.put, List.setIfInBounds_toArray, List.set_cons_zero, List.set_cons_succ]
  refine wpAnyH_ready (rs := [4, 6]) (by kernel_rfl) (by simp) (AllReadyH.cons rfl (fun K hK => ?_) (AllReadyH.cons rfl (fun K hK => ?_) AllReadyH.nil))
  · go_simp
    refine hK.out _ _ (kb0) (fun hHeld => ?_)
    clear hK K
    refine wpAnyH_ready (rs := [6]) (by kernel_rfl) (by simp) (AllReadyH.cons rfl (fun K hK => ?_) AllReadyH.nil)
    go_simp
    refine hK.out _ _ (kbA) (fun hHeld => ?_)
    clear hK K
    refine wpAnyH_ready (rs := [7]) (by kernel_rfl) (by simp) (AllReadyH.cons rfl (fun K hK => ?_) AllReadyH.nil)
    refine wp_append_run _ (.tmp 98) (.tmp 100) 41 41 rfl _ _ rfl rfl Hap.out ?_
    refine hK.out _ _ (kb5) (fun hHeld => ?_)
    clear hK K
    refine wpAnyH_take (i := 8) (v := ?v110) rfl (by kernel_rfl) (by kernel_rfl) (by kernel_rfl) (fun _ _ _ h => h) (Or.inl ⟨by rfl, ?y110⟩) hHeld ?r110
    case y110 => (intro w hSw; have q0 := hSw; unfold RB at q0; go_simp; try with_reducible rfl)
    simp only [List.getElem_toArray, List.getElem_cons_zero, List.getElem_cons_succ, Act.put, List.setIfInBounds_toArray, List.set_cons_zero, List.set_cons_succ]
    refine wpAnyH_take (i := 9) (v := ?v111) rfl (by kernel_rfl) (by kernel_rfl) (by kernel_rfl) (fun _ _ _ h => h) (Or.inl ⟨by rfl, ?y111⟩) hHeld ?r111
    case y111 => (intro w hSw; have q0 := hSw; unfold RB at q0; go_simp; try with_reducible rfl)
    simp only [List.getElem_toArray, List.getElem_cons_zero, List.getElem_cons_succ, Act.put, List.setIfInBounds_toArray, List.set_cons_zero, List.set_cons_succ]
    refine wpAnyH_ready (rs := [10]) (by kernel_rfl) (by simp) (AllReadyH.cons rfl (fun K hK => ?_) AllReadyH.nil)
    go_simp
    skip
    refine hK.out _ _ (kb6) (fun hHeld => ?_)
    clear hK K
    refine wpAnyH_done (by kernel_rfl) ?_ _
    clear hHeld kb0 kbA kb5 kb6 e8 e8d e8a e8b e5_8 z5_8 loA Hap hvA hv3
    have S3 := HS3.out
    have b3 := S3.box
    have lo3 := S3.n.lto
    have lm3 := S3.bx.lt
    have e3_4 := S3.cell (i := 4) (v := .int .i64 ((n : Nat) : Int)) (fun _ => rfl)
    have z3_4 := S3.n.frozen 4
    have S4 := S3.put 4 (.int .i64 ((n : Int) + 1)) ⟨0, 1, k, (n + 1), left, p + 1, bn, (tl ++ [v])⟩ (fun _ => rfl) (fun _ _ q => q)
    generalize hv4 : v3.setCell ⟨o, 4, none⟩ (.int .i64 ((n : Int) + 1)) = v4 at S4
    have b4 := S4.box
    have lo4 := S4.n.lto
    have lm4 := S4.bx.lt
    have e4_4 := S4.cell (i := 4) (v := .int .i64 ((n : Int) + 1)) (fun _ => rfl)
    obtain ⟨c, e4_0⟩ := S4.n.slice
    have e4_3 := S4.cell (i := 3) (v := .int .i64 ((k : Nat) : Int)) (fun _ => rfl)
    have d4 := S4.n.spot hsp 3 _ rfl
    have HS4 := Lib.hid (fun q => S4.drewN q)
    obtain ⟨wd, hwd⟩ : ∃ wd, (nxs SS ⟨0, 1, k, n, left, p, bn, tl⟩).wd = wd := ⟨_, rfl⟩
    rw [hwd] at d4 hnl hw64 hm
    have hkl : (k : Int) < SS.length := by omega
    have hn0 : (0 : Int) ≤ n := by omega
    try dsimp only at hnl
    have HK := Lib.hid (And.intro hsp hk)
    clear S3 S4 HS3 hsp hwd hk
    have hm2 : ¬ (n : Int) + 1 < wd := by omega
    clear hm
    go_wp2_with fail
    go_quiet (fail)
    have S5 := HS4.out nq
    clear HS4 b4 lo4 lm4 e4_4 e4_0 e4_3 d4 b3 lo3 lm3 e3_4 z3_4 hv4
    generalize v4.drewN nq = v5 at S5 ⊢
    have b5 := S5.box
    have lo5 := S5.n.lto
    have lm5 := S5.bx.lt
    have e5_4 := S5.cell (i := 4) (v := .int .i64 ((n : Int) + 1)) (fun _ => rfl)
    have z5_4 := S5.n.frozen 4
    have S6 := S5.put 4 (.int .i64 0) ⟨0, 1, k, 0, left, p + 1, bn, (tl ++ [v])⟩ (fun _ => rfl) (fun _ _ q => q)
    generalize hv6 : v5.setCell ⟨o, 4, none⟩ (.int .i64 0) = v6 at S6
    have b6 := S6.box
    have lo6 := S6.n.lto
    have lm6 := S6.bx.lt
    have HS6 := Lib.hid S6
    clear S5 S6
    go_wp2_with fail
    refine (another_mid HS6.out hlast hs64).mono ?_
    rintro e v7 ⟨rfl, S7⟩
    clear HS6 b6 lo6 lm6 b5 lo5 lm5 e5_4 z5_4 hv6
    have b7 := S7.box
    have lo7 := S7.n.lto
    have lm7 := S7.bx.lt
    have e7_1 := S7.cell (i := 1) (v := .int .i64 (0)) (fun _ => rfl)
    have HS7 := Lib.hid S7
    clear S7
    go_wp2
    go_step3
    refine ahead_goto ?_
    go_wp2
    try rw [Exit.noGoto_ret]
    go_ret
    exact HS7.out.post (r := (⟨0, 1, (k + 1), 0, left, p + 1, bn, (tl ++ [v])⟩, 1))
  · go_simp
    refine hK.out _ _ (kbA) (fun hHeld => ?_)
    clear hK K
    refine wpAnyH_ready (rs := [4]) (by kernel_rfl) (by simp) (AllReadyH.cons rfl (fun K hK => ?_) AllReadyH.nil)
    go_simp
    refine hK.out _ _ (kbA) (fun hHeld => ?_)
    clear hK K
    refine wpAnyH_ready (rs := [7]) (by kernel_rfl) (by simp) (AllReadyH.cons rfl (fun K hK => ?_) AllReadyH.nil)
    refine wp_append_run _ (.tmp 98) (.tmp 100) 41 41 rfl _ _ rfl rfl Hap.out ?_
    refine hK.out _ _ (kb5) (fun hHeld => ?_)
    clear hK K
    refine wpAnyH_take (i := 8) (v := ?v114) rfl (by kernel_rfl) (by kernel_rfl) (by kernel_rfl) (fun _ _ _ h => h) (Or.inl ⟨by rfl, ?y114⟩) hHeld ?r114
    case y114 => (intro w hSw; have q0 := hSw; unfold RB at q0; go_simp; try with_reducible rfl)
    simp only [List.getElem_toArray, List.getElem_cons_zero, List.getElem_cons_succ, Act.put, List.setIfInBounds_toArray, List.set_cons_zero, List.set_cons_succ]
    refine wpAnyH_take (i := 9) (v := ?v115) rfl (by kernel_rfl) (by kernel_rfl) (by kernel_rfl) (fun _ _ _ h => h) (Or.inl ⟨by rfl, ?y115⟩) hHeld ?r115
    case y115 => (intro w hSw; have q0 := hSw; unfold RB at q0; go_simp; try with_reducible rfl)
    simp only [List.getElem_toArray, List.getElem_cons_zero, List.getElem_cons_succ, Act.put, List.setIfInBounds_toArray, List.set_cons_zero, List.set_cons_succ]
    refine wpAnyH_ready (rs := [10]) (by kernel_rfl) (by simp) (AllReadyH.cons rfl (fun K hK => ?_) AllReadyH.nil)
    go_simp
    skip
    refine hK.out _ _ (kb6) (fun hHeld => ?_)
    clear hK K
    refine wpAnyH_done (by kernel_rfl) ?_ _
    clear hHeld kb0 kbA kb5 kb6 e8 e8d e8a e8b e5_8 z5_8 loA Hap hvA hv3
    have S3 := HS3.out
    have b3 := S3.box
    have lo3 := S3.n.lto
    have lm3 := S3.bx.lt
    have e3_4 := S3.cell (i := 4) (v := .int .i64 ((n : Nat) : Int)) (fun _ => rfl)
    have z3_4 := S3.n.frozen 4
    have S4 := S3.put 4 (.int .i64 ((n : Int) + 1)) ⟨0, 1, k, (n + 1), left, p + 1, bn, (tl ++ [v])⟩ (fun _ => rfl) (fun _ _ q => q)
    generalize hv4 : v3.setCell ⟨o, 4, none⟩ (.int .i64 ((n : Int) + 1)) = v4 at S4
    have b4 := S4.box
    have lo4 := S4.n.lto
    have lm4 := S4.bx.lt
    have e4_4 := S4.cell (i := 4) (v := .int .i64 ((n : Int) + 1)) (fun _ => rfl)
    obtain ⟨c, e4_0⟩ := S4.n.slice
    have e4_3 := S4.cell (i := 3) (v := .int .i64 ((k : Nat) : Int)) (fun _ => rfl)
    have d4 := S4.n.spot hsp 3 _ rfl
    have HS4 := Lib.hid (fun q => S4.drewN q)
    obtain ⟨wd, hwd⟩ : ∃ wd, (nxs SS ⟨0, 1, k, n, left, p, bn, tl⟩).wd = wd := ⟨_, rfl⟩
    rw [hwd] at d4 hnl hw64 hm
    have hkl : (k : Int) < SS.length := by omega
    have hn0 : (0 : Int) ≤ n := by omega
    try dsimp only at hnl
    have HK := Lib.hid (And.intro hsp hk)
    clear S3 S4 HS3 hsp hwd hk
    have hm2 : ¬ (n : Int) + 1 < wd := by omega
    clear hm
    go_wp2_with fail
    go_quiet (fail)
    have S5 := HS4.out nq
    clear HS4 b4 lo4 lm4 e4_4 e4_0 e4_3 d4 b3 lo3 lm3 e3_4 z3_4 hv4
    generalize v4.drewN nq = v5 at S5 ⊢
    have b5 := S5.box
    have lo5 := S5.n.lto
    have lm5 := S5.bx.lt
    have e5_4 := S5.cell (i := 4) (v := .int .i64 ((n : Int) + 1)) (fun _ => rfl)
    have z5_4 := S5.n.frozen 4
    have S6 := S5.put 4 (.int .i64 0) ⟨0, 1, k, 0, left, p + 1, bn, (tl ++ [v])⟩ (fun _ => rfl) (fun _ _ q => q)
    generalize hv6 : v5.setCell ⟨o, 4, none⟩ (.int .i64 0) = v6 at S6
    have b6 := S6.box
    have lo6 := S6.n.lto
    have lm6 := S6.bx.lt
    have HS6 := Lib.hid S6
    clear S5 S6
    go_wp2_with fail
    refine (another_mid HS6.out hlast hs64).mono ?_
    rintro e v7 ⟨rfl, S7⟩
    clear HS6 b6 lo6 lm6 b5 lo5 lm5 e5_4 z5_4 hv6
    have b7 := S7.box
    have lo7 := S7.n.lto
    have lm7 := S7.bx.lt
    have e7_1 := S7.cell (i := 1) (v := .int .i64 (0)) (fun _ => rfl)
    have HS7 := Lib.hid S7
    clear S7
    go_wp2
    go_step3
    refine ahead_goto ?_
    go_wp2
    try rw [Exit.noGoto_ret]
    go_ret
    exact HS7.out.post (r := (⟨0, 1, (k + 1), 0, left, p + 1, bn, (tl ++ [v])⟩, 1))
set_option maxRecDepth 100000 in
set_option maxHeartbeats 2000000 in
theorem nstep_word_last (h : NAt w o gs g SS ⟨0, 1, k, n, left, p, bn, tl⟩) (hB : Bk w b bg xs t) (ap : Apt o gs g b bg) (hw : NWf SS ⟨0, 1, k, n, left, p, bn, tl⟩) (hv : getI xs (nxl SS ⟨0, 1, k, n, left, p, bn, tl⟩) = some v) (hm : (n : Int) + 1 = (nxs SS ⟨0, 1, k, n, left, p, bn, tl⟩).wd) (hlast : k + 1 = SS.length) (t0 : 0 ≤ t) (t1 : t ≤ 1000000) (p0 : 0 ≤ p) (p1 : p ≤ 1000000):
    Calls Try.prog 17 #[.pointer (some ⟨o, 0, none⟩), .pointer (some ⟨b, 0, none⟩)] w (NdPost o gs g b bg SS xs (⟨0, 2, 0, 0, left, p + 1, bn, (tl ++ [v])⟩, 1) t w) := by
  have S0 := Stg.start h hB ap 31
  have Hnx := Lib.hid (fun W (q : NAt W o gs g SS ⟨0, 1, k, n, left, p, bn, tl⟩) => nnext_any q hw)
  obtain ⟨q0, hv2⟩ := getI_some hv
  have Hv := Lib.hid (hB.rngAt hv2)
  have Hld := Lib.hid (fun W (q : Bk W b bg xs t) => load_at b bg xs t v (nxl SS ⟨0, 1, k, n, left, p, bn, tl⟩) W q0 q hv2 t0 t1)
  have Hw := Lib.hid hw
  have b0 := S0.box
  have lo0 := S0.n.lto
  have lm0 := S0.bx.lt
  have e0_1 := S0.cell (i := 1) (v := .int .i64 0) (fun _ => rfl)
  have HS0 := Lib.hid S0
  have lw := h.lto
  clear h hB ap hw hv hv2 q0 S0
  generalize nxl SS ⟨0, 1, k, n, left, p, bn, tl⟩ = at0 at *
  go_enter Try.func17, Try.ntmps17
  go_wp2
  refine wp_scope_ahead 0 rfl ?_
  go_wp2_with fail
  generalize hmsz : w.heap.size = m at *
  refine (Hnx.out _ HS0.out.n).mono ?_
  rintro e w1 ⟨rfl, hb1⟩
  have HS1 := Lib.hid (HS0.out.low hb1)
  clear hb1
  go_wp2_with fail
  refine (Hld.out _ HS1.out.bk).mono ?_
  rintro e v1 ⟨rfl, hk1, hu1⟩
  have S1 := HS1.out.touch hk1 hu1
  clear HS1 HS0 Hld Hnx hk1 hu1 b0 lo0 lm0 e0_1 lw
  have b1 := S1.box
  have lo1 := S1.n.lto
  have lm1 := S1.bx.lt
  have e1_6 := S1.cell (i := 6) (v := .int .i64 (p)) (fun _ => rfl)
  have z1_6 := S1.n.frozen 6
  have S2 := S1.put 6 (.int .i64 (p + 1)) ⟨0, 1, k, n, left, p + 1, bn, tl⟩ (fun _ => rfl) (fun _ _ q => q)
  generalize hv2 : v1.setCell ⟨o, 6, none⟩ (.int .i64 (p + 1)) = v2 at S2
  have b2 := S2.box
  have lo2 := S2.n.lto
  have lm2 := S2.bx.lt
  have e2_2 := S2.cell (i := 2) (v := .int .i64 (1)) (fun _ => rfl)
  have hnl := (Hw.out.a1 rfl).2
  have hw64 := Hw.out.rts.2.1
  have hsp := Hw.out.sp
  have HS2 := Lib.hid S2
  have hs64 := Hw.out.s64
  have hk := Hw.out.k
  clear S1
  go_wp2_with fail
  clear HS2 hv2 b1 lo1 lm1 e1_6 z1_6
  have S2d := S2.drew
  have hroom : tl.length < room SS := Hw.out.room1 (by show (1 : Int) ≤ 1; omega)
  have hap := append_run S2d.n (v) hroom
  dsimp only at hap
  have S2a := S2d.alloc (.cells #[.int .u64 (v)] 42)
  have S3 := S2a.app (v) hroom
  dsimp only at S3
  have e8 := S2.cell (i := 8) (v := .slice (some ⟨g, 0, none⟩) tl.length (room SS)) (fun _ => rfl)
  have e8d := S2d.cell (i := 8) (v := .slice (some ⟨g, 0, none⟩) tl.length (room SS)) (fun _ => rfl)
  have e8a := S2a.cell (i := 8) (v := .slice (some ⟨g, 0, none⟩) tl.length (room SS)) (fun _ => rfl)
  have e8b := (S2.alloc (.cells #[.int .u64 (v)] 42)).cell (i := 8) (v := .slice (some ⟨g, 0, none⟩) tl.length (room SS)) (fun _ => rfl)
  have kb0 : RB m o v2.drew := S2d.box
  have kbA : RB m o (v2.drew.alloc (.cells #[.int .u64 (v)] 42)) := S2a.box
  have hng := S2a.n.ne.1
  have kb5 : RB m o ((v2.drew.alloc (.cells #[.int .u64 (v)] 42)).setCell ⟨g, tl.length, none⟩ (.int .u64 (v))) := (S2a.bx.setFar (p := ⟨g, tl.length, none⟩) S2a.mm.2.2.1 _).cell rfl
  have e5_8 := (S2a.n.cells.elim (fun c hc => (hc.setFar (p := ⟨g, tl.length, none⟩) hng (.int .u64 (v))).cell (i := 8) (v := .slice (some ⟨g, 0, none⟩) tl.length (room SS)) rfl))
  have z5_8 := (S2a.n.cells.elim (fun c hc => (hc.setFar (p := ⟨g, tl.length, none⟩) hng (.int .u64 (v))).frozen 8))
  generalize hvA : (v2.drew.alloc (.cells #[.int .u64 (v)] 42)).setCell ⟨g, tl.length, none⟩ (.int .u64 (v)) = vA at S3 kb5 e5_8 z5_8 hap
  have loA : o < vA.heap.size := World.block_lt_of_cell? _ _ e5_8
  have Hap := Lib.hid hap
  generalize hv3 : vA.setCell ⟨o, 8, none⟩ (.slice (some ⟨g, 0, none⟩) (tl.length + 1) (room SS)) = v3 at S3
  have kb6 : RB m o v3 := S3.box
  have HS3 := Lib.hid S3
  clear S2 S2d S2a S3 hap hroom hng
  refine wp_region_held_drew (S := RB m o) (by kernel_rfl) (kb0) (fun hHeld => ?_)
  refine wpAnyH_take (i := 0) (v := ?v117) rfl (by kernel_rfl) (by kernel_rfl) (by kernel_rfl) (fun _ _ _ h => h) (Or.inl ⟨by rfl, ?y117⟩) hHeld ?r117
  case y117 => (intro w hSw; have q0 := hSw; unfold RB at q0; go_simp; try with_reducible rfl)
  simp only [List.getElem_toArray, List.getElem_cons_zero, Act.put, List.setIfInBounds_toArray, List.set_cons_zero, List.set_cons_succ]
  refine wpAnyH_take (i := 1) (v := ?v118) rfl (by kernel_rfl) (by kernel_rfl) (by kernel_rfl) (fun _ _ _ h => h) (Or.inl ⟨by rfl, ?y118⟩) hHeld ?r118
  case y118 => (intro w hSw; have q0 := hSw; unfold RB at q0; go_simp; try with_reducible rfl)
  simp only [List.getElem_toArray, List.getElem_cons_zero, List.getElem_cons_succ, Act.put, List.setIfInBounds_toArray, List.set_cons_zero, List.set_cons_succ]
  refine wpAnyH_take (i := 2) (v := ?v119) rfl (by kernel_rfl) (by kernel_rfl) (by kernel_rfl) (fun _ _ _ h => h) (Or.inl ⟨by rfl, ?y119⟩) hHeld ?r119
  case y119 => (intro w hSw; have q0 := hSw; unfold RB at q0; go_simp; try with_reducible rfl)
  simp only [List.getElem_toArray, List.getElem_cons_zero, List.getElem_cons_succ, Act.put, List.setIfInBounds_toArray, List.set_cons_zero, List.set_cons_succ]
  refine wpAnyH_take (i := 3) (v := ?v120) rfl (by kernel_rfl) (by kernel_rfl) (by kernel_rfl) (fun _ _ _ h => h) (Or.inl ⟨by rfl, ?y120⟩) hHeld ?r120
  case y120 => (intro w hSw; have q0 := hSw; unfold RB at q0; go_simp; try with_reducible rfl)
  simp only [List.getElem_toArray, List.getElem_cons_zero, List.getElem_cons_succ, Act.put, List.setIfInBounds_toArray, List.set_cons_zero, List.set_cons_succ]
  refine wpAnyH_take (i := 5) (v := ?v121) rfl (by kernel_rfl) (by kernel_rfl) (by kernel_rfl) (fun _ _ _ h => h) (Or.inl ⟨by rfl, ?y121⟩) hHeld ?r121
  case y121 => (intro w hSw; have q0 := hSw; unfold RB at q0; go_simp; try with_reducible rfl)
  simp only [List.getElem_toArray, List.getElem_cons_zero, List.getElem_cons_succ, Act.put, List.setIfInBounds_toArray, List.set_cons_zero, List.set_cons_succ]
  refine wpAnyH_ready (rs := [4, 6]) (by kernel_rfl) (by simp) (AllReadyH.cons rfl (fun K hK => ?_) (AllReadyH.cons rfl (fun K hK => ?_) AllReadyH.nil))
  · go_simp
    refine hK.out _ _ (kb0) (fun hHeld => ?_)
    clear hK K
    refine wpAnyH_ready (rs := [6]) (by kernel_rfl) (by simp) (AllReadyH.cons rfl (fun K hK => ?_) AllReadyH.nil)
    go_simp
    refine hK.out _ _ (kbA) (fun hHeld => ?_)
    clear hK K
    refine wpAnyH_ready (rs := [7]) (by kernel_rfl) (by simp) (AllReadyH.cons rfl (fun K hK => ?_) AllReadyH.nil)
    refine wp_append_run _ (.tmp 98) (.tmp 100) 41 41 rfl _ _ rfl rfl Hap.out ?_
    refine hK.out _ _ (kb5) (fun hHeld => ?_)
    clear hK K
    refine wpAnyH_take (i := 8) (v := ?v124) rfl (by kernel_rfl) (by kernel_rfl) (by kernel_rfl) (fun _ _ _ h => h) (Or.inl ⟨by rfl, ?y124⟩) hHeld ?r124
    case y124 => (intro w hSw; have q0 := hSw; unfold RB at q0; go_simp; try with_reducible rfl)
    simp only [List.getElem_toArray, List.getElem_cons_zero, List.getElem_cons_succ, Act.put, List.setIfInBounds_toArray, List.set_cons_zero, List.set_cons_succ]
    refine wpAnyH_take (i := 9) (v := ?v125) rfl (by kernel_rfl) (by kernel_rfl) (by kernel_rfl) (fun _ _ _ h => h) (Or.inl ⟨by rfl, ?y125⟩) hHeld ?r125
    case y125 => (intro w hSw; have q0 := hSw; unfold RB at q0; go_simp; try with_reducible rfl)
    simp only [List.getElem_toArray, List.getElem_cons_zero, List.getElem_cons_succ, Act.put, List.setIfInBounds_toArray, List.set_cons_zero, List.set_cons_succ]
    refine wpAnyH_ready (rs := [10]) (by kernel_rfl) (by simp) (AllReadyH.cons rfl (fun K hK => ?_) AllReadyH.nil)
    go_simp
    skip
    refine hK.out _ _ (kb6) (fun hHeld => ?_)
    clear hK K
    refine wpAnyH_done (by kernel_rfl) ?_ _
    clear hHeld kb0 kbA kb5 kb6 e8 e8d e8a e8b e5_8 z5_8 loA Hap hvA hv3
    have S3 := HS3.out
    have b3 := S3.box
    have lo3 := S3.n.lto
    have lm3 := S3.bx.lt
    have e3_4 := S3.cell (i := 4) (v := .int .i64 ((n : Nat) : Int)) (fun _ => rfl)
    have z3_4 := S3.n.frozen 4
    have S4 := S3.put 4 (.int .i64 ((n : Int) + 1)) ⟨0, 1, k, (n + 1), left, p + 1, bn, (tl ++ [v])⟩ (fun _ => rfl) (fun _ _ q => q)
    generalize hv4 : v3.setCell ⟨o, 4, none⟩ (.int .i64 ((n : Int) + 1)) = v4 at S4
    have b4 := S4.box
    have lo4 := S4.n.lto
    have lm4 := S4.bx.lt
    have e4_4 := S4.cell (i := 4) (v := .int .i64 ((n : Int) + 1)) (fun _ => rfl)
    obtain ⟨c, e4_0⟩ := S4.n.slice
    have e4_3 := S4.cell (i := 3) (v := .int .i64 ((k : Nat) : Int)) (fun _ => rfl)
    have d4 := S4.n.spot hsp 3 _ rfl
    have HS4 := Lib.hid (fun q => S4.drewN q)
    obtain ⟨wd, hwd⟩ : ∃ wd, (nxs SS ⟨0, 1, k, n, left, p, bn, tl⟩).wd = wd := ⟨_, rfl⟩
    rw [hwd] at d4 hnl hw64 hm
    have hkl : (k : Int) < SS.length := by omega
    have hn0 : (0 : Int) ≤ n := by omega
    try dsimp only at hnl
    have HK := Lib.hid (And.intro hsp hk)
    clear S3 S4 HS3 hsp hwd hk
    have hm2 : ¬ (n : Int) + 1 < wd := by omega
    clear hm
    go_wp2_with fail
    go_quiet (fail)
    have S5 := HS4.out nq
    clear HS4 b4 lo4 lm4 e4_4 e4_0 e4_3 d4 b3 lo3 lm3 e3_4 z3_4 hv4
    generalize v4.drewN nq = v5 at S5 ⊢
    have b5 := S5.box
    have lo5 := S5.n.lto
    have lm5 := S5.bx.lt
    have e5_4 := S5.cell (i := 4) (v := .int .i64 ((n : Int) + 1)) (fun _ => rfl)
    have z5_4 := S5.n.frozen 4
    have S6 := S5.put 4 (.int .i64 0) ⟨0, 1, k, 0, left, p + 1, bn, (tl ++ [v])⟩ (fun _ => rfl) (fun _ _ q => q)
    generalize hv6 : v5.setCell ⟨o, 4, none⟩ (.int .i64 0) = v6 at S6
    have b6 := S6.box
    have lo6 := S6.n.lto
    have lm6 := S6.bx.lt
    have HS6 := Lib.hid S6
    clear S5 S6
    go_wp2_with fail
    refine (another_last HS6.out hlast hs64).mono ?_
    rintro e v7 ⟨rfl, S7⟩
    clear HS6 b6 lo6 lm6 b5 lo5 lm5 e5_4 z5_4 hv6
    have b7 := S7.box
    have lo7 := S7.n.lto
    have lm7 := S7.bx.lt
    have e7_2 := S7.cell (i := 2) (v := .int .i64 (1)) (fun _ => rfl)
    have z7_2 := S7.n.frozen 2
    have S8 := S7.put 2 (.int .i64 (2)) ⟨0, 2, 0, 0, left, p + 1, bn, (tl ++ [v])⟩ (fun _ => rfl) (fun _ _ q => q)
    generalize hv8 : v7.setCell ⟨o, 2, none⟩ (.int .i64 (2)) = v8 at S8
    have b8 := S8.box
    have lo8 := S8.n.lto
    have lm8 := S8.bx.lt
    have e8_1 := S8.cell (i := 1) (v := .int .i64 (0)) (fun _ => rfl)
    have HS8 := Lib.hid S8
    clear S7 S8
    go_wp2
    go_step3
    refine ahead_goto ?_
    go_wp2
    try rw [Exit.noGoto_ret]
    go_ret
    exact HS8.out.post (r := (⟨0, 2, 0, 0, left, p + 1, bn, (tl ++ [v])⟩, 1))
  · go_simp
    refine hK.out _ _ (kbA) (fun hHeld => ?_)
    clear hK K
    refine wpAnyH_ready (rs := [4]) (by kernel_rfl) (by simp) (AllReadyH.cons rfl (fun K hK => ?_) AllReadyH.nil)
    go_simp
    refine hK.out _ _ (kbA) (fun hHeld => ?_)
    clear hK K
    refine wpAnyH_ready (rs := [7]) (by kernel_rfl) (by simp) (AllReadyH.cons rfl (fun K hK => ?_) AllReadyH.nil)
    refine wp_append_run _ (.tmp 98) (.tmp 100) 41 41 rfl _ _ rfl rfl Hap.out ?_
    refine hK.out _ _ (kb5) (fun hHeld => ?_)
    clear hK K
    refine wpAnyH_take (i := 8) (v := ?v128) rfl (by kernel_rfl) (by kernel_rfl) (by kernel_rfl) (fun _ _ _ h => h) (Or.inl ⟨by rfl, ?y128⟩) hHeld ?r128
    case y128 => (intro w hSw; have q0 := hSw; unfold RB at q0; go_simp; try with_reducible rfl)
    simp only [List.getElem_toArray, List.getElem_cons_zero, List.getElem_cons_succ, Act.put, List.setIfInBounds_toArray, List.set_cons_zero, List.set_cons_succ]
    refine wpAnyH_take (i := 9) (v := ?v129) rfl (by kernel_rfl) (by kernel_rfl) (by kernel_rfl) (fun _ _ _ h => h) (Or.inl ⟨by rfl, ?y129⟩) hHeld ?r129
    case y129 => (intro w hSw; have q0 := hSw; unfold RB at q0; go_simp; try with_reducible rfl)
    simp only [List.getElem_toArray, List.getElem_cons_zero, List.getElem_cons_succ, Act.put, List.setIfInBounds_toArray, List.set_cons_zero, List.set_cons_succ]
    refine wpAnyH_ready (rs := [10]) (by kernel_rfl) (by simp) (AllReadyH.cons rfl (fun K hK => ?_) AllReadyH.nil)
    go_simp
    skip
    refine hK.out _ _ (kb6) (fun hHeld => ?_)
    clear hK K
    refine wpAnyH_done (by kernel_rfl) ?_ _
    clear hHeld kb0 kbA kb5 kb6 e8 e8d e8a e8b e5_8 z5_8 loA Hap hvA hv3
    have S3 := HS3.out
    have b3 := S3.box
    have lo3 := S3.n.lto
    have lm3 := S3.bx.lt
    have e3_4 := S3.cell (i := 4) (v := .int .i64 ((n : Nat) : Int)) (fun _ => rfl)
    have z3_4 := S3.n.frozen 4
    have S4 := S3.put 4 (.int .i64 ((n : Int) + 1)) ⟨0, 1, k, (n + 1), left, p + 1, bn, (tl ++ [v])⟩ (fun _ => rfl) (fun _ _ q => q)
    generalize hv4 : v3.setCell ⟨o, 4, none⟩ (.int .i64 ((n : Int) + 1)) = v4 at S4
    have b4 := S4.box
    have lo4 := S4.n.lto
    have lm4 := S4.bx.lt
    have e4_4 := S4.cell (i := 4) (v := .int .i64 ((n : Int) + 1)) (fun _ => rfl)
    obtain ⟨c, e4_0⟩ := S4.n.slice
    have e4_3 := S4.cell (i := 3) (v := .int .i64 ((k : Nat) : Int)) (fun _ => rfl)
    have d4 := S4.n.spot hsp 3 _ rfl
    have HS4 := Lib.hid (fun q => S4.drewN q)
    obtain ⟨wd, hwd⟩ : ∃ wd, (nxs SS ⟨0, 1, k, n, left, p, bn, tl⟩).wd = wd := ⟨_, rfl⟩
    rw [hwd] at d4 hnl hw64 hm
    have hkl : (k : Int) < SS.length := by omega
    have hn0 : (0 : Int) ≤ n := by omega
    try dsimp only at hnl
    have HK := Lib.hid (And.intro hsp hk)
    clear S3 S4 HS3 hsp hwd hk
    have hm2 : ¬ (n : Int) + 1 < wd := by omega
    clear hm
    go_wp2_with fail
    go_quiet (fail)
    have S5 := HS4.out nq
    clear HS4 b4 lo4 lm4 e4_4 e4_0 e4_3 d4 b3 lo3 lm3 e3_4 z3_4 hv4
    generalize v4.drewN nq = v5 at S5 ⊢
    have b5 := S5.box
    have lo5 := S5.n.lto
    have lm5 := S5.bx.lt
    have e5_4 := S5.cell (i := 4) (v := .int .i64 ((n : Int) + 1)) (fun _ => rfl)
    have z5_4 := S5.n.frozen 4
    have S6 := S5.put 4 (.int .i64 0) ⟨0, 1, k, 0, left, p + 1, bn, (tl ++ [v])⟩ (fun _ => rfl) (fun _ _ q => q)
    generalize hv6 : v5.setCell ⟨o, 4, none⟩ (.int .i64 0) = v6 at S6
    have b6 := S6.box
    have lo6 := S6.n.lto
    have lm6 := S6.bx.lt
    have HS6 := Lib.hid S6
    clear S5 S6
    go_wp2_with fail
    refine (another_last HS6.out hlast hs64).mono ?_
    rintro e v7 ⟨rfl, S7⟩
    clear HS6 b6 lo6 lm6 b5 lo5 lm5 e5_4 z5_4 hv6
    have b7 := S7.box
    have lo7 := S7.n.lto
    have lm7 := S7.bx.lt
    have e7_2 := S7.cell (i := 2) (v := .int .i64 (1)) (fun _ => rfl)
    have z7_2 := S7.n.frozen 2
    have S8 := S7.put 2 (.int .i64 (2)) ⟨0, 2, 0, 0, left, p + 1, bn, (tl ++ [v])⟩ (fun _ => rfl) (fun _ _ q => q)
    generalize hv8 : v7.setCell ⟨o, 2, none⟩ (.int .i64 (2)) = v8 at S8
    have b8 := S8.box
    have lo8 := S8.n.lto
    have lm8 := S8.bx.lt
    have e8_1 := S8.cell (i := 1) (v := .int .i64 (0)) (fun _ => rfl)
    have HS8 := Lib.hid S8
    clear S7 S8
    go_wp2
    go_step3
    refine ahead_goto ?_
    go_wp2
    try rw [Exit.noGoto_ret]
    go_ret
    exact HS8.out.post (r := (⟨0, 2, 0, 0, left, p + 1, bn, (tl ++ [v])⟩, 1))
end
end Go.Proofs.Ytflgggfomhifeaa
