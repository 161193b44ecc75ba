/- The first line: which record of a spot is the newest one. -/
import Derived.Test.YtflgggfomhifeaaSnTB
namespace Go.Proofs.Ytflgggfomhifeaa
open Go.RowKit
/-- The cell that points to the snapshot. -/
def RB (m o : Nat) (w' : World) : Prop := w'.cell? ⟨m, 0, none⟩ = some (.pointer (some ⟨o, 0, none⟩))
/-- It, and how many steps were done. -/
def RBs (m o : Nat) (q : Int) (w' : World) : Prop := w'.cell? ⟨m, 0, none⟩ = some (.pointer (some ⟨o, 0, none⟩)) ∧ w'.cell? ⟨o, 6, none⟩ = some (.int .i64 q)
section
variable {w : World} {o gs g b bg : Nat} {SS : List Sp} {xs : List Int} {t v left p bn : Int} {k n : Nat} {tl : List Int}
set_option maxRecDepth 100000 in
set_option maxHeartbeats 2000000 in
theorem nstep_new (h : NAt w o gs g SS ⟨0, 0, k, n, left, p, bn, tl⟩) (hB : Bk w b bg xs t) (ap : Apt o gs g b bg) (hw : NWf SS ⟨0, 0, k, n, left, p, bn, tl⟩) (hv : getI xs (nxl SS ⟨0, 0, k, n, left, p, bn, tl⟩) = some v) (hlast : k + 1 < SS.length) (t0 : 0 ≤ t) (t1 : t ≤ 1000000) (p0 : 0 ≤ p) (p1 : p ≤ 1000000):
    Calls Try.prog 17 #[.pointer (some ⟨o, 0, none⟩), .pointer (some ⟨b, 0, none⟩)] w (NdPost o gs g b bg SS xs (⟨0, 0, (k + 1), n, left, p + 1, bn, (tl ++ [v / 2])⟩, 1) t w) := by
  have S0 := Stg.start h hB ap 31
  have Hnx := Lib.hid (fun W (q : NAt W o gs g SS ⟨0, 0, k, n, left, p, bn, tl⟩) => nnext_any q hw)
  obtain ⟨q0, hv2⟩ := getI_some hv
  have Hv := Lib.hid (hB.rngAt hv2)
  have Hld := Lib.hid (fun W (q : Bk W b bg xs t) => load_at b bg xs t v (nxl SS ⟨0, 0, k, n, left, p, bn, tl⟩) W q0 q hv2 t0 t1)
  have Hw := Lib.hid hw
  have b0 := S0.box
  have lo0 := S0.n.lto
  have lm0 := S0.bx.lt
  have e0_1 := S0.cell (i := 1) (v := .int .i64 0) (fun _ => rfl)
  have HS0 := Lib.hid S0
  have lw := h.lto
  clear h hB ap hw hv hv2 q0 S0
  generalize nxl SS ⟨0, 0, k, n, left, p, bn, tl⟩ = at0 at *
  go_enter Try.func17, Try.ntmps17
  go_wp2
  refine wp_scope_ahead 0 rfl ?_
  go_wp2_with fail
  generalize hmsz : w.heap.size = m at *
  refine (Hnx.out _ HS0.out.n).mono ?_
  rintro e w1 ⟨rfl, hb1⟩
  have HS1 := Lib.hid (HS0.out.low hb1)
  clear hb1
  go_wp2_with fail
  refine (Hld.out _ HS1.out.bk).mono ?_
  rintro e v1 ⟨rfl, hk1, hu1⟩
  have S1 := HS1.out.touch hk1 hu1
  clear HS1 HS0 Hld Hnx hk1 hu1 b0 lo0 lm0 e0_1 lw
  have b1 := S1.box
  have lo1 := S1.n.lto
  have lm1 := S1.bx.lt
  have e1_6 := S1.cell (i := 6) (v := .int .i64 (p)) (fun _ => rfl)
  have z1_6 := S1.n.frozen 6
  have S2 := S1.put 6 (.int .i64 (p + 1)) ⟨0, 0, k, n, left, p + 1, bn, tl⟩ (fun _ => rfl) (fun _ _ q => q)
  generalize hv2 : v1.setCell ⟨o, 6, none⟩ (.int .i64 (p + 1)) = v2 at S2
  have b2 := S2.box
  have lo2 := S2.n.lto
  have lm2 := S2.bx.lt
  have e2_2 := S2.cell (i := 2) (v := .int .i64 (0)) (fun _ => rfl)
  have HS2 := Lib.hid S2
  have hs64 := Hw.out.s64
  clear S1
  go_wp2_with fail
  clear HS2 hv2 b1 lo1 lm1 e1_6 z1_6
  have S2d := S2.drew
  have hroom : tl.length < room SS := Hw.out.room1 (by show (0 : Int) ≤ 1; omega)
  have hap := append_run S2d.n (v / 2) hroom
  dsimp only at hap
  have S2a := S2d.alloc (.cells #[.int .u64 (v / 2)] 42)
  have S3 := S2a.app (v / 2) hroom
  dsimp only at S3
  have e8 := S2.cell (i := 8) (v := .slice (some ⟨g, 0, none⟩) tl.length (room SS)) (fun _ => rfl)
  have e8d := S2d.cell (i := 8) (v := .slice (some ⟨g, 0, none⟩) tl.length (room SS)) (fun _ => rfl)
  have e8a := S2a.cell (i := 8) (v := .slice (some ⟨g, 0, none⟩) tl.length (room SS)) (fun _ => rfl)
  have e8b := (S2.alloc (.cells #[.int .u64 (v / 2)] 42)).cell (i := 8) (v := .slice (some ⟨g, 0, none⟩) tl.length (room SS)) (fun _ => rfl)
  have kb0 : RB m o v2.drew := S2d.box
  have kbA : RB m o (v2.drew.alloc (.cells #[.int .u64 (v / 2)] 42)) := S2a.box
  have hng := S2a.n.ne.1
  have kb5 : RB m o ((v2.drew.alloc (.cells #[.int .u64 (v / 2)] 42)).setCell ⟨g, tl.length, none⟩ (.int .u64 (v / 2))) := (S2a.bx.setFar (p := ⟨g, tl.length, none⟩) S2a.mm.2.2.1 _).cell rfl
  have e5_8 := (S2a.n.cells.elim (fun c hc => (hc.setFar (p := ⟨g, tl.length, none⟩) hng (.int .u64 (v / 2))).cell (i := 8) (v := .slice (some ⟨g, 0, none⟩) tl.length (room SS)) rfl))
  have z5_8 := (S2a.n.cells.elim (fun c hc => (hc.setFar (p := ⟨g, tl.length, none⟩) hng (.int .u64 (v / 2))).frozen 8))
  generalize hvA : (v2.drew.alloc (.cells #[.int .u64 (v / 2)] 42)).setCell ⟨g, tl.length, none⟩ (.int .u64 (v / 2)) = vA at S3 kb5 e5_8 z5_8 hap
  have loA : o < vA.heap.size := World.block_lt_of_cell? _ _ e5_8
  have Hap := Lib.hid hap
  generalize hv3 : vA.setCell ⟨o, 8, none⟩ (.slice (some ⟨g, 0, none⟩) (tl.length + 1) (room SS)) = v3 at S3
  have kb6 : RB m o v3 := S3.box
  have HS3 := Lib.hid S3
  clear S2 S2d S2a S3 hap hroom hng
  refine wp_region_held_drew (S := RB m o) (by kernel_rfl) (kb0) (fun hHeld => ?_)
  refine wpAnyH_take (i := 0) (v := ?v1) rfl (by kernel_rfl) (by kernel_rfl) (by kernel_rfl) (fun _ _ _ h => h) (Or.inl ⟨by rfl, ?y1⟩) hHeld ?r1
  case y1 => (intro w hSw; have q0 := hSw; unfold RB at q0; go_simp; try with_reducible rfl)
  simp only [List.getElem_toArray, List.getElem_cons_zero, Act.put, List.setIfInBounds_toArray, List.set_cons_zero, List.set_cons_succ]
  refine wpAnyH_take (i := 1) (v := ?v2) rfl (by kernel_rfl) (by kernel_rfl) (by kernel_rfl) (fun _ _ _ h => h) (Or.inl ⟨by rfl, ?y2⟩) hHeld ?r2
  case y2 => (intro w hSw; have q0 := hSw; unfold RB at q0; go_simp; try with_reducible rfl)
  simp only [List.getElem_toArray, List.getElem_cons_zero, List.getElem_cons_succ, Act.put, List.setIfInBounds_toArray, List.set_cons_zero, List.set_cons_succ]
  refine wpAnyH_take (i := 2) (v := ?v3) rfl (by kernel_rfl) (by kernel_rfl) (by kernel_rfl) (fun _ _ _ h => h) (Or.inl ⟨by rfl, ?y3⟩) hHeld ?r3
  case y3 => (intro w hSw; have q0 := hSw; unfold RB at q0; go_simp; try with_reducible rfl)
  simp only [List.getElem_toArray, List.getElem_cons_zero, List.getElem_cons_succ, Act.put, List.setIfInBounds_toArray, List.set_cons_zero, List.set_cons_succ]
  refine wpAnyH_take (i := 3) (v := ?v4) rfl (by kernel_rfl) (by kernel_rfl) (by kernel_rfl) (fun _ _ _ h => h) (Or.inl ⟨by rfl, ?y4⟩) hHeld ?r4
  case y4 => (intro w hSw; have q0 := hSw; unfold RB at q0; go_simp; try with_reducible rfl)
  simp only [List.getElem_toArray, List.getElem_cons_zero, List.getElem_cons_succ, Act.put, List.setIfInBounds_toArray, List.set_cons_zero, List.set_cons_succ]
  refine wpAnyH_take (i := 5) (v := ?v5) rfl (by kernel_rfl) (by kernel_rfl) (by kernel_rfl) (fun _ _ _ h => h) (Or.inl ⟨by rfl, ?y5⟩) hHeld ?r5
  case y5 => (intro w hSw; have q0 := hSw; unfold RB at q0; go_simp; try with_reducible rfl)
  simp only [List.getElem_toArray, List.getElem_cons_zero, List.getElem_cons_succ, Act.put, List.setIfInBounds_toArray, List.set_cons_zero, List.set_cons_succ]
  refine wpAnyH_ready (rs := [4, 6]) (by kernel_rfl) (by simp) (AllReadyH.cons rfl (fun K hK => ?_) (AllReadyH.cons rfl (fun K hK => ?_) AllReadyH.nil))
  · go_simp
    refine hK.out _ _ (kb0) (fun hHeld => ?_)
    clear hK K
    refine wpAnyH_ready (rs := [6]) (by kernel_rfl) (by simp) (AllReadyH.cons rfl (fun K hK => ?_) AllReadyH.nil)
    go_simp
    refine (sgen_any v Hv.out _).mono ?_
    rintro e v9 ⟨rfl, rfl⟩
    go_wp2_with fail
    refine hK.out _ _ (kb0) (fun hHeld => ?_)
    clear hK K
    refine wpAnyH_ready (rs := [7]) (by kernel_rfl) (by simp) (AllReadyH.cons rfl (fun K hK => ?_) AllReadyH.nil)
    go_simp
    refine hK.out _ _ (kbA) (fun hHeld => ?_)
    clear hK K
    refine wpAnyH_ready (rs := [8]) (by kernel_rfl) (by simp) (AllReadyH.cons rfl (fun K hK => ?_) AllReadyH.nil)
    refine wp_append_run _ (.tmp 72) (.tmp 75) 41 41 rfl _ _ rfl rfl Hap.out ?_
    refine hK.out _ _ (kb5) (fun hHeld => ?_)
    clear hK K
    refine wpAnyH_take (i := 9) (v := ?v9) rfl (by kernel_rfl) (by kernel_rfl) (by kernel_rfl) (fun _ _ _ h => h) (Or.inl ⟨by rfl, ?y9⟩) hHeld ?r9
    case y9 => (intro w hSw; have q0 := hSw; unfold RB at q0; go_simp; try with_reducible rfl)
    simp only [List.getElem_toArray, List.getElem_cons_zero, List.getElem_cons_succ, Act.put, List.setIfInBounds_toArray, List.set_cons_zero, List.set_cons_succ]
    refine wpAnyH_take (i := 10) (v := ?v10) rfl (by kernel_rfl) (by kernel_rfl) (by kernel_rfl) (fun _ _ _ h => h) (Or.inl ⟨by rfl, ?y10⟩) hHeld ?r10
    case y10 => (intro w hSw; have q0 := hSw; unfold RB at q0; go_simp; try with_reducible rfl)
    simp only [List.getElem_toArray, List.getElem_cons_zero, List.getElem_cons_succ, Act.put, List.setIfInBounds_toArray, List.set_cons_zero, List.set_cons_succ]
    refine wpAnyH_ready (rs := [11]) (by kernel_rfl) (by simp) (AllReadyH.cons rfl (fun K hK => ?_) AllReadyH.nil)
    go_simp
    skip
    refine hK.out _ _ (kb6) (fun hHeld => ?_)
    clear hK K
    refine wpAnyH_done (by kernel_rfl) ?_ _
    clear hHeld kb0 kbA kb5 kb6 e8 e8d e8a e8b e5_8 z5_8 loA Hap hvA hv3
    have b3 := HS3.out.box
    have lo3 := HS3.out.n.lto
    have lm3 := HS3.out.bx.lt
    go_wp2_with fail
    refine (another_mid HS3.out hlast hs64).mono ?_
    rintro e v4 ⟨rfl, S4⟩
    clear HS3 b3 lo3 lm3 b2 lo2 lm2 e2_2
    have b4 := S4.box
    have lo4 := S4.n.lto
    have lm4 := S4.bx.lt
    have e4_1 := S4.cell (i := 1) (v := .int .i64 (0)) (fun _ => rfl)
    have HS4 := Lib.hid S4
    clear S4
    go_wp2
    go_step3
    refine ahead_goto ?_
    go_wp2
    try rw [Exit.noGoto_ret]
    go_ret
    exact HS4.out.post (r := (⟨0, 0, (k + 1), n, left, p + 1, bn, (tl ++ [v / 2])⟩, 1))
  · go_simp
    refine (sgen_any v Hv.out _).mono ?_
    rintro e v9 ⟨rfl, rfl⟩
    go_wp2_with fail
    refine hK.out _ _ (kb0) (fun hHeld => ?_)
    clear hK K
    refine wpAnyH_ready (rs := [4, 7]) (by kernel_rfl) (by simp) (AllReadyH.cons rfl (fun K hK => ?_) (AllReadyH.cons rfl (fun K hK => ?_) AllReadyH.nil))
    · go_simp
      refine hK.out _ _ (kb0) (fun hHeld => ?_)
      clear hK K
      refine wpAnyH_ready (rs := [7]) (by kernel_rfl) (by simp) (AllReadyH.cons rfl (fun K hK => ?_) AllReadyH.nil)
      go_simp
      refine hK.out _ _ (kbA) (fun hHeld => ?_)
      clear hK K
      refine wpAnyH_ready (rs := [8]) (by kernel_rfl) (by simp) (AllReadyH.cons rfl (fun K hK => ?_) AllReadyH.nil)
      refine wp_append_run _ (.tmp 72) (.tmp 75) 41 41 rfl _ _ rfl rfl Hap.out ?_
      refine hK.out _ _ (kb5) (fun hHeld => ?_)
      clear hK K
      refine wpAnyH_take (i := 9) (v := ?v14) rfl (by kernel_rfl) (by kernel_rfl) (by kernel_rfl) (fun _ _ _ h => h) (Or.inl ⟨by rfl, ?y14⟩) hHeld ?r14
      case y14 => (intro w hSw; have q0 := hSw; unfold RB at q0; go_simp; try with_reducible rfl)
      simp only [List.getElem_toArray, List.getElem_cons_zero, List.getElem_cons_succ, Act.put, List.setIfInBounds_toArray, List.set_cons_zero, List.set_cons_succ]
      refine wpAnyH_take (i := 10) (v := ?v15) rfl (by kernel_rfl) (by kernel_rfl) (by kernel_rfl) (fun _ _ _ h => h) (Or.inl ⟨by rfl, ?y15⟩) hHeld ?r15
      case y15 => (intro w hSw; have q0 := hSw; unfold RB at q0; go_simp; try with_reducible rfl)
      simp only [List.getElem_toArray, List.getElem_cons_zero, List.getElem_cons_succ, Act.put, List.setIfInBounds_toArray, List.set_cons_zero, List.set_cons_succ]
      refine wpAnyH_ready (rs := [11]) (by kernel_rfl) (by simp) (AllReadyH.cons rfl (fun K hK => ?_) AllReadyH.nil)
      go_simp
      skip
      refine hK.out _ _ (kb6) (fun hHeld => ?_)
      clear hK K
      refine wpAnyH_done (by kernel_rfl) ?_ _
      clear hHeld kb0 kbA kb5 kb6 e8 e8d e8a e8b e5_8 z5_8 loA Hap hvA hv3
      have b3 := HS3.out.box
      have lo3 := HS3.out.n.lto
      have lm3 := HS3.out.bx.lt
      go_wp2_with fail
      refine (another_mid HS3.out hlast hs64).mono ?_
      rintro e v4 ⟨rfl, S4⟩
      clear HS3 b3 lo3 lm3 b2 lo2 lm2 e2_2
      have b4 := S4.box
      have lo4 := S4.n.lto
      have lm4 := S4.bx.lt
      have e4_1 := S4.cell (i := 1) (v := .int .i64 (0)) (fun _ => rfl)
      have HS4 := Lib.hid S4
      clear S4
      go_wp2
      go_step3
      refine ahead_goto ?_
      go_wp2
      try rw [Exit.noGoto_ret]
      go_ret
      exact HS4.out.post (r := (⟨0, 0, (k + 1), n, left, p + 1, bn, (tl ++ [v / 2])⟩, 1))
    · go_simp
      refine hK.out _ _ (kbA) (fun hHeld => ?_)
      clear hK K
      refine wpAnyH_ready (rs := [4]) (by kernel_rfl) (by simp) (AllReadyH.cons rfl (fun K hK => ?_) AllReadyH.nil)
      go_simp
      refine hK.out _ _ (kbA) (fun hHeld => ?_)
      clear hK K
      refine wpAnyH_ready (rs := [8]) (by kernel_rfl) (by simp) (AllReadyH.cons rfl (fun K hK => ?_) AllReadyH.nil)
      refine wp_append_run _ (.tmp 72) (.tmp 75) 41 41 rfl _ _ rfl rfl Hap.out ?_
      refine hK.out _ _ (kb5) (fun hHeld => ?_)
      clear hK K
      refine wpAnyH_take (i := 9) (v := ?v18) rfl (by kernel_rfl) (by kernel_rfl) (by kernel_rfl) (fun _ _ _ h => h) (Or.inl ⟨by rfl, ?y18⟩) hHeld ?r18
      case y18 => (intro w hSw; have q0 := hSw; unfold RB at q0; go_simp; try with_reducible rfl)
      simp only [List.getElem_toArray, List.getElem_cons_zero, List.getElem_cons_succ, Act.put, List.setIfInBounds_toArray, List.set_cons_zero, List.set_cons_succ]
      refine wpAnyH_take (i := 10) (v := ?v19) rfl (by kernel_rfl) (by kernel_rfl) (by kernel_rfl) (fun _ _ _ h => h) (Or.inl ⟨by rfl, ?y19⟩) hHeld ?r19
      case y19 => (intro w hSw; have q0 := hSw; unfold RB at q0; go_simp; try with_reducible rfl)
      simp only [List.getElem_toArray, List.getElem_cons_zero, List.getElem_cons_succ, Act.put, List.setIfInBounds_toArray, List.set_cons_zero, List.set_cons_succ]
      refine wpAnyH_ready (rs := [11]) (by kernel_rfl) (by simp) (AllReadyH.cons rfl (fun K hK => ?_) AllReadyH.nil)
      go_simp
      skip
      refine hK.out _ _ (kb6) (fun hHeld => ?_)
      clear hK K
      refine wpAnyH_done (by kernel_rfl) ?_ _
      clear hHeld kb0 kbA kb5 kb6 e8 e8d e8a e8b e5_8 z5_8 loA Hap hvA hv3
      have b3 := HS3.out.box
      have lo3 := HS3.out.n.lto
      have lm3 := HS3.out.bx.lt
      go_wp2_with fail
      refine (another_mid HS3.out hlast hs64).mono ?_
      rintro e v4 ⟨rfl, S4⟩
      clear HS3 b3 lo3 lm3 b2 lo2 lm2 e2_2
      have b4 := S4.box
      have lo4 := S4.n.lto
      have lm4 := S4.bx.lt
      have e4_1 := S4.cell (i := 1) (v := .int .i64 (0)) (fun _ => rfl)
      have HS4 := Lib.hid S4
      clear S4
      go_wp2
      go_step3
      refine ahead_goto ?_
      go_wp2
      try rw [Exit.noGoto_ret]
      go_ret
      exact HS4.out.post (r := (⟨0, 0, (k + 1), n, left, p + 1, bn, (tl ++ [v / 2])⟩, 1))
set_option maxRecDepth 100000 in
set_option maxHeartbeats 2000000 in
theorem nstep_new_last (h : NAt w o gs g SS ⟨0, 0, k, n, left, p, bn, tl⟩) (hB : Bk w b bg xs t) (ap : Apt o gs g b bg) (hw : NWf SS ⟨0, 0, k, n, left, p, bn, tl⟩) (hv : getI xs (nxl SS ⟨0, 0, k, n, left, p, bn, tl⟩) = some v) (hlast : k + 1 = SS.length) (t0 : 0 ≤ t) (t1 : t ≤ 1000000) (p0 : 0 ≤ p) (p1 : p ≤ 1000000):
    Calls Try.prog 17 #[.pointer (some ⟨o, 0, none⟩), .pointer (some ⟨b, 0, none⟩)] w (NdPost o gs g b bg SS xs (⟨0, 1, 0, n, left, p + 1, p + 1, (tl ++ [v / 2])⟩, 1) t w) := by
  have S0 := Stg.start h hB ap 31
  have Hnx := Lib.hid (fun W (q : NAt W o gs g SS ⟨0, 0, k, n, left, p, bn, tl⟩) => nnext_any q hw)
  obtain ⟨q0, hv2⟩ := getI_some hv
  have Hv := Lib.hid (hB.rngAt hv2)
  have Hld := Lib.hid (fun W (q : Bk W b bg xs t) => load_at b bg xs t v (nxl SS ⟨0, 0, k, n, left, p, bn, tl⟩) W q0 q hv2 t0 t1)
  have Hw := Lib.hid hw
  have b0 := S0.box
  have lo0 := S0.n.lto
  have lm0 := S0.bx.lt
  have e0_1 := S0.cell (i := 1) (v := .int .i64 0) (fun _ => rfl)
  have HS0 := Lib.hid S0
  have lw := h.lto
  clear h hB ap hw hv hv2 q0 S0
  generalize nxl SS ⟨0, 0, k, n, left, p, bn, tl⟩ = at0 at *
  go_enter Try.func17, Try.ntmps17
  go_wp2
  refine wp_scope_ahead 0 rfl ?_
  go_wp2_with fail
  generalize hmsz : w.heap.size = m at *
  refine (Hnx.out _ HS0.out.n).mono ?_
  rintro e w1 ⟨rfl, hb1⟩
  have HS1 := Lib.hid (HS0.out.low hb1)
  clear hb1
  go_wp2_with fail
  refine (Hld.out _ HS1.out.bk).mono ?_
  rintro e v1 ⟨rfl, hk1, hu1⟩
  have S1 := HS1.out.touch hk1 hu1
  clear HS1 HS0 Hld Hnx hk1 hu1 b0 lo0 lm0 e0_1 lw
  have b1 := S1.box
  have lo1 := S1.n.lto
  have lm1 := S1.bx.lt
  have e1_6 := S1.cell (i := 6) (v := .int .i64 (p)) (fun _ => rfl)
  have z1_6 := S1.n.frozen 6
  have S2 := S1.put 6 (.int .i64 (p + 1)) ⟨0, 0, k, n, left, p + 1, bn, tl⟩ (fun _ => rfl) (fun _ _ q => q)
  generalize hv2 : v1.setCell ⟨o, 6, none⟩ (.int .i64 (p + 1)) = v2 at S2
  have b2 := S2.box
  have lo2 := S2.n.lto
  have lm2 := S2.bx.lt
  have e2_2 := S2.cell (i := 2) (v := .int .i64 (0)) (fun _ => rfl)
  have HS2 := Lib.hid S2
  have hs64 := Hw.out.s64
  clear S1
  go_wp2_with fail
  clear HS2 hv2 b1 lo1 lm1 e1_6 z1_6
  have S2d := S2.drew
  have hroom : tl.length < room SS := Hw.out.room1 (by show (0 : Int) ≤ 1; omega)
  have hap := append_run S2d.n (v / 2) hroom
  dsimp only at hap
  have S2a := S2d.alloc (.cells #[.int .u64 (v / 2)] 42)
  have S3 := S2a.app (v / 2) hroom
  dsimp only at S3
  have e8 := S2.cell (i := 8) (v := .slice (some ⟨g, 0, none⟩) tl.length (room SS)) (fun _ => rfl)
  have e8d := S2d.cell (i := 8) (v := .slice (some ⟨g, 0, none⟩) tl.length (room SS)) (fun _ => rfl)
  have e8a := S2a.cell (i := 8) (v := .slice (some ⟨g, 0, none⟩) tl.length (room SS)) (fun _ => rfl)
  have e8b := (S2.alloc (.cells #[.int .u64 (v / 2)] 42)).cell (i := 8) (v := .slice (some ⟨g, 0, none⟩) tl.length (room SS)) (fun _ => rfl)
  have kb0 : RB m o v2.drew := S2d.box
  have kbA : RB m o (v2.drew.alloc (.cells #[.int .u64 (v / 2)] 42)) := S2a.box
  have hng := S2a.n.ne.1
  have kb5 : RB m o ((v2.drew.alloc (.cells #[.int .u64 (v / 2)] 42)).setCell ⟨g, tl.length, none⟩ (.int .u64 (v / 2))) := (S2a.bx.setFar (p := ⟨g, tl.length, none⟩) S2a.mm.2.2.1 _).cell rfl
  have e5_8 := (S2a.n.cells.elim (fun c hc => (hc.setFar (p := ⟨g, tl.length, none⟩) hng (.int .u64 (v / 2))).cell (i := 8) (v := .slice (some ⟨g, 0, none⟩) tl.length (room SS)) rfl))
  have z5_8 := (S2a.n.cells.elim (fun c hc => (hc.setFar (p := ⟨g, tl.length, none⟩) hng (.int .u64 (v / 2))).frozen 8))
  generalize hvA : (v2.drew.alloc (.cells #[.int .u64 (v / 2)] 42)).setCell ⟨g, tl.length, none⟩ (.int .u64 (v / 2)) = vA at S3 kb5 e5_8 z5_8 hap
  have loA : o < vA.heap.size := World.block_lt_of_cell? _ _ e5_8
  have Hap := Lib.hid hap
  generalize hv3 : vA.setCell ⟨o, 8, none⟩ (.slice (some ⟨g, 0, none⟩) (tl.length + 1) (room SS)) = v3 at S3
  have kb6 : RB m o v3 := S3.box
  have HS3 := Lib.hid S3
  clear S2 S2d S2a S3 hap hroom hng
  refine wp_region_held_drew (S := RB m o) (by kernel_rfl) (kb0) (fun hHeld => ?_)
  refine wpAnyH_take (i := 0) (v := ?v69) rfl (by kernel_rfl) (by kernel_rfl) (by kernel_rfl) (fun _ _ _ h => h) (Or.inl ⟨by rfl, ?y69⟩) hHeld ?r69
  case y69 => (intro w hSw; have q0 := hSw; unfold RB at q0; go_simp; try with_reducible rfl)
  simp only [List.getElem_toArray, List.getElem_cons_zero, Act.put, List.setIfInBounds_toArray, List.set_cons_zero, List.set_cons_succ]
  refine wpAnyH_take (i := 1) (v := ?v70) rfl (by kernel_rfl) (by kernel_rfl) (by kernel_rfl) (fun _ _ _ h => h) (Or.inl ⟨by rfl, ?y70⟩) hHeld ?r70
  case y70 => (intro w hSw; have q0 := hSw; unfold RB at q0; go_simp; try with_reducible rfl)
  simp only [List.getElem_toArray, List.getElem_cons_zero, List.getElem_cons_succ, Act.put, List.setIfInBounds_toArray, List.set_cons_zero, List.set_cons_succ]
  refine wpAnyH_take (i := 2) (v := ?v71) rfl (by kernel_rfl) (by kernel_rfl) (by kernel_rfl) (fun _ _ _ h => h) (Or.inl ⟨by rfl, ?y71⟩) hHeld ?r71
  case y71 => (intro w hSw; have q0 := hSw; unfold RB at q0; go_simp; try with_reducible rfl)
  simp only [List.getElem_toArray, List.getElem_cons_zero, List.getElem_cons_succ, Act.put, List.setIfInBounds_toArray, List.set_cons_zero, List.set_cons_succ]
  refine wpAnyH_take (i := 3) (v := ?v72) rfl (by kernel_rfl) (by kernel_rfl) (by kernel_rfl) (fun _ _ _ h => h) (Or.inl ⟨by rfl, ?y72⟩) hHeld ?r72
  case y72 => (intro w hSw; have q0 := hSw; unfold RB at q0; go_simp; try with_reducible rfl)
  simp only [List.getElem_toArray, List.getElem_cons_zero, List.getElem_cons_succ, Act.put, List.setIfInBounds_toArray, List.set_cons_zero, List.set_cons_succ]
  refine wpAnyH_take (i := 5) (v := ?v73) rfl (by kernel_rfl) (by kernel_rfl) (by kernel_rfl) (fun _ _ _ h => h) (Or.inl ⟨by rfl, ?y73⟩) hHeld ?r73
  case y73 => (intro w hSw; have q0 := hSw; unfold RB at q0; go_simp; try with_reducible rfl)
  simp only [List.getElem_toArray, List.getElem_cons_zero, List.getElem_cons_succ, Act.put, List.setIfInBounds_toArray, List.set_cons_zero, List.set_cons_succ]
  refine wpAnyH_ready (rs := [4, 6]) (by kernel_rfl) (by simp) (AllReadyH.cons rfl (fun K hK => ?_) (AllReadyH.cons rfl (fun K hK => ?_) AllReadyH.nil))
  · go_simp
    refine hK.out _ _ (kb0) (fun hHeld => ?_)
    clear hK K
    refine wpAnyH_ready (rs := [6]) (by kernel_rfl) (by simp) (AllReadyH.cons rfl (fun K hK => ?_) AllReadyH.nil)
    go_simp
    refine (sgen_any v Hv.out _).mono ?_
    rintro e v9 ⟨rfl, rfl⟩
    go_wp2_with fail
    refine hK.out _ _ (kb0) (fun hHeld => ?_)
    clear hK K
    refine wpAnyH_ready (rs := [7]) (by kernel_rfl) (by simp) (AllReadyH.cons rfl (fun K hK => ?_) AllReadyH.nil)
    go_simp
    refine hK.out _ _ (kbA) (fun hHeld => ?_)
    clear hK K
    refine wpAnyH_ready (rs := [8]) (by kernel_rfl) (by simp) (AllReadyH.cons rfl (fun K hK => ?_) AllReadyH.nil)
    refine wp_append_run _ (.tmp 72) (.tmp 75) 41 41 rfl _ _ rfl rfl Hap.out ?_
    refine hK.out _ _ (kb5) (fun hHeld => ?_)
    clear hK K
    refine wpAnyH_take (i := 9) (v := ?v77) rfl (by kernel_rfl) (by kernel_rfl) (by kernel_rfl) (fun _ _ _ h => h) (Or.inl ⟨by rfl, ?y77⟩) hHeld ?r77
    case y77 => (intro w hSw; have q0 := hSw; unfold RB at q0; go_simp; try with_reducible rfl)
    simp only [List.getElem_toArray, List.getElem_cons_zero, List.getElem_cons_succ, Act.put, List.setIfInBounds_toArray, List.set_cons_zero, List.set_cons_succ]
    refine wpAnyH_take (i := 10) (v := ?v78) rfl (by kernel_rfl) (by kernel_rfl) (by kernel_rfl) (fun _ _ _ h => h) (Or.inl ⟨by rfl, ?y78⟩) hHeld ?r78
    case y78 => (intro w hSw; have q0 := hSw; unfold RB at q0; go_simp; try with_reducible rfl)
    simp only [List.getElem_toArray, List.getElem_cons_zero, List.getElem_cons_succ, Act.put, List.setIfInBounds_toArray, List.set_cons_zero, List.set_cons_succ]
    refine wpAnyH_ready (rs := [11]) (by kernel_rfl) (by simp) (AllReadyH.cons rfl (fun K hK => ?_) AllReadyH.nil)
    go_simp
    skip
    refine hK.out _ _ (kb6) (fun hHeld => ?_)
    clear hK K
    refine wpAnyH_done (by kernel_rfl) ?_ _
    clear hHeld kb0 kbA kb5 kb6 e8 e8d e8a e8b e5_8 z5_8 loA Hap hvA hv3
    have b3 := HS3.out.box
    have lo3 := HS3.out.n.lto
    have lm3 := HS3.out.bx.lt
    go_wp2_with fail
    refine (another_last HS3.out hlast hs64).mono ?_
    rintro e v4 ⟨rfl, S4⟩
    clear HS3 b3 lo3 lm3 b2 lo2 lm2 e2_2
    have b4 := S4.box
    have lo4 := S4.n.lto
    have lm4 := S4.bx.lt
    have e4_7 := S4.cell (i := 7) (v := .int .i64 (bn)) (fun _ => rfl)
    have z4_7 := S4.n.frozen 7
    have S4d := S4.drew
    have e4d_7 := S4d.cell (i := 7) (v := .int .i64 bn) (fun _ => rfl)
    have z4d_7 := S4d.n.frozen 7
    have kq0 : RBs m o (p + 1) v4.drew := ⟨S4d.box, S4d.cell (fun _ => rfl)⟩
    have S5 := S4d.put 7 (.int .i64 (p + 1)) ⟨0, 0, 0, n, left, p + 1, p + 1, (tl ++ [v / 2])⟩ (fun _ => rfl) (fun _ _ q => q)
    generalize hv5 : v4.drew.setCell ⟨o, 7, none⟩ (.int .i64 (p + 1)) = v5 at S5
    have kq5 : RBs m o (p + 1) v5 := ⟨S5.box, S5.cell (fun _ => rfl)⟩
    have lo5 := S5.n.lto
    have e5_2 := S5.cell (i := 2) (v := .int .i64 (0)) (fun _ => rfl)
    have z5_2 := S5.n.frozen 2
    have S6 := S5.put 2 (.int .i64 1) ⟨0, 1, 0, n, left, p + 1, p + 1, (tl ++ [v / 2])⟩ (fun _ => rfl) (fun _ _ q => q)
    generalize hv6 : v5.setCell ⟨o, 2, none⟩ (.int .i64 1) = v6 at S6
    have kq6 : RBs m o (p + 1) v6 := ⟨S6.box, S6.cell (fun _ => rfl)⟩
    have HS6 := Lib.hid S6
    clear S4 S4d S5 S6
    go_wp2_with fail
    refine wp_region_held_drew (S := RBs m o (p + 1)) (by kernel_rfl) (kq0) (fun hHeld => ?_)
    refine wpAnyH_take (i := 0) (v := ?v33) rfl (by kernel_rfl) (by kernel_rfl) (by kernel_rfl) (fun _ _ _ h => h) (Or.inl ⟨by rfl, ?y33⟩) hHeld ?r33
    case y33 => (intro w hSw; obtain ⟨q0, q1⟩ := hSw; go_simp; try with_reducible rfl)
    simp only [List.getElem_toArray, List.getElem_cons_zero, Act.put, List.setIfInBounds_toArray, List.set_cons_zero, List.set_cons_succ]
    refine wpAnyH_take (i := 1) (v := ?v34) rfl (by kernel_rfl) (by kernel_rfl) (by kernel_rfl) (fun _ _ _ h => h) (Or.inl ⟨by rfl, ?y34⟩) hHeld ?r34
    case y34 => (intro w hSw; obtain ⟨q0, q1⟩ := hSw; go_simp; try with_reducible rfl)
    simp only [List.getElem_toArray, List.getElem_cons_zero, List.getElem_cons_succ, Act.put, List.setIfInBounds_toArray, List.set_cons_zero, List.set_cons_succ]
    refine wpAnyH_take (i := 2) (v := ?v35) rfl (by kernel_rfl) (by kernel_rfl) (by kernel_rfl) (fun _ _ _ h => h) (Or.inl ⟨by rfl, ?y35⟩) hHeld ?r35
    case y35 => (intro w hSw; obtain ⟨q0, q1⟩ := hSw; go_simp; try with_reducible rfl)
    simp only [List.getElem_toArray, List.getElem_cons_zero, List.getElem_cons_succ, Act.put, List.setIfInBounds_toArray, List.set_cons_zero, List.set_cons_succ]
    refine wpAnyH_take (i := 3) (v := ?v36) rfl (by kernel_rfl) (by kernel_rfl) (by kernel_rfl) (fun _ _ _ h => h) (Or.inl ⟨by rfl, ?y36⟩) hHeld ?r36
    case y36 => (intro w hSw; obtain ⟨q0, q1⟩ := hSw; go_simp; try with_reducible rfl)
    simp only [List.getElem_toArray, List.getElem_cons_zero, List.getElem_cons_succ, Act.put, List.setIfInBounds_toArray, List.set_cons_zero, List.set_cons_succ]
    refine wpAnyH_take (i := 4) (v := ?v37) rfl (by kernel_rfl) (by kernel_rfl) (by kernel_rfl) (fun _ _ _ h => h) (Or.inl ⟨by rfl, ?y37⟩) hHeld ?r37
    case y37 => (intro w hSw; obtain ⟨q0, q1⟩ := hSw; go_simp; try with_reducible rfl)
    simp only [List.getElem_toArray, List.getElem_cons_zero, List.getElem_cons_succ, Act.put, List.setIfInBounds_toArray, List.set_cons_zero, List.set_cons_succ]
    refine wpAnyH_take (i := 5) (v := ?v38) rfl (by kernel_rfl) (by kernel_rfl) (by kernel_rfl) (fun _ _ _ h => h) (Or.inl ⟨by rfl, ?y38⟩) hHeld ?r38
    case y38 => (intro w hSw; obtain ⟨q0, q1⟩ := hSw; go_simp; try with_reducible rfl)
    simp only [List.getElem_toArray, List.getElem_cons_zero, List.getElem_cons_succ, Act.put, List.setIfInBounds_toArray, List.set_cons_zero, List.set_cons_succ]
    refine wpAnyH_take (i := 6) (v := ?v39) rfl (by kernel_rfl) (by kernel_rfl) (by kernel_rfl) (fun _ _ _ h => h) (Or.inl ⟨by rfl, ?y39⟩) hHeld ?r39
    case y39 => (intro w hSw; obtain ⟨q0, q1⟩ := hSw; go_simp; try with_reducible rfl)
    simp only [List.getElem_toArray, List.getElem_cons_zero, List.getElem_cons_succ, Act.put, List.setIfInBounds_toArray, List.set_cons_zero, List.set_cons_succ]
    refine wpAnyH_take (i := 7) (v := ?v40) rfl (by kernel_rfl) (by kernel_rfl) (by kernel_rfl) (fun _ _ _ h => h) (Or.inl ⟨by rfl, ?y40⟩) hHeld ?r40
    case y40 => (intro w hSw; obtain ⟨q0, q1⟩ := hSw; go_simp; try with_reducible rfl)
    simp only [List.getElem_toArray, List.getElem_cons_zero, List.getElem_cons_succ, Act.put, List.setIfInBounds_toArray, List.set_cons_zero, List.set_cons_succ]
    refine wpAnyH_ready (rs := [8]) (by kernel_rfl) (by simp) (AllReadyH.cons rfl (fun K hK => ?_) AllReadyH.nil)
    go_simp
    go_wp2_with fail
    refine hK.out _ _ (kq5) (fun hHeld => ?_)
    clear hK K
    refine wpAnyH_take (i := 9) (v := ?v42) rfl (by kernel_rfl) (by kernel_rfl) (by kernel_rfl) (fun _ _ _ h => h) (Or.inl ⟨by rfl, ?y42⟩) hHeld ?r42
    case y42 => (intro w hSw; obtain ⟨q0, q1⟩ := hSw; go_simp; try with_reducible rfl)
    simp only [List.getElem_toArray, List.getElem_cons_zero, List.getElem_cons_succ, Act.put, List.setIfInBounds_toArray, List.set_cons_zero, List.set_cons_succ]
    refine wpAnyH_take (i := 10) (v := ?v43) rfl (by kernel_rfl) (by kernel_rfl) (by kernel_rfl) (fun _ _ _ h => h) (Or.inl ⟨by rfl, ?y43⟩) hHeld ?r43
    case y43 => (intro w hSw; obtain ⟨q0, q1⟩ := hSw; go_simp; try with_reducible rfl)
    simp only [List.getElem_toArray, List.getElem_cons_zero, List.getElem_cons_succ, Act.put, List.setIfInBounds_toArray, List.set_cons_zero, List.set_cons_succ]
    refine wpAnyH_ready (rs := [11]) (by kernel_rfl) (by simp) (AllReadyH.cons rfl (fun K hK => ?_) AllReadyH.nil)
    go_simp
    go_wp2_with fail
    refine hK.out _ _ (kq6) (fun hHeld => ?_)
    clear hK K
    refine wpAnyH_done (by kernel_rfl) ?_ _
    clear hHeld kq0 kq5 kq6 e4_7 z4_7 e4d_7 z4d_7 e5_2 z5_2 hv5 hv6 lo5 b4 lo4 lm4
    have b6 := HS6.out.box
    have lo6 := HS6.out.n.lto
    have lm6 := HS6.out.bx.lt
    have e6_1 := HS6.out.cell (i := 1) (v := .int .i64 0) (fun _ => rfl)
    go_wp2
    go_step3
    refine ahead_goto ?_
    go_wp2
    try rw [Exit.noGoto_ret]
    go_ret
    exact HS6.out.post (r := (⟨0, 1, 0, n, left, p + 1, p + 1, (tl ++ [v / 2])⟩, 1))
  · go_simp
    refine (sgen_any v Hv.out _).mono ?_
    rintro e v9 ⟨rfl, rfl⟩
    go_wp2_with fail
    refine hK.out _ _ (kb0) (fun hHeld => ?_)
    clear hK K
    refine wpAnyH_ready (rs := [4, 7]) (by kernel_rfl) (by simp) (AllReadyH.cons rfl (fun K hK => ?_) (AllReadyH.cons rfl (fun K hK => ?_) AllReadyH.nil))
    · go_simp
      refine hK.out _ _ (kb0) (fun hHeld => ?_)
      clear hK K
      refine wpAnyH_ready (rs := [7]) (by kernel_rfl) (by simp) (AllReadyH.cons rfl (fun K hK => ?_) AllReadyH.nil)
      go_simp
      refine hK.out _ _ (kbA) (fun hHeld => ?_)
      clear hK K
      refine wpAnyH_ready (rs := [8]) (by kernel_rfl) (by simp) (AllReadyH.cons rfl (fun K hK => ?_) AllReadyH.nil)
      refine wp_append_run _ (.tmp 72) (.tmp 75) 41 41 rfl _ _ rfl rfl Hap.out ?_
      refine hK.out _ _ (kb5) (fun hHeld => ?_)
      clear hK K
      refine wpAnyH_take (i := 9) (v := ?v82) rfl (by kernel_rfl) (by kernel_rfl) (by kernel_rfl) (fun _ _ _ h => h) (Or.inl ⟨by rfl, ?y82⟩) hHeld ?r82
      case y82 => (intro w hSw; have q0 := hSw; unfold RB at q0; go_simp; try with_reducible rfl)
      simp only [List.getElem_toArray, List.getElem_cons_zero, List.getElem_cons_succ, Act.put, List.setIfInBounds_toArray, List.set_cons_zero, List.set_cons_succ]
      refine wpAnyH_take (i := 10) (v := ?v83) rfl (by kernel_rfl) (by kernel_rfl) (by kernel_rfl) (fun _ _ _ h => h) (Or.inl ⟨by rfl, ?y83⟩) hHeld ?r83
      case y83 => (intro w hSw; have q0 := hSw; unfold RB at q0; go_simp; try with_reducible rfl)
      simp only [List.getElem_toArray, List.getElem_cons_zero, List.getElem_cons_succ, Act.put, List.setIfInBounds_toArray, List.set_cons_zero, List.set_cons_succ]
      refine wpAnyH_ready (rs := [11]) (by kernel_rfl) (by simp) (AllReadyH.cons rfl (fun K hK => ?_) AllReadyH.nil)
      go_simp
      skip
      refine hK.out _ _ (kb6) (fun hHeld => ?_)
      clear hK K
      refine wpAnyH_done (by kernel_rfl) ?_ _
      clear hHeld kb0 kbA kb5 kb6 e8 e8d e8a e8b e5_8 z5_8 loA Hap hvA hv3
      have b3 := HS3.out.box
      have lo3 := HS3.out.n.lto
      have lm3 := HS3.out.bx.lt
      go_wp2_with fail
      refine (another_last HS3.out hlast hs64).mono ?_
      rintro e v4 ⟨rfl, S4⟩
      clear HS3 b3 lo3 lm3 b2 lo2 lm2 e2_2
      have b4 := S4.box
      have lo4 := S4.n.lto
      have lm4 := S4.bx.lt
      have e4_7 := S4.cell (i := 7) (v := .int .i64 (bn)) (fun _ => rfl)
      have z4_7 := S4.n.frozen 7
      have S4d := S4.drew
      have e4d_7 := S4d.cell (i := 7) (v := .int .i64 bn) (fun _ => rfl)
      have z4d_7 := S4d.n.frozen 7
      have kq0 : RBs m o (p + 1) v4.drew := ⟨S4d.box, S4d.cell (fun _ => rfl)⟩
      have S5 := S4d.put 7 (.int .i64 (p + 1)) ⟨0, 0, 0, n, left, p + 1, p + 1, (tl ++ [v / 2])⟩ (fun _ => rfl) (fun _ _ q => q)
      generalize hv5 : v4.drew.setCell ⟨o, 7, none⟩ (.int .i64 (p + 1)) = v5 at S5
      have kq5 : RBs m o (p + 1) v5 := ⟨S5.box, S5.cell (fun _ => rfl)⟩
      have lo5 := S5.n.lto
      have e5_2 := S5.cell (i := 2) (v := .int .i64 (0)) (fun _ => rfl)
      have z5_2 := S5.n.frozen 2
      have S6 := S5.put 2 (.int .i64 1) ⟨0, 1, 0, n, left, p + 1, p + 1, (tl ++ [v / 2])⟩ (fun _ => rfl) (fun _ _ q => q)
      generalize hv6 : v5.setCell ⟨o, 2, none⟩ (.int .i64 1) = v6 at S6
      have kq6 : RBs m o (p + 1) v6 := ⟨S6.box, S6.cell (fun _ => rfl)⟩
      have HS6 := Lib.hid S6
      clear S4 S4d S5 S6
      go_wp2_with fail
      refine wp_region_held_drew (S := RBs m o (p + 1)) (by kernel_rfl) (kq0) (fun hHeld => ?_)
      refine wpAnyH_take (i := 0) (v := ?v45) rfl (by kernel_rfl) (by kernel_rfl) (by kernel_rfl) (fun _ _ _ h => h) (Or.inl ⟨by rfl, ?y45⟩) hHeld ?r45
      case y45 => (intro w hSw; obtain ⟨q0, q1⟩ := hSw; go_simp; try with_reducible rfl)
      simp only [List.getElem_toArray, List.getElem_cons_zero, Act.put, List.setIfInBounds_toArray, List.set_cons_zero, List.set_cons_succ]
      refine wpAnyH_take (i := 1) (v := ?v46) rfl (by kernel_rfl) (by kernel_rfl) (by kernel_rfl) (fun _ _ _ h => h) (Or.inl ⟨by rfl, ?y46⟩) hHeld ?r46
      case y46 => (intro w hSw; obtain ⟨q0, q1⟩ := hSw; go_simp; try with_reducible rfl)
      simp only [List.getElem_toArray, List.getElem_cons_zero, List.getElem_cons_succ, Act.put, List.setIfInBounds_toArray, List.set_cons_zero, List.set_cons_succ]
      refine wpAnyH_take (i := 2) (v := ?v47) rfl (by kernel_rfl) (by kernel_rfl) (by kernel_rfl) (fun _ _ _ h => h) (Or.inl ⟨by rfl, ?y47⟩) hHeld ?r47
      case y47 => (intro w hSw; obtain ⟨q0, q1⟩ := hSw; go_simp; try with_reducible rfl)
      simp only [List.getElem_toArray, List.getElem_cons_zero, List.getElem_cons_succ, Act.put, List.setIfInBounds_toArray, List.set_cons_zero, List.set_cons_succ]
      refine wpAnyH_take (i := 3) (v := ?v48) rfl (by kernel_rfl) (by kernel_rfl) (by kernel_rfl) (fun _ _ _ h => h) (Or.inl ⟨by rfl, ?y48⟩) hHeld ?r48
      case y48 => (intro w hSw; obtain ⟨q0, q1⟩ := hSw; go_simp; try with_reducible rfl)
      simp only [List.getElem_toArray, List.getElem_cons_zero, List.getElem_cons_succ, Act.put, List.setIfInBounds_toArray, List.set_cons_zero, List.set_cons_succ]
      refine wpAnyH_take (i := 4) (v := ?v49) rfl (by kernel_rfl) (by kernel_rfl) (by kernel_rfl) (fun _ _ _ h => h) (Or.inl ⟨by rfl, ?y49⟩) hHeld ?r49
      case y49 => (intro w hSw; obtain ⟨q0, q1⟩ := hSw; go_simp; try with_reducible rfl)
      simp only [List.getElem_toArray, List.getElem_cons_zero, List.getElem_cons_succ, Act.put, List.setIfInBounds_toArray, List.set_cons_zero, List.set_cons_succ]
      refine wpAnyH_take (i := 5) (v := ?v50) rfl (by kernel_rfl) (by kernel_rfl) (by kernel_rfl) (fun _ _ _ h => h) (Or.inl ⟨by rfl, ?y50⟩) hHeld ?r50
      case y50 => (intro w hSw; obtain ⟨q0, q1⟩ := hSw; go_simp; try with_reducible rfl)
      simp only [List.getElem_toArray, List.getElem_cons_zero, List.getElem_cons_succ, Act.put, List.setIfInBounds_toArray, List.set_cons_zero, List.set_cons_succ]
      refine wpAnyH_take (i := 6) (v := ?v51) rfl (by kernel_rfl) (by kernel_rfl) (by kernel_rfl) (fun _ _ _ h => h) (Or.inl ⟨by rfl, ?y51⟩) hHeld ?r51
      case y51 => (intro w hSw; obtain ⟨q0, q1⟩ := hSw; go_simp; try with_reducible rfl)
      simp only [List.getElem_toArray, List.getElem_cons_zero, List.getElem_cons_succ, Act.put, List.setIfInBounds_toArray, List.set_cons_zero, List.set_cons_succ]
      refine wpAnyH_take (i := 7) (v := ?v52) rfl (by kernel_rfl) (by kernel_rfl) (by kernel_rfl) (fun _ _ _ h => h) (Or.inl ⟨by rfl, ?y52⟩) hHeld ?r52
      case y52 => (intro w hSw; obtain ⟨q0, q1⟩ := hSw; go_simp; try with_reducible rfl)
      simp only [List.getElem_toArray, List.getElem_cons_zero, List.getElem_cons_succ, Act.put, List.setIfInBounds_toArray, List.set_cons_zero, List.set_cons_succ]
      refine wpAnyH_ready (rs := [8]) (by kernel_rfl) (by simp) (AllReadyH.cons rfl (fun K hK => ?_) AllReadyH.nil)
      go_simp
      go_wp2_with fail
      refine hK.out _ _ (kq5) (fun hHeld => ?_)
      clear hK K
      refine wpAnyH_take (i := 9) (v := ?v54) rfl (by kernel_rfl) (by kernel_rfl) (by kernel_rfl) (fun _ _ _ h => h) (Or.inl ⟨by rfl, ?y54⟩) hHeld ?r54
      case y54 => (intro w hSw; obtain ⟨q0, q1⟩ := hSw; go_simp; try with_reducible rfl)
      simp only [List.getElem_toArray, List.getElem_cons_zero, List.getElem_cons_succ, Act.put, List.setIfInBounds_toArray, List.set_cons_zero, List.set_cons_succ]
      refine wpAnyH_take (i := 10) (v := ?v55) rfl (by kernel_rfl) (by kernel_rfl) (by kernel_rfl) (fun _ _ _ h => h) (Or.inl ⟨by rfl, ?y55⟩) hHeld ?r55
      case y55 => (intro w hSw; obtain ⟨q0, q1⟩ := hSw; go_simp; try with_reducible rfl)
      simp only [List.getElem_toArray, List.getElem_cons_zero, List.getElem_cons_succ, Act.put, List.setIfInBounds_toArray, List.set_cons_zero, List.set_cons_succ]
      refine wpAnyH_ready (rs := [11]) (by kernel_rfl) (by simp) (AllReadyH.cons rfl (fun K hK => ?_) AllReadyH.nil)
      go_simp
      go_wp2_with fail
      refine hK.out _ _ (kq6) (fun hHeld => ?_)
      clear hK K
      refine wpAnyH_done (by kernel_rfl) ?_ _
      clear hHeld kq0 kq5 kq6 e4_7 z4_7 e4d_7 z4d_7 e5_2 z5_2 hv5 hv6 lo5 b4 lo4 lm4
      have b6 := HS6.out.box
      have lo6 := HS6.out.n.lto
      have lm6 := HS6.out.bx.lt
      have e6_1 := HS6.out.cell (i := 1) (v := .int .i64 0) (fun _ => rfl)
      go_wp2
      go_step3
      refine ahead_goto ?_
      go_wp2
      try rw [Exit.noGoto_ret]
      go_ret
      exact HS6.out.post (r := (⟨0, 1, 0, n, left, p + 1, p + 1, (tl ++ [v / 2])⟩, 1))
    · go_simp
      refine hK.out _ _ (kbA) (fun hHeld => ?_)
      clear hK K
      refine wpAnyH_ready (rs := [4]) (by kernel_rfl) (by simp) (AllReadyH.cons rfl (fun K hK => ?_) AllReadyH.nil)
      go_simp
      refine hK.out _ _ (kbA) (fun hHeld => ?_)
      clear hK K
      refine wpAnyH_ready (rs := [8]) (by kernel_rfl) (by simp) (AllReadyH.cons rfl (fun K hK => ?_) AllReadyH.nil)
      refine wp_append_run _ (.tmp 72) (.tmp 75) 41 41 rfl _ _ rfl rfl Hap.out ?_
      refine hK.out _ _ (kb5) (fun hHeld => ?_)
      clear hK K
      refine wpAnyH_take (i := 9) (v := ?v86) rfl (by kernel_rfl) (by kernel_rfl) (by kernel_rfl) (fun _ _ _ h => h) (Or.inl ⟨by rfl, ?y86⟩) hHeld ?r86
      case y86 => (intro w hSw; have q0 := hSw; unfold RB at q0; go_simp; try with_reducible rfl)
      simp only [List.getElem_toArray, List.getElem_cons_zero, List.getElem_cons_succ, Act.put, List.setIfInBounds_toArray, List.set_cons_zero, List.set_cons_succ]
      refine wpAnyH_take (i := 10) (v := ?v87) rfl (by kernel_rfl) (by kernel_rfl) (by kernel_rfl) (fun _ _ _ h => h) (Or.inl ⟨by rfl, ?y87⟩) hHeld ?r87
      case y87 => (intro w hSw; have q0 := hSw; unfold RB at q0; go_simp; try with_reducible rfl)
      simp only [List.getElem_toArray, List.getElem_cons_zero, List.getElem_cons_succ, Act.put, List.setIfInBounds_toArray, List.set_cons_zero, List.set_cons_succ]
      refine wpAnyH_ready (rs := [11]) (by kernel_rfl) (by simp) (AllReadyH.cons rfl (fun K hK => ?_) AllReadyH.nil)
      go_simp
      skip
      refine hK.out _ _ (kb6) (fun hHeld => ?_)
      clear hK K
      refine wpAnyH_done (by kernel_rfl) ?_ _
      clear hHeld kb0 kbA kb5 kb6 e8 e8d e8a e8b e5_8 z5_8 loA Hap hvA hv3
      have b3 := HS3.out.box
      have lo3 := HS3.out.n.lto
      have lm3 := HS3.out.bx.lt
      go_wp2_with fail
      refine (another_last HS3.out hlast hs64).mono ?_
      rintro e v4 ⟨rfl, S4⟩
      clear HS3 b3 lo3 lm3 b2 lo2 lm2 e2_2
      have b4 := S4.box
      have lo4 := S4.n.lto
      have lm4 := S4.bx.lt
      have e4_7 := S4.cell (i := 7) (v := .int .i64 (bn)) (fun _ => rfl)
      have z4_7 := S4.n.frozen 7
      have S4d := S4.drew
      have e4d_7 := S4d.cell (i := 7) (v := .int .i64 bn) (fun _ => rfl)
      have z4d_7 := S4d.n.frozen 7
      have kq0 : RBs m o (p + 1) v4.drew := ⟨S4d.box, S4d.cell (fun _ => rfl)⟩
      have S5 := S4d.put 7 (.int .i64 (p + 1)) ⟨0, 0, 0, n, left, p + 1, p + 1, (tl ++ [v / 2])⟩ (fun _ => rfl) (fun _ _ q => q)
      generalize hv5 : v4.drew.setCell ⟨o, 7, none⟩ (.int .i64 (p + 1)) = v5 at S5
      have kq5 : RBs m o (p + 1) v5 := ⟨S5.box, S5.cell (fun _ => rfl)⟩
      have lo5 := S5.n.lto
      have e5_2 := S5.cell (i := 2) (v := .int .i64 (0)) (fun _ => rfl)
      have z5_2 := S5.n.frozen 2
      have S6 := S5.put 2 (.int .i64 1) ⟨0, 1, 0, n, left, p + 1, p + 1, (tl ++ [v / 2])⟩ (fun _ => rfl) (fun _ _ q => q)
      generalize hv6 : v5.setCell ⟨o, 2, none⟩ (.int .i64 1) = v6 at S6
      have kq6 : RBs m o (p + 1) v6 := ⟨S6.box, S6.cell (fun _ => rfl)⟩
      have HS6 := Lib.hid S6
      clear S4 S4d S5 S6
      go_wp2_with fail
      refine wp_region_held_drew (S := RBs m o (p + 1)) (by kernel_rfl) (kq0) (fun hHeld => ?_)
      refine wpAnyH_take (i := 0) (v := ?v57) rfl (by kernel_rfl) (by kernel_rfl) (by kernel_rfl) (fun _ _ _ h => h) (Or.inl ⟨by rfl, ?y57⟩) hHeld ?r57
      case y57 => (intro w hSw; obtain ⟨q0, q1⟩ := hSw; go_simp; try with_reducible rfl)
      simp only [List.getElem_toArray, List.getElem_cons_zero, Act.put, List.setIfInBounds_toArray, List.set_cons_zero, List.set_cons_succ]
      refine wpAnyH_take (i := 1) (v := ?v58) rfl (by kernel_rfl) (by kernel_rfl) (by kernel_rfl) (fun _ _ _ h => h) (Or.inl ⟨by rfl, ?y58⟩) hHeld ?r58
      case y58 => (intro w hSw; obtain ⟨q0, q1⟩ := hSw; go_simp; try with_reducible rfl)
      simp only [List.getElem_toArray, List.getElem_cons_zero, List.getElem_cons_succ, Act.put, List.setIfInBounds_toArray, List.set_cons_zero, List.set_cons_succ]
      refine wpAnyH_take (i := 2) (v := ?v59) rfl (by kernel_rfl) (by kernel_rfl) (by kernel_rfl) (fun _ _ _ h => h) (Or.inl ⟨by rfl, ?y59⟩) hHeld ?r59
      case y59 => (intro w hSw; obtain ⟨q0, q1⟩ := hSw; go_simp; try with_reducible rfl)
      simp only [List.getElem_toArray, List.getElem_cons_zero, List.getElem_cons_succ, Act.put, List.setIfInBounds_toArray, List.set_cons_zero, List.set_cons_succ]
      refine wpAnyH_take (i := 3) (v := ?v60) rfl (by kernel_rfl) (by kernel_rfl) (by kernel_rfl) (fun _ _ _ h => h) (Or.inl ⟨by rfl, ?y60⟩) hHeld ?r60
      case y60 => (intro w hSw; obtain ⟨q0, q1⟩ := hSw; go_simp; try with_reducible rfl)
      simp only [List.getElem_toArray, List.getElem_cons_zero, List.getElem_cons_succ, Act.put, List.setIfInBounds_toArray, List.set_cons_zero, List.set_cons_succ]
      refine wpAnyH_take (i := 4) (v := ?v61) rfl (by kernel_rfl) (by kernel_rfl) (by kernel_rfl) (fun _ _ _ h => h) (Or.inl ⟨by rfl, ?y61⟩) hHeld ?r61
      case y61 => (intro w hSw; obtain ⟨q0, q1⟩ := hSw; go_simp; try with_reducible rfl)
      simp only [List.getElem_toArray, List.getElem_cons_zero, List.getElem_cons_succ, Act.put, List.setIfInBounds_toArray, List.set_cons_zero, List.set_cons_succ]
      refine wpAnyH_take (i := 5) (v := ?v62) rfl (by kernel_rfl) (by kernel_rfl) (by kernel_rfl) (fun _ _ _ h => h) (Or.inl ⟨by rfl, ?y62⟩) hHeld ?r62
      case y62 => (intro w hSw; obtain ⟨q0, q1⟩ := hSw; go_simp; try with_reducible rfl)
      simp only [List.getElem_toArray, List.getElem_cons_zero, List.getElem_cons_succ, Act.put, List.setIfInBounds_toArray, List.set_cons_zero, List.set_cons_succ]
      refine wpAnyH_take (i := 6) (v := ?v63) rfl (by kernel_rfl) (by kernel_rfl) (by kernel_rfl) (fun _ _ _ h => h) (Or.inl ⟨by rfl, ?y63⟩) hHeld ?r63
      case y63 => (intro w hSw; obtain ⟨q0, q1⟩ := hSw; go_simp; try with_reducible rfl)
      simp only [List.getElem_toArray, List.getElem_cons_zero, List.getElem_cons_succ, Act.put, List.setIfInBounds_toArray, List.set_cons_zero, List.set_cons_succ]
      refine wpAnyH_take (i := 7) (v := ?v64) rfl (by kernel_rfl) (by kernel_rfl) (by kernel_rfl) (fun _ _ _ h => h) (Or.inl ⟨by rfl, ?y64⟩) hHeld ?r64
      case y64 => (intro w hSw; obtain ⟨q0, q1⟩ := hSw; go_simp; try with_reducible rfl)
      simp only [List.getElem_toArray, List.getElem_cons_zero, List.getElem_cons_succ, Act.put, List.setIfInBounds_toArray, List.set_cons_zero, List.set_cons_succ]
      refine wpAnyH_ready (rs := [8]) (by kernel_rfl) (by simp) (AllReadyH.cons rfl (fun K hK => ?_) AllReadyH.nil)
      go_simp
      go_wp2_with fail
      refine hK.out _ _ (kq5) (fun hHeld => ?_)
      clear hK K
      refine wpAnyH_take (i := 9) (v := ?v66) rfl (by kernel_rfl) (by kernel_rfl) (by kernel_rfl) (fun _ _ _ h => h) (Or.inl ⟨by rfl, ?y66⟩) hHeld ?r66
      case y66 => (intro w hSw; obtain ⟨q0, q1⟩ := hSw; go_simp; try with_reducible rfl)
      simp only [List.getElem_toArray, List.getElem_cons_zero, List.getElem_cons_succ, Act.put, List.setIfInBounds_toArray, List.set_cons_zero, List.set_cons_succ]
      refine wpAnyH_take (i := 10) (v := ?v67) rfl (by kernel_rfl) (by kernel_rfl) (by kernel_rfl) (fun _ _ _ h => h) (Or.inl ⟨by rfl, ?y67⟩) hHeld ?r67
      case y67 => (intro w hSw; obtain ⟨q0, q1⟩ := hSw; go_simp; try with_reducible rfl)
      simp only [List.getElem_toArray, List.getElem_cons_zero, List.getElem_cons_succ, Act.put, List.setIfInBounds_toArray, List.set_cons_zero, List.set_cons_succ]
      refine wpAnyH_ready (rs := [11]) (by kernel_rfl) (by simp) (AllReadyH.cons rfl (fun K hK => ?_) AllReadyH.nil)
      go_simp
      go_wp2_with fail
      refine hK.out _ _ (kq6) (fun hHeld => ?_)
      clear hK K
      refine wpAnyH_done (by kernel_rfl) ?_ _
      clear hHeld kq0 kq5 kq6 e4_7 z4_7 e4d_7 z4d_7 e5_2 z5_2 hv5 hv6 lo5 b4 lo4 lm4
      have b6 := HS6.out.box
      have lo6 := HS6.out.n.lto
      have lm6 := HS6.out.bx.lt
      have e6_1 := HS6.out.cell (i := 1) (v := .int .i64 0) (fun _ => rfl)
      go_wp2
      go_step3
      refine ahead_goto ?_
      go_wp2
      try rw [Exit.noGoto_ret]
      go_ret
      exact HS6.out.post (r := (⟨0, 1, 0, n, left, p + 1, p + 1, (tl ++ [v / 2])⟩, 1))
end
end Go.Proofs.Ytflgggfomhifeaa
