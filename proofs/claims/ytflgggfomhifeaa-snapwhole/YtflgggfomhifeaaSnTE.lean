/- The third line: whether the record still is the newest one. -/
import Derived.Test.YtflgggfomhifeaaSnTC
namespace Go.Proofs.Ytflgggfomhifeaa
open Go.RowKit
/-- What the third line reads. -/
def RE (m o g k len cap : Nat) (u : Int) (w' : World) : Prop := w'.cell? ⟨m, 0, none⟩ = some (.pointer (some ⟨o, 0, none⟩)) ∧ w'.cell? ⟨o, 8, none⟩ = some (.slice (some ⟨g, 0, none⟩) len cap) ∧ w'.cell? ⟨o, 3, none⟩ = some (.int .i64 (k : Int)) ∧ w'.cell? ⟨g, k, none⟩ = some (.int .u64 u)
section
variable {w : World} {o gs g b bg : Nat} {SS : List Sp} {xs : List Int} {t v left p bn : Int} {k n : Nat} {tl : List Int}
set_option maxRecDepth 100000 in
set_option maxHeartbeats 2000000 in
theorem nstep_same (h : NAt w o gs g SS ⟨0, 2, k, n, left, p, bn, tl⟩) (hB : Bk w b bg xs t) (ap : Apt o gs g b bg) (hw : NWf SS ⟨0, 2, k, n, left, p, bn, tl⟩) (hv : getI xs (nxl SS ⟨0, 2, k, n, left, p, bn, tl⟩) = some v) {u : Int} (hu : tl[k]? = some u) (hm : v / 2 = u) (hlast : k + 1 < SS.length) (t0 : 0 ≤ t) (t1 : t ≤ 1000000) (p0 : 0 ≤ p) (p1 : p ≤ 1000000):
    Calls Try.prog 17 #[.pointer (some ⟨o, 0, none⟩), .pointer (some ⟨b, 0, none⟩)] w (NdPost o gs g b bg SS xs (⟨0, 2, (k + 1), n, left, p + 1, bn, tl⟩, 1) t w) := by
  have hmv : (v / 2 != u) = false := by simpa using hm
  clear hm
  have S0 := Stg.start h hB ap 31
  have Hnx := Lib.hid (fun W (q : NAt W o gs g SS ⟨0, 2, k, n, left, p, bn, tl⟩) => nnext_any q hw)
  obtain ⟨q0, hv2⟩ := getI_some hv
  have Hv := Lib.hid (hB.rngAt hv2)
  have Hld := Lib.hid (fun W (q : Bk W b bg xs t) => load_at b bg xs t v (nxl SS ⟨0, 2, k, n, left, p, bn, tl⟩) W q0 q hv2 t0 t1)
  have Hw := Lib.hid hw
  have b0 := S0.box
  have lo0 := S0.n.lto
  have lm0 := S0.bx.lt
  have e0_1 := S0.cell (i := 1) (v := .int .i64 0) (fun _ => rfl)
  have HS0 := Lib.hid S0
  have lw := h.lto
  clear h hB ap hw hv hv2 q0 S0
  generalize nxl SS ⟨0, 2, k, n, left, p, bn, tl⟩ = at0 at *
  go_enter Try.func17, Try.ntmps17
  go_wp2
  refine wp_scope_ahead 0 rfl ?_
  go_wp2_with fail
  generalize hmsz : w.heap.size = m at *
  refine (Hnx.out _ HS0.out.n).mono ?_
  rintro e w1 ⟨rfl, hb1⟩
  have HS1 := Lib.hid (HS0.out.low hb1)
  clear hb1
  go_wp2_with fail
  refine (Hld.out _ HS1.out.bk).mono ?_
  rintro e v1 ⟨rfl, hk1, hu1⟩
  have S1 := HS1.out.touch hk1 hu1
  clear HS1 HS0 Hld Hnx hk1 hu1 b0 lo0 lm0 e0_1 lw
  have b1 := S1.box
  have lo1 := S1.n.lto
  have lm1 := S1.bx.lt
  have e1_6 := S1.cell (i := 6) (v := .int .i64 (p)) (fun _ => rfl)
  have z1_6 := S1.n.frozen 6
  have S2 := S1.put 6 (.int .i64 (p + 1)) ⟨0, 2, k, n, left, p + 1, bn, tl⟩ (fun _ => rfl) (fun _ _ q => q)
  generalize hv2 : v1.setCell ⟨o, 6, none⟩ (.int .i64 (p + 1)) = v2 at S2
  have b2 := S2.box
  have lo2 := S2.n.lto
  have lm2 := S2.bx.lt
  have e2_2 := S2.cell (i := 2) (v := .int .i64 (2)) (fun _ => rfl)
  have S2d := S2.drew
  have hq : RE m o g k tl.length (room SS) u v2.drew := ⟨S2d.box, S2d.cell (fun _ => rfl), S2d.cell (fun _ => rfl), S2d.n.word hu⟩
  have hkl : (k : Int) < tl.length := by have := lt_of_some hu; omega
  have hs64 := Hw.out.s64
  have HS3 := Lib.hid S2d
  have hrm : tl.length ≤ room SS := by have := (Hw.out.a2 rfl).1; unfold room; dsimp only at this; omega
  clear S1 S2 S2d hu
  go_wp2_with fail
  clear hv2 b1 lo1 lm1 e1_6 z1_6
  refine wp_region_held_drew (S := RE m o g k tl.length (room SS) u) (by kernel_rfl) (hq) (fun hHeld => ?_)
  refine wpAnyH_take (i := 0) (v := ?v131) rfl (by kernel_rfl) (by kernel_rfl) (by kernel_rfl) (fun _ _ _ h => h) (Or.inl ⟨by rfl, ?y131⟩) hHeld ?r131
  case y131 => (intro w hSw; obtain ⟨q0, q1, q2, q3⟩ := hSw; go_simp; try with_reducible rfl)
  simp only [List.getElem_toArray, List.getElem_cons_zero, Act.put, List.setIfInBounds_toArray, List.set_cons_zero, List.set_cons_succ]
  refine wpAnyH_take (i := 2) (v := ?v132) rfl (by kernel_rfl) (by kernel_rfl) (by kernel_rfl) (fun _ _ _ h => h) (Or.inl ⟨by rfl, ?y132⟩) hHeld ?r132
  case y132 => (intro w hSw; obtain ⟨q0, q1, q2, q3⟩ := hSw; go_simp; try with_reducible rfl)
  simp only [List.getElem_toArray, List.getElem_cons_zero, List.getElem_cons_succ, Act.put, List.setIfInBounds_toArray, List.set_cons_zero, List.set_cons_succ]
  refine wpAnyH_take (i := 3) (v := ?v133) rfl (by kernel_rfl) (by kernel_rfl) (by kernel_rfl) (fun _ _ _ h => h) (Or.inl ⟨by rfl, ?y133⟩) hHeld ?r133
  case y133 => (intro w hSw; obtain ⟨q0, q1, q2, q3⟩ := hSw; go_simp; try with_reducible rfl)
  simp only [List.getElem_toArray, List.getElem_cons_zero, List.getElem_cons_succ, Act.put, List.setIfInBounds_toArray, List.set_cons_zero, List.set_cons_succ]
  refine wpAnyH_take (i := 4) (v := ?v134) rfl (by kernel_rfl) (by kernel_rfl) (by kernel_rfl) (fun _ _ _ h => h) (Or.inl ⟨by rfl, ?y134⟩) hHeld ?r134
  case y134 => (intro w hSw; obtain ⟨q0, q1, q2, q3⟩ := hSw; go_simp; try with_reducible rfl)
  simp only [List.getElem_toArray, List.getElem_cons_zero, List.getElem_cons_succ, Act.put, List.setIfInBounds_toArray, List.set_cons_zero, List.set_cons_succ]
  refine wpAnyH_take (i := 5) (v := ?v135) rfl (by kernel_rfl) (by kernel_rfl) (by kernel_rfl) (fun _ _ _ h => h) (Or.inl ⟨by rfl, ?y135⟩) hHeld ?r135
  case y135 => (intro w hSw; obtain ⟨q0, q1, q2, q3⟩ := hSw; go_simp; try with_reducible rfl)
  simp only [List.getElem_toArray, List.getElem_cons_zero, List.getElem_cons_succ, Act.put, List.setIfInBounds_toArray, List.set_cons_zero, List.set_cons_succ]
  refine wpAnyH_take (i := 6) (v := ?v136) rfl (by kernel_rfl) (by kernel_rfl) (by kernel_rfl) (fun _ _ _ h => h) (Or.inl ⟨by rfl, ?y136⟩) hHeld ?r136
  case y136 => (intro w hSw; obtain ⟨q0, q1, q2, q3⟩ := hSw; go_simp; try with_reducible rfl)
  simp only [List.getElem_toArray, List.getElem_cons_zero, List.getElem_cons_succ, Act.put, List.setIfInBounds_toArray, List.set_cons_zero, List.set_cons_succ]
  refine wpAnyH_take (i := 7) (v := ?v137) rfl (by kernel_rfl) (by kernel_rfl) (by kernel_rfl) (fun _ _ _ h => h) (Or.inl ⟨by rfl, ?y137⟩) hHeld ?r137
  case y137 => (intro w hSw; obtain ⟨q0, q1, q2, q3⟩ := hSw; go_simp; try with_reducible rfl)
  simp only [List.getElem_toArray, List.getElem_cons_zero, List.getElem_cons_succ, Act.put, List.setIfInBounds_toArray, List.set_cons_zero, List.set_cons_succ]
  refine wpAnyH_take (i := 8) (v := ?v138) rfl (by kernel_rfl) (by kernel_rfl) (by kernel_rfl) (fun _ _ _ h => h) (Or.inl ⟨by rfl, ?y138⟩) hHeld ?r138
  case y138 => (intro w hSw; obtain ⟨q0, q1, q2, q3⟩ := hSw; go_simp; try with_reducible rfl)
  simp only [List.getElem_toArray, List.getElem_cons_zero, List.getElem_cons_succ, Act.put, List.setIfInBounds_toArray, List.set_cons_zero, List.set_cons_succ]
  refine wpAnyH_take (i := 9) (v := ?v139) rfl (by kernel_rfl) (by kernel_rfl) (by kernel_rfl) (fun _ _ _ h => h) (Or.inl ⟨by rfl, ?y139⟩) hHeld ?r139
  case y139 => (intro w hSw; obtain ⟨q0, q1, q2, q3⟩ := hSw; go_simp; try with_reducible rfl)
  simp only [List.getElem_toArray, List.getElem_cons_zero, List.getElem_cons_succ, Act.put, List.setIfInBounds_toArray, List.set_cons_zero, List.set_cons_succ]
  refine wpAnyH_take (i := 10) (v := ?v140) rfl (by kernel_rfl) (by kernel_rfl) (by kernel_rfl) (fun _ _ _ h => h) (Or.inl ⟨by rfl, ?y140⟩) hHeld ?r140
  case y140 => (intro w hSw; obtain ⟨q0, q1, q2, q3⟩ := hSw; go_simp; try with_reducible rfl)
  simp only [List.getElem_toArray, List.getElem_cons_zero, List.getElem_cons_succ, Act.put, List.setIfInBounds_toArray, List.set_cons_zero, List.set_cons_succ]
  refine wpAnyH_take (i := 11) (v := ?v141) rfl (by kernel_rfl) (by kernel_rfl) (by kernel_rfl) (fun _ _ _ h => h) (Or.inl ⟨by rfl, ?y141⟩) hHeld ?r141
  case y141 => (intro w hSw; obtain ⟨q0, q1, q2, q3⟩ := hSw; go_simp; try with_reducible rfl)
  simp only [List.getElem_toArray, List.getElem_cons_zero, List.getElem_cons_succ, Act.put, List.setIfInBounds_toArray, List.set_cons_zero, List.set_cons_succ]
  refine wpAnyH_ready (rs := [1]) (by kernel_rfl) (by simp) (AllReadyH.cons rfl (fun K hK => ?_) AllReadyH.nil)
  go_simp
  refine (sgen_any v Hv.out _).mono ?_
  rintro e v9 ⟨rfl, rfl⟩
  go_wp2_with fail
  refine hK.out _ _ (hq) (fun hHeld => ?_)
  clear hK K
  refine wpAnyH_take (i := 12) (v := ?v143) rfl (by kernel_rfl) (by kernel_rfl) (by kernel_rfl) (fun _ _ _ h => h) (Or.inl ⟨by rfl, ?y143⟩) hHeld ?r143
  case y143 => (intro w hSw; obtain ⟨q0, q1, q2, q3⟩ := hSw; go_simp; try with_reducible rfl)
  simp only [List.getElem_toArray, List.getElem_cons_zero, List.getElem_cons_succ, Act.put, List.setIfInBounds_toArray, List.set_cons_zero, List.set_cons_succ]
  refine wpAnyH_done (by kernel_rfl) ?_ _
  clear hHeld hq
  generalize v2.drew = v3 at *
  have b3 := HS3.out.box
  have lo3 := HS3.out.n.lto
  have lm3 := HS3.out.bx.lt
  go_wp2_with fail
  refine (another_mid HS3.out hlast hs64).mono ?_
  rintro e v4 ⟨rfl, S4⟩
  clear HS3 b3 lo3 lm3 b2 lo2 lm2 e2_2
  have b4 := S4.box
  have lo4 := S4.n.lto
  have lm4 := S4.bx.lt
  have e4_1 := S4.cell (i := 1) (v := .int .i64 (0)) (fun _ => rfl)
  have HS4 := Lib.hid S4
  clear S4
  go_wp2
  go_step3
  refine ahead_goto ?_
  go_wp2
  try rw [Exit.noGoto_ret]
  go_ret
  exact HS4.out.post (r := (⟨0, 2, (k + 1), n, left, p + 1, bn, tl⟩, 1))
set_option maxRecDepth 100000 in
set_option maxHeartbeats 2000000 in
theorem nstep_same_last (h : NAt w o gs g SS ⟨0, 2, k, n, left, p, bn, tl⟩) (hB : Bk w b bg xs t) (ap : Apt o gs g b bg) (hw : NWf SS ⟨0, 2, k, n, left, p, bn, tl⟩) (hv : getI xs (nxl SS ⟨0, 2, k, n, left, p, bn, tl⟩) = some v) {u : Int} (hu : tl[k]? = some u) (hm : v / 2 = u) (hlast : k + 1 = SS.length) (t0 : 0 ≤ t) (t1 : t ≤ 1000000) (p0 : 0 ≤ p) (p1 : p ≤ 1000000):
    Calls Try.prog 17 #[.pointer (some ⟨o, 0, none⟩), .pointer (some ⟨b, 0, none⟩)] w (NdPost o gs g b bg SS xs (⟨1, 2, 0, n, left, p + 1, bn, tl⟩, 1) t w) := by
  have hmv : (v / 2 != u) = false := by simpa using hm
  clear hm
  have S0 := Stg.start h hB ap 31
  have Hnx := Lib.hid (fun W (q : NAt W o gs g SS ⟨0, 2, k, n, left, p, bn, tl⟩) => nnext_any q hw)
  obtain ⟨q0, hv2⟩ := getI_some hv
  have Hv := Lib.hid (hB.rngAt hv2)
  have Hld := Lib.hid (fun W (q : Bk W b bg xs t) => load_at b bg xs t v (nxl SS ⟨0, 2, k, n, left, p, bn, tl⟩) W q0 q hv2 t0 t1)
  have Hw := Lib.hid hw
  have b0 := S0.box
  have lo0 := S0.n.lto
  have lm0 := S0.bx.lt
  have e0_1 := S0.cell (i := 1) (v := .int .i64 0) (fun _ => rfl)
  have HS0 := Lib.hid S0
  have lw := h.lto
  clear h hB ap hw hv hv2 q0 S0
  generalize nxl SS ⟨0, 2, k, n, left, p, bn, tl⟩ = at0 at *
  go_enter Try.func17, Try.ntmps17
  go_wp2
  refine wp_scope_ahead 0 rfl ?_
  go_wp2_with fail
  generalize hmsz : w.heap.size = m at *
  refine (Hnx.out _ HS0.out.n).mono ?_
  rintro e w1 ⟨rfl, hb1⟩
  have HS1 := Lib.hid (HS0.out.low hb1)
  clear hb1
  go_wp2_with fail
  refine (Hld.out _ HS1.out.bk).mono ?_
  rintro e v1 ⟨rfl, hk1, hu1⟩
  have S1 := HS1.out.touch hk1 hu1
  clear HS1 HS0 Hld Hnx hk1 hu1 b0 lo0 lm0 e0_1 lw
  have b1 := S1.box
  have lo1 := S1.n.lto
  have lm1 := S1.bx.lt
  have e1_6 := S1.cell (i := 6) (v := .int .i64 (p)) (fun _ => rfl)
  have z1_6 := S1.n.frozen 6
  have S2 := S1.put 6 (.int .i64 (p + 1)) ⟨0, 2, k, n, left, p + 1, bn, tl⟩ (fun _ => rfl) (fun _ _ q => q)
  generalize hv2 : v1.setCell ⟨o, 6, none⟩ (.int .i64 (p + 1)) = v2 at S2
  have b2 := S2.box
  have lo2 := S2.n.lto
  have lm2 := S2.bx.lt
  have e2_2 := S2.cell (i := 2) (v := .int .i64 (2)) (fun _ => rfl)
  have S2d := S2.drew
  have hq : RE m o g k tl.length (room SS) u v2.drew := ⟨S2d.box, S2d.cell (fun _ => rfl), S2d.cell (fun _ => rfl), S2d.n.word hu⟩
  have hkl : (k : Int) < tl.length := by have := lt_of_some hu; omega
  have hs64 := Hw.out.s64
  have HS3 := Lib.hid S2d
  have hrm : tl.length ≤ room SS := by have := (Hw.out.a2 rfl).1; unfold room; dsimp only at this; omega
  clear S1 S2 S2d hu
  go_wp2_with fail
  clear hv2 b1 lo1 lm1 e1_6 z1_6
  refine wp_region_held_drew (S := RE m o g k tl.length (room SS) u) (by kernel_rfl) (hq) (fun hHeld => ?_)
  refine wpAnyH_take (i := 0) (v := ?v144) rfl (by kernel_rfl) (by kernel_rfl) (by kernel_rfl) (fun _ _ _ h => h) (Or.inl ⟨by rfl, ?y144⟩) hHeld ?r144
  case y144 => (intro w hSw; obtain ⟨q0, q1, q2, q3⟩ := hSw; go_simp; try with_reducible rfl)
  simp only [List.getElem_toArray, List.getElem_cons_zero, Act.put, List.setIfInBounds_toArray, List.set_cons_zero, List.set_cons_succ]
  refine wpAnyH_take (i := 2) (v := ?v145) rfl (by kernel_rfl) (by kernel_rfl) (by kernel_rfl) (fun _ _ _ h => h) (Or.inl ⟨by rfl, ?y145⟩) hHeld ?r145
  case y145 => (intro w hSw; obtain ⟨q0, q1, q2, q3⟩ := hSw; go_simp; try with_reducible rfl)
  simp only [List.getElem_toArray, List.getElem_cons_zero, List.getElem_cons_succ, Act.put, List.setIfInBounds_toArray, List.set_cons_zero, List.set_cons_succ]
  refine wpAnyH_take (i := 3) (v := ?v146) rfl (by kernel_rfl) (by kernel_rfl) (by kernel_rfl) (fun _ _ _ h => h) (Or.inl ⟨by rfl, ?y146⟩) hHeld ?r146
  case y146 => (intro w hSw; obtain ⟨q0, q1, q2, q3⟩ := hSw; go_simp; try with_reducible rfl)
  simp only [List.getElem_toArray, List.getElem_cons_zero, List.getElem_cons_succ, Act.put, List.setIfInBounds_toArray, List.set_cons_zero, List.set_cons_succ]
  refine wpAnyH_take (i := 4) (v := ?v147) rfl (by kernel_rfl) (by kernel_rfl) (by kernel_rfl) (fun _ _ _ h => h) (Or.inl ⟨by rfl, ?y147⟩) hHeld ?r147
  case y147 => (intro w hSw; obtain ⟨q0, q1, q2, q3⟩ := hSw; go_simp; try with_reducible rfl)
  simp only [List.getElem_toArray, List.getElem_cons_zero, List.getElem_cons_succ, Act.put, List.setIfInBounds_toArray, List.set_cons_zero, List.set_cons_succ]
  refine wpAnyH_take (i := 5) (v := ?v148) rfl (by kernel_rfl) (by kernel_rfl) (by kernel_rfl) (fun _ _ _ h => h) (Or.inl ⟨by rfl, ?y148⟩) hHeld ?r148
  case y148 => (intro w hSw; obtain ⟨q0, q1, q2, q3⟩ := hSw; go_simp; try with_reducible rfl)
  simp only [List.getElem_toArray, List.getElem_cons_zero, List.getElem_cons_succ, Act.put, List.setIfInBounds_toArray, List.set_cons_zero, List.set_cons_succ]
  refine wpAnyH_take (i := 6) (v := ?v149) rfl (by kernel_rfl) (by kernel_rfl) (by kernel_rfl) (fun _ _ _ h => h) (Or.inl ⟨by rfl, ?y149⟩) hHeld ?r149
  case y149 => (intro w hSw; obtain ⟨q0, q1, q2, q3⟩ := hSw; go_simp; try with_reducible rfl)
  simp only [List.getElem_toArray, List.getElem_cons_zero, List.getElem_cons_succ, Act.put, List.setIfInBounds_toArray, List.set_cons_zero, List.set_cons_succ]
  refine wpAnyH_take (i := 7) (v := ?v150) rfl (by kernel_rfl) (by kernel_rfl) (by kernel_rfl) (fun _ _ _ h => h) (Or.inl ⟨by rfl, ?y150⟩) hHeld ?r150
  case y150 => (intro w hSw; obtain ⟨q0, q1, q2, q3⟩ := hSw; go_simp; try with_reducible rfl)
  simp only [List.getElem_toArray, List.getElem_cons_zero, List.getElem_cons_succ, Act.put, List.setIfInBounds_toArray, List.set_cons_zero, List.set_cons_succ]
  refine wpAnyH_take (i := 8) (v := ?v151) rfl (by kernel_rfl) (by kernel_rfl) (by kernel_rfl) (fun _ _ _ h => h) (Or.inl ⟨by rfl, ?y151⟩) hHeld ?r151
  case y151 => (intro w hSw; obtain ⟨q0, q1, q2, q3⟩ := hSw; go_simp; try with_reducible rfl)
  simp only [List.getElem_toArray, List.getElem_cons_zero, List.getElem_cons_succ, Act.put, List.setIfInBounds_toArray, List.set_cons_zero, List.set_cons_succ]
  refine wpAnyH_take (i := 9) (v := ?v152) rfl (by kernel_rfl) (by kernel_rfl) (by kernel_rfl) (fun _ _ _ h => h) (Or.inl ⟨by rfl, ?y152⟩) hHeld ?r152
  case y152 => (intro w hSw; obtain ⟨q0, q1, q2, q3⟩ := hSw; go_simp; try with_reducible rfl)
  simp only [List.getElem_toArray, List.getElem_cons_zero, List.getElem_cons_succ, Act.put, List.setIfInBounds_toArray, List.set_cons_zero, List.set_cons_succ]
  refine wpAnyH_take (i := 10) (v := ?v153) rfl (by kernel_rfl) (by kernel_rfl) (by kernel_rfl) (fun _ _ _ h => h) (Or.inl ⟨by rfl, ?y153⟩) hHeld ?r153
  case y153 => (intro w hSw; obtain ⟨q0, q1, q2, q3⟩ := hSw; go_simp; try with_reducible rfl)
  simp only [List.getElem_toArray, List.getElem_cons_zero, List.getElem_cons_succ, Act.put, List.setIfInBounds_toArray, List.set_cons_zero, List.set_cons_succ]
  refine wpAnyH_take (i := 11) (v := ?v154) rfl (by kernel_rfl) (by kernel_rfl) (by kernel_rfl) (fun _ _ _ h => h) (Or.inl ⟨by rfl, ?y154⟩) hHeld ?r154
  case y154 => (intro w hSw; obtain ⟨q0, q1, q2, q3⟩ := hSw; go_simp; try with_reducible rfl)
  simp only [List.getElem_toArray, List.getElem_cons_zero, List.getElem_cons_succ, Act.put, List.setIfInBounds_toArray, List.set_cons_zero, List.set_cons_succ]
  refine wpAnyH_ready (rs := [1]) (by kernel_rfl) (by simp) (AllReadyH.cons rfl (fun K hK => ?_) AllReadyH.nil)
  go_simp
  refine (sgen_any v Hv.out _).mono ?_
  rintro e v9 ⟨rfl, rfl⟩
  go_wp2_with fail
  refine hK.out _ _ (hq) (fun hHeld => ?_)
  clear hK K
  refine wpAnyH_take (i := 12) (v := ?v156) rfl (by kernel_rfl) (by kernel_rfl) (by kernel_rfl) (fun _ _ _ h => h) (Or.inl ⟨by rfl, ?y156⟩) hHeld ?r156
  case y156 => (intro w hSw; obtain ⟨q0, q1, q2, q3⟩ := hSw; go_simp; try with_reducible rfl)
  simp only [List.getElem_toArray, List.getElem_cons_zero, List.getElem_cons_succ, Act.put, List.setIfInBounds_toArray, List.set_cons_zero, List.set_cons_succ]
  refine wpAnyH_done (by kernel_rfl) ?_ _
  clear hHeld hq
  generalize v2.drew = v3 at *
  have b3 := HS3.out.box
  have lo3 := HS3.out.n.lto
  have lm3 := HS3.out.bx.lt
  go_wp2_with fail
  refine (another_last HS3.out hlast hs64).mono ?_
  rintro e v4 ⟨rfl, S4⟩
  clear HS3 b3 lo3 lm3 b2 lo2 lm2 e2_2
  have b4 := S4.box
  have lo4 := S4.n.lto
  have lm4 := S4.bx.lt
  have e4_1 := S4.cell (i := 1) (v := .int .i64 (0)) (fun _ => rfl)
  have z4_1 := S4.n.frozen 1
  have S5 := S4.put 1 (.int .i64 (1)) ⟨1, 2, 0, n, left, p + 1, bn, tl⟩ (fun _ => rfl) (fun _ _ q => q)
  generalize hv5 : v4.setCell ⟨o, 1, none⟩ (.int .i64 (1)) = v5 at S5
  have b5 := S5.box
  have lo5 := S5.n.lto
  have lm5 := S5.bx.lt
  have e5_1 := S5.cell (i := 1) (v := .int .i64 (1)) (fun _ => rfl)
  have HS5 := Lib.hid S5
  clear S4 S5
  go_wp2
  go_step3
  refine ahead_goto ?_
  go_wp2
  try rw [Exit.noGoto_ret]
  go_ret
  exact HS5.out.post (r := (⟨1, 2, 0, n, left, p + 1, bn, tl⟩, 1))
set_option maxRecDepth 100000 in
set_option maxHeartbeats 2000000 in
theorem nstep_again (h : NAt w o gs g SS ⟨0, 2, k, n, left, p, bn, tl⟩) (hB : Bk w b bg xs t) (ap : Apt o gs g b bg) (hw : NWf SS ⟨0, 2, k, n, left, p, bn, tl⟩) (hv : getI xs (nxl SS ⟨0, 2, k, n, left, p, bn, tl⟩) = some v) {u : Int} (hu : tl[k]? = some u) (hm : ¬ v / 2 = u) (hf : ¬ left - 1 = 0) (t0 : 0 ≤ t) (t1 : t ≤ 1000000) (p0 : 0 ≤ p) (p1 : p ≤ 1000000):
    Calls Try.prog 17 #[.pointer (some ⟨o, 0, none⟩), .pointer (some ⟨b, 0, none⟩)] w (NdPost o gs g b bg SS xs (⟨0, 0, 0, n, left - 1, p + 1, bn, []⟩, 1) t w) := by
  have hmv : (v / 2 != u) = true := by simpa using hm
  clear hm
  have S0 := Stg.start h hB ap 31
  have Hnx := Lib.hid (fun W (q : NAt W o gs g SS ⟨0, 2, k, n, left, p, bn, tl⟩) => nnext_any q hw)
  obtain ⟨q0, hv2⟩ := getI_some hv
  have Hv := Lib.hid (hB.rngAt hv2)
  have Hld := Lib.hid (fun W (q : Bk W b bg xs t) => load_at b bg xs t v (nxl SS ⟨0, 2, k, n, left, p, bn, tl⟩) W q0 q hv2 t0 t1)
  have Hw := Lib.hid hw
  have b0 := S0.box
  have lo0 := S0.n.lto
  have lm0 := S0.bx.lt
  have e0_1 := S0.cell (i := 1) (v := .int .i64 0) (fun _ => rfl)
  have HS0 := Lib.hid S0
  have lw := h.lto
  clear h hB ap hw hv hv2 q0 S0
  generalize nxl SS ⟨0, 2, k, n, left, p, bn, tl⟩ = at0 at *
  go_enter Try.func17, Try.ntmps17
  go_wp2
  refine wp_scope_ahead 1 rfl ?_
  go_wp2_with fail
  generalize hmsz : w.heap.size = m at *
  refine (Hnx.out _ HS0.out.n).mono ?_
  rintro e w1 ⟨rfl, hb1⟩
  have HS1 := Lib.hid (HS0.out.low hb1)
  clear hb1
  go_wp2_with fail
  refine (Hld.out _ HS1.out.bk).mono ?_
  rintro e v1 ⟨rfl, hk1, hu1⟩
  have S1 := HS1.out.touch hk1 hu1
  clear HS1 HS0 Hld Hnx hk1 hu1 b0 lo0 lm0 e0_1 lw
  have b1 := S1.box
  have lo1 := S1.n.lto
  have lm1 := S1.bx.lt
  have e1_6 := S1.cell (i := 6) (v := .int .i64 (p)) (fun _ => rfl)
  have z1_6 := S1.n.frozen 6
  have S2 := S1.put 6 (.int .i64 (p + 1)) ⟨0, 2, k, n, left, p + 1, bn, tl⟩ (fun _ => rfl) (fun _ _ q => q)
  generalize hv2 : v1.setCell ⟨o, 6, none⟩ (.int .i64 (p + 1)) = v2 at S2
  have b2 := S2.box
  have lo2 := S2.n.lto
  have lm2 := S2.bx.lt
  have e2_2 := S2.cell (i := 2) (v := .int .i64 (2)) (fun _ => rfl)
  have S2d := S2.drew
  have hq : RE m o g k tl.length (room SS) u v2.drew := ⟨S2d.box, S2d.cell (fun _ => rfl), S2d.cell (fun _ => rfl), S2d.n.word hu⟩
  have hkl : (k : Int) < tl.length := by have := lt_of_some hu; omega
  have hs64 := Hw.out.s64
  have HS3 := Lib.hid S2d
  have hrm : tl.length ≤ room SS := by have := (Hw.out.a2 rfl).1; unfold room; dsimp only at this; omega
  clear S1 S2 S2d hu
  go_wp2_with fail
  clear hv2 b1 lo1 lm1 e1_6 z1_6
  refine wp_region_held_drew (S := RE m o g k tl.length (room SS) u) (by kernel_rfl) (hq) (fun hHeld => ?_)
  refine wpAnyH_take (i := 0) (v := ?v174) rfl (by kernel_rfl) (by kernel_rfl) (by kernel_rfl) (fun _ _ _ h => h) (Or.inl ⟨by rfl, ?y174⟩) hHeld ?r174
  case y174 => (intro w hSw; obtain ⟨q0, q1, q2, q3⟩ := hSw; go_simp; try with_reducible rfl)
  simp only [List.getElem_toArray, List.getElem_cons_zero, Act.put, List.setIfInBounds_toArray, List.set_cons_zero, List.set_cons_succ]
  refine wpAnyH_take (i := 2) (v := ?v175) rfl (by kernel_rfl) (by kernel_rfl) (by kernel_rfl) (fun _ _ _ h => h) (Or.inl ⟨by rfl, ?y175⟩) hHeld ?r175
  case y175 => (intro w hSw; obtain ⟨q0, q1, q2, q3⟩ := hSw; go_simp; try with_reducible rfl)
  simp only [List.getElem_toArray, List.getElem_cons_zero, List.getElem_cons_succ, Act.put, List.setIfInBounds_toArray, List.set_cons_zero, List.set_cons_succ]
  refine wpAnyH_take (i := 3) (v := ?v176) rfl (by kernel_rfl) (by kernel_rfl) (by kernel_rfl) (fun _ _ _ h => h) (Or.inl ⟨by rfl, ?y176⟩) hHeld ?r176
  case y176 => (intro w hSw; obtain ⟨q0, q1, q2, q3⟩ := hSw; go_simp; try with_reducible rfl)
  simp only [List.getElem_toArray, List.getElem_cons_zero, List.getElem_cons_succ, Act.put, List.setIfInBounds_toArray, List.set_cons_zero, List.set_cons_succ]
  refine wpAnyH_take (i := 4) (v := ?v177) rfl (by kernel_rfl) (by kernel_rfl) (by kernel_rfl) (fun _ _ _ h => h) (Or.inl ⟨by rfl, ?y177⟩) hHeld ?r177
  case y177 => (intro w hSw; obtain ⟨q0, q1, q2, q3⟩ := hSw; go_simp; try with_reducible rfl)
  simp only [List.getElem_toArray, List.getElem_cons_zero, List.getElem_cons_succ, Act.put, List.setIfInBounds_toArray, List.set_cons_zero, List.set_cons_succ]
  refine wpAnyH_take (i := 5) (v := ?v178) rfl (by kernel_rfl) (by kernel_rfl) (by kernel_rfl) (fun _ _ _ h => h) (Or.inl ⟨by rfl, ?y178⟩) hHeld ?r178
  case y178 => (intro w hSw; obtain ⟨q0, q1, q2, q3⟩ := hSw; go_simp; try with_reducible rfl)
  simp only [List.getElem_toArray, List.getElem_cons_zero, List.getElem_cons_succ, Act.put, List.setIfInBounds_toArray, List.set_cons_zero, List.set_cons_succ]
  refine wpAnyH_take (i := 6) (v := ?v179) rfl (by kernel_rfl) (by kernel_rfl) (by kernel_rfl) (fun _ _ _ h => h) (Or.inl ⟨by rfl, ?y179⟩) hHeld ?r179
  case y179 => (intro w hSw; obtain ⟨q0, q1, q2, q3⟩ := hSw; go_simp; try with_reducible rfl)
  simp only [List.getElem_toArray, List.getElem_cons_zero, List.getElem_cons_succ, Act.put, List.setIfInBounds_toArray, List.set_cons_zero, List.set_cons_succ]
  refine wpAnyH_take (i := 7) (v := ?v180) rfl (by kernel_rfl) (by kernel_rfl) (by kernel_rfl) (fun _ _ _ h => h) (Or.inl ⟨by rfl, ?y180⟩) hHeld ?r180
  case y180 => (intro w hSw; obtain ⟨q0, q1, q2, q3⟩ := hSw; go_simp; try with_reducible rfl)
  simp only [List.getElem_toArray, List.getElem_cons_zero, List.getElem_cons_succ, Act.put, List.setIfInBounds_toArray, List.set_cons_zero, List.set_cons_succ]
  refine wpAnyH_take (i := 8) (v := ?v181) rfl (by kernel_rfl) (by kernel_rfl) (by kernel_rfl) (fun _ _ _ h => h) (Or.inl ⟨by rfl, ?y181⟩) hHeld ?r181
  case y181 => (intro w hSw; obtain ⟨q0, q1, q2, q3⟩ := hSw; go_simp; try with_reducible rfl)
  simp only [List.getElem_toArray, List.getElem_cons_zero, List.getElem_cons_succ, Act.put, List.setIfInBounds_toArray, List.set_cons_zero, List.set_cons_succ]
  refine wpAnyH_take (i := 9) (v := ?v182) rfl (by kernel_rfl) (by kernel_rfl) (by kernel_rfl) (fun _ _ _ h => h) (Or.inl ⟨by rfl, ?y182⟩) hHeld ?r182
  case y182 => (intro w hSw; obtain ⟨q0, q1, q2, q3⟩ := hSw; go_simp; try with_reducible rfl)
  simp only [List.getElem_toArray, List.getElem_cons_zero, List.getElem_cons_succ, Act.put, List.setIfInBounds_toArray, List.set_cons_zero, List.set_cons_succ]
  refine wpAnyH_take (i := 10) (v := ?v183) rfl (by kernel_rfl) (by kernel_rfl) (by kernel_rfl) (fun _ _ _ h => h) (Or.inl ⟨by rfl, ?y183⟩) hHeld ?r183
  case y183 => (intro w hSw; obtain ⟨q0, q1, q2, q3⟩ := hSw; go_simp; try with_reducible rfl)
  simp only [List.getElem_toArray, List.getElem_cons_zero, List.getElem_cons_succ, Act.put, List.setIfInBounds_toArray, List.set_cons_zero, List.set_cons_succ]
  refine wpAnyH_take (i := 11) (v := ?v184) rfl (by kernel_rfl) (by kernel_rfl) (by kernel_rfl) (fun _ _ _ h => h) (Or.inl ⟨by rfl, ?y184⟩) hHeld ?r184
  case y184 => (intro w hSw; obtain ⟨q0, q1, q2, q3⟩ := hSw; go_simp; try with_reducible rfl)
  simp only [List.getElem_toArray, List.getElem_cons_zero, List.getElem_cons_succ, Act.put, List.setIfInBounds_toArray, List.set_cons_zero, List.set_cons_succ]
  refine wpAnyH_ready (rs := [1]) (by kernel_rfl) (by simp) (AllReadyH.cons rfl (fun K hK => ?_) AllReadyH.nil)
  go_simp
  refine (sgen_any v Hv.out _).mono ?_
  rintro e v9 ⟨rfl, rfl⟩
  go_wp2_with fail
  refine hK.out _ _ (hq) (fun hHeld => ?_)
  clear hK K
  refine wpAnyH_take (i := 12) (v := ?v186) rfl (by kernel_rfl) (by kernel_rfl) (by kernel_rfl) (fun _ _ _ h => h) (Or.inl ⟨by rfl, ?y186⟩) hHeld ?r186
  case y186 => (intro w hSw; obtain ⟨q0, q1, q2, q3⟩ := hSw; go_simp; try with_reducible rfl)
  simp only [List.getElem_toArray, List.getElem_cons_zero, List.getElem_cons_succ, Act.put, List.setIfInBounds_toArray, List.set_cons_zero, List.set_cons_succ]
  refine wpAnyH_done (by kernel_rfl) ?_ _
  clear hHeld hq
  generalize v2.drew = v3 at *
  have b3 := HS3.out.box
  have lo3 := HS3.out.n.lto
  have lm3 := HS3.out.bx.lt
  clear b2 lo2 lm2 e2_2
  go_wp2
  go_step3
  refine ahead_goto ?_
  have S3 := HS3.out
  have S3d := S3.drew
  have e8 := S3.cell (i := 8) (v := .slice (some ⟨g, 0, none⟩) tl.length (room SS)) (fun _ => rfl)
  have e8d := S3d.cell (i := 8) (v := .slice (some ⟨g, 0, none⟩) tl.length (room SS)) (fun _ => rfl)
  have e3_2 := S3.cell (i := 2) (v := .int .i64 2) (fun _ => rfl)
  have z3_2 := S3.n.frozen 2
  have e3d_2 := S3d.cell (i := 2) (v := .int .i64 2) (fun _ => rfl)
  have z3d_2 := S3d.n.frozen 2
  have kb0 : RB m o v3.drew := S3d.box
  have lo3d := S3d.n.lto
  have S4 := S3d.put 2 (.int .i64 0) ⟨0, 0, k, n, left, p + 1, bn, tl⟩ (fun _ => rfl) (fun _ _ q => q)
  generalize hv4 : v3.drew.setCell ⟨o, 2, none⟩ (.int .i64 0) = v4 at S4
  have kb4 : RB m o v4 := S4.box
  have lo4 := S4.n.lto
  have e4_3 := S4.cell (i := 3) (v := .int .i64 ((k : Nat) : Int)) (fun _ => rfl)
  have z4_3 := S4.n.frozen 3
  have S5 := S4.put 3 (.int .i64 0) ⟨0, 0, 0, n, left, p + 1, bn, tl⟩ (fun _ => rfl) (fun _ _ q => q)
  generalize hv5 : v4.setCell ⟨o, 3, none⟩ (.int .i64 0) = v5 at S5
  have kb5 : RB m o v5 := S5.box
  have lo5 := S5.n.lto
  have e5_8 := S5.cell (i := 8) (v := .slice (some ⟨g, 0, none⟩) tl.length (room SS)) (fun _ => rfl)
  have z5_8 := S5.n.frozen 8
  have S6 := S5.put 8 (.slice (some ⟨g, 0, none⟩) 0 (room SS)) ⟨0, 0, 0, n, left, p + 1, bn, []⟩ (fun _ => rfl) (fun _ _ q => by simp at q)
  generalize hv6 : v5.setCell ⟨o, 8, none⟩ (.slice (some ⟨g, 0, none⟩) 0 (room SS)) = v6 at S6
  have kb6 : RB m o v6 := S6.box
  have HS6 := Lib.hid S6
  clear S3 S3d S4 S5 S6 HS3
  generalize tl.length = len at *
  generalize room SS = cap at hrm e8 e8d e5_8 z5_8 hv6
  go_wp2_with fail
  refine wp_region_held_drew (S := RB m o) (by kernel_rfl) (kb0) (fun hHeld => ?_)
  refine wpAnyH_take (i := 0) (v := ?v157) rfl (by kernel_rfl) (by kernel_rfl) (by kernel_rfl) (fun _ _ _ h => h) (Or.inl ⟨by rfl, ?y157⟩) hHeld ?r157
  case y157 => (intro w hSw; have q0 := hSw; unfold RB at q0; go_simp; try with_reducible rfl)
  simp only [List.getElem_toArray, List.getElem_cons_zero, Act.put, List.setIfInBounds_toArray, List.set_cons_zero, List.set_cons_succ]
  refine wpAnyH_take (i := 1) (v := ?v158) rfl (by kernel_rfl) (by kernel_rfl) (by kernel_rfl) (fun _ _ _ h => h) (Or.inl ⟨by rfl, ?y158⟩) hHeld ?r158
  case y158 => (intro w hSw; have q0 := hSw; unfold RB at q0; go_simp; try with_reducible rfl)
  simp only [List.getElem_toArray, List.getElem_cons_zero, List.getElem_cons_succ, Act.put, List.setIfInBounds_toArray, List.set_cons_zero, List.set_cons_succ]
  refine wpAnyH_take (i := 2) (v := ?v159) rfl (by kernel_rfl) (by kernel_rfl) (by kernel_rfl) (fun _ _ _ h => h) (Or.inl ⟨by rfl, ?y159⟩) hHeld ?r159
  case y159 => (intro w hSw; have q0 := hSw; unfold RB at q0; go_simp; try with_reducible rfl)
  simp only [List.getElem_toArray, List.getElem_cons_zero, List.getElem_cons_succ, Act.put, List.setIfInBounds_toArray, List.set_cons_zero, List.set_cons_succ]
  refine wpAnyH_take (i := 3) (v := ?v160) rfl (by kernel_rfl) (by kernel_rfl) (by kernel_rfl) (fun _ _ _ h => h) (Or.inl ⟨by rfl, ?y160⟩) hHeld ?r160
  case y160 => (intro w hSw; have q0 := hSw; unfold RB at q0; go_simp; try with_reducible rfl)
  simp only [List.getElem_toArray, List.getElem_cons_zero, List.getElem_cons_succ, Act.put, List.setIfInBounds_toArray, List.set_cons_zero, List.set_cons_succ]
  refine wpAnyH_take (i := 4) (v := ?v161) rfl (by kernel_rfl) (by kernel_rfl) (by kernel_rfl) (fun _ _ _ h => h) (Or.inl ⟨by rfl, ?y161⟩) hHeld ?r161
  case y161 => (intro w hSw; have q0 := hSw; unfold RB at q0; go_simp; try with_reducible rfl)
  simp only [List.getElem_toArray, List.getElem_cons_zero, List.getElem_cons_succ, Act.put, List.setIfInBounds_toArray, List.set_cons_zero, List.set_cons_succ]
  refine wpAnyH_take (i := 5) (v := ?v162) rfl (by kernel_rfl) (by kernel_rfl) (by kernel_rfl) (fun _ _ _ h => h) (Or.inl ⟨by rfl, ?y162⟩) hHeld ?r162
  case y162 => (intro w hSw; have q0 := hSw; unfold RB at q0; go_simp; try with_reducible rfl)
  simp only [List.getElem_toArray, List.getElem_cons_zero, List.getElem_cons_succ, Act.put, List.setIfInBounds_toArray, List.set_cons_zero, List.set_cons_succ]
  refine wpAnyH_ready (rs := [6]) (by kernel_rfl) (by simp) (AllReadyH.cons rfl (fun K hK => ?_) AllReadyH.nil)
  go_simp
  skip
  refine hK.out _ _ (kb0) (fun hHeld => ?_)
  clear hK K
  refine wpAnyH_take (i := 7) (v := ?v164) rfl (by kernel_rfl) (by kernel_rfl) (by kernel_rfl) (fun _ _ _ h => h) (Or.inl ⟨by rfl, ?y164⟩) hHeld ?r164
  case y164 => (intro w hSw; have q0 := hSw; unfold RB at q0; go_simp; try with_reducible rfl)
  simp only [List.getElem_toArray, List.getElem_cons_zero, List.getElem_cons_succ, Act.put, List.setIfInBounds_toArray, List.set_cons_zero, List.set_cons_succ]
  refine wpAnyH_take (i := 8) (v := ?v165) rfl (by kernel_rfl) (by kernel_rfl) (by kernel_rfl) (fun _ _ _ h => h) (Or.inl ⟨by rfl, ?y165⟩) hHeld ?r165
  case y165 => (intro w hSw; have q0 := hSw; unfold RB at q0; go_simp; try with_reducible rfl)
  simp only [List.getElem_toArray, List.getElem_cons_zero, List.getElem_cons_succ, Act.put, List.setIfInBounds_toArray, List.set_cons_zero, List.set_cons_succ]
  refine wpAnyH_take (i := 9) (v := ?v166) rfl (by kernel_rfl) (by kernel_rfl) (by kernel_rfl) (fun _ _ _ h => h) (Or.inl ⟨by rfl, ?y166⟩) hHeld ?r166
  case y166 => (intro w hSw; have q0 := hSw; unfold RB at q0; go_simp; try with_reducible rfl)
  simp only [List.getElem_toArray, List.getElem_cons_zero, List.getElem_cons_succ, Act.put, List.setIfInBounds_toArray, List.set_cons_zero, List.set_cons_succ]
  refine wpAnyH_ready (rs := [10]) (by kernel_rfl) (by simp) (AllReadyH.cons rfl (fun K hK => ?_) AllReadyH.nil)
  go_simp
  go_wp2_with fail
  refine hK.out _ _ (kb4) (fun hHeld => ?_)
  clear hK K
  refine wpAnyH_take (i := 11) (v := ?v168) rfl (by kernel_rfl) (by kernel_rfl) (by kernel_rfl) (fun _ _ _ h => h) (Or.inl ⟨by rfl, ?y168⟩) hHeld ?r168
  case y168 => (intro w hSw; have q0 := hSw; unfold RB at q0; go_simp; try with_reducible rfl)
  simp only [List.getElem_toArray, List.getElem_cons_zero, List.getElem_cons_succ, Act.put, List.setIfInBounds_toArray, List.set_cons_zero, List.set_cons_succ]
  refine wpAnyH_take (i := 12) (v := ?v169) rfl (by kernel_rfl) (by kernel_rfl) (by kernel_rfl) (fun _ _ _ h => h) (Or.inl ⟨by rfl, ?y169⟩) hHeld ?r169
  case y169 => (intro w hSw; have q0 := hSw; unfold RB at q0; go_simp; try with_reducible rfl)
  simp only [List.getElem_toArray, List.getElem_cons_zero, List.getElem_cons_succ, Act.put, List.setIfInBounds_toArray, List.set_cons_zero, List.set_cons_succ]
  refine wpAnyH_ready (rs := [13]) (by kernel_rfl) (by simp) (AllReadyH.cons rfl (fun K hK => ?_) AllReadyH.nil)
  go_simp
  go_wp2_with fail
  refine hK.out _ _ (kb5) (fun hHeld => ?_)
  clear hK K
  refine wpAnyH_take (i := 14) (v := ?v171) rfl (by kernel_rfl) (by kernel_rfl) (by kernel_rfl) (fun _ _ _ h => h) (Or.inl ⟨by rfl, ?y171⟩) hHeld ?r171
  case y171 => (intro w hSw; have q0 := hSw; unfold RB at q0; go_simp; try with_reducible rfl)
  simp only [List.getElem_toArray, List.getElem_cons_zero, List.getElem_cons_succ, Act.put, List.setIfInBounds_toArray, List.set_cons_zero, List.set_cons_succ]
  refine wpAnyH_take (i := 15) (v := ?v172) rfl (by kernel_rfl) (by kernel_rfl) (by kernel_rfl) (fun _ _ _ h => h) (Or.inl ⟨by rfl, ?y172⟩) hHeld ?r172
  case y172 => (intro w hSw; have q0 := hSw; unfold RB at q0; go_simp; try with_reducible rfl)
  simp only [List.getElem_toArray, List.getElem_cons_zero, List.getElem_cons_succ, Act.put, List.setIfInBounds_toArray, List.set_cons_zero, List.set_cons_succ]
  refine wpAnyH_ready (rs := [16]) (by kernel_rfl) (by simp) (AllReadyH.cons rfl (fun K hK => ?_) AllReadyH.nil)
  go_simp
  go_wp2_with fail
  refine hK.out _ _ (kb6) (fun hHeld => ?_)
  clear hK K
  refine wpAnyH_done (by kernel_rfl) ?_ _
  clear hHeld kb0 kb4 kb5 kb6 e8 e8d e3_2 z3_2 e3d_2 z3d_2 lo3d e4_3 z4_3 e5_8 z5_8 hv4 hv5 hv6 lo4 lo5 b3 lo3 lm3
  have S6 := HS6.out
  have b6 := S6.box
  have lo6 := S6.n.lto
  have lm6 := S6.bx.lt
  have e6_5 := S6.cell (i := 5) (v := .int .i64 (left)) (fun _ => rfl)
  have z6_5 := S6.n.frozen 5
  have S7 := S6.put 5 (.int .i64 (left - 1)) ⟨0, 0, 0, n, left - 1, p + 1, bn, []⟩ (fun _ => rfl) (fun _ _ q => q)
  generalize hv7 : v6.setCell ⟨o, 5, none⟩ (.int .i64 (left - 1)) = v7 at S7
  have b7 := S7.box
  have lo7 := S7.n.lto
  have lm7 := S7.bx.lt
  have e7_5 := S7.cell (i := 5) (v := .int .i64 (left - 1)) (fun _ => rfl)
  have e7_1 := S7.cell (i := 1) (v := .int .i64 (0)) (fun _ => rfl)
  have hf0 : ((left - 1) == 0) = false := by simpa using hf
  have ff0 := Hw.out.f0
  have ff1 := Hw.out.f1
  dsimp only at ff0 ff1
  have HS7 := Lib.hid S7
  clear S6 S7
  go_wp2
  go_step3
  go_wp2
  try rw [Exit.noGoto_ret]
  go_ret
  exact HS7.out.post (r := (⟨0, 0, 0, n, left - 1, p + 1, bn, []⟩, 1))
set_option maxRecDepth 100000 in
set_option maxHeartbeats 2000000 in
theorem nstep_spent (h : NAt w o gs g SS ⟨0, 2, k, n, 1, p, bn, tl⟩) (hB : Bk w b bg xs t) (ap : Apt o gs g b bg) (hw : NWf SS ⟨0, 2, k, n, 1, p, bn, tl⟩) (hv : getI xs (nxl SS ⟨0, 2, k, n, 1, p, bn, tl⟩) = some v) {u : Int} (hu : tl[k]? = some u) (hm : ¬ v / 2 = u) (t0 : 0 ≤ t) (t1 : t ≤ 1000000) (p0 : 0 ≤ p) (p1 : p ≤ 1000000):
    Calls Try.prog 17 #[.pointer (some ⟨o, 0, none⟩), .pointer (some ⟨b, 0, none⟩)] w (NdPost o gs g b bg SS xs (⟨2, 0, 0, n, 0, p + 1, bn, []⟩, 1) t w) := by
  have hmv : (v / 2 != u) = true := by simpa using hm
  clear hm
  have S0 := Stg.start h hB ap 31
  have Hnx := Lib.hid (fun W (q : NAt W o gs g SS ⟨0, 2, k, n, 1, p, bn, tl⟩) => nnext_any q hw)
  obtain ⟨q0, hv2⟩ := getI_some hv
  have Hv := Lib.hid (hB.rngAt hv2)
  have Hld := Lib.hid (fun W (q : Bk W b bg xs t) => load_at b bg xs t v (nxl SS ⟨0, 2, k, n, 1, p, bn, tl⟩) W q0 q hv2 t0 t1)
  have Hw := Lib.hid hw
  have b0 := S0.box
  have lo0 := S0.n.lto
  have lm0 := S0.bx.lt
  have e0_1 := S0.cell (i := 1) (v := .int .i64 0) (fun _ => rfl)
  have HS0 := Lib.hid S0
  have lw := h.lto
  clear h hB ap hw hv hv2 q0 S0
  generalize nxl SS ⟨0, 2, k, n, 1, p, bn, tl⟩ = at0 at *
  go_enter Try.func17, Try.ntmps17
  go_wp2
  refine wp_scope_ahead 1 rfl ?_
  go_wp2_with fail
  generalize hmsz : w.heap.size = m at *
  refine (Hnx.out _ HS0.out.n).mono ?_
  rintro e w1 ⟨rfl, hb1⟩
  have HS1 := Lib.hid (HS0.out.low hb1)
  clear hb1
  go_wp2_with fail
  refine (Hld.out _ HS1.out.bk).mono ?_
  rintro e v1 ⟨rfl, hk1, hu1⟩
  have S1 := HS1.out.touch hk1 hu1
  clear HS1 HS0 Hld Hnx hk1 hu1 b0 lo0 lm0 e0_1 lw
  have b1 := S1.box
  have lo1 := S1.n.lto
  have lm1 := S1.bx.lt
  have e1_6 := S1.cell (i := 6) (v := .int .i64 (p)) (fun _ => rfl)
  have z1_6 := S1.n.frozen 6
  have S2 := S1.put 6 (.int .i64 (p + 1)) ⟨0, 2, k, n, 1, p + 1, bn, tl⟩ (fun _ => rfl) (fun _ _ q => q)
  generalize hv2 : v1.setCell ⟨o, 6, none⟩ (.int .i64 (p + 1)) = v2 at S2
  have b2 := S2.box
  have lo2 := S2.n.lto
  have lm2 := S2.bx.lt
  have e2_2 := S2.cell (i := 2) (v := .int .i64 (2)) (fun _ => rfl)
  have S2d := S2.drew
  have hq : RE m o g k tl.length (room SS) u v2.drew := ⟨S2d.box, S2d.cell (fun _ => rfl), S2d.cell (fun _ => rfl), S2d.n.word hu⟩
  have hkl : (k : Int) < tl.length := by have := lt_of_some hu; omega
  have hs64 := Hw.out.s64
  have HS3 := Lib.hid S2d
  have hrm : tl.length ≤ room SS := by have := (Hw.out.a2 rfl).1; unfold room; dsimp only at this; omega
  clear S1 S2 S2d hu
  go_wp2_with fail
  clear hv2 b1 lo1 lm1 e1_6 z1_6
  refine wp_region_held_drew (S := RE m o g k tl.length (room SS) u) (by kernel_rfl) (hq) (fun hHeld => ?_)
  refine wpAnyH_take (i := 0) (v := ?v204) rfl (by kernel_rfl) (by kernel_rfl) (by kernel_rfl) (fun _ _ _ h => h) (Or.inl ⟨by rfl, ?y204⟩) hHeld ?r204
  case y204 => (intro w hSw; obtain ⟨q0, q1, q2, q3⟩ := hSw; go_simp; try with_reducible rfl)
  simp only [List.getElem_toArray, List.getElem_cons_zero, Act.put, List.setIfInBounds_toArray, List.set_cons_zero, List.set_cons_succ]
  refine wpAnyH_take (i := 2) (v := ?v205) rfl (by kernel_rfl) (by kernel_rfl) (by kernel_rfl) (fun _ _ _ h => h) (Or.inl ⟨by rfl, ?y205⟩) hHeld ?r205
  case y205 => (intro w hSw; obtain ⟨q0, q1, q2, q3⟩ := hSw; go_simp; try with_reducible rfl)
  simp only [List.getElem_toArray, List.getElem_cons_zero, List.getElem_cons_succ, Act.put, List.setIfInBounds_toArray, List.set_cons_zero, List.set_cons_succ]
  refine wpAnyH_take (i := 3) (v := ?v206) rfl (by kernel_rfl) (by kernel_rfl) (by kernel_rfl) (fun _ _ _ h => h) (Or.inl ⟨by rfl, ?y206⟩) hHeld ?r206
  case y206 => (intro w hSw; obtain ⟨q0, q1, q2, q3⟩ := hSw; go_simp; try with_reducible rfl)
  simp only [List.getElem_toArray, List.getElem_cons_zero, List.getElem_cons_succ, Act.put, List.setIfInBounds_toArray, List.set_cons_zero, List.set_cons_succ]
  refine wpAnyH_take (i := 4) (v := ?v207) rfl (by kernel_rfl) (by kernel_rfl) (by kernel_rfl) (fun _ _ _ h => h) (Or.inl ⟨by rfl, ?y207⟩) hHeld ?r207
  case y207 => (intro w hSw; obtain ⟨q0, q1, q2, q3⟩ := hSw; go_simp; try with_reducible rfl)
  simp only [List.getElem_toArray, List.getElem_cons_zero, List.getElem_cons_succ, Act.put, List.setIfInBounds_toArray, List.set_cons_zero, List.set_cons_succ]
  refine wpAnyH_take (i := 5) (v := ?v208) rfl (by kernel_rfl) (by kernel_rfl) (by kernel_rfl) (fun _ _ _ h => h) (Or.inl ⟨by rfl, ?y208⟩) hHeld ?r208
  case y208 => (intro w hSw; obtain ⟨q0, q1, q2, q3⟩ := hSw; go_simp; try with_reducible rfl)
  simp only [List.getElem_toArray, List.getElem_cons_zero, List.getElem_cons_succ, Act.put, List.setIfInBounds_toArray, List.set_cons_zero, List.set_cons_succ]
  refine wpAnyH_take (i := 6) (v := ?v209) rfl (by kernel_rfl) (by kernel_rfl) (by kernel_rfl) (fun _ _ _ h => h) (Or.inl ⟨by rfl, ?y209⟩) hHeld ?r209
  case y209 => (intro w hSw; obtain ⟨q0, q1, q2, q3⟩ := hSw; go_simp; try with_reducible rfl)
  simp only [List.getElem_toArray, List.getElem_cons_zero, List.getElem_cons_succ, Act.put, List.setIfInBounds_toArray, List.set_cons_zero, List.set_cons_succ]
  refine wpAnyH_take (i := 7) (v := ?v210) rfl (by kernel_rfl) (by kernel_rfl) (by kernel_rfl) (fun _ _ _ h => h) (Or.inl ⟨by rfl, ?y210⟩) hHeld ?r210
  case y210 => (intro w hSw; obtain ⟨q0, q1, q2, q3⟩ := hSw; go_simp; try with_reducible rfl)
  simp only [List.getElem_toArray, List.getElem_cons_zero, List.getElem_cons_succ, Act.put, List.setIfInBounds_toArray, List.set_cons_zero, List.set_cons_succ]
  refine wpAnyH_take (i := 8) (v := ?v211) rfl (by kernel_rfl) (by kernel_rfl) (by kernel_rfl) (fun _ _ _ h => h) (Or.inl ⟨by rfl, ?y211⟩) hHeld ?r211
  case y211 => (intro w hSw; obtain ⟨q0, q1, q2, q3⟩ := hSw; go_simp; try with_reducible rfl)
  simp only [List.getElem_toArray, List.getElem_cons_zero, List.getElem_cons_succ, Act.put, List.setIfInBounds_toArray, List.set_cons_zero, List.set_cons_succ]
  refine wpAnyH_take (i := 9) (v := ?v212) rfl (by kernel_rfl) (by kernel_rfl) (by kernel_rfl) (fun _ _ _ h => h) (Or.inl ⟨by rfl, ?y212⟩) hHeld ?r212
  case y212 => (intro w hSw; obtain ⟨q0, q1, q2, q3⟩ := hSw; go_simp; try with_reducible rfl)
  simp only [List.getElem_toArray, List.getElem_cons_zero, List.getElem_cons_succ, Act.put, List.setIfInBounds_toArray, List.set_cons_zero, List.set_cons_succ]
  refine wpAnyH_take (i := 10) (v := ?v213) rfl (by kernel_rfl) (by kernel_rfl) (by kernel_rfl) (fun _ _ _ h => h) (Or.inl ⟨by rfl, ?y213⟩) hHeld ?r213
  case y213 => (intro w hSw; obtain ⟨q0, q1, q2, q3⟩ := hSw; go_simp; try with_reducible rfl)
  simp only [List.getElem_toArray, List.getElem_cons_zero, List.getElem_cons_succ, Act.put, List.setIfInBounds_toArray, List.set_cons_zero, List.set_cons_succ]
  refine wpAnyH_take (i := 11) (v := ?v214) rfl (by kernel_rfl) (by kernel_rfl) (by kernel_rfl) (fun _ _ _ h => h) (Or.inl ⟨by rfl, ?y214⟩) hHeld ?r214
  case y214 => (intro w hSw; obtain ⟨q0, q1, q2, q3⟩ := hSw; go_simp; try with_reducible rfl)
  simp only [List.getElem_toArray, List.getElem_cons_zero, List.getElem_cons_succ, Act.put, List.setIfInBounds_toArray, List.set_cons_zero, List.set_cons_succ]
  refine wpAnyH_ready (rs := [1]) (by kernel_rfl) (by simp) (AllReadyH.cons rfl (fun K hK => ?_) AllReadyH.nil)
  go_simp
  refine (sgen_any v Hv.out _).mono ?_
  rintro e v9 ⟨rfl, rfl⟩
  go_wp2_with fail
  refine hK.out _ _ (hq) (fun hHeld => ?_)
  clear hK K
  refine wpAnyH_take (i := 12) (v := ?v216) rfl (by kernel_rfl) (by kernel_rfl) (by kernel_rfl) (fun _ _ _ h => h) (Or.inl ⟨by rfl, ?y216⟩) hHeld ?r216
  case y216 => (intro w hSw; obtain ⟨q0, q1, q2, q3⟩ := hSw; go_simp; try with_reducible rfl)
  simp only [List.getElem_toArray, List.getElem_cons_zero, List.getElem_cons_succ, Act.put, List.setIfInBounds_toArray, List.set_cons_zero, List.set_cons_succ]
  refine wpAnyH_done (by kernel_rfl) ?_ _
  clear hHeld hq
  generalize v2.drew = v3 at *
  have b3 := HS3.out.box
  have lo3 := HS3.out.n.lto
  have lm3 := HS3.out.bx.lt
  clear b2 lo2 lm2 e2_2
  go_wp2
  go_step3
  refine ahead_goto ?_
  have S3 := HS3.out
  have S3d := S3.drew
  have e8 := S3.cell (i := 8) (v := .slice (some ⟨g, 0, none⟩) tl.length (room SS)) (fun _ => rfl)
  have e8d := S3d.cell (i := 8) (v := .slice (some ⟨g, 0, none⟩) tl.length (room SS)) (fun _ => rfl)
  have e3_2 := S3.cell (i := 2) (v := .int .i64 2) (fun _ => rfl)
  have z3_2 := S3.n.frozen 2
  have e3d_2 := S3d.cell (i := 2) (v := .int .i64 2) (fun _ => rfl)
  have z3d_2 := S3d.n.frozen 2
  have kb0 : RB m o v3.drew := S3d.box
  have lo3d := S3d.n.lto
  have S4 := S3d.put 2 (.int .i64 0) ⟨0, 0, k, n, 1, p + 1, bn, tl⟩ (fun _ => rfl) (fun _ _ q => q)
  generalize hv4 : v3.drew.setCell ⟨o, 2, none⟩ (.int .i64 0) = v4 at S4
  have kb4 : RB m o v4 := S4.box
  have lo4 := S4.n.lto
  have e4_3 := S4.cell (i := 3) (v := .int .i64 ((k : Nat) : Int)) (fun _ => rfl)
  have z4_3 := S4.n.frozen 3
  have S5 := S4.put 3 (.int .i64 0) ⟨0, 0, 0, n, 1, p + 1, bn, tl⟩ (fun _ => rfl) (fun _ _ q => q)
  generalize hv5 : v4.setCell ⟨o, 3, none⟩ (.int .i64 0) = v5 at S5
  have kb5 : RB m o v5 := S5.box
  have lo5 := S5.n.lto
  have e5_8 := S5.cell (i := 8) (v := .slice (some ⟨g, 0, none⟩) tl.length (room SS)) (fun _ => rfl)
  have z5_8 := S5.n.frozen 8
  have S6 := S5.put 8 (.slice (some ⟨g, 0, none⟩) 0 (room SS)) ⟨0, 0, 0, n, 1, p + 1, bn, []⟩ (fun _ => rfl) (fun _ _ q => by simp at q)
  generalize hv6 : v5.setCell ⟨o, 8, none⟩ (.slice (some ⟨g, 0, none⟩) 0 (room SS)) = v6 at S6
  have kb6 : RB m o v6 := S6.box
  have HS6 := Lib.hid S6
  clear S3 S3d S4 S5 S6 HS3
  generalize tl.length = len at *
  generalize room SS = cap at hrm e8 e8d e5_8 z5_8 hv6
  go_wp2_with fail
  refine wp_region_held_drew (S := RB m o) (by kernel_rfl) (kb0) (fun hHeld => ?_)
  refine wpAnyH_take (i := 0) (v := ?v187) rfl (by kernel_rfl) (by kernel_rfl) (by kernel_rfl) (fun _ _ _ h => h) (Or.inl ⟨by rfl, ?y187⟩) hHeld ?r187
  case y187 => (intro w hSw; have q0 := hSw; unfold RB at q0; go_simp; try with_reducible rfl)
  simp only [List.getElem_toArray, List.getElem_cons_zero, Act.put, List.setIfInBounds_toArray, List.set_cons_zero, List.set_cons_succ]
  refine wpAnyH_take (i := 1) (v := ?v188) rfl (by kernel_rfl) (by kernel_rfl) (by kernel_rfl) (fun _ _ _ h => h) (Or.inl ⟨by rfl, ?y188⟩) hHeld ?r188
  case y188 => (intro w hSw; have q0 := hSw; unfold RB at q0; go_simp; try with_reducible rfl)
  simp only [List.getElem_toArray, List.getElem_cons_zero, List.getElem_cons_succ, Act.put, List.setIfInBounds_toArray, List.set_cons_zero, List.set_cons_succ]
  refine wpAnyH_take (i := 2) (v := ?v189) rfl (by kernel_rfl) (by kernel_rfl) (by kernel_rfl) (fun _ _ _ h => h) (Or.inl ⟨by rfl, ?y189⟩) hHeld ?r189
  case y189 => (intro w hSw; have q0 := hSw; unfold RB at q0; go_simp; try with_reducible rfl)
  simp only [List.getElem_toArray, List.getElem_cons_zero, List.getElem_cons_succ, Act.put, List.setIfInBounds_toArray, List.set_cons_zero, List.set_cons_succ]
  refine wpAnyH_take (i := 3) (v := ?v190) rfl (by kernel_rfl) (by kernel_rfl) (by kernel_rfl) (fun _ _ _ h => h) (Or.inl ⟨by rfl, ?y190⟩) hHeld ?r190
  case y190 => (intro w hSw; have q0 := hSw; unfold RB at q0; go_simp; try with_reducible rfl)
  simp only [List.getElem_toArray, List.getElem_cons_zero, List.getElem_cons_succ, Act.put, List.setIfInBounds_toArray, List.set_cons_zero, List.set_cons_succ]
  refine wpAnyH_take (i := 4) (v := ?v191) rfl (by kernel_rfl) (by kernel_rfl) (by kernel_rfl) (fun _ _ _ h => h) (Or.inl ⟨by rfl, ?y191⟩) hHeld ?r191
  case y191 => (intro w hSw; have q0 := hSw; unfold RB at q0; go_simp; try with_reducible rfl)
  simp only [List.getElem_toArray, List.getElem_cons_zero, List.getElem_cons_succ, Act.put, List.setIfInBounds_toArray, List.set_cons_zero, List.set_cons_succ]
  refine wpAnyH_take (i := 5) (v := ?v192) rfl (by kernel_rfl) (by kernel_rfl) (by kernel_rfl) (fun _ _ _ h => h) (Or.inl ⟨by rfl, ?y192⟩) hHeld ?r192
  case y192 => (intro w hSw; have q0 := hSw; unfold RB at q0; go_simp; try with_reducible rfl)
  simp only [List.getElem_toArray, List.getElem_cons_zero, List.getElem_cons_succ, Act.put, List.setIfInBounds_toArray, List.set_cons_zero, List.set_cons_succ]
  refine wpAnyH_ready (rs := [6]) (by kernel_rfl) (by simp) (AllReadyH.cons rfl (fun K hK => ?_) AllReadyH.nil)
  go_simp
  skip
  refine hK.out _ _ (kb0) (fun hHeld => ?_)
  clear hK K
  refine wpAnyH_take (i := 7) (v := ?v194) rfl (by kernel_rfl) (by kernel_rfl) (by kernel_rfl) (fun _ _ _ h => h) (Or.inl ⟨by rfl, ?y194⟩) hHeld ?r194
  case y194 => (intro w hSw; have q0 := hSw; unfold RB at q0; go_simp; try with_reducible rfl)
  simp only [List.getElem_toArray, List.getElem_cons_zero, List.getElem_cons_succ, Act.put, List.setIfInBounds_toArray, List.set_cons_zero, List.set_cons_succ]
  refine wpAnyH_take (i := 8) (v := ?v195) rfl (by kernel_rfl) (by kernel_rfl) (by kernel_rfl) (fun _ _ _ h => h) (Or.inl ⟨by rfl, ?y195⟩) hHeld ?r195
  case y195 => (intro w hSw; have q0 := hSw; unfold RB at q0; go_simp; try with_reducible rfl)
  simp only [List.getElem_toArray, List.getElem_cons_zero, List.getElem_cons_succ, Act.put, List.setIfInBounds_toArray, List.set_cons_zero, List.set_cons_succ]
  refine wpAnyH_take (i := 9) (v := ?v196) rfl (by kernel_rfl) (by kernel_rfl) (by kernel_rfl) (fun _ _ _ h => h) (Or.inl ⟨by rfl, ?y196⟩) hHeld ?r196
  case y196 => (intro w hSw; have q0 := hSw; unfold RB at q0; go_simp; try with_reducible rfl)
  simp only [List.getElem_toArray, List.getElem_cons_zero, List.getElem_cons_succ, Act.put, List.setIfInBounds_toArray, List.set_cons_zero, List.set_cons_succ]
  refine wpAnyH_ready (rs := [10]) (by kernel_rfl) (by simp) (AllReadyH.cons rfl (fun K hK => ?_) AllReadyH.nil)
  go_simp
  go_wp2_with fail
  refine hK.out _ _ (kb4) (fun hHeld => ?_)
  clear hK K
  refine wpAnyH_take (i := 11) (v := ?v198) rfl (by kernel_rfl) (by kernel_rfl) (by kernel_rfl) (fun _ _ _ h => h) (Or.inl ⟨by rfl, ?y198⟩) hHeld ?r198
  case y198 => (intro w hSw; have q0 := hSw; unfold RB at q0; go_simp; try with_reducible rfl)
  simp only [List.getElem_toArray, List.getElem_cons_zero, List.getElem_cons_succ, Act.put, List.setIfInBounds_toArray, List.set_cons_zero, List.set_cons_succ]
  refine wpAnyH_take (i := 12) (v := ?v199) rfl (by kernel_rfl) (by kernel_rfl) (by kernel_rfl) (fun _ _ _ h => h) (Or.inl ⟨by rfl, ?y199⟩) hHeld ?r199
  case y199 => (intro w hSw; have q0 := hSw; unfold RB at q0; go_simp; try with_reducible rfl)
  simp only [List.getElem_toArray, List.getElem_cons_zero, List.getElem_cons_succ, Act.put, List.setIfInBounds_toArray, List.set_cons_zero, List.set_cons_succ]
  refine wpAnyH_ready (rs := [13]) (by kernel_rfl) (by simp) (AllReadyH.cons rfl (fun K hK => ?_) AllReadyH.nil)
  go_simp
  go_wp2_with fail
  refine hK.out _ _ (kb5) (fun hHeld => ?_)
  clear hK K
  refine wpAnyH_take (i := 14) (v := ?v201) rfl (by kernel_rfl) (by kernel_rfl) (by kernel_rfl) (fun _ _ _ h => h) (Or.inl ⟨by rfl, ?y201⟩) hHeld ?r201
  case y201 => (intro w hSw; have q0 := hSw; unfold RB at q0; go_simp; try with_reducible rfl)
  simp only [List.getElem_toArray, List.getElem_cons_zero, List.getElem_cons_succ, Act.put, List.setIfInBounds_toArray, List.set_cons_zero, List.set_cons_succ]
  refine wpAnyH_take (i := 15) (v := ?v202) rfl (by kernel_rfl) (by kernel_rfl) (by kernel_rfl) (fun _ _ _ h => h) (Or.inl ⟨by rfl, ?y202⟩) hHeld ?r202
  case y202 => (intro w hSw; have q0 := hSw; unfold RB at q0; go_simp; try with_reducible rfl)
  simp only [List.getElem_toArray, List.getElem_cons_zero, List.getElem_cons_succ, Act.put, List.setIfInBounds_toArray, List.set_cons_zero, List.set_cons_succ]
  refine wpAnyH_ready (rs := [16]) (by kernel_rfl) (by simp) (AllReadyH.cons rfl (fun K hK => ?_) AllReadyH.nil)
  go_simp
  go_wp2_with fail
  refine hK.out _ _ (kb6) (fun hHeld => ?_)
  clear hK K
  refine wpAnyH_done (by kernel_rfl) ?_ _
  clear hHeld kb0 kb4 kb5 kb6 e8 e8d e3_2 z3_2 e3d_2 z3d_2 lo3d e4_3 z4_3 e5_8 z5_8 hv4 hv5 hv6 lo4 lo5 b3 lo3 lm3
  have S6 := HS6.out
  have b6 := S6.box
  have lo6 := S6.n.lto
  have lm6 := S6.bx.lt
  have e6_5 := S6.cell (i := 5) (v := .int .i64 (1)) (fun _ => rfl)
  have z6_5 := S6.n.frozen 5
  have S7 := S6.put 5 (.int .i64 (0)) ⟨0, 0, 0, n, 0, p + 1, bn, []⟩ (fun _ => rfl) (fun _ _ q => q)
  generalize hv7 : v6.setCell ⟨o, 5, none⟩ (.int .i64 (0)) = v7 at S7
  have b7 := S7.box
  have lo7 := S7.n.lto
  have lm7 := S7.bx.lt
  have e7_5 := S7.cell (i := 5) (v := .int .i64 (0)) (fun _ => rfl)
  have e7_1 := S7.cell (i := 1) (v := .int .i64 (0)) (fun _ => rfl)
  have z7_1 := S7.n.frozen 1
  have S8 := S7.put 1 (.int .i64 (2)) ⟨2, 0, 0, n, 0, p + 1, bn, []⟩ (fun _ => rfl) (fun _ _ q => q)
  generalize hv8 : v7.setCell ⟨o, 1, none⟩ (.int .i64 (2)) = v8 at S8
  have b8 := S8.box
  have lo8 := S8.n.lto
  have lm8 := S8.bx.lt
  have e8_1 := S8.cell (i := 1) (v := .int .i64 (2)) (fun _ => rfl)
  have HS8 := Lib.hid S8
  clear S6 S7 S8
  go_wp2
  go_step3
  go_wp2
  try rw [Exit.noGoto_ret]
  go_ret
  exact HS8.out.post (r := (⟨2, 0, 0, n, 0, p + 1, bn, []⟩, 1))
end
end Go.Proofs.Ytflgggfomhifeaa
