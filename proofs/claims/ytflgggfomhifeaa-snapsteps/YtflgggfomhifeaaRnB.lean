/- The document's step: the first line. -/
import Derived.Test.YtflgggfomhifeaaRnA
namespace Go.Proofs.Ytflgggfomhifeaa
open Go.RowKit

section
variable {w : World} {o wb b off ln cp k nn : Nat} {V U : Value} {SS : List Sp} {tr left p bn v : Int} {tl ys : List Int}
set_option maxRecDepth 100000 in
set_option maxHeartbeats 2000000 in
theorem rn_first (h : RnAt w o (some ⟨b, off, none⟩) ln cp V U SS tr ⟨0, 0, 0, nn, left, p, bn, []⟩) (hB : Row w wb ys) (hne : o ≠ wb) (hvw : V.ownBlock ≠ some wb) (huw : U.ownBlock ≠ some wb) (hw : NWf SS ⟨0, 0, 0, nn, left, p, bn, []⟩) (_t1 : left ≤ tr) (_t2 : tr ≤ 16) (p0 : 0 ≤ p) (p1 : p ≤ 1000000) (_hyl : ys.length ≤ 1000) (hv : getI ys (nxl SS ⟨0, 0, 0, nn, left, p, bn, []⟩) = some v) (hu : U64 v) (hl : ¬ 0 + 1 = ln) :
    Calls Try.prog 16 #[.pointer (some ⟨o, 0, none⟩), .slice (some ⟨wb, 0, none⟩) ys.length ys.length] w (RnPost o wb (some ⟨b, off, none⟩) ln cp V U SS tr ys ⟨0, 0, 1, 0, left, (p + 1), bn, [v / 2]⟩ w) := by
  obtain ⟨gl, wl, hr, Q0⟩ := Rtg.start h hB hne hvw huw
  have Hrr := Lib.hid hr
  have R0 := Q0.to (C' := (rc (.slice (some ⟨b, off, none⟩) ln cp) V U tr 1 0 nn (tr - left) bn 0 p)) (by simp [rfc, rc])
  have hlen := h.len
  have hsp := hw.sp
  have hk0 := hw.k
  obtain ⟨b', off', heq, hbl, hjj⟩ := R0.sp 0 _ hsp
  clear hjj
  cases heq
  obtain ⟨S, hSe⟩ : ∃ S, nxs SS ⟨0, 0, 0, nn, left, p, bn, []⟩ = S := ⟨_, rfl⟩
  have hrt := hw.rts
  rw [hSe] at hsp hrt
  have hs64 := hw.s64
  rw [hlen] at hs64
  dsimp only at hk0 hsp
  have hkl : 0 < ln := by omega
  have hkl2 : (0 : Int) < ln := by omega
  have hq0 : 0 ≤ S.sq := by unfold Rt at hrt; omega
  have RA := R0.drew.alloc (.cells #[.int .i64 0, .int .i64 0, .int .i64 0, .int .i64 0, .int .i64 0] 96)
  have R1 := (R0.alloc (sb2 S)).drew
  have hM1 : Blk (w.alloc (sb2 S)).drew w.heap.size (spc5 S) := Blk.new w #[.int .i64 S.ow, .int .i64 S.sq, .int .i64 S.fs, .int .i64 S.wd, .int .i64 S.dp] 96
  have HQ0 := Lib.hid (RX.of R0.drew hsp)
  have HQ1 := Lib.hid (RX.of RA hsp)
  have HQ2 := Lib.hid (RX.of R1 hsp)
  have hM := Blk.new w.drew #[.int .i64 0, .int .i64 0, .int .i64 0, .int .i64 0, .int .i64 0] 96
  change Blk _ w.heap.size _ at hM
  have hM0 := hM.cell (i := 0) rfl
  have hM1c := hM.cell (i := 1) rfl
  have hM2 := hM.cell (i := 2) rfl
  have hM3 := hM.cell (i := 3) rfl
  have hM4 := hM.cell (i := 4) rfl
  have y0 := hM.frozen 0
  have y1 := hM.frozen 1
  have y2 := hM.frozen 2
  have y3 := hM.frozen 3
  have y4 := hM.frozen 4
  have lA := hM.lt
  have lo0 := R0.bk.lt
  have lw0 := R0.row.lt
  have e0_9 := R0.bk.cell (i := 9) (v := .int .i64 (0)) rfl
  unfold nxl at hv
  rw [if_neg (by dsimp only; omega), hSe] at hv
  obtain ⟨_, hv1⟩ := getI_some hv
  have hlt := lt_of_some hv1
  obtain ⟨i, hi⟩ := Int.eq_ofNat_of_zero_le hq0
  rw [hi, Int.toNat_natCast] at hv1 hlt
  have hlt2 : (i : Int) < ys.length := by omega
  have Hv1 := Lib.hid hv1
  have Hi := Lib.hid hi
  obtain ⟨u0, u1⟩ := hu
  have hdv : IntKind.u64.wrap (v.tdiv 2) = v / 2 := by rw [Int.tdiv_eq_ediv_of_nonneg u0, IntKind.wrap_u64]; omega
  have hm : ((0 : Int) == (ln : Int) - 1) = false := by simp; omega
  obtain ⟨ha0, hn0⟩ := hw.a0 rfl
  dsimp only at ha0 hn0
  subst hn0
  have Hgl : Hid (gl.length ≤ 64 ∨ 0 = 0) := Lib.hid (by
    by_cases q : 0 = 0
    · exact .inr q
    · refine .inl ?_
      rw [(hr (fun c => q c.2)).1]
      exact Nat.le_trans (List.length_take_le _ _) (by rw [hlen]; exact hs64))
  have HR1 := Lib.hid R1
  have HM1 := Lib.hid hM1
  clear R0 RA R1 hM1 hM Q0 h hB hvw huw hsp hr hv hv1 hw hSe hrt hlt hi ha0 hl
  go_enter Try.func16, Try.ntmps16
  go_wp2_with fail
  refine wp_region_held_drew (S := RX o b off cp ln 0 S) (by kernel_rfl) (HQ0.out) (fun hHeld => ?_)
  refine wpAnyH_take (i := 0) (v := ?v43) rfl (by kernel_rfl) (by kernel_rfl) (by kernel_rfl) (fun _ _ _ h => h) (Or.inl ⟨by rfl, ?y43⟩) hHeld ?r43
  case y43 => (intro w hSw; obtain ⟨⟨q0, q1⟩, q2, q3, q4, q5, q6⟩ := hSw; (try simp only [Nat.zero_mul, Nat.add_zero] at q2 q3 q4 q5 q6); go_simp; try with_reducible rfl)
  simp only [List.getElem_toArray, List.getElem_cons_zero, Act.put, List.setIfInBounds_toArray, List.set_cons_zero, List.set_cons_succ]
  refine wpAnyH_take (i := 1) (v := ?v44) rfl (by kernel_rfl) (by kernel_rfl) (by kernel_rfl) (fun _ _ _ h => h) (Or.inl ⟨by rfl, ?y44⟩) hHeld ?r44
  case y44 => (intro w hSw; obtain ⟨⟨q0, q1⟩, q2, q3, q4, q5, q6⟩ := hSw; (try simp only [Nat.zero_mul, Nat.add_zero] at q2 q3 q4 q5 q6); go_simp; try with_reducible rfl)
  simp only [List.getElem_toArray, List.getElem_cons_zero, List.getElem_cons_succ, Act.put, List.setIfInBounds_toArray, List.set_cons_zero, List.set_cons_succ]
  refine wpAnyH_take (i := 2) (v := ?v45) rfl (by kernel_rfl) (by kernel_rfl) (by kernel_rfl) (fun _ _ _ h => h) (Or.inl ⟨by rfl, ?y45⟩) hHeld ?r45
  case y45 => (intro w hSw; obtain ⟨⟨q0, q1⟩, q2, q3, q4, q5, q6⟩ := hSw; (try simp only [Nat.zero_mul, Nat.add_zero] at q2 q3 q4 q5 q6); go_simp; try with_reducible rfl)
  simp only [List.getElem_toArray, List.getElem_cons_zero, List.getElem_cons_succ, Act.put, List.setIfInBounds_toArray, List.set_cons_zero, List.set_cons_succ]
  refine wpAnyH_take (i := 3) (v := ?v46) rfl (by kernel_rfl) (by kernel_rfl) (by kernel_rfl) (fun _ _ _ h => h) (Or.inl ⟨by rfl, ?y46⟩) hHeld ?r46
  case y46 => (intro w hSw; obtain ⟨⟨q0, q1⟩, q2, q3, q4, q5, q6⟩ := hSw; (try simp only [Nat.zero_mul, Nat.add_zero] at q2 q3 q4 q5 q6); go_simp; try with_reducible rfl)
  simp only [List.getElem_toArray, List.getElem_cons_zero, List.getElem_cons_succ, Act.put, List.setIfInBounds_toArray, List.set_cons_zero, List.set_cons_succ]
  refine wpAnyH_take (i := 4) (v := ?v47) rfl (by kernel_rfl) (by kernel_rfl) (by kernel_rfl) (fun _ _ _ h => h) (Or.inl ⟨by rfl, ?y47⟩) hHeld ?r47
  case y47 => (intro w hSw; obtain ⟨⟨q0, q1⟩, q2, q3, q4, q5, q6⟩ := hSw; (try simp only [Nat.zero_mul, Nat.add_zero] at q2 q3 q4 q5 q6); go_simp; try with_reducible rfl)
  simp only [List.getElem_toArray, List.getElem_cons_zero, List.getElem_cons_succ, Act.put, List.setIfInBounds_toArray, List.set_cons_zero, List.set_cons_succ]
  refine wpAnyH_take (i := 5) (v := ?v48) rfl (by kernel_rfl) (by kernel_rfl) (by kernel_rfl) (fun _ _ _ h => h) (Or.inl ⟨by rfl, ?y48⟩) hHeld ?r48
  case y48 => (intro w hSw; obtain ⟨⟨q0, q1⟩, q2, q3, q4, q5, q6⟩ := hSw; (try simp only [Nat.zero_mul, Nat.add_zero] at q2 q3 q4 q5 q6); go_simp; try with_reducible rfl)
  simp only [List.getElem_toArray, List.getElem_cons_zero, List.getElem_cons_succ, Act.put, List.setIfInBounds_toArray, List.set_cons_zero, List.set_cons_succ]
  refine wpAnyH_take (i := 6) (v := ?v49) rfl (by kernel_rfl) (by kernel_rfl) (by kernel_rfl) (fun _ _ _ h => h) (Or.inl ⟨by rfl, ?y49⟩) hHeld ?r49
  case y49 => (intro w hSw; obtain ⟨⟨q0, q1⟩, q2, q3, q4, q5, q6⟩ := hSw; (try simp only [Nat.zero_mul, Nat.add_zero] at q2 q3 q4 q5 q6); go_simp; try with_reducible rfl)
  simp only [List.getElem_toArray, List.getElem_cons_zero, List.getElem_cons_succ, Act.put, List.setIfInBounds_toArray, List.set_cons_zero, List.set_cons_succ]
  refine wpAnyH_take (i := 7) (v := ?v50) rfl (by kernel_rfl) (by kernel_rfl) (by kernel_rfl) (fun _ _ _ h => h) (Or.inl ⟨by rfl, ?y50⟩) hHeld ?r50
  case y50 => (intro w hSw; obtain ⟨⟨q0, q1⟩, q2, q3, q4, q5, q6⟩ := hSw; (try simp only [Nat.zero_mul, Nat.add_zero] at q2 q3 q4 q5 q6); go_simp; try with_reducible rfl)
  simp only [List.getElem_toArray, List.getElem_cons_zero, List.getElem_cons_succ, Act.put, List.setIfInBounds_toArray, List.set_cons_zero, List.set_cons_succ]
  refine wpAnyH_take (i := 8) (v := ?v51) rfl (by kernel_rfl) (by kernel_rfl) (by kernel_rfl) (fun _ _ _ h => h) (Or.inl ⟨by rfl, ?y51⟩) hHeld ?r51
  case y51 => (intro w hSw; obtain ⟨⟨q0, q1⟩, q2, q3, q4, q5, q6⟩ := hSw; (try simp only [Nat.zero_mul, Nat.add_zero] at q2 q3 q4 q5 q6); go_simp; try with_reducible rfl)
  simp only [List.getElem_toArray, List.getElem_cons_zero, List.getElem_cons_succ, Act.put, List.setIfInBounds_toArray, List.set_cons_zero, List.set_cons_succ]
  refine wpAnyH_take (i := 9) (v := ?v52) rfl (by kernel_rfl) (by kernel_rfl) (by kernel_rfl) (fun _ _ _ h => h) (Or.inl ⟨by rfl, ?y52⟩) hHeld ?r52
  case y52 => (intro w hSw; obtain ⟨⟨q0, q1⟩, q2, q3, q4, q5, q6⟩ := hSw; (try simp only [Nat.zero_mul, Nat.add_zero] at q2 q3 q4 q5 q6); go_simp; try with_reducible rfl)
  simp only [List.getElem_toArray, List.getElem_cons_zero, List.getElem_cons_succ, Act.put, List.setIfInBounds_toArray, List.set_cons_zero, List.set_cons_succ]
  refine wpAnyH_ready (rs := [10]) (by kernel_rfl) (by simp) (AllReadyH.cons rfl (fun K hK => ?_) AllReadyH.nil)
  go_simp
  skip
  refine hK.out _ _ (HQ1.out) (fun hHeld => ?_)
  clear hK K
  refine wpAnyH_ready (rs := [11]) (by kernel_rfl) (by simp) (AllReadyH.cons rfl (fun K hK => ?_) AllReadyH.nil)
  go_simp
  skip
  refine hK.out _ _ (HQ2.out) (fun hHeld => ?_)
  clear hK K
  refine wpAnyH_done (by kernel_rfl) ?_ _
  clear hHeld HQ0 HQ1 HQ2 hM0 hM1c hM2 hM3 hM4 y0 y1 y2 y3 y4 lA lo0 lw0 e0_9
  have R1 := HR1.out
  have hM1 := HM1.out
  clear HR1 HM1
  generalize hv1 : (w.alloc (sb2 S)).drew = v1 at R1 hM1 ⊢
  have lo1 := R1.bk.lt
  have lw1 := R1.row.lt
  have d1 := hM1.cell (i := 1) rfl
  have lm1 := hM1.lt
  rw [Hi.out] at d1
  have e1_2 := R1.bk.cell (i := 2) (v := .int .i64 (1)) rfl
  have e1_10 := R1.bk.cell (i := 10) (v := .int .i64 (p)) rfl
  have z1_10 := R1.bk.frozen 10
  have R2 := (R1.put 10 (.int .i64 ((p + 1)))).to (C' := (rc (.slice (some ⟨b, off, none⟩) ln cp) V U tr 1 0 ((0 : Nat) : Int) (tr - left) bn 0 (p + 1))) rfl
  generalize hv2 : v1.setCell ⟨o, 10, none⟩ (.int .i64 ((p + 1))) = v2 at R2
  have lo2 := R2.bk.lt
  have lw2 := R2.row.lt
  have HRq := Lib.hid (fun q => R2.drewN q)
  have e2_0 := R2.bk.cell (i := 0) (v := .slice (some ⟨b, off, none⟩) ln cp) rfl
  have e2_3 := R2.bk.cell (i := 3) (v := .int .i64 (0)) rfl
  clear R1 R2 hM1 hv1
  go_wp2_with fail
  go_quiet (fail)
  have R3 := HRq.out nq
  clear HRq hv2 d1 lm1 lo1 lw1 lo2 lw2 e1_2 e1_10 z1_10 e2_0 e2_3
  generalize v2.drewN nq = v3 at R3 ⊢
  have lo3 := R3.bk.lt
  have lw3 := R3.row.lt
  have e3_2 := R3.bk.cell (i := 2) (v := .int .i64 (1)) rfl
  have e3_3 := R3.bk.cell (i := 3) (v := .int .i64 (0)) rfl
  have e3_6 := R3.bk.cell (i := 6) (v := V) rfl
  have z3_6 := R3.bk.frozen 6
  have R3 := R3.nilV.nilU
  have R4 := (R3.put 6 ((.slice none 0 0))).to (C' := (rc (.slice (some ⟨b, off, none⟩) ln cp) (.slice none 0 0) U tr 1 0 ((0 : Nat) : Int) (tr - left) bn 0 (p + 1))) rfl
  generalize hv4 : v3.setCell ⟨o, 6, none⟩ ((.slice none 0 0)) = v4 at R4
  have e4_7 := R4.bk.cell (i := 7) (v := U) rfl
  have z4_7 := R4.bk.frozen 7
  have lo4 := R4.bk.lt
  have lw4 := R4.row.lt
  have R5 := (R4.put 7 ((.slice none 0 0))).to (C' := (rc (.slice (some ⟨b, off, none⟩) ln cp) (.slice none 0 0) (.slice none 0 0) tr 1 0 ((0 : Nat) : Int) (tr - left) bn 0 (p + 1))) rfl
  generalize hv5 : v4.setCell ⟨o, 7, none⟩ ((.slice none 0 0)) = v5 at R5
  have lo5 := R5.bk.lt
  have lw5 := R5.row.lt
  have hglr : ([] : List Int).length ≤ 100000 := by simp
  have hbl2 : b < v5.drew.heap.size := by have := R5.up.size; have e2 : v5.drew.heap.size = v5.heap.size := rfl; omega
  obtain ⟨a5, c5, Wp, hr5, Rp⟩ := R5.drew.appV hglr hbl2 (v / 2)
  have Hap := Lib.hid hr5
  have hqv : RW wb i v v5.drew := R5.drew.row.cell Hv1.out
  have lod := R5.drew.bk.lt
  have lwd := R5.drew.row.lt
  have RA := R5.drew.alloc (.cells #[.int .u64 (v / 2)] 42)
  have RB := R5.alloc (.cells #[.int .u64 (v / 2)] 42)
  have hqA : RW wb i v (v5.drew.alloc (.cells #[.int .u64 (v / 2)] 42)) := RA.row.cell Hv1.out
  have f0 := R5.bk.cell (i := 6) rfl
  have f1 := R5.drew.bk.cell (i := 6) rfl
  have f2 := RA.bk.cell (i := 6) rfl
  have f3 := RB.bk.cell (i := 6) rfl
  have hq5 : RW wb i v Wp := Rp.row.cell Hv1.out
  have f5 := Rp.bk.cell (i := 6) rfl
  have z5 := Rp.bk.frozen 6
  have lop := Rp.bk.lt
  have R6 := (Rp.put 6 (.slice a5 (([] : List Int).length + 1) c5)).to (C' := (rc (.slice (some ⟨b, off, none⟩) ln cp) (.slice a5 (([] : List Int).length + 1) c5) (.slice none 0 0) tr 1 0 ((0 : Nat) : Int) (tr - left) bn 0 (p + 1))) rfl
  generalize hw6 : Wp.setCell ⟨o, 6, none⟩ (.slice a5 (([] : List Int).length + 1) c5) = v6 at R6
  have hq6 : RW wb i v v6 := R6.row.cell Hv1.out
  have HR6 := Lib.hid R6
  have HL := Lib.hid hglr
  clear R3 R4 R5 Rp RA RB R6 hr5 hglr hbl2 
  simp only [List.length_nil, Nat.zero_add] at Hap hw6 HR6
  go_wp2_with fail
  refine wp_region_held_drew (S := RW wb i v) (by kernel_rfl) (hqv) (fun hHeld => ?_)
  refine wpAnyH_take (i := 0) (v := ?v25) rfl (by kernel_rfl) (by kernel_rfl) (by kernel_rfl) (fun _ _ _ h => h) (Or.inl ⟨by rfl, ?y25⟩) hHeld ?r25
  case y25 => (intro w hSw; have q0 := hSw; unfold RW at q0; go_simp; try with_reducible rfl)
  simp only [List.getElem_toArray, List.getElem_cons_zero, Act.put, List.setIfInBounds_toArray, List.set_cons_zero, List.set_cons_succ]
  refine wpAnyH_take (i := 1) (v := ?v26) rfl (by kernel_rfl) (by kernel_rfl) (by kernel_rfl) (fun _ _ _ h => h) (Or.inl ⟨by rfl, ?y26⟩) hHeld ?r26
  case y26 => (intro w hSw; have q0 := hSw; unfold RW at q0; go_simp; try with_reducible rfl)
  simp only [List.getElem_toArray, List.getElem_cons_zero, List.getElem_cons_succ, Act.put, List.setIfInBounds_toArray, List.set_cons_zero, List.set_cons_succ]
  refine wpAnyH_take (i := 2) (v := ?v27) rfl (by kernel_rfl) (by kernel_rfl) (by kernel_rfl) (fun _ _ _ h => h) (Or.inl ⟨by rfl, ?y27⟩) hHeld ?r27
  case y27 => (intro w hSw; have q0 := hSw; unfold RW at q0; go_simp; try with_reducible rfl)
  simp only [List.getElem_toArray, List.getElem_cons_zero, List.getElem_cons_succ, Act.put, List.setIfInBounds_toArray, List.set_cons_zero, List.set_cons_succ]
  refine wpAnyH_take (i := 3) (v := ?v28) rfl (by kernel_rfl) (by kernel_rfl) (by kernel_rfl) (fun _ _ _ h => h) (Or.inl ⟨by rfl, ?y28⟩) hHeld ?r28
  case y28 => (intro w hSw; have q0 := hSw; unfold RW at q0; go_simp; try with_reducible rfl)
  simp only [List.getElem_toArray, List.getElem_cons_zero, List.getElem_cons_succ, Act.put, List.setIfInBounds_toArray, List.set_cons_zero, List.set_cons_succ]
  refine wpAnyH_take (i := 5) (v := ?v29) rfl (by kernel_rfl) (by kernel_rfl) (by kernel_rfl) (fun _ _ _ h => h) (Or.inl ⟨by rfl, ?y29⟩) hHeld ?r29
  case y29 => (intro w hSw; have q0 := hSw; unfold RW at q0; go_simp; try with_reducible rfl)
  simp only [List.getElem_toArray, List.getElem_cons_zero, List.getElem_cons_succ, Act.put, List.setIfInBounds_toArray, List.set_cons_zero, List.set_cons_succ]
  refine wpAnyH_take (i := 6) (v := ?v30) rfl (by kernel_rfl) (by kernel_rfl) (by kernel_rfl) (fun _ _ _ h => h) (Or.inl ⟨by rfl, ?y30⟩) hHeld ?r30
  case y30 => (intro w hSw; have q0 := hSw; unfold RW at q0; go_simp; try with_reducible rfl)
  simp only [List.getElem_toArray, List.getElem_cons_zero, List.getElem_cons_succ, Act.put, List.setIfInBounds_toArray, List.set_cons_zero, List.set_cons_succ]
  refine wpAnyH_take (i := 7) (v := ?v31) rfl (by kernel_rfl) (by kernel_rfl) (by kernel_rfl) (fun _ _ _ h => h) (Or.inl ⟨by rfl, ?y31⟩) hHeld ?r31
  case y31 => (intro w hSw; have q0 := hSw; unfold RW at q0; go_simp; try with_reducible rfl)
  simp only [List.getElem_toArray, List.getElem_cons_zero, List.getElem_cons_succ, Act.put, List.setIfInBounds_toArray, List.set_cons_zero, List.set_cons_succ]
  refine wpAnyH_take (i := 8) (v := ?v32) rfl (by kernel_rfl) (by kernel_rfl) (by kernel_rfl) (fun _ _ _ h => h) (Or.inl ⟨by rfl, ?y32⟩) hHeld ?r32
  case y32 => (intro w hSw; have q0 := hSw; unfold RW at q0; go_simp; try with_reducible rfl)
  simp only [List.getElem_toArray, List.getElem_cons_zero, List.getElem_cons_succ, Act.put, List.setIfInBounds_toArray, List.set_cons_zero, List.set_cons_succ]
  refine wpAnyH_take (i := 9) (v := (.int .u64 (v / 2))) rfl (by kernel_rfl) (by kernel_rfl) (by kernel_rfl) (fun _ _ _ h => h) (Or.inl ⟨by rfl, ?y33⟩) hHeld ?r33
  case y33 => (intro w hSw; have q0 := hSw; unfold RW at q0; go_simp; try with_reducible rfl)
  simp only [List.getElem_toArray, List.getElem_cons_zero, List.getElem_cons_succ, Act.put, List.setIfInBounds_toArray, List.set_cons_zero, List.set_cons_succ]
  refine wpAnyH_ready (rs := [4, 10]) (by kernel_rfl) (by simp) (AllReadyH.cons rfl (fun K hK => ?_) (AllReadyH.cons rfl (fun K hK => ?_) AllReadyH.nil))
  · go_simp
    refine hK.out _ _ (hqv) (fun hHeld => ?_)
    clear hK K
    refine wpAnyH_ready (rs := [10]) (by kernel_rfl) (by simp) (AllReadyH.cons rfl (fun K hK => ?_) AllReadyH.nil)
    go_simp
    refine hK.out _ _ (hqA) (fun hHeld => ?_)
    clear hK K
    refine wpAnyH_ready (rs := [11]) (by kernel_rfl) (by simp) (AllReadyH.cons rfl (fun K hK => ?_) AllReadyH.nil)
    refine wp_append_run _ (.tmp 96) (.tmp 102) 41 41 rfl _ _ rfl rfl Hap.out ?_
    refine hK.out _ _ (hq5) (fun hHeld => ?_)
    clear hK K
    refine wpAnyH_take (i := 12) (v := ?v36) rfl (by kernel_rfl) (by kernel_rfl) (by kernel_rfl) (fun _ _ _ h => h) (Or.inl ⟨by rfl, ?y36⟩) hHeld ?r36
    case y36 => (intro w hSw; have q0 := hSw; unfold RW at q0; go_simp; try with_reducible rfl)
    simp only [List.getElem_toArray, List.getElem_cons_zero, List.getElem_cons_succ, Act.put, List.setIfInBounds_toArray, List.set_cons_zero, List.set_cons_succ]
    refine wpAnyH_take (i := 13) (v := ?v37) rfl (by kernel_rfl) (by kernel_rfl) (by kernel_rfl) (fun _ _ _ h => h) (Or.inl ⟨by rfl, ?y37⟩) hHeld ?r37
    case y37 => (intro w hSw; have q0 := hSw; unfold RW at q0; go_simp; try with_reducible rfl)
    simp only [List.getElem_toArray, List.getElem_cons_zero, List.getElem_cons_succ, Act.put, List.setIfInBounds_toArray, List.set_cons_zero, List.set_cons_succ]
    refine wpAnyH_ready (rs := [14]) (by kernel_rfl) (by simp) (AllReadyH.cons rfl (fun K hK => ?_) AllReadyH.nil)
    go_simp
    go_wp2_with fail
    refine hK.out _ _ (hq6) (fun hHeld => ?_)
    clear hK K
    refine wpAnyH_done (by kernel_rfl) ?_ _
    clear hHeld hqv hqA hq5 hq6 Hap z5 lop lod lwd f0 f1 f2 f3 f5 hw6
    have R6 := HR6.out
    clear HR6
    have lo6 := R6.bk.lt
    have lw6 := R6.row.lt
    have e6_3 := R6.bk.cell (i := 3) (v := .int .i64 (0)) rfl
    have z6_3 := R6.bk.frozen 3
    have R7 := (R6.put 3 (.int .i64 (1))).to (C' := (rc (.slice (some ⟨b, off, none⟩) ln cp) (.slice a5 (([] : List Int).length + 1) c5) (.slice none 0 0) tr 1 1 ((0 : Nat) : Int) (tr - left) bn 0 (p + 1))) rfl
    generalize hv7 : v6.setCell ⟨o, 3, none⟩ (.int .i64 (1)) = v7 at R7
    have lo7 := R7.bk.lt
    have lw7 := R7.row.lt
    have HR7 := Lib.hid R7
    clear R6 R7
    go_wp2
    go_end0
    exact (HR7.out.to (show _ = rfc (.slice (some ⟨b, off, none⟩) ln cp) (.slice a5 (([] : List Int).length + 1) c5) (.slice none 0 0) tr ⟨0, 0, 1, 0, left, (p + 1), bn, [v / 2]⟩ from by simp [rfc, rc]; try omega)).post hlen (fun _ => rows0 (tl := []) (by simp; omega) ⟨by simp, by simp⟩)
  · go_simp
    refine hK.out _ _ (hqA) (fun hHeld => ?_)
    clear hK K
    refine wpAnyH_ready (rs := [4]) (by kernel_rfl) (by simp) (AllReadyH.cons rfl (fun K hK => ?_) AllReadyH.nil)
    go_simp
    refine hK.out _ _ (hqA) (fun hHeld => ?_)
    clear hK K
    refine wpAnyH_ready (rs := [11]) (by kernel_rfl) (by simp) (AllReadyH.cons rfl (fun K hK => ?_) AllReadyH.nil)
    refine wp_append_run _ (.tmp 96) (.tmp 102) 41 41 rfl _ _ rfl rfl Hap.out ?_
    refine hK.out _ _ (hq5) (fun hHeld => ?_)
    clear hK K
    refine wpAnyH_take (i := 12) (v := ?v40) rfl (by kernel_rfl) (by kernel_rfl) (by kernel_rfl) (fun _ _ _ h => h) (Or.inl ⟨by rfl, ?y40⟩) hHeld ?r40
    case y40 => (intro w hSw; have q0 := hSw; unfold RW at q0; go_simp; try with_reducible rfl)
    simp only [List.getElem_toArray, List.getElem_cons_zero, List.getElem_cons_succ, Act.put, List.setIfInBounds_toArray, List.set_cons_zero, List.set_cons_succ]
    refine wpAnyH_take (i := 13) (v := ?v41) rfl (by kernel_rfl) (by kernel_rfl) (by kernel_rfl) (fun _ _ _ h => h) (Or.inl ⟨by rfl, ?y41⟩) hHeld ?r41
    case y41 => (intro w hSw; have q0 := hSw; unfold RW at q0; go_simp; try with_reducible rfl)
    simp only [List.getElem_toArray, List.getElem_cons_zero, List.getElem_cons_succ, Act.put, List.setIfInBounds_toArray, List.set_cons_zero, List.set_cons_succ]
    refine wpAnyH_ready (rs := [14]) (by kernel_rfl) (by simp) (AllReadyH.cons rfl (fun K hK => ?_) AllReadyH.nil)
    go_simp
    go_wp2_with fail
    refine hK.out _ _ (hq6) (fun hHeld => ?_)
    clear hK K
    refine wpAnyH_done (by kernel_rfl) ?_ _
    clear hHeld hqv hqA hq5 hq6 Hap z5 lop lod lwd f0 f1 f2 f3 f5 hw6
    have R6 := HR6.out
    clear HR6
    have lo6 := R6.bk.lt
    have lw6 := R6.row.lt
    have e6_3 := R6.bk.cell (i := 3) (v := .int .i64 (0)) rfl
    have z6_3 := R6.bk.frozen 3
    have R7 := (R6.put 3 (.int .i64 (1))).to (C' := (rc (.slice (some ⟨b, off, none⟩) ln cp) (.slice a5 (([] : List Int).length + 1) c5) (.slice none 0 0) tr 1 1 ((0 : Nat) : Int) (tr - left) bn 0 (p + 1))) rfl
    generalize hv7 : v6.setCell ⟨o, 3, none⟩ (.int .i64 (1)) = v7 at R7
    have lo7 := R7.bk.lt
    have lw7 := R7.row.lt
    have HR7 := Lib.hid R7
    clear R6 R7
    go_wp2
    go_end0
    exact (HR7.out.to (show _ = rfc (.slice (some ⟨b, off, none⟩) ln cp) (.slice a5 (([] : List Int).length + 1) c5) (.slice none 0 0) tr ⟨0, 0, 1, 0, left, (p + 1), bn, [v / 2]⟩ from by simp [rfc, rc]; try omega)).post hlen (fun _ => rows0 (tl := []) (by simp; omega) ⟨by simp, by simp⟩)
set_option maxRecDepth 100000 in
set_option maxHeartbeats 2000000 in
theorem rn_first_last (h : RnAt w o (some ⟨b, off, none⟩) ln cp V U SS tr ⟨0, 0, 0, nn, left, p, bn, []⟩) (hB : Row w wb ys) (hne : o ≠ wb) (hvw : V.ownBlock ≠ some wb) (huw : U.ownBlock ≠ some wb) (hw : NWf SS ⟨0, 0, 0, nn, left, p, bn, []⟩) (_t1 : left ≤ tr) (_t2 : tr ≤ 16) (p0 : 0 ≤ p) (p1 : p ≤ 1000000) (_hyl : ys.length ≤ 1000) (hv : getI ys (nxl SS ⟨0, 0, 0, nn, left, p, bn, []⟩) = some v) (hu : U64 v) (hl : 0 + 1 = ln) :
    Calls Try.prog 16 #[.pointer (some ⟨o, 0, none⟩), .slice (some ⟨wb, 0, none⟩) ys.length ys.length] w (RnPost o wb (some ⟨b, off, none⟩) ln cp V U SS tr ys ⟨0, 1, 0, 0, left, (p + 1), (p + 1), [v / 2]⟩ w) := by
  obtain ⟨gl, wl, hr, Q0⟩ := Rtg.start h hB hne hvw huw
  have Hrr := Lib.hid hr
  have R0 := Q0.to (C' := (rc (.slice (some ⟨b, off, none⟩) ln cp) V U tr 1 0 nn (tr - left) bn 0 p)) (by simp [rfc, rc])
  have hlen := h.len
  have hsp := hw.sp
  have hk0 := hw.k
  obtain ⟨b', off', heq, hbl, hjj⟩ := R0.sp 0 _ hsp
  clear hjj
  cases heq
  obtain ⟨S, hSe⟩ : ∃ S, nxs SS ⟨0, 0, 0, nn, left, p, bn, []⟩ = S := ⟨_, rfl⟩
  have hrt := hw.rts
  rw [hSe] at hsp hrt
  have hs64 := hw.s64
  rw [hlen] at hs64
  dsimp only at hk0 hsp
  have hkl : 0 < ln := by omega
  have hkl2 : (0 : Int) < ln := by omega
  have hq0 : 0 ≤ S.sq := by unfold Rt at hrt; omega
  have RA := R0.drew.alloc (.cells #[.int .i64 0, .int .i64 0, .int .i64 0, .int .i64 0, .int .i64 0] 96)
  have R1 := (R0.alloc (sb2 S)).drew
  have hM1 : Blk (w.alloc (sb2 S)).drew w.heap.size (spc5 S) := Blk.new w #[.int .i64 S.ow, .int .i64 S.sq, .int .i64 S.fs, .int .i64 S.wd, .int .i64 S.dp] 96
  have HQ0 := Lib.hid (RX.of R0.drew hsp)
  have HQ1 := Lib.hid (RX.of RA hsp)
  have HQ2 := Lib.hid (RX.of R1 hsp)
  have hM := Blk.new w.drew #[.int .i64 0, .int .i64 0, .int .i64 0, .int .i64 0, .int .i64 0] 96
  change Blk _ w.heap.size _ at hM
  have hM0 := hM.cell (i := 0) rfl
  have hM1c := hM.cell (i := 1) rfl
  have hM2 := hM.cell (i := 2) rfl
  have hM3 := hM.cell (i := 3) rfl
  have hM4 := hM.cell (i := 4) rfl
  have y0 := hM.frozen 0
  have y1 := hM.frozen 1
  have y2 := hM.frozen 2
  have y3 := hM.frozen 3
  have y4 := hM.frozen 4
  have lA := hM.lt
  have lo0 := R0.bk.lt
  have lw0 := R0.row.lt
  have e0_9 := R0.bk.cell (i := 9) (v := .int .i64 (0)) rfl
  unfold nxl at hv
  rw [if_neg (by dsimp only; omega), hSe] at hv
  obtain ⟨_, hv1⟩ := getI_some hv
  have hlt := lt_of_some hv1
  obtain ⟨i, hi⟩ := Int.eq_ofNat_of_zero_le hq0
  rw [hi, Int.toNat_natCast] at hv1 hlt
  have hlt2 : (i : Int) < ys.length := by omega
  have Hv1 := Lib.hid hv1
  have Hi := Lib.hid hi
  obtain ⟨u0, u1⟩ := hu
  have hdv : IntKind.u64.wrap (v.tdiv 2) = v / 2 := by rw [Int.tdiv_eq_ediv_of_nonneg u0, IntKind.wrap_u64]; omega
  have hm : ((0 : Int) == (ln : Int) - 1) = true := by simp; omega
  obtain ⟨ha0, hn0⟩ := hw.a0 rfl
  dsimp only at ha0 hn0
  subst hn0
  have Hgl : Hid (gl.length ≤ 64 ∨ 0 = 0) := Lib.hid (by
    by_cases q : 0 = 0
    · exact .inr q
    · refine .inl ?_
      rw [(hr (fun c => q c.2)).1]
      exact Nat.le_trans (List.length_take_le _ _) (by rw [hlen]; exact hs64))
  have HR1 := Lib.hid R1
  have HM1 := Lib.hid hM1
  clear R0 RA R1 hM1 hM Q0 h hB hvw huw hsp hr hv hv1 hw hSe hrt hlt hi ha0 hl
  go_enter Try.func16, Try.ntmps16
  go_wp2_with fail
  refine wp_region_held_drew (S := RX o b off cp ln 0 S) (by kernel_rfl) (HQ0.out) (fun hHeld => ?_)
  refine wpAnyH_take (i := 0) (v := ?v73) rfl (by kernel_rfl) (by kernel_rfl) (by kernel_rfl) (fun _ _ _ h => h) (Or.inl ⟨by rfl, ?y73⟩) hHeld ?r73
  case y73 => (intro w hSw; obtain ⟨⟨q0, q1⟩, q2, q3, q4, q5, q6⟩ := hSw; (try simp only [Nat.zero_mul, Nat.add_zero] at q2 q3 q4 q5 q6); go_simp; try with_reducible rfl)
  simp only [List.getElem_toArray, List.getElem_cons_zero, Act.put, List.setIfInBounds_toArray, List.set_cons_zero, List.set_cons_succ]
  refine wpAnyH_take (i := 1) (v := ?v74) rfl (by kernel_rfl) (by kernel_rfl) (by kernel_rfl) (fun _ _ _ h => h) (Or.inl ⟨by rfl, ?y74⟩) hHeld ?r74
  case y74 => (intro w hSw; obtain ⟨⟨q0, q1⟩, q2, q3, q4, q5, q6⟩ := hSw; (try simp only [Nat.zero_mul, Nat.add_zero] at q2 q3 q4 q5 q6); go_simp; try with_reducible rfl)
  simp only [List.getElem_toArray, List.getElem_cons_zero, List.getElem_cons_succ, Act.put, List.setIfInBounds_toArray, List.set_cons_zero, List.set_cons_succ]
  refine wpAnyH_take (i := 2) (v := ?v75) rfl (by kernel_rfl) (by kernel_rfl) (by kernel_rfl) (fun _ _ _ h => h) (Or.inl ⟨by rfl, ?y75⟩) hHeld ?r75
  case y75 => (intro w hSw; obtain ⟨⟨q0, q1⟩, q2, q3, q4, q5, q6⟩ := hSw; (try simp only [Nat.zero_mul, Nat.add_zero] at q2 q3 q4 q5 q6); go_simp; try with_reducible rfl)
  simp only [List.getElem_toArray, List.getElem_cons_zero, List.getElem_cons_succ, Act.put, List.setIfInBounds_toArray, List.set_cons_zero, List.set_cons_succ]
  refine wpAnyH_take (i := 3) (v := ?v76) rfl (by kernel_rfl) (by kernel_rfl) (by kernel_rfl) (fun _ _ _ h => h) (Or.inl ⟨by rfl, ?y76⟩) hHeld ?r76
  case y76 => (intro w hSw; obtain ⟨⟨q0, q1⟩, q2, q3, q4, q5, q6⟩ := hSw; (try simp only [Nat.zero_mul, Nat.add_zero] at q2 q3 q4 q5 q6); go_simp; try with_reducible rfl)
  simp only [List.getElem_toArray, List.getElem_cons_zero, List.getElem_cons_succ, Act.put, List.setIfInBounds_toArray, List.set_cons_zero, List.set_cons_succ]
  refine wpAnyH_take (i := 4) (v := ?v77) rfl (by kernel_rfl) (by kernel_rfl) (by kernel_rfl) (fun _ _ _ h => h) (Or.inl ⟨by rfl, ?y77⟩) hHeld ?r77
  case y77 => (intro w hSw; obtain ⟨⟨q0, q1⟩, q2, q3, q4, q5, q6⟩ := hSw; (try simp only [Nat.zero_mul, Nat.add_zero] at q2 q3 q4 q5 q6); go_simp; try with_reducible rfl)
  simp only [List.getElem_toArray, List.getElem_cons_zero, List.getElem_cons_succ, Act.put, List.setIfInBounds_toArray, List.set_cons_zero, List.set_cons_succ]
  refine wpAnyH_take (i := 5) (v := ?v78) rfl (by kernel_rfl) (by kernel_rfl) (by kernel_rfl) (fun _ _ _ h => h) (Or.inl ⟨by rfl, ?y78⟩) hHeld ?r78
  case y78 => (intro w hSw; obtain ⟨⟨q0, q1⟩, q2, q3, q4, q5, q6⟩ := hSw; (try simp only [Nat.zero_mul, Nat.add_zero] at q2 q3 q4 q5 q6); go_simp; try with_reducible rfl)
  simp only [List.getElem_toArray, List.getElem_cons_zero, List.getElem_cons_succ, Act.put, List.setIfInBounds_toArray, List.set_cons_zero, List.set_cons_succ]
  refine wpAnyH_take (i := 6) (v := ?v79) rfl (by kernel_rfl) (by kernel_rfl) (by kernel_rfl) (fun _ _ _ h => h) (Or.inl ⟨by rfl, ?y79⟩) hHeld ?r79
  case y79 => (intro w hSw; obtain ⟨⟨q0, q1⟩, q2, q3, q4, q5, q6⟩ := hSw; (try simp only [Nat.zero_mul, Nat.add_zero] at q2 q3 q4 q5 q6); go_simp; try with_reducible rfl)
  simp only [List.getElem_toArray, List.getElem_cons_zero, List.getElem_cons_succ, Act.put, List.setIfInBounds_toArray, List.set_cons_zero, List.set_cons_succ]
  refine wpAnyH_take (i := 7) (v := ?v80) rfl (by kernel_rfl) (by kernel_rfl) (by kernel_rfl) (fun _ _ _ h => h) (Or.inl ⟨by rfl, ?y80⟩) hHeld ?r80
  case y80 => (intro w hSw; obtain ⟨⟨q0, q1⟩, q2, q3, q4, q5, q6⟩ := hSw; (try simp only [Nat.zero_mul, Nat.add_zero] at q2 q3 q4 q5 q6); go_simp; try with_reducible rfl)
  simp only [List.getElem_toArray, List.getElem_cons_zero, List.getElem_cons_succ, Act.put, List.setIfInBounds_toArray, List.set_cons_zero, List.set_cons_succ]
  refine wpAnyH_take (i := 8) (v := ?v81) rfl (by kernel_rfl) (by kernel_rfl) (by kernel_rfl) (fun _ _ _ h => h) (Or.inl ⟨by rfl, ?y81⟩) hHeld ?r81
  case y81 => (intro w hSw; obtain ⟨⟨q0, q1⟩, q2, q3, q4, q5, q6⟩ := hSw; (try simp only [Nat.zero_mul, Nat.add_zero] at q2 q3 q4 q5 q6); go_simp; try with_reducible rfl)
  simp only [List.getElem_toArray, List.getElem_cons_zero, List.getElem_cons_succ, Act.put, List.setIfInBounds_toArray, List.set_cons_zero, List.set_cons_succ]
  refine wpAnyH_take (i := 9) (v := ?v82) rfl (by kernel_rfl) (by kernel_rfl) (by kernel_rfl) (fun _ _ _ h => h) (Or.inl ⟨by rfl, ?y82⟩) hHeld ?r82
  case y82 => (intro w hSw; obtain ⟨⟨q0, q1⟩, q2, q3, q4, q5, q6⟩ := hSw; (try simp only [Nat.zero_mul, Nat.add_zero] at q2 q3 q4 q5 q6); go_simp; try with_reducible rfl)
  simp only [List.getElem_toArray, List.getElem_cons_zero, List.getElem_cons_succ, Act.put, List.setIfInBounds_toArray, List.set_cons_zero, List.set_cons_succ]
  refine wpAnyH_ready (rs := [10]) (by kernel_rfl) (by simp) (AllReadyH.cons rfl (fun K hK => ?_) AllReadyH.nil)
  go_simp
  skip
  refine hK.out _ _ (HQ1.out) (fun hHeld => ?_)
  clear hK K
  refine wpAnyH_ready (rs := [11]) (by kernel_rfl) (by simp) (AllReadyH.cons rfl (fun K hK => ?_) AllReadyH.nil)
  go_simp
  skip
  refine hK.out _ _ (HQ2.out) (fun hHeld => ?_)
  clear hK K
  refine wpAnyH_done (by kernel_rfl) ?_ _
  clear hHeld HQ0 HQ1 HQ2 hM0 hM1c hM2 hM3 hM4 y0 y1 y2 y3 y4 lA lo0 lw0 e0_9
  have R1 := HR1.out
  have hM1 := HM1.out
  clear HR1 HM1
  generalize hv1 : (w.alloc (sb2 S)).drew = v1 at R1 hM1 ⊢
  have lo1 := R1.bk.lt
  have lw1 := R1.row.lt
  have d1 := hM1.cell (i := 1) rfl
  have lm1 := hM1.lt
  rw [Hi.out] at d1
  have e1_2 := R1.bk.cell (i := 2) (v := .int .i64 (1)) rfl
  have e1_10 := R1.bk.cell (i := 10) (v := .int .i64 (p)) rfl
  have z1_10 := R1.bk.frozen 10
  have R2 := (R1.put 10 (.int .i64 ((p + 1)))).to (C' := (rc (.slice (some ⟨b, off, none⟩) ln cp) V U tr 1 0 ((0 : Nat) : Int) (tr - left) bn 0 (p + 1))) rfl
  generalize hv2 : v1.setCell ⟨o, 10, none⟩ (.int .i64 ((p + 1))) = v2 at R2
  have lo2 := R2.bk.lt
  have lw2 := R2.row.lt
  have HRq := Lib.hid (fun q => R2.drewN q)
  have e2_0 := R2.bk.cell (i := 0) (v := .slice (some ⟨b, off, none⟩) ln cp) rfl
  have e2_3 := R2.bk.cell (i := 3) (v := .int .i64 (0)) rfl
  clear R1 R2 hM1 hv1
  go_wp2_with fail
  go_quiet (fail)
  have R3 := HRq.out nq
  clear HRq hv2 d1 lm1 lo1 lw1 lo2 lw2 e1_2 e1_10 z1_10 e2_0 e2_3
  generalize v2.drewN nq = v3 at R3 ⊢
  have lo3 := R3.bk.lt
  have lw3 := R3.row.lt
  have e3_2 := R3.bk.cell (i := 2) (v := .int .i64 (1)) rfl
  have e3_3 := R3.bk.cell (i := 3) (v := .int .i64 (0)) rfl
  have e3_6 := R3.bk.cell (i := 6) (v := V) rfl
  have z3_6 := R3.bk.frozen 6
  have R3 := R3.nilV.nilU
  have R4 := (R3.put 6 ((.slice none 0 0))).to (C' := (rc (.slice (some ⟨b, off, none⟩) ln cp) (.slice none 0 0) U tr 1 0 ((0 : Nat) : Int) (tr - left) bn 0 (p + 1))) rfl
  generalize hv4 : v3.setCell ⟨o, 6, none⟩ ((.slice none 0 0)) = v4 at R4
  have e4_7 := R4.bk.cell (i := 7) (v := U) rfl
  have z4_7 := R4.bk.frozen 7
  have lo4 := R4.bk.lt
  have lw4 := R4.row.lt
  have R5 := (R4.put 7 ((.slice none 0 0))).to (C' := (rc (.slice (some ⟨b, off, none⟩) ln cp) (.slice none 0 0) (.slice none 0 0) tr 1 0 ((0 : Nat) : Int) (tr - left) bn 0 (p + 1))) rfl
  generalize hv5 : v4.setCell ⟨o, 7, none⟩ ((.slice none 0 0)) = v5 at R5
  have lo5 := R5.bk.lt
  have lw5 := R5.row.lt
  have hglr : ([] : List Int).length ≤ 100000 := by simp
  have hbl2 : b < v5.drew.heap.size := by have := R5.up.size; have e2 : v5.drew.heap.size = v5.heap.size := rfl; omega
  obtain ⟨a5, c5, Wp, hr5, Rp⟩ := R5.drew.appV hglr hbl2 (v / 2)
  have Hap := Lib.hid hr5
  have hqv : RW wb i v v5.drew := R5.drew.row.cell Hv1.out
  have lod := R5.drew.bk.lt
  have lwd := R5.drew.row.lt
  have RA := R5.drew.alloc (.cells #[.int .u64 (v / 2)] 42)
  have RB := R5.alloc (.cells #[.int .u64 (v / 2)] 42)
  have hqA : RW wb i v (v5.drew.alloc (.cells #[.int .u64 (v / 2)] 42)) := RA.row.cell Hv1.out
  have f0 := R5.bk.cell (i := 6) rfl
  have f1 := R5.drew.bk.cell (i := 6) rfl
  have f2 := RA.bk.cell (i := 6) rfl
  have f3 := RB.bk.cell (i := 6) rfl
  have hq5 : RW wb i v Wp := Rp.row.cell Hv1.out
  have f5 := Rp.bk.cell (i := 6) rfl
  have z5 := Rp.bk.frozen 6
  have lop := Rp.bk.lt
  have R6 := (Rp.put 6 (.slice a5 (([] : List Int).length + 1) c5)).to (C' := (rc (.slice (some ⟨b, off, none⟩) ln cp) (.slice a5 (([] : List Int).length + 1) c5) (.slice none 0 0) tr 1 0 ((0 : Nat) : Int) (tr - left) bn 0 (p + 1))) rfl
  generalize hw6 : Wp.setCell ⟨o, 6, none⟩ (.slice a5 (([] : List Int).length + 1) c5) = v6 at R6
  have hq6 : RW wb i v v6 := R6.row.cell Hv1.out
  have HR6 := Lib.hid R6
  have HL := Lib.hid hglr
  clear R3 R4 R5 Rp RA RB R6 hr5 hglr hbl2 
  simp only [List.length_nil, Nat.zero_add] at Hap hw6 HR6
  go_wp2_with fail
  refine wp_region_held_drew (S := RW wb i v) (by kernel_rfl) (hqv) (fun hHeld => ?_)
  refine wpAnyH_take (i := 0) (v := ?v55) rfl (by kernel_rfl) (by kernel_rfl) (by kernel_rfl) (fun _ _ _ h => h) (Or.inl ⟨by rfl, ?y55⟩) hHeld ?r55
  case y55 => (intro w hSw; have q0 := hSw; unfold RW at q0; go_simp; try with_reducible rfl)
  simp only [List.getElem_toArray, List.getElem_cons_zero, Act.put, List.setIfInBounds_toArray, List.set_cons_zero, List.set_cons_succ]
  refine wpAnyH_take (i := 1) (v := ?v56) rfl (by kernel_rfl) (by kernel_rfl) (by kernel_rfl) (fun _ _ _ h => h) (Or.inl ⟨by rfl, ?y56⟩) hHeld ?r56
  case y56 => (intro w hSw; have q0 := hSw; unfold RW at q0; go_simp; try with_reducible rfl)
  simp only [List.getElem_toArray, List.getElem_cons_zero, List.getElem_cons_succ, Act.put, List.setIfInBounds_toArray, List.set_cons_zero, List.set_cons_succ]
  refine wpAnyH_take (i := 2) (v := ?v57) rfl (by kernel_rfl) (by kernel_rfl) (by kernel_rfl) (fun _ _ _ h => h) (Or.inl ⟨by rfl, ?y57⟩) hHeld ?r57
  case y57 => (intro w hSw; have q0 := hSw; unfold RW at q0; go_simp; try with_reducible rfl)
  simp only [List.getElem_toArray, List.getElem_cons_zero, List.getElem_cons_succ, Act.put, List.setIfInBounds_toArray, List.set_cons_zero, List.set_cons_succ]
  refine wpAnyH_take (i := 3) (v := ?v58) rfl (by kernel_rfl) (by kernel_rfl) (by kernel_rfl) (fun _ _ _ h => h) (Or.inl ⟨by rfl, ?y58⟩) hHeld ?r58
  case y58 => (intro w hSw; have q0 := hSw; unfold RW at q0; go_simp; try with_reducible rfl)
  simp only [List.getElem_toArray, List.getElem_cons_zero, List.getElem_cons_succ, Act.put, List.setIfInBounds_toArray, List.set_cons_zero, List.set_cons_succ]
  refine wpAnyH_take (i := 5) (v := ?v59) rfl (by kernel_rfl) (by kernel_rfl) (by kernel_rfl) (fun _ _ _ h => h) (Or.inl ⟨by rfl, ?y59⟩) hHeld ?r59
  case y59 => (intro w hSw; have q0 := hSw; unfold RW at q0; go_simp; try with_reducible rfl)
  simp only [List.getElem_toArray, List.getElem_cons_zero, List.getElem_cons_succ, Act.put, List.setIfInBounds_toArray, List.set_cons_zero, List.set_cons_succ]
  refine wpAnyH_take (i := 6) (v := ?v60) rfl (by kernel_rfl) (by kernel_rfl) (by kernel_rfl) (fun _ _ _ h => h) (Or.inl ⟨by rfl, ?y60⟩) hHeld ?r60
  case y60 => (intro w hSw; have q0 := hSw; unfold RW at q0; go_simp; try with_reducible rfl)
  simp only [List.getElem_toArray, List.getElem_cons_zero, List.getElem_cons_succ, Act.put, List.setIfInBounds_toArray, List.set_cons_zero, List.set_cons_succ]
  refine wpAnyH_take (i := 7) (v := ?v61) rfl (by kernel_rfl) (by kernel_rfl) (by kernel_rfl) (fun _ _ _ h => h) (Or.inl ⟨by rfl, ?y61⟩) hHeld ?r61
  case y61 => (intro w hSw; have q0 := hSw; unfold RW at q0; go_simp; try with_reducible rfl)
  simp only [List.getElem_toArray, List.getElem_cons_zero, List.getElem_cons_succ, Act.put, List.setIfInBounds_toArray, List.set_cons_zero, List.set_cons_succ]
  refine wpAnyH_take (i := 8) (v := ?v62) rfl (by kernel_rfl) (by kernel_rfl) (by kernel_rfl) (fun _ _ _ h => h) (Or.inl ⟨by rfl, ?y62⟩) hHeld ?r62
  case y62 => (intro w hSw; have q0 := hSw; unfold RW at q0; go_simp; try with_reducible rfl)
  simp only [List.getElem_toArray, List.getElem_cons_zero, List.getElem_cons_succ, Act.put, List.setIfInBounds_toArray, List.set_cons_zero, List.set_cons_succ]
  refine wpAnyH_take (i := 9) (v := (.int .u64 (v / 2))) rfl (by kernel_rfl) (by kernel_rfl) (by kernel_rfl) (fun _ _ _ h => h) (Or.inl ⟨by rfl, ?y63⟩) hHeld ?r63
  case y63 => (intro w hSw; have q0 := hSw; unfold RW at q0; go_simp; try with_reducible rfl)
  simp only [List.getElem_toArray, List.getElem_cons_zero, List.getElem_cons_succ, Act.put, List.setIfInBounds_toArray, List.set_cons_zero, List.set_cons_succ]
  refine wpAnyH_ready (rs := [4, 10]) (by kernel_rfl) (by simp) (AllReadyH.cons rfl (fun K hK => ?_) (AllReadyH.cons rfl (fun K hK => ?_) AllReadyH.nil))
  · go_simp
    refine hK.out _ _ (hqv) (fun hHeld => ?_)
    clear hK K
    refine wpAnyH_ready (rs := [10]) (by kernel_rfl) (by simp) (AllReadyH.cons rfl (fun K hK => ?_) AllReadyH.nil)
    go_simp
    refine hK.out _ _ (hqA) (fun hHeld => ?_)
    clear hK K
    refine wpAnyH_ready (rs := [11]) (by kernel_rfl) (by simp) (AllReadyH.cons rfl (fun K hK => ?_) AllReadyH.nil)
    refine wp_append_run _ (.tmp 96) (.tmp 102) 41 41 rfl _ _ rfl rfl Hap.out ?_
    refine hK.out _ _ (hq5) (fun hHeld => ?_)
    clear hK K
    refine wpAnyH_take (i := 12) (v := ?v66) rfl (by kernel_rfl) (by kernel_rfl) (by kernel_rfl) (fun _ _ _ h => h) (Or.inl ⟨by rfl, ?y66⟩) hHeld ?r66
    case y66 => (intro w hSw; have q0 := hSw; unfold RW at q0; go_simp; try with_reducible rfl)
    simp only [List.getElem_toArray, List.getElem_cons_zero, List.getElem_cons_succ, Act.put, List.setIfInBounds_toArray, List.set_cons_zero, List.set_cons_succ]
    refine wpAnyH_take (i := 13) (v := ?v67) rfl (by kernel_rfl) (by kernel_rfl) (by kernel_rfl) (fun _ _ _ h => h) (Or.inl ⟨by rfl, ?y67⟩) hHeld ?r67
    case y67 => (intro w hSw; have q0 := hSw; unfold RW at q0; go_simp; try with_reducible rfl)
    simp only [List.getElem_toArray, List.getElem_cons_zero, List.getElem_cons_succ, Act.put, List.setIfInBounds_toArray, List.set_cons_zero, List.set_cons_succ]
    refine wpAnyH_ready (rs := [14]) (by kernel_rfl) (by simp) (AllReadyH.cons rfl (fun K hK => ?_) AllReadyH.nil)
    go_simp
    go_wp2_with fail
    refine hK.out _ _ (hq6) (fun hHeld => ?_)
    clear hK K
    refine wpAnyH_done (by kernel_rfl) ?_ _
    clear hHeld hqv hqA hq5 hq6 Hap z5 lop lod lwd f0 f1 f2 f3 f5 hw6
    have R6 := HR6.out
    clear HR6
    have lo6 := R6.bk.lt
    have lw6 := R6.row.lt
    have e6_3 := R6.bk.cell (i := 3) (v := .int .i64 (0)) rfl
    have z6_3 := R6.bk.frozen 3
    have R7 := (R6.put 3 (.int .i64 (1))).to (C' := (rc (.slice (some ⟨b, off, none⟩) ln cp) (.slice a5 (([] : List Int).length + 1) c5) (.slice none 0 0) tr 1 1 ((0 : Nat) : Int) (tr - left) bn 0 (p + 1))) rfl
    generalize hv7 : v6.setCell ⟨o, 3, none⟩ (.int .i64 (1)) = v7 at R7
    have lo7 := R7.bk.lt
    have lw7 := R7.row.lt
    have e7_10 := R7.bk.cell (i := 10) (v := .int .i64 ((p + 1))) rfl
    have e7_8 := R7.bk.cell (i := 8) (v := .int .i64 (bn)) rfl
    have z7_8 := R7.bk.frozen 8
    have R8 := (R7.put 8 (.int .i64 ((p + 1)))).to (C' := (rc (.slice (some ⟨b, off, none⟩) ln cp) (.slice a5 (([] : List Int).length + 1) c5) (.slice none 0 0) tr 1 1 ((0 : Nat) : Int) (tr - left) (p + 1) 0 (p + 1))) rfl
    generalize hv8 : v7.setCell ⟨o, 8, none⟩ (.int .i64 ((p + 1))) = v8 at R8
    have lo8 := R8.bk.lt
    have lw8 := R8.row.lt
    have e8_2 := R8.bk.cell (i := 2) (v := .int .i64 (1)) rfl
    have z8_2 := R8.bk.frozen 2
    have R9 := (R8.put 2 (.int .i64 (2))).to (C' := (rc (.slice (some ⟨b, off, none⟩) ln cp) (.slice a5 (([] : List Int).length + 1) c5) (.slice none 0 0) tr 2 1 ((0 : Nat) : Int) (tr - left) (p + 1) 0 (p + 1))) rfl
    generalize hv9 : v8.setCell ⟨o, 2, none⟩ (.int .i64 (2)) = v9 at R9
    have lo9 := R9.bk.lt
    have lw9 := R9.row.lt
    have e9_3 := R9.bk.cell (i := 3) (v := .int .i64 (1)) rfl
    have z9_3 := R9.bk.frozen 3
    have R10 := (R9.put 3 (.int .i64 (0))).to (C' := (rc (.slice (some ⟨b, off, none⟩) ln cp) (.slice a5 (([] : List Int).length + 1) c5) (.slice none 0 0) tr 2 0 ((0 : Nat) : Int) (tr - left) (p + 1) 0 (p + 1))) rfl
    generalize hv10 : v9.setCell ⟨o, 3, none⟩ (.int .i64 (0)) = v10 at R10
    have lo10 := R10.bk.lt
    have lw10 := R10.row.lt
    have e10_4 := R10.bk.cell (i := 4) (v := .int .i64 (((0 : Nat) : Int))) rfl
    have z10_4 := R10.bk.frozen 4
    have R11 := (R10.put 4 (.int .i64 (0))).to (C' := (rc (.slice (some ⟨b, off, none⟩) ln cp) (.slice a5 (([] : List Int).length + 1) c5) (.slice none 0 0) tr 2 0 0 (tr - left) (p + 1) 0 (p + 1))) rfl
    generalize hv11 : v10.setCell ⟨o, 4, none⟩ (.int .i64 (0)) = v11 at R11
    have HR11 := Lib.hid R11
    clear R6 R7 R8 R9 R10 R11
    go_wp2
    go_end0
    exact (HR11.out.to (show _ = rfc (.slice (some ⟨b, off, none⟩) ln cp) (.slice a5 (([] : List Int).length + 1) c5) (.slice none 0 0) tr ⟨0, 1, 0, 0, left, (p + 1), (p + 1), [v / 2]⟩ from by simp [rfc, rc]; try omega)).post hlen (fun _ => rows0 (tl := []) (by simp; omega) ⟨by simp, by simp⟩)
  · go_simp
    refine hK.out _ _ (hqA) (fun hHeld => ?_)
    clear hK K
    refine wpAnyH_ready (rs := [4]) (by kernel_rfl) (by simp) (AllReadyH.cons rfl (fun K hK => ?_) AllReadyH.nil)
    go_simp
    refine hK.out _ _ (hqA) (fun hHeld => ?_)
    clear hK K
    refine wpAnyH_ready (rs := [11]) (by kernel_rfl) (by simp) (AllReadyH.cons rfl (fun K hK => ?_) AllReadyH.nil)
    refine wp_append_run _ (.tmp 96) (.tmp 102) 41 41 rfl _ _ rfl rfl Hap.out ?_
    refine hK.out _ _ (hq5) (fun hHeld => ?_)
    clear hK K
    refine wpAnyH_take (i := 12) (v := ?v70) rfl (by kernel_rfl) (by kernel_rfl) (by kernel_rfl) (fun _ _ _ h => h) (Or.inl ⟨by rfl, ?y70⟩) hHeld ?r70
    case y70 => (intro w hSw; have q0 := hSw; unfold RW at q0; go_simp; try with_reducible rfl)
    simp only [List.getElem_toArray, List.getElem_cons_zero, List.getElem_cons_succ, Act.put, List.setIfInBounds_toArray, List.set_cons_zero, List.set_cons_succ]
    refine wpAnyH_take (i := 13) (v := ?v71) rfl (by kernel_rfl) (by kernel_rfl) (by kernel_rfl) (fun _ _ _ h => h) (Or.inl ⟨by rfl, ?y71⟩) hHeld ?r71
    case y71 => (intro w hSw; have q0 := hSw; unfold RW at q0; go_simp; try with_reducible rfl)
    simp only [List.getElem_toArray, List.getElem_cons_zero, List.getElem_cons_succ, Act.put, List.setIfInBounds_toArray, List.set_cons_zero, List.set_cons_succ]
    refine wpAnyH_ready (rs := [14]) (by kernel_rfl) (by simp) (AllReadyH.cons rfl (fun K hK => ?_) AllReadyH.nil)
    go_simp
    go_wp2_with fail
    refine hK.out _ _ (hq6) (fun hHeld => ?_)
    clear hK K
    refine wpAnyH_done (by kernel_rfl) ?_ _
    clear hHeld hqv hqA hq5 hq6 Hap z5 lop lod lwd f0 f1 f2 f3 f5 hw6
    have R6 := HR6.out
    clear HR6
    have lo6 := R6.bk.lt
    have lw6 := R6.row.lt
    have e6_3 := R6.bk.cell (i := 3) (v := .int .i64 (0)) rfl
    have z6_3 := R6.bk.frozen 3
    have R7 := (R6.put 3 (.int .i64 (1))).to (C' := (rc (.slice (some ⟨b, off, none⟩) ln cp) (.slice a5 (([] : List Int).length + 1) c5) (.slice none 0 0) tr 1 1 ((0 : Nat) : Int) (tr - left) bn 0 (p + 1))) rfl
    generalize hv7 : v6.setCell ⟨o, 3, none⟩ (.int .i64 (1)) = v7 at R7
    have lo7 := R7.bk.lt
    have lw7 := R7.row.lt
    have e7_10 := R7.bk.cell (i := 10) (v := .int .i64 ((p + 1))) rfl
    have e7_8 := R7.bk.cell (i := 8) (v := .int .i64 (bn)) rfl
    have z7_8 := R7.bk.frozen 8
    have R8 := (R7.put 8 (.int .i64 ((p + 1)))).to (C' := (rc (.slice (some ⟨b, off, none⟩) ln cp) (.slice a5 (([] : List Int).length + 1) c5) (.slice none 0 0) tr 1 1 ((0 : Nat) : Int) (tr - left) (p + 1) 0 (p + 1))) rfl
    generalize hv8 : v7.setCell ⟨o, 8, none⟩ (.int .i64 ((p + 1))) = v8 at R8
    have lo8 := R8.bk.lt
    have lw8 := R8.row.lt
    have e8_2 := R8.bk.cell (i := 2) (v := .int .i64 (1)) rfl
    have z8_2 := R8.bk.frozen 2
    have R9 := (R8.put 2 (.int .i64 (2))).to (C' := (rc (.slice (some ⟨b, off, none⟩) ln cp) (.slice a5 (([] : List Int).length + 1) c5) (.slice none 0 0) tr 2 1 ((0 : Nat) : Int) (tr - left) (p + 1) 0 (p + 1))) rfl
    generalize hv9 : v8.setCell ⟨o, 2, none⟩ (.int .i64 (2)) = v9 at R9
    have lo9 := R9.bk.lt
    have lw9 := R9.row.lt
    have e9_3 := R9.bk.cell (i := 3) (v := .int .i64 (1)) rfl
    have z9_3 := R9.bk.frozen 3
    have R10 := (R9.put 3 (.int .i64 (0))).to (C' := (rc (.slice (some ⟨b, off, none⟩) ln cp) (.slice a5 (([] : List Int).length + 1) c5) (.slice none 0 0) tr 2 0 ((0 : Nat) : Int) (tr - left) (p + 1) 0 (p + 1))) rfl
    generalize hv10 : v9.setCell ⟨o, 3, none⟩ (.int .i64 (0)) = v10 at R10
    have lo10 := R10.bk.lt
    have lw10 := R10.row.lt
    have e10_4 := R10.bk.cell (i := 4) (v := .int .i64 (((0 : Nat) : Int))) rfl
    have z10_4 := R10.bk.frozen 4
    have R11 := (R10.put 4 (.int .i64 (0))).to (C' := (rc (.slice (some ⟨b, off, none⟩) ln cp) (.slice a5 (([] : List Int).length + 1) c5) (.slice none 0 0) tr 2 0 0 (tr - left) (p + 1) 0 (p + 1))) rfl
    generalize hv11 : v10.setCell ⟨o, 4, none⟩ (.int .i64 (0)) = v11 at R11
    have HR11 := Lib.hid R11
    clear R6 R7 R8 R9 R10 R11
    go_wp2
    go_end0
    exact (HR11.out.to (show _ = rfc (.slice (some ⟨b, off, none⟩) ln cp) (.slice a5 (([] : List Int).length + 1) c5) (.slice none 0 0) tr ⟨0, 1, 0, 0, left, (p + 1), (p + 1), [v / 2]⟩ from by simp [rfc, rc]; try omega)).post hlen (fun _ => rows0 (tl := []) (by simp; omega) ⟨by simp, by simp⟩)
end
end Go.Proofs.Ytflgggfomhifeaa
/- The document's step: the first line, later spots. -/
namespace Go.Proofs.Ytflgggfomhifeaa
open Go.RowKit

section
variable {w : World} {o wb b off ln cp k nn : Nat} {V U : Value} {SS : List Sp} {tr left p bn v : Int} {tl ys : List Int}
set_option maxRecDepth 100000 in
set_option maxHeartbeats 2000000 in
theorem rn_later (h : RnAt w o (some ⟨b, off, none⟩) ln cp V U SS tr ⟨0, 0, k, nn, left, p, bn, tl⟩) (hB : Row w wb ys) (hne : o ≠ wb) (hvw : V.ownBlock ≠ some wb) (huw : U.ownBlock ≠ some wb) (hw : NWf SS ⟨0, 0, k, nn, left, p, bn, tl⟩) (_t1 : left ≤ tr) (_t2 : tr ≤ 16) (p0 : 0 ≤ p) (p1 : p ≤ 1000000) (_hyl : ys.length ≤ 1000) (hv : getI ys (nxl SS ⟨0, 0, k, nn, left, p, bn, tl⟩) = some v) (hu : U64 v) (hl : ¬ k + 1 = ln) (hk : ¬ k = 0) :
    Calls Try.prog 16 #[.pointer (some ⟨o, 0, none⟩), .slice (some ⟨wb, 0, none⟩) ys.length ys.length] w (RnPost o wb (some ⟨b, off, none⟩) ln cp V U SS tr ys ⟨0, 0, (k + 1), 0, left, (p + 1), bn, (tl ++ [v / 2])⟩ w) := by
  obtain ⟨gl, wl, hr, Q0⟩ := Rtg.start h hB hne hvw huw
  have Hrr := Lib.hid hr
  have R0 := Q0.to (C' := (rc (.slice (some ⟨b, off, none⟩) ln cp) V U tr 1 k nn (tr - left) bn 0 p)) (by simp [rfc, rc])
  have hlen := h.len
  have hsp := hw.sp
  have hk0 := hw.k
  obtain ⟨b', off', heq, hbl, hjj⟩ := R0.sp k _ hsp
  clear hjj
  cases heq
  obtain ⟨S, hSe⟩ : ∃ S, nxs SS ⟨0, 0, k, nn, left, p, bn, tl⟩ = S := ⟨_, rfl⟩
  have hrt := hw.rts
  rw [hSe] at hsp hrt
  have hs64 := hw.s64
  rw [hlen] at hs64
  dsimp only at hk0 hsp
  have hkl : k < ln := by omega
  have hkl2 : (k : Int) < ln := by omega
  have hq0 : 0 ≤ S.sq := by unfold Rt at hrt; omega
  have RA := R0.drew.alloc (.cells #[.int .i64 0, .int .i64 0, .int .i64 0, .int .i64 0, .int .i64 0] 96)
  have R1 := (R0.alloc (sb2 S)).drew
  have hM1 : Blk (w.alloc (sb2 S)).drew w.heap.size (spc5 S) := Blk.new w #[.int .i64 S.ow, .int .i64 S.sq, .int .i64 S.fs, .int .i64 S.wd, .int .i64 S.dp] 96
  have HQ0 := Lib.hid (RX.of R0.drew hsp)
  have HQ1 := Lib.hid (RX.of RA hsp)
  have HQ2 := Lib.hid (RX.of R1 hsp)
  have hM := Blk.new w.drew #[.int .i64 0, .int .i64 0, .int .i64 0, .int .i64 0, .int .i64 0] 96
  change Blk _ w.heap.size _ at hM
  have hM0 := hM.cell (i := 0) rfl
  have hM1c := hM.cell (i := 1) rfl
  have hM2 := hM.cell (i := 2) rfl
  have hM3 := hM.cell (i := 3) rfl
  have hM4 := hM.cell (i := 4) rfl
  have y0 := hM.frozen 0
  have y1 := hM.frozen 1
  have y2 := hM.frozen 2
  have y3 := hM.frozen 3
  have y4 := hM.frozen 4
  have lA := hM.lt
  have lo0 := R0.bk.lt
  have lw0 := R0.row.lt
  have e0_9 := R0.bk.cell (i := 9) (v := .int .i64 (0)) rfl
  unfold nxl at hv
  rw [if_neg (by dsimp only; omega), hSe] at hv
  obtain ⟨_, hv1⟩ := getI_some hv
  have hlt := lt_of_some hv1
  obtain ⟨i, hi⟩ := Int.eq_ofNat_of_zero_le hq0
  rw [hi, Int.toNat_natCast] at hv1 hlt
  have hlt2 : (i : Int) < ys.length := by omega
  have Hv1 := Lib.hid hv1
  have Hi := Lib.hid hi
  obtain ⟨u0, u1⟩ := hu
  have hdv : IntKind.u64.wrap (v.tdiv 2) = v / 2 := by rw [Int.tdiv_eq_ediv_of_nonneg u0, IntKind.wrap_u64]; omega
  have hm : ((k : Int) == (ln : Int) - 1) = false := by simp; omega
  obtain ⟨ha0, hn0⟩ := hw.a0 rfl
  dsimp only at ha0 hn0
  subst hn0
  have Hgl : Hid (gl.length ≤ 64 ∨ k = 0) := Lib.hid (by
    by_cases q : k = 0
    · exact .inr q
    · refine .inl ?_
      rw [(hr (fun c => q c.2)).1]
      exact Nat.le_trans (List.length_take_le _ _) (by rw [hlen]; exact hs64))
  have Hlt := Lib.hid (show tl.length < SS.length by omega)
  have hk1 : ¬ (k : Int) = 0 := by omega
  have Hr := Lib.hid (hr (fun c => by have := c.2; dsimp only at this; omega))
  have HR1 := Lib.hid R1
  have HM1 := Lib.hid hM1
  clear R0 RA R1 hM1 hM Q0 h hB hvw huw hsp hr hv hv1 hw hSe hrt hlt hi ha0 hl
  go_enter Try.func16, Try.ntmps16
  go_wp2_with fail
  refine wp_region_held_drew (S := RX o b off cp ln k S) (by kernel_rfl) (HQ0.out) (fun hHeld => ?_)
  refine wpAnyH_take (i := 0) (v := ?v103) rfl (by kernel_rfl) (by kernel_rfl) (by kernel_rfl) (fun _ _ _ h => h) (Or.inl ⟨by rfl, ?y103⟩) hHeld ?r103
  case y103 => (intro w hSw; obtain ⟨⟨q0, q1⟩, q2, q3, q4, q5, q6⟩ := hSw; (try simp only [Nat.zero_mul, Nat.add_zero] at q2 q3 q4 q5 q6); go_simp; try with_reducible rfl)
  simp only [List.getElem_toArray, List.getElem_cons_zero, Act.put, List.setIfInBounds_toArray, List.set_cons_zero, List.set_cons_succ]
  refine wpAnyH_take (i := 1) (v := ?v104) rfl (by kernel_rfl) (by kernel_rfl) (by kernel_rfl) (fun _ _ _ h => h) (Or.inl ⟨by rfl, ?y104⟩) hHeld ?r104
  case y104 => (intro w hSw; obtain ⟨⟨q0, q1⟩, q2, q3, q4, q5, q6⟩ := hSw; (try simp only [Nat.zero_mul, Nat.add_zero] at q2 q3 q4 q5 q6); go_simp; try with_reducible rfl)
  simp only [List.getElem_toArray, List.getElem_cons_zero, List.getElem_cons_succ, Act.put, List.setIfInBounds_toArray, List.set_cons_zero, List.set_cons_succ]
  refine wpAnyH_take (i := 2) (v := ?v105) rfl (by kernel_rfl) (by kernel_rfl) (by kernel_rfl) (fun _ _ _ h => h) (Or.inl ⟨by rfl, ?y105⟩) hHeld ?r105
  case y105 => (intro w hSw; obtain ⟨⟨q0, q1⟩, q2, q3, q4, q5, q6⟩ := hSw; (try simp only [Nat.zero_mul, Nat.add_zero] at q2 q3 q4 q5 q6); go_simp; try with_reducible rfl)
  simp only [List.getElem_toArray, List.getElem_cons_zero, List.getElem_cons_succ, Act.put, List.setIfInBounds_toArray, List.set_cons_zero, List.set_cons_succ]
  refine wpAnyH_take (i := 3) (v := ?v106) rfl (by kernel_rfl) (by kernel_rfl) (by kernel_rfl) (fun _ _ _ h => h) (Or.inl ⟨by rfl, ?y106⟩) hHeld ?r106
  case y106 => (intro w hSw; obtain ⟨⟨q0, q1⟩, q2, q3, q4, q5, q6⟩ := hSw; (try simp only [Nat.zero_mul, Nat.add_zero] at q2 q3 q4 q5 q6); go_simp; try with_reducible rfl)
  simp only [List.getElem_toArray, List.getElem_cons_zero, List.getElem_cons_succ, Act.put, List.setIfInBounds_toArray, List.set_cons_zero, List.set_cons_succ]
  refine wpAnyH_take (i := 4) (v := ?v107) rfl (by kernel_rfl) (by kernel_rfl) (by kernel_rfl) (fun _ _ _ h => h) (Or.inl ⟨by rfl, ?y107⟩) hHeld ?r107
  case y107 => (intro w hSw; obtain ⟨⟨q0, q1⟩, q2, q3, q4, q5, q6⟩ := hSw; (try simp only [Nat.zero_mul, Nat.add_zero] at q2 q3 q4 q5 q6); go_simp; try with_reducible rfl)
  simp only [List.getElem_toArray, List.getElem_cons_zero, List.getElem_cons_succ, Act.put, List.setIfInBounds_toArray, List.set_cons_zero, List.set_cons_succ]
  refine wpAnyH_take (i := 5) (v := ?v108) rfl (by kernel_rfl) (by kernel_rfl) (by kernel_rfl) (fun _ _ _ h => h) (Or.inl ⟨by rfl, ?y108⟩) hHeld ?r108
  case y108 => (intro w hSw; obtain ⟨⟨q0, q1⟩, q2, q3, q4, q5, q6⟩ := hSw; (try simp only [Nat.zero_mul, Nat.add_zero] at q2 q3 q4 q5 q6); go_simp; try with_reducible rfl)
  simp only [List.getElem_toArray, List.getElem_cons_zero, List.getElem_cons_succ, Act.put, List.setIfInBounds_toArray, List.set_cons_zero, List.set_cons_succ]
  refine wpAnyH_take (i := 6) (v := ?v109) rfl (by kernel_rfl) (by kernel_rfl) (by kernel_rfl) (fun _ _ _ h => h) (Or.inl ⟨by rfl, ?y109⟩) hHeld ?r109
  case y109 => (intro w hSw; obtain ⟨⟨q0, q1⟩, q2, q3, q4, q5, q6⟩ := hSw; (try simp only [Nat.zero_mul, Nat.add_zero] at q2 q3 q4 q5 q6); go_simp; try with_reducible rfl)
  simp only [List.getElem_toArray, List.getElem_cons_zero, List.getElem_cons_succ, Act.put, List.setIfInBounds_toArray, List.set_cons_zero, List.set_cons_succ]
  refine wpAnyH_take (i := 7) (v := ?v110) rfl (by kernel_rfl) (by kernel_rfl) (by kernel_rfl) (fun _ _ _ h => h) (Or.inl ⟨by rfl, ?y110⟩) hHeld ?r110
  case y110 => (intro w hSw; obtain ⟨⟨q0, q1⟩, q2, q3, q4, q5, q6⟩ := hSw; (try simp only [Nat.zero_mul, Nat.add_zero] at q2 q3 q4 q5 q6); go_simp; try with_reducible rfl)
  simp only [List.getElem_toArray, List.getElem_cons_zero, List.getElem_cons_succ, Act.put, List.setIfInBounds_toArray, List.set_cons_zero, List.set_cons_succ]
  refine wpAnyH_take (i := 8) (v := ?v111) rfl (by kernel_rfl) (by kernel_rfl) (by kernel_rfl) (fun _ _ _ h => h) (Or.inl ⟨by rfl, ?y111⟩) hHeld ?r111
  case y111 => (intro w hSw; obtain ⟨⟨q0, q1⟩, q2, q3, q4, q5, q6⟩ := hSw; (try simp only [Nat.zero_mul, Nat.add_zero] at q2 q3 q4 q5 q6); go_simp; try with_reducible rfl)
  simp only [List.getElem_toArray, List.getElem_cons_zero, List.getElem_cons_succ, Act.put, List.setIfInBounds_toArray, List.set_cons_zero, List.set_cons_succ]
  refine wpAnyH_take (i := 9) (v := ?v112) rfl (by kernel_rfl) (by kernel_rfl) (by kernel_rfl) (fun _ _ _ h => h) (Or.inl ⟨by rfl, ?y112⟩) hHeld ?r112
  case y112 => (intro w hSw; obtain ⟨⟨q0, q1⟩, q2, q3, q4, q5, q6⟩ := hSw; (try simp only [Nat.zero_mul, Nat.add_zero] at q2 q3 q4 q5 q6); go_simp; try with_reducible rfl)
  simp only [List.getElem_toArray, List.getElem_cons_zero, List.getElem_cons_succ, Act.put, List.setIfInBounds_toArray, List.set_cons_zero, List.set_cons_succ]
  refine wpAnyH_ready (rs := [10]) (by kernel_rfl) (by simp) (AllReadyH.cons rfl (fun K hK => ?_) AllReadyH.nil)
  go_simp
  skip
  refine hK.out _ _ (HQ1.out) (fun hHeld => ?_)
  clear hK K
  refine wpAnyH_ready (rs := [11]) (by kernel_rfl) (by simp) (AllReadyH.cons rfl (fun K hK => ?_) AllReadyH.nil)
  go_simp
  skip
  refine hK.out _ _ (HQ2.out) (fun hHeld => ?_)
  clear hK K
  refine wpAnyH_done (by kernel_rfl) ?_ _
  clear hHeld HQ0 HQ1 HQ2 hM0 hM1c hM2 hM3 hM4 y0 y1 y2 y3 y4 lA lo0 lw0 e0_9
  have R1 := HR1.out
  have hM1 := HM1.out
  clear HR1 HM1
  generalize hv1 : (w.alloc (sb2 S)).drew = v1 at R1 hM1 ⊢
  have lo1 := R1.bk.lt
  have lw1 := R1.row.lt
  have d1 := hM1.cell (i := 1) rfl
  have lm1 := hM1.lt
  rw [Hi.out] at d1
  have e1_2 := R1.bk.cell (i := 2) (v := .int .i64 (1)) rfl
  have e1_10 := R1.bk.cell (i := 10) (v := .int .i64 (p)) rfl
  have z1_10 := R1.bk.frozen 10
  have R2 := (R1.put 10 (.int .i64 ((p + 1)))).to (C' := (rc (.slice (some ⟨b, off, none⟩) ln cp) V U tr 1 k ((0 : Nat) : Int) (tr - left) bn 0 (p + 1))) rfl
  generalize hv2 : v1.setCell ⟨o, 10, none⟩ (.int .i64 ((p + 1))) = v2 at R2
  have lo2 := R2.bk.lt
  have lw2 := R2.row.lt
  have HRq := Lib.hid (fun q => R2.drewN q)
  have e2_0 := R2.bk.cell (i := 0) (v := .slice (some ⟨b, off, none⟩) ln cp) rfl
  have e2_3 := R2.bk.cell (i := 3) (v := .int .i64 (k)) rfl
  clear R1 R2 hM1 hv1
  go_wp2_with fail
  go_quiet (fail)
  have R3 := HRq.out nq
  clear HRq hv2 d1 lm1 lo1 lw1 lo2 lw2 e1_2 e1_10 z1_10 e2_0 e2_3
  generalize v2.drewN nq = v3 at R3 ⊢
  have lo3 := R3.bk.lt
  have lw3 := R3.row.lt
  have e3_2 := R3.bk.cell (i := 2) (v := .int .i64 (1)) rfl
  have e3_3 := R3.bk.cell (i := 3) (v := .int .i64 (k)) rfl
  obtain ⟨va, vc, rfl⟩ := owns_sl R3.gv
  have hglr : gl.length ≤ 100000 := by have := Hgl.out; omega
  have hbl2 : b < v3.drew.heap.size := by have := R3.up.size; have e2 : v3.drew.heap.size = v3.heap.size := rfl; omega
  obtain ⟨a5, c5, Wp, hr5, Rp⟩ := R3.drew.appV hglr hbl2 (v / 2)
  have Hap := Lib.hid hr5
  have hqv : RW wb i v v3.drew := R3.drew.row.cell Hv1.out
  have lod := R3.drew.bk.lt
  have lwd := R3.drew.row.lt
  have lo3 := R3.bk.lt
  have RA := R3.drew.alloc (.cells #[.int .u64 (v / 2)] 42)
  have RB := R3.alloc (.cells #[.int .u64 (v / 2)] 42)
  have hqA : RW wb i v (v3.drew.alloc (.cells #[.int .u64 (v / 2)] 42)) := RA.row.cell Hv1.out
  have f0 := R3.bk.cell (i := 6) rfl
  have f1 := R3.drew.bk.cell (i := 6) rfl
  have f2 := RA.bk.cell (i := 6) rfl
  have f3 := RB.bk.cell (i := 6) rfl
  have hq5 : RW wb i v Wp := Rp.row.cell Hv1.out
  have f5 := Rp.bk.cell (i := 6) rfl
  have z5 := Rp.bk.frozen 6
  have lop := Rp.bk.lt
  have R6 := (Rp.put 6 (.slice a5 (gl.length + 1) c5)).to (C' := (rc (.slice (some ⟨b, off, none⟩) ln cp) (.slice a5 (gl.length + 1) c5) U tr 1 k ((0 : Nat) : Int) (tr - left) bn 0 (p + 1))) rfl
  generalize hw6 : Wp.setCell ⟨o, 6, none⟩ (.slice a5 (gl.length + 1) c5) = v6 at R6
  have hq6 : RW wb i v v6 := R6.row.cell Hv1.out
  have HR6 := Lib.hid R6
  have HL := Lib.hid hglr
  clear R3  Rp RA RB R6 hr5 hglr hbl2 
  go_wp2_with fail
  refine wp_region_held_drew (S := RW wb i v) (by kernel_rfl) (hqv) (fun hHeld => ?_)
  refine wpAnyH_take (i := 0) (v := ?v85) rfl (by kernel_rfl) (by kernel_rfl) (by kernel_rfl) (fun _ _ _ h => h) (Or.inl ⟨by rfl, ?y85⟩) hHeld ?r85
  case y85 => (intro w hSw; have q0 := hSw; unfold RW at q0; go_simp; try with_reducible rfl)
  simp only [List.getElem_toArray, List.getElem_cons_zero, Act.put, List.setIfInBounds_toArray, List.set_cons_zero, List.set_cons_succ]
  refine wpAnyH_take (i := 1) (v := ?v86) rfl (by kernel_rfl) (by kernel_rfl) (by kernel_rfl) (fun _ _ _ h => h) (Or.inl ⟨by rfl, ?y86⟩) hHeld ?r86
  case y86 => (intro w hSw; have q0 := hSw; unfold RW at q0; go_simp; try with_reducible rfl)
  simp only [List.getElem_toArray, List.getElem_cons_zero, List.getElem_cons_succ, Act.put, List.setIfInBounds_toArray, List.set_cons_zero, List.set_cons_succ]
  refine wpAnyH_take (i := 2) (v := ?v87) rfl (by kernel_rfl) (by kernel_rfl) (by kernel_rfl) (fun _ _ _ h => h) (Or.inl ⟨by rfl, ?y87⟩) hHeld ?r87
  case y87 => (intro w hSw; have q0 := hSw; unfold RW at q0; go_simp; try with_reducible rfl)
  simp only [List.getElem_toArray, List.getElem_cons_zero, List.getElem_cons_succ, Act.put, List.setIfInBounds_toArray, List.set_cons_zero, List.set_cons_succ]
  refine wpAnyH_take (i := 3) (v := ?v88) rfl (by kernel_rfl) (by kernel_rfl) (by kernel_rfl) (fun _ _ _ h => h) (Or.inl ⟨by rfl, ?y88⟩) hHeld ?r88
  case y88 => (intro w hSw; have q0 := hSw; unfold RW at q0; go_simp; try with_reducible rfl)
  simp only [List.getElem_toArray, List.getElem_cons_zero, List.getElem_cons_succ, Act.put, List.setIfInBounds_toArray, List.set_cons_zero, List.set_cons_succ]
  refine wpAnyH_take (i := 5) (v := ?v89) rfl (by kernel_rfl) (by kernel_rfl) (by kernel_rfl) (fun _ _ _ h => h) (Or.inl ⟨by rfl, ?y89⟩) hHeld ?r89
  case y89 => (intro w hSw; have q0 := hSw; unfold RW at q0; go_simp; try with_reducible rfl)
  simp only [List.getElem_toArray, List.getElem_cons_zero, List.getElem_cons_succ, Act.put, List.setIfInBounds_toArray, List.set_cons_zero, List.set_cons_succ]
  refine wpAnyH_take (i := 6) (v := ?v90) rfl (by kernel_rfl) (by kernel_rfl) (by kernel_rfl) (fun _ _ _ h => h) (Or.inl ⟨by rfl, ?y90⟩) hHeld ?r90
  case y90 => (intro w hSw; have q0 := hSw; unfold RW at q0; go_simp; try with_reducible rfl)
  simp only [List.getElem_toArray, List.getElem_cons_zero, List.getElem_cons_succ, Act.put, List.setIfInBounds_toArray, List.set_cons_zero, List.set_cons_succ]
  refine wpAnyH_take (i := 7) (v := ?v91) rfl (by kernel_rfl) (by kernel_rfl) (by kernel_rfl) (fun _ _ _ h => h) (Or.inl ⟨by rfl, ?y91⟩) hHeld ?r91
  case y91 => (intro w hSw; have q0 := hSw; unfold RW at q0; go_simp; try with_reducible rfl)
  simp only [List.getElem_toArray, List.getElem_cons_zero, List.getElem_cons_succ, Act.put, List.setIfInBounds_toArray, List.set_cons_zero, List.set_cons_succ]
  refine wpAnyH_take (i := 8) (v := ?v92) rfl (by kernel_rfl) (by kernel_rfl) (by kernel_rfl) (fun _ _ _ h => h) (Or.inl ⟨by rfl, ?y92⟩) hHeld ?r92
  case y92 => (intro w hSw; have q0 := hSw; unfold RW at q0; go_simp; try with_reducible rfl)
  simp only [List.getElem_toArray, List.getElem_cons_zero, List.getElem_cons_succ, Act.put, List.setIfInBounds_toArray, List.set_cons_zero, List.set_cons_succ]
  refine wpAnyH_take (i := 9) (v := (.int .u64 (v / 2))) rfl (by kernel_rfl) (by kernel_rfl) (by kernel_rfl) (fun _ _ _ h => h) (Or.inl ⟨by rfl, ?y93⟩) hHeld ?r93
  case y93 => (intro w hSw; have q0 := hSw; unfold RW at q0; go_simp; try with_reducible rfl)
  simp only [List.getElem_toArray, List.getElem_cons_zero, List.getElem_cons_succ, Act.put, List.setIfInBounds_toArray, List.set_cons_zero, List.set_cons_succ]
  refine wpAnyH_ready (rs := [4, 10]) (by kernel_rfl) (by simp) (AllReadyH.cons rfl (fun K hK => ?_) (AllReadyH.cons rfl (fun K hK => ?_) AllReadyH.nil))
  · go_simp
    refine hK.out _ _ (hqv) (fun hHeld => ?_)
    clear hK K
    refine wpAnyH_ready (rs := [10]) (by kernel_rfl) (by simp) (AllReadyH.cons rfl (fun K hK => ?_) AllReadyH.nil)
    go_simp
    refine hK.out _ _ (hqA) (fun hHeld => ?_)
    clear hK K
    refine wpAnyH_ready (rs := [11]) (by kernel_rfl) (by simp) (AllReadyH.cons rfl (fun K hK => ?_) AllReadyH.nil)
    refine wp_append_run _ (.tmp 96) (.tmp 102) 41 41 rfl _ _ rfl rfl Hap.out ?_
    refine hK.out _ _ (hq5) (fun hHeld => ?_)
    clear hK K
    refine wpAnyH_take (i := 12) (v := ?v96) rfl (by kernel_rfl) (by kernel_rfl) (by kernel_rfl) (fun _ _ _ h => h) (Or.inl ⟨by rfl, ?y96⟩) hHeld ?r96
    case y96 => (intro w hSw; have q0 := hSw; unfold RW at q0; go_simp; try with_reducible rfl)
    simp only [List.getElem_toArray, List.getElem_cons_zero, List.getElem_cons_succ, Act.put, List.setIfInBounds_toArray, List.set_cons_zero, List.set_cons_succ]
    refine wpAnyH_take (i := 13) (v := ?v97) rfl (by kernel_rfl) (by kernel_rfl) (by kernel_rfl) (fun _ _ _ h => h) (Or.inl ⟨by rfl, ?y97⟩) hHeld ?r97
    case y97 => (intro w hSw; have q0 := hSw; unfold RW at q0; go_simp; try with_reducible rfl)
    simp only [List.getElem_toArray, List.getElem_cons_zero, List.getElem_cons_succ, Act.put, List.setIfInBounds_toArray, List.set_cons_zero, List.set_cons_succ]
    refine wpAnyH_ready (rs := [14]) (by kernel_rfl) (by simp) (AllReadyH.cons rfl (fun K hK => ?_) AllReadyH.nil)
    go_simp
    go_wp2_with fail
    refine hK.out _ _ (hq6) (fun hHeld => ?_)
    clear hK K
    refine wpAnyH_done (by kernel_rfl) ?_ _
    clear hHeld hqv hqA hq5 hq6 Hap z5 lop lod lwd f0 f1 f2 f3 f5 hw6
    have R6 := HR6.out
    clear HR6
    have lo6 := R6.bk.lt
    have lw6 := R6.row.lt
    have e6_3 := R6.bk.cell (i := 3) (v := .int .i64 (k)) rfl
    have z6_3 := R6.bk.frozen 3
    have R7 := (R6.put 3 (.int .i64 ((k + 1)))).to (C' := (rc (.slice (some ⟨b, off, none⟩) ln cp) (.slice a5 (gl.length + 1) c5) U tr 1 (k + 1) ((0 : Nat) : Int) (tr - left) bn 0 (p + 1))) rfl
    generalize hv7 : v6.setCell ⟨o, 3, none⟩ (.int .i64 ((k + 1))) = v7 at R7
    have lo7 := R7.bk.lt
    have lw7 := R7.row.lt
    have HR7 := Lib.hid R7
    clear R6 R7
    go_wp2
    go_end0
    exact (HR7.out.to (show _ = rfc (.slice (some ⟨b, off, none⟩) ln cp) (.slice a5 (gl.length + 1) c5) U tr ⟨0, 0, (k + 1), 0, left, (p + 1), bn, (tl ++ [v / 2])⟩ from by simp [rfc, rc]; try omega)).post hlen (fun _ => rows0 Hlt.out Hr.out)
  · go_simp
    refine hK.out _ _ (hqA) (fun hHeld => ?_)
    clear hK K
    refine wpAnyH_ready (rs := [4]) (by kernel_rfl) (by simp) (AllReadyH.cons rfl (fun K hK => ?_) AllReadyH.nil)
    go_simp
    refine hK.out _ _ (hqA) (fun hHeld => ?_)
    clear hK K
    refine wpAnyH_ready (rs := [11]) (by kernel_rfl) (by simp) (AllReadyH.cons rfl (fun K hK => ?_) AllReadyH.nil)
    refine wp_append_run _ (.tmp 96) (.tmp 102) 41 41 rfl _ _ rfl rfl Hap.out ?_
    refine hK.out _ _ (hq5) (fun hHeld => ?_)
    clear hK K
    refine wpAnyH_take (i := 12) (v := ?v100) rfl (by kernel_rfl) (by kernel_rfl) (by kernel_rfl) (fun _ _ _ h => h) (Or.inl ⟨by rfl, ?y100⟩) hHeld ?r100
    case y100 => (intro w hSw; have q0 := hSw; unfold RW at q0; go_simp; try with_reducible rfl)
    simp only [List.getElem_toArray, List.getElem_cons_zero, List.getElem_cons_succ, Act.put, List.setIfInBounds_toArray, List.set_cons_zero, List.set_cons_succ]
    refine wpAnyH_take (i := 13) (v := ?v101) rfl (by kernel_rfl) (by kernel_rfl) (by kernel_rfl) (fun _ _ _ h => h) (Or.inl ⟨by rfl, ?y101⟩) hHeld ?r101
    case y101 => (intro w hSw; have q0 := hSw; unfold RW at q0; go_simp; try with_reducible rfl)
    simp only [List.getElem_toArray, List.getElem_cons_zero, List.getElem_cons_succ, Act.put, List.setIfInBounds_toArray, List.set_cons_zero, List.set_cons_succ]
    refine wpAnyH_ready (rs := [14]) (by kernel_rfl) (by simp) (AllReadyH.cons rfl (fun K hK => ?_) AllReadyH.nil)
    go_simp
    go_wp2_with fail
    refine hK.out _ _ (hq6) (fun hHeld => ?_)
    clear hK K
    refine wpAnyH_done (by kernel_rfl) ?_ _
    clear hHeld hqv hqA hq5 hq6 Hap z5 lop lod lwd f0 f1 f2 f3 f5 hw6
    have R6 := HR6.out
    clear HR6
    have lo6 := R6.bk.lt
    have lw6 := R6.row.lt
    have e6_3 := R6.bk.cell (i := 3) (v := .int .i64 (k)) rfl
    have z6_3 := R6.bk.frozen 3
    have R7 := (R6.put 3 (.int .i64 ((k + 1)))).to (C' := (rc (.slice (some ⟨b, off, none⟩) ln cp) (.slice a5 (gl.length + 1) c5) U tr 1 (k + 1) ((0 : Nat) : Int) (tr - left) bn 0 (p + 1))) rfl
    generalize hv7 : v6.setCell ⟨o, 3, none⟩ (.int .i64 ((k + 1))) = v7 at R7
    have lo7 := R7.bk.lt
    have lw7 := R7.row.lt
    have HR7 := Lib.hid R7
    clear R6 R7
    go_wp2
    go_end0
    exact (HR7.out.to (show _ = rfc (.slice (some ⟨b, off, none⟩) ln cp) (.slice a5 (gl.length + 1) c5) U tr ⟨0, 0, (k + 1), 0, left, (p + 1), bn, (tl ++ [v / 2])⟩ from by simp [rfc, rc]; try omega)).post hlen (fun _ => rows0 Hlt.out Hr.out)
set_option maxRecDepth 100000 in
set_option maxHeartbeats 2000000 in
theorem rn_later_last (h : RnAt w o (some ⟨b, off, none⟩) ln cp V U SS tr ⟨0, 0, k, nn, left, p, bn, tl⟩) (hB : Row w wb ys) (hne : o ≠ wb) (hvw : V.ownBlock ≠ some wb) (huw : U.ownBlock ≠ some wb) (hw : NWf SS ⟨0, 0, k, nn, left, p, bn, tl⟩) (_t1 : left ≤ tr) (_t2 : tr ≤ 16) (p0 : 0 ≤ p) (p1 : p ≤ 1000000) (_hyl : ys.length ≤ 1000) (hv : getI ys (nxl SS ⟨0, 0, k, nn, left, p, bn, tl⟩) = some v) (hu : U64 v) (hl : k + 1 = ln) (hk : ¬ k = 0) :
    Calls Try.prog 16 #[.pointer (some ⟨o, 0, none⟩), .slice (some ⟨wb, 0, none⟩) ys.length ys.length] w (RnPost o wb (some ⟨b, off, none⟩) ln cp V U SS tr ys ⟨0, 1, 0, 0, left, (p + 1), (p + 1), (tl ++ [v / 2])⟩ w) := by
  obtain ⟨gl, wl, hr, Q0⟩ := Rtg.start h hB hne hvw huw
  have Hrr := Lib.hid hr
  have R0 := Q0.to (C' := (rc (.slice (some ⟨b, off, none⟩) ln cp) V U tr 1 k nn (tr - left) bn 0 p)) (by simp [rfc, rc])
  have hlen := h.len
  have hsp := hw.sp
  have hk0 := hw.k
  obtain ⟨b', off', heq, hbl, hjj⟩ := R0.sp k _ hsp
  clear hjj
  cases heq
  obtain ⟨S, hSe⟩ : ∃ S, nxs SS ⟨0, 0, k, nn, left, p, bn, tl⟩ = S := ⟨_, rfl⟩
  have hrt := hw.rts
  rw [hSe] at hsp hrt
  have hs64 := hw.s64
  rw [hlen] at hs64
  dsimp only at hk0 hsp
  have hkl : k < ln := by omega
  have hkl2 : (k : Int) < ln := by omega
  have hq0 : 0 ≤ S.sq := by unfold Rt at hrt; omega
  have RA := R0.drew.alloc (.cells #[.int .i64 0, .int .i64 0, .int .i64 0, .int .i64 0, .int .i64 0] 96)
  have R1 := (R0.alloc (sb2 S)).drew
  have hM1 : Blk (w.alloc (sb2 S)).drew w.heap.size (spc5 S) := Blk.new w #[.int .i64 S.ow, .int .i64 S.sq, .int .i64 S.fs, .int .i64 S.wd, .int .i64 S.dp] 96
  have HQ0 := Lib.hid (RX.of R0.drew hsp)
  have HQ1 := Lib.hid (RX.of RA hsp)
  have HQ2 := Lib.hid (RX.of R1 hsp)
  have hM := Blk.new w.drew #[.int .i64 0, .int .i64 0, .int .i64 0, .int .i64 0, .int .i64 0] 96
  change Blk _ w.heap.size _ at hM
  have hM0 := hM.cell (i := 0) rfl
  have hM1c := hM.cell (i := 1) rfl
  have hM2 := hM.cell (i := 2) rfl
  have hM3 := hM.cell (i := 3) rfl
  have hM4 := hM.cell (i := 4) rfl
  have y0 := hM.frozen 0
  have y1 := hM.frozen 1
  have y2 := hM.frozen 2
  have y3 := hM.frozen 3
  have y4 := hM.frozen 4
  have lA := hM.lt
  have lo0 := R0.bk.lt
  have lw0 := R0.row.lt
  have e0_9 := R0.bk.cell (i := 9) (v := .int .i64 (0)) rfl
  unfold nxl at hv
  rw [if_neg (by dsimp only; omega), hSe] at hv
  obtain ⟨_, hv1⟩ := getI_some hv
  have hlt := lt_of_some hv1
  obtain ⟨i, hi⟩ := Int.eq_ofNat_of_zero_le hq0
  rw [hi, Int.toNat_natCast] at hv1 hlt
  have hlt2 : (i : Int) < ys.length := by omega
  have Hv1 := Lib.hid hv1
  have Hi := Lib.hid hi
  obtain ⟨u0, u1⟩ := hu
  have hdv : IntKind.u64.wrap (v.tdiv 2) = v / 2 := by rw [Int.tdiv_eq_ediv_of_nonneg u0, IntKind.wrap_u64]; omega
  have hm : ((k : Int) == (ln : Int) - 1) = true := by simp; omega
  obtain ⟨ha0, hn0⟩ := hw.a0 rfl
  dsimp only at ha0 hn0
  subst hn0
  have Hgl : Hid (gl.length ≤ 64 ∨ k = 0) := Lib.hid (by
    by_cases q : k = 0
    · exact .inr q
    · refine .inl ?_
      rw [(hr (fun c => q c.2)).1]
      exact Nat.le_trans (List.length_take_le _ _) (by rw [hlen]; exact hs64))
  have Hlt := Lib.hid (show tl.length < SS.length by omega)
  have hk1 : ¬ (k : Int) = 0 := by omega
  have Hr := Lib.hid (hr (fun c => by have := c.2; dsimp only at this; omega))
  have HR1 := Lib.hid R1
  have HM1 := Lib.hid hM1
  clear R0 RA R1 hM1 hM Q0 h hB hvw huw hsp hr hv hv1 hw hSe hrt hlt hi ha0 hl
  go_enter Try.func16, Try.ntmps16
  go_wp2_with fail
  refine wp_region_held_drew (S := RX o b off cp ln k S) (by kernel_rfl) (HQ0.out) (fun hHeld => ?_)
  refine wpAnyH_take (i := 0) (v := ?v133) rfl (by kernel_rfl) (by kernel_rfl) (by kernel_rfl) (fun _ _ _ h => h) (Or.inl ⟨by rfl, ?y133⟩) hHeld ?r133
  case y133 => (intro w hSw; obtain ⟨⟨q0, q1⟩, q2, q3, q4, q5, q6⟩ := hSw; (try simp only [Nat.zero_mul, Nat.add_zero] at q2 q3 q4 q5 q6); go_simp; try with_reducible rfl)
  simp only [List.getElem_toArray, List.getElem_cons_zero, Act.put, List.setIfInBounds_toArray, List.set_cons_zero, List.set_cons_succ]
  refine wpAnyH_take (i := 1) (v := ?v134) rfl (by kernel_rfl) (by kernel_rfl) (by kernel_rfl) (fun _ _ _ h => h) (Or.inl ⟨by rfl, ?y134⟩) hHeld ?r134
  case y134 => (intro w hSw; obtain ⟨⟨q0, q1⟩, q2, q3, q4, q5, q6⟩ := hSw; (try simp only [Nat.zero_mul, Nat.add_zero] at q2 q3 q4 q5 q6); go_simp; try with_reducible rfl)
  simp only [List.getElem_toArray, List.getElem_cons_zero, List.getElem_cons_succ, Act.put, List.setIfInBounds_toArray, List.set_cons_zero, List.set_cons_succ]
  refine wpAnyH_take (i := 2) (v := ?v135) rfl (by kernel_rfl) (by kernel_rfl) (by kernel_rfl) (fun _ _ _ h => h) (Or.inl ⟨by rfl, ?y135⟩) hHeld ?r135
  case y135 => (intro w hSw; obtain ⟨⟨q0, q1⟩, q2, q3, q4, q5, q6⟩ := hSw; (try simp only [Nat.zero_mul, Nat.add_zero] at q2 q3 q4 q5 q6); go_simp; try with_reducible rfl)
  simp only [List.getElem_toArray, List.getElem_cons_zero, List.getElem_cons_succ, Act.put, List.setIfInBounds_toArray, List.set_cons_zero, List.set_cons_succ]
  refine wpAnyH_take (i := 3) (v := ?v136) rfl (by kernel_rfl) (by kernel_rfl) (by kernel_rfl) (fun _ _ _ h => h) (Or.inl ⟨by rfl, ?y136⟩) hHeld ?r136
  case y136 => (intro w hSw; obtain ⟨⟨q0, q1⟩, q2, q3, q4, q5, q6⟩ := hSw; (try simp only [Nat.zero_mul, Nat.add_zero] at q2 q3 q4 q5 q6); go_simp; try with_reducible rfl)
  simp only [List.getElem_toArray, List.getElem_cons_zero, List.getElem_cons_succ, Act.put, List.setIfInBounds_toArray, List.set_cons_zero, List.set_cons_succ]
  refine wpAnyH_take (i := 4) (v := ?v137) rfl (by kernel_rfl) (by kernel_rfl) (by kernel_rfl) (fun _ _ _ h => h) (Or.inl ⟨by rfl, ?y137⟩) hHeld ?r137
  case y137 => (intro w hSw; obtain ⟨⟨q0, q1⟩, q2, q3, q4, q5, q6⟩ := hSw; (try simp only [Nat.zero_mul, Nat.add_zero] at q2 q3 q4 q5 q6); go_simp; try with_reducible rfl)
  simp only [List.getElem_toArray, List.getElem_cons_zero, List.getElem_cons_succ, Act.put, List.setIfInBounds_toArray, List.set_cons_zero, List.set_cons_succ]
  refine wpAnyH_take (i := 5) (v := ?v138) rfl (by kernel_rfl) (by kernel_rfl) (by kernel_rfl) (fun _ _ _ h => h) (Or.inl ⟨by rfl, ?y138⟩) hHeld ?r138
  case y138 => (intro w hSw; obtain ⟨⟨q0, q1⟩, q2, q3, q4, q5, q6⟩ := hSw; (try simp only [Nat.zero_mul, Nat.add_zero] at q2 q3 q4 q5 q6); go_simp; try with_reducible rfl)
  simp only [List.getElem_toArray, List.getElem_cons_zero, List.getElem_cons_succ, Act.put, List.setIfInBounds_toArray, List.set_cons_zero, List.set_cons_succ]
  refine wpAnyH_take (i := 6) (v := ?v139) rfl (by kernel_rfl) (by kernel_rfl) (by kernel_rfl) (fun _ _ _ h => h) (Or.inl ⟨by rfl, ?y139⟩) hHeld ?r139
  case y139 => (intro w hSw; obtain ⟨⟨q0, q1⟩, q2, q3, q4, q5, q6⟩ := hSw; (try simp only [Nat.zero_mul, Nat.add_zero] at q2 q3 q4 q5 q6); go_simp; try with_reducible rfl)
  simp only [List.getElem_toArray, List.getElem_cons_zero, List.getElem_cons_succ, Act.put, List.setIfInBounds_toArray, List.set_cons_zero, List.set_cons_succ]
  refine wpAnyH_take (i := 7) (v := ?v140) rfl (by kernel_rfl) (by kernel_rfl) (by kernel_rfl) (fun _ _ _ h => h) (Or.inl ⟨by rfl, ?y140⟩) hHeld ?r140
  case y140 => (intro w hSw; obtain ⟨⟨q0, q1⟩, q2, q3, q4, q5, q6⟩ := hSw; (try simp only [Nat.zero_mul, Nat.add_zero] at q2 q3 q4 q5 q6); go_simp; try with_reducible rfl)
  simp only [List.getElem_toArray, List.getElem_cons_zero, List.getElem_cons_succ, Act.put, List.setIfInBounds_toArray, List.set_cons_zero, List.set_cons_succ]
  refine wpAnyH_take (i := 8) (v := ?v141) rfl (by kernel_rfl) (by kernel_rfl) (by kernel_rfl) (fun _ _ _ h => h) (Or.inl ⟨by rfl, ?y141⟩) hHeld ?r141
  case y141 => (intro w hSw; obtain ⟨⟨q0, q1⟩, q2, q3, q4, q5, q6⟩ := hSw; (try simp only [Nat.zero_mul, Nat.add_zero] at q2 q3 q4 q5 q6); go_simp; try with_reducible rfl)
  simp only [List.getElem_toArray, List.getElem_cons_zero, List.getElem_cons_succ, Act.put, List.setIfInBounds_toArray, List.set_cons_zero, List.set_cons_succ]
  refine wpAnyH_take (i := 9) (v := ?v142) rfl (by kernel_rfl) (by kernel_rfl) (by kernel_rfl) (fun _ _ _ h => h) (Or.inl ⟨by rfl, ?y142⟩) hHeld ?r142
  case y142 => (intro w hSw; obtain ⟨⟨q0, q1⟩, q2, q3, q4, q5, q6⟩ := hSw; (try simp only [Nat.zero_mul, Nat.add_zero] at q2 q3 q4 q5 q6); go_simp; try with_reducible rfl)
  simp only [List.getElem_toArray, List.getElem_cons_zero, List.getElem_cons_succ, Act.put, List.setIfInBounds_toArray, List.set_cons_zero, List.set_cons_succ]
  refine wpAnyH_ready (rs := [10]) (by kernel_rfl) (by simp) (AllReadyH.cons rfl (fun K hK => ?_) AllReadyH.nil)
  go_simp
  skip
  refine hK.out _ _ (HQ1.out) (fun hHeld => ?_)
  clear hK K
  refine wpAnyH_ready (rs := [11]) (by kernel_rfl) (by simp) (AllReadyH.cons rfl (fun K hK => ?_) AllReadyH.nil)
  go_simp
  skip
  refine hK.out _ _ (HQ2.out) (fun hHeld => ?_)
  clear hK K
  refine wpAnyH_done (by kernel_rfl) ?_ _
  clear hHeld HQ0 HQ1 HQ2 hM0 hM1c hM2 hM3 hM4 y0 y1 y2 y3 y4 lA lo0 lw0 e0_9
  have R1 := HR1.out
  have hM1 := HM1.out
  clear HR1 HM1
  generalize hv1 : (w.alloc (sb2 S)).drew = v1 at R1 hM1 ⊢
  have lo1 := R1.bk.lt
  have lw1 := R1.row.lt
  have d1 := hM1.cell (i := 1) rfl
  have lm1 := hM1.lt
  rw [Hi.out] at d1
  have e1_2 := R1.bk.cell (i := 2) (v := .int .i64 (1)) rfl
  have e1_10 := R1.bk.cell (i := 10) (v := .int .i64 (p)) rfl
  have z1_10 := R1.bk.frozen 10
  have R2 := (R1.put 10 (.int .i64 ((p + 1)))).to (C' := (rc (.slice (some ⟨b, off, none⟩) ln cp) V U tr 1 k ((0 : Nat) : Int) (tr - left) bn 0 (p + 1))) rfl
  generalize hv2 : v1.setCell ⟨o, 10, none⟩ (.int .i64 ((p + 1))) = v2 at R2
  have lo2 := R2.bk.lt
  have lw2 := R2.row.lt
  have HRq := Lib.hid (fun q => R2.drewN q)
  have e2_0 := R2.bk.cell (i := 0) (v := .slice (some ⟨b, off, none⟩) ln cp) rfl
  have e2_3 := R2.bk.cell (i := 3) (v := .int .i64 (k)) rfl
  clear R1 R2 hM1 hv1
  go_wp2_with fail
  go_quiet (fail)
  have R3 := HRq.out nq
  clear HRq hv2 d1 lm1 lo1 lw1 lo2 lw2 e1_2 e1_10 z1_10 e2_0 e2_3
  generalize v2.drewN nq = v3 at R3 ⊢
  have lo3 := R3.bk.lt
  have lw3 := R3.row.lt
  have e3_2 := R3.bk.cell (i := 2) (v := .int .i64 (1)) rfl
  have e3_3 := R3.bk.cell (i := 3) (v := .int .i64 (k)) rfl
  obtain ⟨va, vc, rfl⟩ := owns_sl R3.gv
  have hglr : gl.length ≤ 100000 := by have := Hgl.out; omega
  have hbl2 : b < v3.drew.heap.size := by have := R3.up.size; have e2 : v3.drew.heap.size = v3.heap.size := rfl; omega
  obtain ⟨a5, c5, Wp, hr5, Rp⟩ := R3.drew.appV hglr hbl2 (v / 2)
  have Hap := Lib.hid hr5
  have hqv : RW wb i v v3.drew := R3.drew.row.cell Hv1.out
  have lod := R3.drew.bk.lt
  have lwd := R3.drew.row.lt
  have lo3 := R3.bk.lt
  have RA := R3.drew.alloc (.cells #[.int .u64 (v / 2)] 42)
  have RB := R3.alloc (.cells #[.int .u64 (v / 2)] 42)
  have hqA : RW wb i v (v3.drew.alloc (.cells #[.int .u64 (v / 2)] 42)) := RA.row.cell Hv1.out
  have f0 := R3.bk.cell (i := 6) rfl
  have f1 := R3.drew.bk.cell (i := 6) rfl
  have f2 := RA.bk.cell (i := 6) rfl
  have f3 := RB.bk.cell (i := 6) rfl
  have hq5 : RW wb i v Wp := Rp.row.cell Hv1.out
  have f5 := Rp.bk.cell (i := 6) rfl
  have z5 := Rp.bk.frozen 6
  have lop := Rp.bk.lt
  have R6 := (Rp.put 6 (.slice a5 (gl.length + 1) c5)).to (C' := (rc (.slice (some ⟨b, off, none⟩) ln cp) (.slice a5 (gl.length + 1) c5) U tr 1 k ((0 : Nat) : Int) (tr - left) bn 0 (p + 1))) rfl
  generalize hw6 : Wp.setCell ⟨o, 6, none⟩ (.slice a5 (gl.length + 1) c5) = v6 at R6
  have hq6 : RW wb i v v6 := R6.row.cell Hv1.out
  have HR6 := Lib.hid R6
  have HL := Lib.hid hglr
  clear R3  Rp RA RB R6 hr5 hglr hbl2 
  go_wp2_with fail
  refine wp_region_held_drew (S := RW wb i v) (by kernel_rfl) (hqv) (fun hHeld => ?_)
  refine wpAnyH_take (i := 0) (v := ?v115) rfl (by kernel_rfl) (by kernel_rfl) (by kernel_rfl) (fun _ _ _ h => h) (Or.inl ⟨by rfl, ?y115⟩) hHeld ?r115
  case y115 => (intro w hSw; have q0 := hSw; unfold RW at q0; go_simp; try with_reducible rfl)
  simp only [List.getElem_toArray, List.getElem_cons_zero, Act.put, List.setIfInBounds_toArray, List.set_cons_zero, List.set_cons_succ]
  refine wpAnyH_take (i := 1) (v := ?v116) rfl (by kernel_rfl) (by kernel_rfl) (by kernel_rfl) (fun _ _ _ h => h) (Or.inl ⟨by rfl, ?y116⟩) hHeld ?r116
  case y116 => (intro w hSw; have q0 := hSw; unfold RW at q0; go_simp; try with_reducible rfl)
  simp only [List.getElem_toArray, List.getElem_cons_zero, List.getElem_cons_succ, Act.put, List.setIfInBounds_toArray, List.set_cons_zero, List.set_cons_succ]
  refine wpAnyH_take (i := 2) (v := ?v117) rfl (by kernel_rfl) (by kernel_rfl) (by kernel_rfl) (fun _ _ _ h => h) (Or.inl ⟨by rfl, ?y117⟩) hHeld ?r117
  case y117 => (intro w hSw; have q0 := hSw; unfold RW at q0; go_simp; try with_reducible rfl)
  simp only [List.getElem_toArray, List.getElem_cons_zero, List.getElem_cons_succ, Act.put, List.setIfInBounds_toArray, List.set_cons_zero, List.set_cons_succ]
  refine wpAnyH_take (i := 3) (v := ?v118) rfl (by kernel_rfl) (by kernel_rfl) (by kernel_rfl) (fun _ _ _ h => h) (Or.inl ⟨by rfl, ?y118⟩) hHeld ?r118
  case y118 => (intro w hSw; have q0 := hSw; unfold RW at q0; go_simp; try with_reducible rfl)
  simp only [List.getElem_toArray, List.getElem_cons_zero, List.getElem_cons_succ, Act.put, List.setIfInBounds_toArray, List.set_cons_zero, List.set_cons_succ]
  refine wpAnyH_take (i := 5) (v := ?v119) rfl (by kernel_rfl) (by kernel_rfl) (by kernel_rfl) (fun _ _ _ h => h) (Or.inl ⟨by rfl, ?y119⟩) hHeld ?r119
  case y119 => (intro w hSw; have q0 := hSw; unfold RW at q0; go_simp; try with_reducible rfl)
  simp only [List.getElem_toArray, List.getElem_cons_zero, List.getElem_cons_succ, Act.put, List.setIfInBounds_toArray, List.set_cons_zero, List.set_cons_succ]
  refine wpAnyH_take (i := 6) (v := ?v120) rfl (by kernel_rfl) (by kernel_rfl) (by kernel_rfl) (fun _ _ _ h => h) (Or.inl ⟨by rfl, ?y120⟩) hHeld ?r120
  case y120 => (intro w hSw; have q0 := hSw; unfold RW at q0; go_simp; try with_reducible rfl)
  simp only [List.getElem_toArray, List.getElem_cons_zero, List.getElem_cons_succ, Act.put, List.setIfInBounds_toArray, List.set_cons_zero, List.set_cons_succ]
  refine wpAnyH_take (i := 7) (v := ?v121) rfl (by kernel_rfl) (by kernel_rfl) (by kernel_rfl) (fun _ _ _ h => h) (Or.inl ⟨by rfl, ?y121⟩) hHeld ?r121
  case y121 => (intro w hSw; have q0 := hSw; unfold RW at q0; go_simp; try with_reducible rfl)
  simp only [List.getElem_toArray, List.getElem_cons_zero, List.getElem_cons_succ, Act.put, List.setIfInBounds_toArray, List.set_cons_zero, List.set_cons_succ]
  refine wpAnyH_take (i := 8) (v := ?v122) rfl (by kernel_rfl) (by kernel_rfl) (by kernel_rfl) (fun _ _ _ h => h) (Or.inl ⟨by rfl, ?y122⟩) hHeld ?r122
  case y122 => (intro w hSw; have q0 := hSw; unfold RW at q0; go_simp; try with_reducible rfl)
  simp only [List.getElem_toArray, List.getElem_cons_zero, List.getElem_cons_succ, Act.put, List.setIfInBounds_toArray, List.set_cons_zero, List.set_cons_succ]
  refine wpAnyH_take (i := 9) (v := (.int .u64 (v / 2))) rfl (by kernel_rfl) (by kernel_rfl) (by kernel_rfl) (fun _ _ _ h => h) (Or.inl ⟨by rfl, ?y123⟩) hHeld ?r123
  case y123 => (intro w hSw; have q0 := hSw; unfold RW at q0; go_simp; try with_reducible rfl)
  simp only [List.getElem_toArray, List.getElem_cons_zero, List.getElem_cons_succ, Act.put, List.setIfInBounds_toArray, List.set_cons_zero, List.set_cons_succ]
  refine wpAnyH_ready (rs := [4, 10]) (by kernel_rfl) (by simp) (AllReadyH.cons rfl (fun K hK => ?_) (AllReadyH.cons rfl (fun K hK => ?_) AllReadyH.nil))
  · go_simp
    refine hK.out _ _ (hqv) (fun hHeld => ?_)
    clear hK K
    refine wpAnyH_ready (rs := [10]) (by kernel_rfl) (by simp) (AllReadyH.cons rfl (fun K hK => ?_) AllReadyH.nil)
    go_simp
    refine hK.out _ _ (hqA) (fun hHeld => ?_)
    clear hK K
    refine wpAnyH_ready (rs := [11]) (by kernel_rfl) (by simp) (AllReadyH.cons rfl (fun K hK => ?_) AllReadyH.nil)
    refine wp_append_run _ (.tmp 96) (.tmp 102) 41 41 rfl _ _ rfl rfl Hap.out ?_
    refine hK.out _ _ (hq5) (fun hHeld => ?_)
    clear hK K
    refine wpAnyH_take (i := 12) (v := ?v126) rfl (by kernel_rfl) (by kernel_rfl) (by kernel_rfl) (fun _ _ _ h => h) (Or.inl ⟨by rfl, ?y126⟩) hHeld ?r126
    case y126 => (intro w hSw; have q0 := hSw; unfold RW at q0; go_simp; try with_reducible rfl)
    simp only [List.getElem_toArray, List.getElem_cons_zero, List.getElem_cons_succ, Act.put, List.setIfInBounds_toArray, List.set_cons_zero, List.set_cons_succ]
    refine wpAnyH_take (i := 13) (v := ?v127) rfl (by kernel_rfl) (by kernel_rfl) (by kernel_rfl) (fun _ _ _ h => h) (Or.inl ⟨by rfl, ?y127⟩) hHeld ?r127
    case y127 => (intro w hSw; have q0 := hSw; unfold RW at q0; go_simp; try with_reducible rfl)
    simp only [List.getElem_toArray, List.getElem_cons_zero, List.getElem_cons_succ, Act.put, List.setIfInBounds_toArray, List.set_cons_zero, List.set_cons_succ]
    refine wpAnyH_ready (rs := [14]) (by kernel_rfl) (by simp) (AllReadyH.cons rfl (fun K hK => ?_) AllReadyH.nil)
    go_simp
    go_wp2_with fail
    refine hK.out _ _ (hq6) (fun hHeld => ?_)
    clear hK K
    refine wpAnyH_done (by kernel_rfl) ?_ _
    clear hHeld hqv hqA hq5 hq6 Hap z5 lop lod lwd f0 f1 f2 f3 f5 hw6
    have R6 := HR6.out
    clear HR6
    have lo6 := R6.bk.lt
    have lw6 := R6.row.lt
    have e6_3 := R6.bk.cell (i := 3) (v := .int .i64 (k)) rfl
    have z6_3 := R6.bk.frozen 3
    have R7 := (R6.put 3 (.int .i64 ((k + 1)))).to (C' := (rc (.slice (some ⟨b, off, none⟩) ln cp) (.slice a5 (gl.length + 1) c5) U tr 1 (k + 1) ((0 : Nat) : Int) (tr - left) bn 0 (p + 1))) rfl
    generalize hv7 : v6.setCell ⟨o, 3, none⟩ (.int .i64 ((k + 1))) = v7 at R7
    have lo7 := R7.bk.lt
    have lw7 := R7.row.lt
    have e7_10 := R7.bk.cell (i := 10) (v := .int .i64 ((p + 1))) rfl
    have e7_8 := R7.bk.cell (i := 8) (v := .int .i64 (bn)) rfl
    have z7_8 := R7.bk.frozen 8
    have R8 := (R7.put 8 (.int .i64 ((p + 1)))).to (C' := (rc (.slice (some ⟨b, off, none⟩) ln cp) (.slice a5 (gl.length + 1) c5) U tr 1 (k + 1) ((0 : Nat) : Int) (tr - left) (p + 1) 0 (p + 1))) rfl
    generalize hv8 : v7.setCell ⟨o, 8, none⟩ (.int .i64 ((p + 1))) = v8 at R8
    have lo8 := R8.bk.lt
    have lw8 := R8.row.lt
    have e8_2 := R8.bk.cell (i := 2) (v := .int .i64 (1)) rfl
    have z8_2 := R8.bk.frozen 2
    have R9 := (R8.put 2 (.int .i64 (2))).to (C' := (rc (.slice (some ⟨b, off, none⟩) ln cp) (.slice a5 (gl.length + 1) c5) U tr 2 (k + 1) ((0 : Nat) : Int) (tr - left) (p + 1) 0 (p + 1))) rfl
    generalize hv9 : v8.setCell ⟨o, 2, none⟩ (.int .i64 (2)) = v9 at R9
    have lo9 := R9.bk.lt
    have lw9 := R9.row.lt
    have e9_3 := R9.bk.cell (i := 3) (v := .int .i64 ((k + 1))) rfl
    have z9_3 := R9.bk.frozen 3
    have R10 := (R9.put 3 (.int .i64 (0))).to (C' := (rc (.slice (some ⟨b, off, none⟩) ln cp) (.slice a5 (gl.length + 1) c5) U tr 2 0 ((0 : Nat) : Int) (tr - left) (p + 1) 0 (p + 1))) rfl
    generalize hv10 : v9.setCell ⟨o, 3, none⟩ (.int .i64 (0)) = v10 at R10
    have lo10 := R10.bk.lt
    have lw10 := R10.row.lt
    have e10_4 := R10.bk.cell (i := 4) (v := .int .i64 (((0 : Nat) : Int))) rfl
    have z10_4 := R10.bk.frozen 4
    have R11 := (R10.put 4 (.int .i64 (0))).to (C' := (rc (.slice (some ⟨b, off, none⟩) ln cp) (.slice a5 (gl.length + 1) c5) U tr 2 0 0 (tr - left) (p + 1) 0 (p + 1))) rfl
    generalize hv11 : v10.setCell ⟨o, 4, none⟩ (.int .i64 (0)) = v11 at R11
    have HR11 := Lib.hid R11
    clear R6 R7 R8 R9 R10 R11
    go_wp2
    go_end0
    exact (HR11.out.to (show _ = rfc (.slice (some ⟨b, off, none⟩) ln cp) (.slice a5 (gl.length + 1) c5) U tr ⟨0, 1, 0, 0, left, (p + 1), (p + 1), (tl ++ [v / 2])⟩ from by simp [rfc, rc]; try omega)).post hlen (fun _ => rows0 Hlt.out Hr.out)
  · go_simp
    refine hK.out _ _ (hqA) (fun hHeld => ?_)
    clear hK K
    refine wpAnyH_ready (rs := [4]) (by kernel_rfl) (by simp) (AllReadyH.cons rfl (fun K hK => ?_) AllReadyH.nil)
    go_simp
    refine hK.out _ _ (hqA) (fun hHeld => ?_)
    clear hK K
    refine wpAnyH_ready (rs := [11]) (by kernel_rfl) (by simp) (AllReadyH.cons rfl (fun K hK => ?_) AllReadyH.nil)
    refine wp_append_run _ (.tmp 96) (.tmp 102) 41 41 rfl _ _ rfl rfl Hap.out ?_
    refine hK.out _ _ (hq5) (fun hHeld => ?_)
    clear hK K
    refine wpAnyH_take (i := 12) (v := ?v130) rfl (by kernel_rfl) (by kernel_rfl) (by kernel_rfl) (fun _ _ _ h => h) (Or.inl ⟨by rfl, ?y130⟩) hHeld ?r130
    case y130 => (intro w hSw; have q0 := hSw; unfold RW at q0; go_simp; try with_reducible rfl)
    simp only [List.getElem_toArray, List.getElem_cons_zero, List.getElem_cons_succ, Act.put, List.setIfInBounds_toArray, List.set_cons_zero, List.set_cons_succ]
    refine wpAnyH_take (i := 13) (v := ?v131) rfl (by kernel_rfl) (by kernel_rfl) (by kernel_rfl) (fun _ _ _ h => h) (Or.inl ⟨by rfl, ?y131⟩) hHeld ?r131
    case y131 => (intro w hSw; have q0 := hSw; unfold RW at q0; go_simp; try with_reducible rfl)
    simp only [List.getElem_toArray, List.getElem_cons_zero, List.getElem_cons_succ, Act.put, List.setIfInBounds_toArray, List.set_cons_zero, List.set_cons_succ]
    refine wpAnyH_ready (rs := [14]) (by kernel_rfl) (by simp) (AllReadyH.cons rfl (fun K hK => ?_) AllReadyH.nil)
    go_simp
    go_wp2_with fail
    refine hK.out _ _ (hq6) (fun hHeld => ?_)
    clear hK K
    refine wpAnyH_done (by kernel_rfl) ?_ _
    clear hHeld hqv hqA hq5 hq6 Hap z5 lop lod lwd f0 f1 f2 f3 f5 hw6
    have R6 := HR6.out
    clear HR6
    have lo6 := R6.bk.lt
    have lw6 := R6.row.lt
    have e6_3 := R6.bk.cell (i := 3) (v := .int .i64 (k)) rfl
    have z6_3 := R6.bk.frozen 3
    have R7 := (R6.put 3 (.int .i64 ((k + 1)))).to (C' := (rc (.slice (some ⟨b, off, none⟩) ln cp) (.slice a5 (gl.length + 1) c5) U tr 1 (k + 1) ((0 : Nat) : Int) (tr - left) bn 0 (p + 1))) rfl
    generalize hv7 : v6.setCell ⟨o, 3, none⟩ (.int .i64 ((k + 1))) = v7 at R7
    have lo7 := R7.bk.lt
    have lw7 := R7.row.lt
    have e7_10 := R7.bk.cell (i := 10) (v := .int .i64 ((p + 1))) rfl
    have e7_8 := R7.bk.cell (i := 8) (v := .int .i64 (bn)) rfl
    have z7_8 := R7.bk.frozen 8
    have R8 := (R7.put 8 (.int .i64 ((p + 1)))).to (C' := (rc (.slice (some ⟨b, off, none⟩) ln cp) (.slice a5 (gl.length + 1) c5) U tr 1 (k + 1) ((0 : Nat) : Int) (tr - left) (p + 1) 0 (p + 1))) rfl
    generalize hv8 : v7.setCell ⟨o, 8, none⟩ (.int .i64 ((p + 1))) = v8 at R8
    have lo8 := R8.bk.lt
    have lw8 := R8.row.lt
    have e8_2 := R8.bk.cell (i := 2) (v := .int .i64 (1)) rfl
    have z8_2 := R8.bk.frozen 2
    have R9 := (R8.put 2 (.int .i64 (2))).to (C' := (rc (.slice (some ⟨b, off, none⟩) ln cp) (.slice a5 (gl.length + 1) c5) U tr 2 (k + 1) ((0 : Nat) : Int) (tr - left) (p + 1) 0 (p + 1))) rfl
    generalize hv9 : v8.setCell ⟨o, 2, none⟩ (.int .i64 (2)) = v9 at R9
    have lo9 := R9.bk.lt
    have lw9 := R9.row.lt
    have e9_3 := R9.bk.cell (i := 3) (v := .int .i64 ((k + 1))) rfl
    have z9_3 := R9.bk.frozen 3
    have R10 := (R9.put 3 (.int .i64 (0))).to (C' := (rc (.slice (some ⟨b, off, none⟩) ln cp) (.slice a5 (gl.length + 1) c5) U tr 2 0 ((0 : Nat) : Int) (tr - left) (p + 1) 0 (p + 1))) rfl
    generalize hv10 : v9.setCell ⟨o, 3, none⟩ (.int .i64 (0)) = v10 at R10
    have lo10 := R10.bk.lt
    have lw10 := R10.row.lt
    have e10_4 := R10.bk.cell (i := 4) (v := .int .i64 (((0 : Nat) : Int))) rfl
    have z10_4 := R10.bk.frozen 4
    have R11 := (R10.put 4 (.int .i64 (0))).to (C' := (rc (.slice (some ⟨b, off, none⟩) ln cp) (.slice a5 (gl.length + 1) c5) U tr 2 0 0 (tr - left) (p + 1) 0 (p + 1))) rfl
    generalize hv11 : v10.setCell ⟨o, 4, none⟩ (.int .i64 (0)) = v11 at R11
    have HR11 := Lib.hid R11
    clear R6 R7 R8 R9 R10 R11
    go_wp2
    go_end0
    exact (HR11.out.to (show _ = rfc (.slice (some ⟨b, off, none⟩) ln cp) (.slice a5 (gl.length + 1) c5) U tr ⟨0, 1, 0, 0, left, (p + 1), (p + 1), (tl ++ [v / 2])⟩ from by simp [rfc, rc]; try omega)).post hlen (fun _ => rows0 Hlt.out Hr.out)
end
end Go.Proofs.Ytflgggfomhifeaa
