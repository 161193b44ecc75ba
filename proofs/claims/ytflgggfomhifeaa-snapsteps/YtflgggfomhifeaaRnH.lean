/- The document's step: the check, that holds. -/
import Derived.Test.YtflgggfomhifeaaRnD
namespace Go.Proofs.Ytflgggfomhifeaa
open Go.RowKit

section
variable {w : World} {o wb b off ln cp k nn : Nat} {V U : Value} {SS : List Sp} {tr left p bn v : Int} {tl ys : List Int}
set_option maxRecDepth 100000 in
set_option maxHeartbeats 2000000 in
theorem rn_same (h : RnAt w o (some ⟨b, off, none⟩) ln cp V U SS tr ⟨0, 2, k, nn, left, p, bn, tl⟩) (hB : Row w wb ys) (hne : o ≠ wb) (hvw : V.ownBlock ≠ some wb) (huw : U.ownBlock ≠ some wb) (hw : NWf SS ⟨0, 2, k, nn, left, p, bn, tl⟩) (_t1 : left ≤ tr) (_t2 : tr ≤ 16) (p0 : 0 ≤ p) (p1 : p ≤ 1000000) (_hyl : ys.length ≤ 1000) (hv : getI ys (nxl SS ⟨0, 2, k, nn, left, p, bn, tl⟩) = some v) (hu : U64 v) (hc : v / 2 = tl.getD k 0) (hl : ¬ k + 1 = ln) :
    Calls Try.prog 16 #[.pointer (some ⟨o, 0, none⟩), .slice (some ⟨wb, 0, none⟩) ys.length ys.length] w (RnPost o wb (some ⟨b, off, none⟩) ln cp V U SS tr ys ⟨0, 2, (k + 1), nn, left, (p + 1), bn, tl⟩ w) := by
  obtain ⟨gl, wl, hr, Q0⟩ := Rtg.start h hB hne hvw huw
  have hgw := hr (fun c => by have := c.1; dsimp only at this; omega)
  clear hr
  dsimp only at hgw
  have hlen := h.len
  have ha1 := hw.a2 rfl
  dsimp only at ha1
  have hk0 := hw.k
  dsimp only at hk0
  have hgll : gl.length = ln := by rw [hgw.1, List.length_take]; omega
  obtain ⟨gg, vc, rfl, hgb⟩ := owns_some Q0.gv (by omega)
  obtain ⟨ua, uc, rfl⟩ := owns_sl Q0.uv
  have hsp := hw.sp
  obtain ⟨gen, g1, g2, g3⟩ := hw.gen (by show (1 : Int) ≤ 2; omega)
  dsimp only at g1 g2
  have hgk : gl[k]? = some gen := by rw [hgw.1, List.getElem?_take_of_lt (by omega)]; exact g1
  have Hgw := Lib.hid hgw
  have Hgk := Lib.hid hgk
  have R0 := Q0.to (C' := (rc (.slice (some ⟨b, off, none⟩) ln cp) (.slice (some ⟨gg, 0, none⟩) gl.length vc) (.slice ua wl.length uc) tr 3 k nn (tr - left) bn 0 p)) (by simp [rfc, rc])
  obtain ⟨b', off', heq, hbl, hjj⟩ := R0.sp k _ hsp
  clear hjj
  cases heq
  obtain ⟨S, hSe⟩ : ∃ S, nxs SS ⟨0, 2, k, nn, left, p, bn, tl⟩ = S := ⟨_, rfl⟩
  have hrt := hw.rts
  rw [hSe] at hsp hrt
  have hs64 := hw.s64
  rw [hlen] at hs64
  have hkl : k < ln := by omega
  have hkl2 : (k : Int) < ln := by omega
  have hkg : (k : Int) < gl.length := by omega
  have hq0 : 0 ≤ S.sq := by unfold Rt at hrt; omega
  unfold nxl at hv
  rw [if_neg (by dsimp only; omega), hSe] at hv
  obtain ⟨_, hv1⟩ := getI_some hv
  have hlt := lt_of_some hv1
  obtain ⟨i, hi⟩ := Int.eq_ofNat_of_zero_le hq0
  rw [hi, Int.toNat_natCast] at hv1 hlt
  have hlt2 : (i : Int) < ys.length := by omega
  have Hv1 := Lib.hid hv1
  have Hi := Lib.hid hi
  obtain ⟨u0, u1⟩ := hu
  have hdv : IntKind.u64.wrap (v.tdiv 2) = v / 2 := by rw [Int.tdiv_eq_ediv_of_nonneg u0, IntKind.wrap_u64]; omega
  have hgn : (v / 2 != gen) = false := by rw [g2] at hc; simpa using hc
  have f0 := hw.f0
  dsimp only at f0
  have hm8 : ((k : Int) == (ln : Int) - 1) = false := by simp; omega
  have RA := R0.drew.alloc (.cells #[.int .i64 0, .int .i64 0, .int .i64 0, .int .i64 0, .int .i64 0] 96)
  have R1 := (R0.alloc (sb2 S)).drew
  have hM1 : Blk (w.alloc (sb2 S)).drew w.heap.size (spc5 S) := Blk.new w #[.int .i64 S.ow, .int .i64 S.sq, .int .i64 S.fs, .int .i64 S.wd, .int .i64 S.dp] 96
  have HQ0 := Lib.hid (RX.of R0.drew hsp)
  have HQ1 := Lib.hid (RX.of RA hsp)
  have HQ2 := Lib.hid (RX.of R1 hsp)
  have hM := Blk.new w.drew #[.int .i64 0, .int .i64 0, .int .i64 0, .int .i64 0, .int .i64 0] 96
  change Blk _ w.heap.size _ at hM
  have hM0 := hM.cell (i := 0) rfl
  have hM1c := hM.cell (i := 1) rfl
  have hM2 := hM.cell (i := 2) rfl
  have hM3 := hM.cell (i := 3) rfl
  have hM4 := hM.cell (i := 4) rfl
  have y0 := hM.frozen 0
  have y1 := hM.frozen 1
  have y2 := hM.frozen 2
  have y3 := hM.frozen 3
  have y4 := hM.frozen 4
  have lA := hM.lt
  have lo0 := R0.bk.lt
  have lw0 := R0.row.lt
  have e0_9 := R0.bk.cell (i := 9) (v := .int .i64 (0)) rfl
  have Hlen := Lib.hid hlen
  have HR1 := Lib.hid R1
  have HM1 := Lib.hid hM1
  clear Q0 R0 RA R1 hM1 hM h hB hvw huw hsp hgw hgk hw hSe hrt ha1 g1 g2 g3 hgll hlen hk0 hv hv1 hlt hi hl hc
  go_enter Try.func16, Try.ntmps16
  go_wp2_with fail
  refine wp_region_held_drew (S := RX o b off cp ln k S) (by kernel_rfl) (HQ0.out) (fun hHeld => ?_)
  refine wpAnyH_take (i := 0) (v := ?v1) rfl (by kernel_rfl) (by kernel_rfl) (by kernel_rfl) (fun _ _ _ h => h) (Or.inl ⟨by rfl, ?y1⟩) hHeld ?r1
  case y1 => (intro w hSw; obtain ⟨⟨q0, q1⟩, q2, q3, q4, q5, q6⟩ := hSw; (try simp only [Nat.zero_mul, Nat.add_zero] at q2 q3 q4 q5 q6); go_simp; try with_reducible rfl)
  simp only [List.getElem_toArray, List.getElem_cons_zero, Act.put, List.setIfInBounds_toArray, List.set_cons_zero, List.set_cons_succ]
  refine wpAnyH_take (i := 1) (v := ?v2) rfl (by kernel_rfl) (by kernel_rfl) (by kernel_rfl) (fun _ _ _ h => h) (Or.inl ⟨by rfl, ?y2⟩) hHeld ?r2
  case y2 => (intro w hSw; obtain ⟨⟨q0, q1⟩, q2, q3, q4, q5, q6⟩ := hSw; (try simp only [Nat.zero_mul, Nat.add_zero] at q2 q3 q4 q5 q6); go_simp; try with_reducible rfl)
  simp only [List.getElem_toArray, List.getElem_cons_zero, List.getElem_cons_succ, Act.put, List.setIfInBounds_toArray, List.set_cons_zero, List.set_cons_succ]
  refine wpAnyH_take (i := 2) (v := ?v3) rfl (by kernel_rfl) (by kernel_rfl) (by kernel_rfl) (fun _ _ _ h => h) (Or.inl ⟨by rfl, ?y3⟩) hHeld ?r3
  case y3 => (intro w hSw; obtain ⟨⟨q0, q1⟩, q2, q3, q4, q5, q6⟩ := hSw; (try simp only [Nat.zero_mul, Nat.add_zero] at q2 q3 q4 q5 q6); go_simp; try with_reducible rfl)
  simp only [List.getElem_toArray, List.getElem_cons_zero, List.getElem_cons_succ, Act.put, List.setIfInBounds_toArray, List.set_cons_zero, List.set_cons_succ]
  refine wpAnyH_take (i := 3) (v := ?v4) rfl (by kernel_rfl) (by kernel_rfl) (by kernel_rfl) (fun _ _ _ h => h) (Or.inl ⟨by rfl, ?y4⟩) hHeld ?r4
  case y4 => (intro w hSw; obtain ⟨⟨q0, q1⟩, q2, q3, q4, q5, q6⟩ := hSw; (try simp only [Nat.zero_mul, Nat.add_zero] at q2 q3 q4 q5 q6); go_simp; try with_reducible rfl)
  simp only [List.getElem_toArray, List.getElem_cons_zero, List.getElem_cons_succ, Act.put, List.setIfInBounds_toArray, List.set_cons_zero, List.set_cons_succ]
  refine wpAnyH_take (i := 4) (v := ?v5) rfl (by kernel_rfl) (by kernel_rfl) (by kernel_rfl) (fun _ _ _ h => h) (Or.inl ⟨by rfl, ?y5⟩) hHeld ?r5
  case y5 => (intro w hSw; obtain ⟨⟨q0, q1⟩, q2, q3, q4, q5, q6⟩ := hSw; (try simp only [Nat.zero_mul, Nat.add_zero] at q2 q3 q4 q5 q6); go_simp; try with_reducible rfl)
  simp only [List.getElem_toArray, List.getElem_cons_zero, List.getElem_cons_succ, Act.put, List.setIfInBounds_toArray, List.set_cons_zero, List.set_cons_succ]
  refine wpAnyH_take (i := 5) (v := ?v6) rfl (by kernel_rfl) (by kernel_rfl) (by kernel_rfl) (fun _ _ _ h => h) (Or.inl ⟨by rfl, ?y6⟩) hHeld ?r6
  case y6 => (intro w hSw; obtain ⟨⟨q0, q1⟩, q2, q3, q4, q5, q6⟩ := hSw; (try simp only [Nat.zero_mul, Nat.add_zero] at q2 q3 q4 q5 q6); go_simp; try with_reducible rfl)
  simp only [List.getElem_toArray, List.getElem_cons_zero, List.getElem_cons_succ, Act.put, List.setIfInBounds_toArray, List.set_cons_zero, List.set_cons_succ]
  refine wpAnyH_take (i := 6) (v := ?v7) rfl (by kernel_rfl) (by kernel_rfl) (by kernel_rfl) (fun _ _ _ h => h) (Or.inl ⟨by rfl, ?y7⟩) hHeld ?r7
  case y7 => (intro w hSw; obtain ⟨⟨q0, q1⟩, q2, q3, q4, q5, q6⟩ := hSw; (try simp only [Nat.zero_mul, Nat.add_zero] at q2 q3 q4 q5 q6); go_simp; try with_reducible rfl)
  simp only [List.getElem_toArray, List.getElem_cons_zero, List.getElem_cons_succ, Act.put, List.setIfInBounds_toArray, List.set_cons_zero, List.set_cons_succ]
  refine wpAnyH_take (i := 7) (v := ?v8) rfl (by kernel_rfl) (by kernel_rfl) (by kernel_rfl) (fun _ _ _ h => h) (Or.inl ⟨by rfl, ?y8⟩) hHeld ?r8
  case y8 => (intro w hSw; obtain ⟨⟨q0, q1⟩, q2, q3, q4, q5, q6⟩ := hSw; (try simp only [Nat.zero_mul, Nat.add_zero] at q2 q3 q4 q5 q6); go_simp; try with_reducible rfl)
  simp only [List.getElem_toArray, List.getElem_cons_zero, List.getElem_cons_succ, Act.put, List.setIfInBounds_toArray, List.set_cons_zero, List.set_cons_succ]
  refine wpAnyH_take (i := 8) (v := ?v9) rfl (by kernel_rfl) (by kernel_rfl) (by kernel_rfl) (fun _ _ _ h => h) (Or.inl ⟨by rfl, ?y9⟩) hHeld ?r9
  case y9 => (intro w hSw; obtain ⟨⟨q0, q1⟩, q2, q3, q4, q5, q6⟩ := hSw; (try simp only [Nat.zero_mul, Nat.add_zero] at q2 q3 q4 q5 q6); go_simp; try with_reducible rfl)
  simp only [List.getElem_toArray, List.getElem_cons_zero, List.getElem_cons_succ, Act.put, List.setIfInBounds_toArray, List.set_cons_zero, List.set_cons_succ]
  refine wpAnyH_take (i := 9) (v := ?v10) rfl (by kernel_rfl) (by kernel_rfl) (by kernel_rfl) (fun _ _ _ h => h) (Or.inl ⟨by rfl, ?y10⟩) hHeld ?r10
  case y10 => (intro w hSw; obtain ⟨⟨q0, q1⟩, q2, q3, q4, q5, q6⟩ := hSw; (try simp only [Nat.zero_mul, Nat.add_zero] at q2 q3 q4 q5 q6); go_simp; try with_reducible rfl)
  simp only [List.getElem_toArray, List.getElem_cons_zero, List.getElem_cons_succ, Act.put, List.setIfInBounds_toArray, List.set_cons_zero, List.set_cons_succ]
  refine wpAnyH_ready (rs := [10]) (by kernel_rfl) (by simp) (AllReadyH.cons rfl (fun K hK => ?_) AllReadyH.nil)
  go_simp
  skip
  refine hK.out _ _ (HQ1.out) (fun hHeld => ?_)
  clear hK K
  refine wpAnyH_ready (rs := [11]) (by kernel_rfl) (by simp) (AllReadyH.cons rfl (fun K hK => ?_) AllReadyH.nil)
  go_simp
  skip
  refine hK.out _ _ (HQ2.out) (fun hHeld => ?_)
  clear hK K
  refine wpAnyH_done (by kernel_rfl) ?_ _
  clear hHeld HQ0 HQ1 HQ2 hM0 hM1c hM2 hM3 hM4 y0 y1 y2 y3 y4 lA lo0 lw0 e0_9
  have R1 := HR1.out
  have hM1 := HM1.out
  clear HR1 HM1
  generalize hv1 : (w.alloc (sb2 S)).drew = v1 at R1 hM1 ⊢
  have lo1 := R1.bk.lt
  have lw1 := R1.row.lt
  have d1 := hM1.cell (i := 1) rfl
  have lm1 := hM1.lt
  rw [Hi.out] at d1
  have e1_2 := R1.bk.cell (i := 2) (v := .int .i64 (3)) rfl
  have e1_10 := R1.bk.cell (i := 10) (v := .int .i64 (p)) rfl
  have z1_10 := R1.bk.frozen 10
  have R2 := (R1.put 10 (.int .i64 ((p + 1)))).to (C' := (rc (.slice (some ⟨b, off, none⟩) ln cp) (.slice (some ⟨gg, 0, none⟩) gl.length vc) (.slice ua wl.length uc) tr 3 k nn (tr - left) bn 0 (p + 1))) rfl
  generalize hv2 : v1.setCell ⟨o, 10, none⟩ (.int .i64 ((p + 1))) = v2 at R2
  have lo2 := R2.bk.lt
  have lw2 := R2.row.lt
  have HRq := Lib.hid (fun q => R2.drewN q)
  have e2_0 := R2.bk.cell (i := 0) (v := .slice (some ⟨b, off, none⟩) ln cp) rfl
  have e2_3 := R2.bk.cell (i := 3) (v := .int .i64 (k)) rfl
  clear R1 R2 hM1 hv1
  go_wp2_with fail
  go_quiet (fail)
  have R3 := HRq.out nq
  clear HRq hv2 d1 lm1 lo1 lw1 lo2 lw2 e1_2 e1_10 z1_10 e2_0 e2_3
  generalize v2.drewN nq = v3 at R3 ⊢
  have lo3 := R3.bk.lt
  have lw3 := R3.row.lt
  have e3_2 := R3.bk.cell (i := 2) (v := .int .i64 (3)) rfl
  have e3_3 := R3.bk.cell (i := 3) (v := .int .i64 (k)) rfl
  have e3_6 := R3.bk.cell (i := 6) (v := (.slice (some ⟨gg, 0, none⟩) gl.length vc)) rfl
  have ew3 := R3.row.cell Hv1.out
  have eg3 := owns_cell R3.gv (i := k) (y := .int .u64 gen) (by rw [List.getElem?_map, Hgk.out]; rfl)
  have HRq := Lib.hid (fun q => R3.drewN q)
  clear R3
  go_wp2_with fail
  go_quiet (fail)
  have R4 := HRq.out nq
  clear HRq lo3 lw3 e3_2 e3_3 e3_6 ew3 eg3
  generalize v3.drewN nq = v4 at R4 ⊢
  have lo4 := R4.bk.lt
  have lw4 := R4.row.lt
  have e4_3 := R4.bk.cell (i := 3) (v := .int .i64 (k)) rfl
  have z4_3 := R4.bk.frozen 3
  have R5 := (R4.put 3 (.int .i64 ((k + 1)))).to (C' := (rc (.slice (some ⟨b, off, none⟩) ln cp) (.slice (some ⟨gg, 0, none⟩) gl.length vc) (.slice ua wl.length uc) tr 3 (k + 1) nn (tr - left) bn 0 (p + 1))) rfl
  generalize hv5 : v4.setCell ⟨o, 3, none⟩ (.int .i64 ((k + 1))) = v5 at R5
  have HR5 := Lib.hid R5
  clear R4 R5
  go_wp2
  go_end0
  exact (HR5.out.to (show _ = rfc (.slice (some ⟨b, off, none⟩) ln cp) (.slice (some ⟨gg, 0, none⟩) gl.length vc) (.slice ua wl.length uc) tr ⟨0, 2, (k + 1), nn, left, (p + 1), bn, tl⟩ from by simp [rfc, rc]; try omega)).post Hlen.out (fun _ => Hgw.out)
set_option maxRecDepth 100000 in
set_option maxHeartbeats 2000000 in
theorem rn_same_last (h : RnAt w o (some ⟨b, off, none⟩) ln cp V U SS tr ⟨0, 2, k, nn, left, p, bn, tl⟩) (hB : Row w wb ys) (hne : o ≠ wb) (hvw : V.ownBlock ≠ some wb) (huw : U.ownBlock ≠ some wb) (hw : NWf SS ⟨0, 2, k, nn, left, p, bn, tl⟩) (_t1 : left ≤ tr) (_t2 : tr ≤ 16) (p0 : 0 ≤ p) (p1 : p ≤ 1000000) (_hyl : ys.length ≤ 1000) (hv : getI ys (nxl SS ⟨0, 2, k, nn, left, p, bn, tl⟩) = some v) (hu : U64 v) (hc : v / 2 = tl.getD k 0) (hl : k + 1 = ln) :
    Calls Try.prog 16 #[.pointer (some ⟨o, 0, none⟩), .slice (some ⟨wb, 0, none⟩) ys.length ys.length] w (RnPost o wb (some ⟨b, off, none⟩) ln cp V U SS tr ys ⟨1, 2, 0, nn, left, (p + 1), bn, tl⟩ w) := by
  obtain ⟨gl, wl, hr, Q0⟩ := Rtg.start h hB hne hvw huw
  have hgw := hr (fun c => by have := c.1; dsimp only at this; omega)
  clear hr
  dsimp only at hgw
  have hlen := h.len
  have ha1 := hw.a2 rfl
  dsimp only at ha1
  have hk0 := hw.k
  dsimp only at hk0
  have hgll : gl.length = ln := by rw [hgw.1, List.length_take]; omega
  obtain ⟨gg, vc, rfl, hgb⟩ := owns_some Q0.gv (by omega)
  obtain ⟨ua, uc, rfl⟩ := owns_sl Q0.uv
  have hsp := hw.sp
  obtain ⟨gen, g1, g2, g3⟩ := hw.gen (by show (1 : Int) ≤ 2; omega)
  dsimp only at g1 g2
  have hgk : gl[k]? = some gen := by rw [hgw.1, List.getElem?_take_of_lt (by omega)]; exact g1
  have Hgw := Lib.hid hgw
  have Hgk := Lib.hid hgk
  have R0 := Q0.to (C' := (rc (.slice (some ⟨b, off, none⟩) ln cp) (.slice (some ⟨gg, 0, none⟩) gl.length vc) (.slice ua wl.length uc) tr 3 k nn (tr - left) bn 0 p)) (by simp [rfc, rc])
  obtain ⟨b', off', heq, hbl, hjj⟩ := R0.sp k _ hsp
  clear hjj
  cases heq
  obtain ⟨S, hSe⟩ : ∃ S, nxs SS ⟨0, 2, k, nn, left, p, bn, tl⟩ = S := ⟨_, rfl⟩
  have hrt := hw.rts
  rw [hSe] at hsp hrt
  have hs64 := hw.s64
  rw [hlen] at hs64
  have hkl : k < ln := by omega
  have hkl2 : (k : Int) < ln := by omega
  have hkg : (k : Int) < gl.length := by omega
  have hq0 : 0 ≤ S.sq := by unfold Rt at hrt; omega
  unfold nxl at hv
  rw [if_neg (by dsimp only; omega), hSe] at hv
  obtain ⟨_, hv1⟩ := getI_some hv
  have hlt := lt_of_some hv1
  obtain ⟨i, hi⟩ := Int.eq_ofNat_of_zero_le hq0
  rw [hi, Int.toNat_natCast] at hv1 hlt
  have hlt2 : (i : Int) < ys.length := by omega
  have Hv1 := Lib.hid hv1
  have Hi := Lib.hid hi
  obtain ⟨u0, u1⟩ := hu
  have hdv : IntKind.u64.wrap (v.tdiv 2) = v / 2 := by rw [Int.tdiv_eq_ediv_of_nonneg u0, IntKind.wrap_u64]; omega
  have hgn : (v / 2 != gen) = false := by rw [g2] at hc; simpa using hc
  have f0 := hw.f0
  dsimp only at f0
  have hm8 : ((k : Int) == (ln : Int) - 1) = true := by simp; omega
  have RA := R0.drew.alloc (.cells #[.int .i64 0, .int .i64 0, .int .i64 0, .int .i64 0, .int .i64 0] 96)
  have R1 := (R0.alloc (sb2 S)).drew
  have hM1 : Blk (w.alloc (sb2 S)).drew w.heap.size (spc5 S) := Blk.new w #[.int .i64 S.ow, .int .i64 S.sq, .int .i64 S.fs, .int .i64 S.wd, .int .i64 S.dp] 96
  have HQ0 := Lib.hid (RX.of R0.drew hsp)
  have HQ1 := Lib.hid (RX.of RA hsp)
  have HQ2 := Lib.hid (RX.of R1 hsp)
  have hM := Blk.new w.drew #[.int .i64 0, .int .i64 0, .int .i64 0, .int .i64 0, .int .i64 0] 96
  change Blk _ w.heap.size _ at hM
  have hM0 := hM.cell (i := 0) rfl
  have hM1c := hM.cell (i := 1) rfl
  have hM2 := hM.cell (i := 2) rfl
  have hM3 := hM.cell (i := 3) rfl
  have hM4 := hM.cell (i := 4) rfl
  have y0 := hM.frozen 0
  have y1 := hM.frozen 1
  have y2 := hM.frozen 2
  have y3 := hM.frozen 3
  have y4 := hM.frozen 4
  have lA := hM.lt
  have lo0 := R0.bk.lt
  have lw0 := R0.row.lt
  have e0_9 := R0.bk.cell (i := 9) (v := .int .i64 (0)) rfl
  have Hlen := Lib.hid hlen
  have HR1 := Lib.hid R1
  have HM1 := Lib.hid hM1
  clear Q0 R0 RA R1 hM1 hM h hB hvw huw hsp hgw hgk hw hSe hrt ha1 g1 g2 g3 hgll hlen hk0 hv hv1 hlt hi hl hc
  go_enter Try.func16, Try.ntmps16
  go_wp2_with fail
  refine wp_region_held_drew (S := RX o b off cp ln k S) (by kernel_rfl) (HQ0.out) (fun hHeld => ?_)
  refine wpAnyH_take (i := 0) (v := ?v13) rfl (by kernel_rfl) (by kernel_rfl) (by kernel_rfl) (fun _ _ _ h => h) (Or.inl ⟨by rfl, ?y13⟩) hHeld ?r13
  case y13 => (intro w hSw; obtain ⟨⟨q0, q1⟩, q2, q3, q4, q5, q6⟩ := hSw; (try simp only [Nat.zero_mul, Nat.add_zero] at q2 q3 q4 q5 q6); go_simp; try with_reducible rfl)
  simp only [List.getElem_toArray, List.getElem_cons_zero, Act.put, List.setIfInBounds_toArray, List.set_cons_zero, List.set_cons_succ]
  refine wpAnyH_take (i := 1) (v := ?v14) rfl (by kernel_rfl) (by kernel_rfl) (by kernel_rfl) (fun _ _ _ h => h) (Or.inl ⟨by rfl, ?y14⟩) hHeld ?r14
  case y14 => (intro w hSw; obtain ⟨⟨q0, q1⟩, q2, q3, q4, q5, q6⟩ := hSw; (try simp only [Nat.zero_mul, Nat.add_zero] at q2 q3 q4 q5 q6); go_simp; try with_reducible rfl)
  simp only [List.getElem_toArray, List.getElem_cons_zero, List.getElem_cons_succ, Act.put, List.setIfInBounds_toArray, List.set_cons_zero, List.set_cons_succ]
  refine wpAnyH_take (i := 2) (v := ?v15) rfl (by kernel_rfl) (by kernel_rfl) (by kernel_rfl) (fun _ _ _ h => h) (Or.inl ⟨by rfl, ?y15⟩) hHeld ?r15
  case y15 => (intro w hSw; obtain ⟨⟨q0, q1⟩, q2, q3, q4, q5, q6⟩ := hSw; (try simp only [Nat.zero_mul, Nat.add_zero] at q2 q3 q4 q5 q6); go_simp; try with_reducible rfl)
  simp only [List.getElem_toArray, List.getElem_cons_zero, List.getElem_cons_succ, Act.put, List.setIfInBounds_toArray, List.set_cons_zero, List.set_cons_succ]
  refine wpAnyH_take (i := 3) (v := ?v16) rfl (by kernel_rfl) (by kernel_rfl) (by kernel_rfl) (fun _ _ _ h => h) (Or.inl ⟨by rfl, ?y16⟩) hHeld ?r16
  case y16 => (intro w hSw; obtain ⟨⟨q0, q1⟩, q2, q3, q4, q5, q6⟩ := hSw; (try simp only [Nat.zero_mul, Nat.add_zero] at q2 q3 q4 q5 q6); go_simp; try with_reducible rfl)
  simp only [List.getElem_toArray, List.getElem_cons_zero, List.getElem_cons_succ, Act.put, List.setIfInBounds_toArray, List.set_cons_zero, List.set_cons_succ]
  refine wpAnyH_take (i := 4) (v := ?v17) rfl (by kernel_rfl) (by kernel_rfl) (by kernel_rfl) (fun _ _ _ h => h) (Or.inl ⟨by rfl, ?y17⟩) hHeld ?r17
  case y17 => (intro w hSw; obtain ⟨⟨q0, q1⟩, q2, q3, q4, q5, q6⟩ := hSw; (try simp only [Nat.zero_mul, Nat.add_zero] at q2 q3 q4 q5 q6); go_simp; try with_reducible rfl)
  simp only [List.getElem_toArray, List.getElem_cons_zero, List.getElem_cons_succ, Act.put, List.setIfInBounds_toArray, List.set_cons_zero, List.set_cons_succ]
  refine wpAnyH_take (i := 5) (v := ?v18) rfl (by kernel_rfl) (by kernel_rfl) (by kernel_rfl) (fun _ _ _ h => h) (Or.inl ⟨by rfl, ?y18⟩) hHeld ?r18
  case y18 => (intro w hSw; obtain ⟨⟨q0, q1⟩, q2, q3, q4, q5, q6⟩ := hSw; (try simp only [Nat.zero_mul, Nat.add_zero] at q2 q3 q4 q5 q6); go_simp; try with_reducible rfl)
  simp only [List.getElem_toArray, List.getElem_cons_zero, List.getElem_cons_succ, Act.put, List.setIfInBounds_toArray, List.set_cons_zero, List.set_cons_succ]
  refine wpAnyH_take (i := 6) (v := ?v19) rfl (by kernel_rfl) (by kernel_rfl) (by kernel_rfl) (fun _ _ _ h => h) (Or.inl ⟨by rfl, ?y19⟩) hHeld ?r19
  case y19 => (intro w hSw; obtain ⟨⟨q0, q1⟩, q2, q3, q4, q5, q6⟩ := hSw; (try simp only [Nat.zero_mul, Nat.add_zero] at q2 q3 q4 q5 q6); go_simp; try with_reducible rfl)
  simp only [List.getElem_toArray, List.getElem_cons_zero, List.getElem_cons_succ, Act.put, List.setIfInBounds_toArray, List.set_cons_zero, List.set_cons_succ]
  refine wpAnyH_take (i := 7) (v := ?v20) rfl (by kernel_rfl) (by kernel_rfl) (by kernel_rfl) (fun _ _ _ h => h) (Or.inl ⟨by rfl, ?y20⟩) hHeld ?r20
  case y20 => (intro w hSw; obtain ⟨⟨q0, q1⟩, q2, q3, q4, q5, q6⟩ := hSw; (try simp only [Nat.zero_mul, Nat.add_zero] at q2 q3 q4 q5 q6); go_simp; try with_reducible rfl)
  simp only [List.getElem_toArray, List.getElem_cons_zero, List.getElem_cons_succ, Act.put, List.setIfInBounds_toArray, List.set_cons_zero, List.set_cons_succ]
  refine wpAnyH_take (i := 8) (v := ?v21) rfl (by kernel_rfl) (by kernel_rfl) (by kernel_rfl) (fun _ _ _ h => h) (Or.inl ⟨by rfl, ?y21⟩) hHeld ?r21
  case y21 => (intro w hSw; obtain ⟨⟨q0, q1⟩, q2, q3, q4, q5, q6⟩ := hSw; (try simp only [Nat.zero_mul, Nat.add_zero] at q2 q3 q4 q5 q6); go_simp; try with_reducible rfl)
  simp only [List.getElem_toArray, List.getElem_cons_zero, List.getElem_cons_succ, Act.put, List.setIfInBounds_toArray, List.set_cons_zero, List.set_cons_succ]
  refine wpAnyH_take (i := 9) (v := ?v22) rfl (by kernel_rfl) (by kernel_rfl) (by kernel_rfl) (fun _ _ _ h => h) (Or.inl ⟨by rfl, ?y22⟩) hHeld ?r22
  case y22 => (intro w hSw; obtain ⟨⟨q0, q1⟩, q2, q3, q4, q5, q6⟩ := hSw; (try simp only [Nat.zero_mul, Nat.add_zero] at q2 q3 q4 q5 q6); go_simp; try with_reducible rfl)
  simp only [List.getElem_toArray, List.getElem_cons_zero, List.getElem_cons_succ, Act.put, List.setIfInBounds_toArray, List.set_cons_zero, List.set_cons_succ]
  refine wpAnyH_ready (rs := [10]) (by kernel_rfl) (by simp) (AllReadyH.cons rfl (fun K hK => ?_) AllReadyH.nil)
  go_simp
  skip
  refine hK.out _ _ (HQ1.out) (fun hHeld => ?_)
  clear hK K
  refine wpAnyH_ready (rs := [11]) (by kernel_rfl) (by simp) (AllReadyH.cons rfl (fun K hK => ?_) AllReadyH.nil)
  go_simp
  skip
  refine hK.out _ _ (HQ2.out) (fun hHeld => ?_)
  clear hK K
  refine wpAnyH_done (by kernel_rfl) ?_ _
  clear hHeld HQ0 HQ1 HQ2 hM0 hM1c hM2 hM3 hM4 y0 y1 y2 y3 y4 lA lo0 lw0 e0_9
  have R1 := HR1.out
  have hM1 := HM1.out
  clear HR1 HM1
  generalize hv1 : (w.alloc (sb2 S)).drew = v1 at R1 hM1 ⊢
  have lo1 := R1.bk.lt
  have lw1 := R1.row.lt
  have d1 := hM1.cell (i := 1) rfl
  have lm1 := hM1.lt
  rw [Hi.out] at d1
  have e1_2 := R1.bk.cell (i := 2) (v := .int .i64 (3)) rfl
  have e1_10 := R1.bk.cell (i := 10) (v := .int .i64 (p)) rfl
  have z1_10 := R1.bk.frozen 10
  have R2 := (R1.put 10 (.int .i64 ((p + 1)))).to (C' := (rc (.slice (some ⟨b, off, none⟩) ln cp) (.slice (some ⟨gg, 0, none⟩) gl.length vc) (.slice ua wl.length uc) tr 3 k nn (tr - left) bn 0 (p + 1))) rfl
  generalize hv2 : v1.setCell ⟨o, 10, none⟩ (.int .i64 ((p + 1))) = v2 at R2
  have lo2 := R2.bk.lt
  have lw2 := R2.row.lt
  have HRq := Lib.hid (fun q => R2.drewN q)
  have e2_0 := R2.bk.cell (i := 0) (v := .slice (some ⟨b, off, none⟩) ln cp) rfl
  have e2_3 := R2.bk.cell (i := 3) (v := .int .i64 (k)) rfl
  clear R1 R2 hM1 hv1
  go_wp2_with fail
  go_quiet (fail)
  have R3 := HRq.out nq
  clear HRq hv2 d1 lm1 lo1 lw1 lo2 lw2 e1_2 e1_10 z1_10 e2_0 e2_3
  generalize v2.drewN nq = v3 at R3 ⊢
  have lo3 := R3.bk.lt
  have lw3 := R3.row.lt
  have e3_2 := R3.bk.cell (i := 2) (v := .int .i64 (3)) rfl
  have e3_3 := R3.bk.cell (i := 3) (v := .int .i64 (k)) rfl
  have e3_6 := R3.bk.cell (i := 6) (v := (.slice (some ⟨gg, 0, none⟩) gl.length vc)) rfl
  have ew3 := R3.row.cell Hv1.out
  have eg3 := owns_cell R3.gv (i := k) (y := .int .u64 gen) (by rw [List.getElem?_map, Hgk.out]; rfl)
  have HRq := Lib.hid (fun q => R3.drewN q)
  clear R3
  go_wp2_with fail
  go_quiet (fail)
  have R4 := HRq.out nq
  clear HRq lo3 lw3 e3_2 e3_3 e3_6 ew3 eg3
  generalize v3.drewN nq = v4 at R4 ⊢
  have lo4 := R4.bk.lt
  have lw4 := R4.row.lt
  have e4_3 := R4.bk.cell (i := 3) (v := .int .i64 (k)) rfl
  have z4_3 := R4.bk.frozen 3
  have R5 := (R4.put 3 (.int .i64 ((k + 1)))).to (C' := (rc (.slice (some ⟨b, off, none⟩) ln cp) (.slice (some ⟨gg, 0, none⟩) gl.length vc) (.slice ua wl.length uc) tr 3 (k + 1) nn (tr - left) bn 0 (p + 1))) rfl
  generalize hv5 : v4.setCell ⟨o, 3, none⟩ (.int .i64 ((k + 1))) = v5 at R5
  have lo5 := R5.bk.lt
  have lw5 := R5.row.lt
  have e5_3 := R5.bk.cell (i := 3) (v := .int .i64 ((k + 1))) rfl
  have z5_3 := R5.bk.frozen 3
  have R6 := (R5.put 3 (.int .i64 (0))).to (C' := (rc (.slice (some ⟨b, off, none⟩) ln cp) (.slice (some ⟨gg, 0, none⟩) gl.length vc) (.slice ua wl.length uc) tr 3 0 nn (tr - left) bn 0 (p + 1))) rfl
  generalize hv6 : v5.setCell ⟨o, 3, none⟩ (.int .i64 (0)) = v6 at R6
  have lo6 := R6.bk.lt
  have lw6 := R6.row.lt
  have e6_9 := R6.bk.cell (i := 9) (v := .int .i64 (0)) rfl
  have z6_9 := R6.bk.frozen 9
  have R7 := (R6.put 9 (.int .i64 (1))).to (C' := (rc (.slice (some ⟨b, off, none⟩) ln cp) (.slice (some ⟨gg, 0, none⟩) gl.length vc) (.slice ua wl.length uc) tr 3 0 nn (tr - left) bn 1 (p + 1))) rfl
  generalize hv7 : v6.setCell ⟨o, 9, none⟩ (.int .i64 (1)) = v7 at R7
  have HR7 := Lib.hid R7
  clear R4 R5 R6 R7
  go_wp2
  go_end0
  exact (HR7.out.to (show _ = rfc (.slice (some ⟨b, off, none⟩) ln cp) (.slice (some ⟨gg, 0, none⟩) gl.length vc) (.slice ua wl.length uc) tr ⟨1, 2, 0, nn, left, (p + 1), bn, tl⟩ from by simp [rfc, rc]; try omega)).post Hlen.out (fun _ => Hgw.out)
end
end Go.Proofs.Ytflgggfomhifeaa
/- The document's step: the check, that fails. -/
namespace Go.Proofs.Ytflgggfomhifeaa
open Go.RowKit

section
variable {w : World} {o wb b off ln cp k nn : Nat} {V U : Value} {SS : List Sp} {tr left p bn v : Int} {tl ys : List Int}
set_option maxRecDepth 100000 in
set_option maxHeartbeats 2000000 in
theorem rn_again (h : RnAt w o (some ⟨b, off, none⟩) ln cp V U SS tr ⟨0, 2, k, nn, left, p, bn, tl⟩) (hB : Row w wb ys) (hne : o ≠ wb) (hvw : V.ownBlock ≠ some wb) (huw : U.ownBlock ≠ some wb) (hw : NWf SS ⟨0, 2, k, nn, left, p, bn, tl⟩) (t1 : left ≤ tr) (t2 : tr ≤ 16) (p0 : 0 ≤ p) (p1 : p ≤ 1000000) (_hyl : ys.length ≤ 1000) (hv : getI ys (nxl SS ⟨0, 2, k, nn, left, p, bn, tl⟩) = some v) (hu : U64 v) (hc : ¬ v / 2 = tl.getD k 0) (hl : ¬ left - 1 = 0) :
    Calls Try.prog 16 #[.pointer (some ⟨o, 0, none⟩), .slice (some ⟨wb, 0, none⟩) ys.length ys.length] w (RnPost o wb (some ⟨b, off, none⟩) ln cp V U SS tr ys ⟨0, 0, 0, nn, (left - 1), (p + 1), bn, []⟩ w) := by
  obtain ⟨gl, wl, hr, Q0⟩ := Rtg.start h hB hne hvw huw
  have hgw := hr (fun c => by have := c.1; dsimp only at this; omega)
  clear hr
  dsimp only at hgw
  have hlen := h.len
  have ha1 := hw.a2 rfl
  dsimp only at ha1
  have hk0 := hw.k
  dsimp only at hk0
  have hgll : gl.length = ln := by rw [hgw.1, List.length_take]; omega
  obtain ⟨gg, vc, rfl, hgb⟩ := owns_some Q0.gv (by omega)
  obtain ⟨ua, uc, rfl⟩ := owns_sl Q0.uv
  have hsp := hw.sp
  obtain ⟨gen, g1, g2, g3⟩ := hw.gen (by show (1 : Int) ≤ 2; omega)
  dsimp only at g1 g2
  have hgk : gl[k]? = some gen := by rw [hgw.1, List.getElem?_take_of_lt (by omega)]; exact g1
  have Hgw := Lib.hid hgw
  have Hgk := Lib.hid hgk
  have R0 := Q0.to (C' := (rc (.slice (some ⟨b, off, none⟩) ln cp) (.slice (some ⟨gg, 0, none⟩) gl.length vc) (.slice ua wl.length uc) tr 3 k nn (tr - left) bn 0 p)) (by simp [rfc, rc])
  obtain ⟨b', off', heq, hbl, hjj⟩ := R0.sp k _ hsp
  clear hjj
  cases heq
  obtain ⟨S, hSe⟩ : ∃ S, nxs SS ⟨0, 2, k, nn, left, p, bn, tl⟩ = S := ⟨_, rfl⟩
  have hrt := hw.rts
  rw [hSe] at hsp hrt
  have hs64 := hw.s64
  rw [hlen] at hs64
  have hkl : k < ln := by omega
  have hkl2 : (k : Int) < ln := by omega
  have hkg : (k : Int) < gl.length := by omega
  have hq0 : 0 ≤ S.sq := by unfold Rt at hrt; omega
  unfold nxl at hv
  rw [if_neg (by dsimp only; omega), hSe] at hv
  obtain ⟨_, hv1⟩ := getI_some hv
  have hlt := lt_of_some hv1
  obtain ⟨i, hi⟩ := Int.eq_ofNat_of_zero_le hq0
  rw [hi, Int.toNat_natCast] at hv1 hlt
  have hlt2 : (i : Int) < ys.length := by omega
  have Hv1 := Lib.hid hv1
  have Hi := Lib.hid hi
  obtain ⟨u0, u1⟩ := hu
  have hdv : IntKind.u64.wrap (v.tdiv 2) = v / 2 := by rw [Int.tdiv_eq_ediv_of_nonneg u0, IntKind.wrap_u64]; omega
  have hgn : (v / 2 != gen) = true := by rw [g2] at hc; simpa using hc
  have f0 := hw.f0
  dsimp only at f0
  obtain ⟨bb, hm8⟩ : ∃ bb : Bool, ((k : Int) == (ln : Int) - 1) = bb := ⟨_, rfl⟩
  have hm9 : ((tr - left + 1) == tr) = false := by simp; omega
  have RA := R0.drew.alloc (.cells #[.int .i64 0, .int .i64 0, .int .i64 0, .int .i64 0, .int .i64 0] 96)
  have R1 := (R0.alloc (sb2 S)).drew
  have hM1 : Blk (w.alloc (sb2 S)).drew w.heap.size (spc5 S) := Blk.new w #[.int .i64 S.ow, .int .i64 S.sq, .int .i64 S.fs, .int .i64 S.wd, .int .i64 S.dp] 96
  have HQ0 := Lib.hid (RX.of R0.drew hsp)
  have HQ1 := Lib.hid (RX.of RA hsp)
  have HQ2 := Lib.hid (RX.of R1 hsp)
  have hM := Blk.new w.drew #[.int .i64 0, .int .i64 0, .int .i64 0, .int .i64 0, .int .i64 0] 96
  change Blk _ w.heap.size _ at hM
  have hM0 := hM.cell (i := 0) rfl
  have hM1c := hM.cell (i := 1) rfl
  have hM2 := hM.cell (i := 2) rfl
  have hM3 := hM.cell (i := 3) rfl
  have hM4 := hM.cell (i := 4) rfl
  have y0 := hM.frozen 0
  have y1 := hM.frozen 1
  have y2 := hM.frozen 2
  have y3 := hM.frozen 3
  have y4 := hM.frozen 4
  have lA := hM.lt
  have lo0 := R0.bk.lt
  have lw0 := R0.row.lt
  have e0_9 := R0.bk.cell (i := 9) (v := .int .i64 (0)) rfl
  have Hlen := Lib.hid hlen
  have HR1 := Lib.hid R1
  have HM1 := Lib.hid hM1
  clear Q0 R0 RA R1 hM1 hM h hB hvw huw hsp hgw hgk hw hSe hrt ha1 g1 g2 g3 hgll hlen hk0 hv hv1 hlt hi hl hc
  go_enter Try.func16, Try.ntmps16
  go_wp2_with fail
  refine wp_region_held_drew (S := RX o b off cp ln k S) (by kernel_rfl) (HQ0.out) (fun hHeld => ?_)
  refine wpAnyH_take (i := 0) (v := ?v25) rfl (by kernel_rfl) (by kernel_rfl) (by kernel_rfl) (fun _ _ _ h => h) (Or.inl ⟨by rfl, ?y25⟩) hHeld ?r25
  case y25 => (intro w hSw; obtain ⟨⟨q0, q1⟩, q2, q3, q4, q5, q6⟩ := hSw; (try simp only [Nat.zero_mul, Nat.add_zero] at q2 q3 q4 q5 q6); go_simp; try with_reducible rfl)
  simp only [List.getElem_toArray, List.getElem_cons_zero, Act.put, List.setIfInBounds_toArray, List.set_cons_zero, List.set_cons_succ]
  refine wpAnyH_take (i := 1) (v := ?v26) rfl (by kernel_rfl) (by kernel_rfl) (by kernel_rfl) (fun _ _ _ h => h) (Or.inl ⟨by rfl, ?y26⟩) hHeld ?r26
  case y26 => (intro w hSw; obtain ⟨⟨q0, q1⟩, q2, q3, q4, q5, q6⟩ := hSw; (try simp only [Nat.zero_mul, Nat.add_zero] at q2 q3 q4 q5 q6); go_simp; try with_reducible rfl)
  simp only [List.getElem_toArray, List.getElem_cons_zero, List.getElem_cons_succ, Act.put, List.setIfInBounds_toArray, List.set_cons_zero, List.set_cons_succ]
  refine wpAnyH_take (i := 2) (v := ?v27) rfl (by kernel_rfl) (by kernel_rfl) (by kernel_rfl) (fun _ _ _ h => h) (Or.inl ⟨by rfl, ?y27⟩) hHeld ?r27
  case y27 => (intro w hSw; obtain ⟨⟨q0, q1⟩, q2, q3, q4, q5, q6⟩ := hSw; (try simp only [Nat.zero_mul, Nat.add_zero] at q2 q3 q4 q5 q6); go_simp; try with_reducible rfl)
  simp only [List.getElem_toArray, List.getElem_cons_zero, List.getElem_cons_succ, Act.put, List.setIfInBounds_toArray, List.set_cons_zero, List.set_cons_succ]
  refine wpAnyH_take (i := 3) (v := ?v28) rfl (by kernel_rfl) (by kernel_rfl) (by kernel_rfl) (fun _ _ _ h => h) (Or.inl ⟨by rfl, ?y28⟩) hHeld ?r28
  case y28 => (intro w hSw; obtain ⟨⟨q0, q1⟩, q2, q3, q4, q5, q6⟩ := hSw; (try simp only [Nat.zero_mul, Nat.add_zero] at q2 q3 q4 q5 q6); go_simp; try with_reducible rfl)
  simp only [List.getElem_toArray, List.getElem_cons_zero, List.getElem_cons_succ, Act.put, List.setIfInBounds_toArray, List.set_cons_zero, List.set_cons_succ]
  refine wpAnyH_take (i := 4) (v := ?v29) rfl (by kernel_rfl) (by kernel_rfl) (by kernel_rfl) (fun _ _ _ h => h) (Or.inl ⟨by rfl, ?y29⟩) hHeld ?r29
  case y29 => (intro w hSw; obtain ⟨⟨q0, q1⟩, q2, q3, q4, q5, q6⟩ := hSw; (try simp only [Nat.zero_mul, Nat.add_zero] at q2 q3 q4 q5 q6); go_simp; try with_reducible rfl)
  simp only [List.getElem_toArray, List.getElem_cons_zero, List.getElem_cons_succ, Act.put, List.setIfInBounds_toArray, List.set_cons_zero, List.set_cons_succ]
  refine wpAnyH_take (i := 5) (v := ?v30) rfl (by kernel_rfl) (by kernel_rfl) (by kernel_rfl) (fun _ _ _ h => h) (Or.inl ⟨by rfl, ?y30⟩) hHeld ?r30
  case y30 => (intro w hSw; obtain ⟨⟨q0, q1⟩, q2, q3, q4, q5, q6⟩ := hSw; (try simp only [Nat.zero_mul, Nat.add_zero] at q2 q3 q4 q5 q6); go_simp; try with_reducible rfl)
  simp only [List.getElem_toArray, List.getElem_cons_zero, List.getElem_cons_succ, Act.put, List.setIfInBounds_toArray, List.set_cons_zero, List.set_cons_succ]
  refine wpAnyH_take (i := 6) (v := ?v31) rfl (by kernel_rfl) (by kernel_rfl) (by kernel_rfl) (fun _ _ _ h => h) (Or.inl ⟨by rfl, ?y31⟩) hHeld ?r31
  case y31 => (intro w hSw; obtain ⟨⟨q0, q1⟩, q2, q3, q4, q5, q6⟩ := hSw; (try simp only [Nat.zero_mul, Nat.add_zero] at q2 q3 q4 q5 q6); go_simp; try with_reducible rfl)
  simp only [List.getElem_toArray, List.getElem_cons_zero, List.getElem_cons_succ, Act.put, List.setIfInBounds_toArray, List.set_cons_zero, List.set_cons_succ]
  refine wpAnyH_take (i := 7) (v := ?v32) rfl (by kernel_rfl) (by kernel_rfl) (by kernel_rfl) (fun _ _ _ h => h) (Or.inl ⟨by rfl, ?y32⟩) hHeld ?r32
  case y32 => (intro w hSw; obtain ⟨⟨q0, q1⟩, q2, q3, q4, q5, q6⟩ := hSw; (try simp only [Nat.zero_mul, Nat.add_zero] at q2 q3 q4 q5 q6); go_simp; try with_reducible rfl)
  simp only [List.getElem_toArray, List.getElem_cons_zero, List.getElem_cons_succ, Act.put, List.setIfInBounds_toArray, List.set_cons_zero, List.set_cons_succ]
  refine wpAnyH_take (i := 8) (v := ?v33) rfl (by kernel_rfl) (by kernel_rfl) (by kernel_rfl) (fun _ _ _ h => h) (Or.inl ⟨by rfl, ?y33⟩) hHeld ?r33
  case y33 => (intro w hSw; obtain ⟨⟨q0, q1⟩, q2, q3, q4, q5, q6⟩ := hSw; (try simp only [Nat.zero_mul, Nat.add_zero] at q2 q3 q4 q5 q6); go_simp; try with_reducible rfl)
  simp only [List.getElem_toArray, List.getElem_cons_zero, List.getElem_cons_succ, Act.put, List.setIfInBounds_toArray, List.set_cons_zero, List.set_cons_succ]
  refine wpAnyH_take (i := 9) (v := ?v34) rfl (by kernel_rfl) (by kernel_rfl) (by kernel_rfl) (fun _ _ _ h => h) (Or.inl ⟨by rfl, ?y34⟩) hHeld ?r34
  case y34 => (intro w hSw; obtain ⟨⟨q0, q1⟩, q2, q3, q4, q5, q6⟩ := hSw; (try simp only [Nat.zero_mul, Nat.add_zero] at q2 q3 q4 q5 q6); go_simp; try with_reducible rfl)
  simp only [List.getElem_toArray, List.getElem_cons_zero, List.getElem_cons_succ, Act.put, List.setIfInBounds_toArray, List.set_cons_zero, List.set_cons_succ]
  refine wpAnyH_ready (rs := [10]) (by kernel_rfl) (by simp) (AllReadyH.cons rfl (fun K hK => ?_) AllReadyH.nil)
  go_simp
  skip
  refine hK.out _ _ (HQ1.out) (fun hHeld => ?_)
  clear hK K
  refine wpAnyH_ready (rs := [11]) (by kernel_rfl) (by simp) (AllReadyH.cons rfl (fun K hK => ?_) AllReadyH.nil)
  go_simp
  skip
  refine hK.out _ _ (HQ2.out) (fun hHeld => ?_)
  clear hK K
  refine wpAnyH_done (by kernel_rfl) ?_ _
  clear hHeld HQ0 HQ1 HQ2 hM0 hM1c hM2 hM3 hM4 y0 y1 y2 y3 y4 lA lo0 lw0 e0_9
  have R1 := HR1.out
  have hM1 := HM1.out
  clear HR1 HM1
  generalize hv1 : (w.alloc (sb2 S)).drew = v1 at R1 hM1 ⊢
  have lo1 := R1.bk.lt
  have lw1 := R1.row.lt
  have d1 := hM1.cell (i := 1) rfl
  have lm1 := hM1.lt
  rw [Hi.out] at d1
  have e1_2 := R1.bk.cell (i := 2) (v := .int .i64 (3)) rfl
  have e1_10 := R1.bk.cell (i := 10) (v := .int .i64 (p)) rfl
  have z1_10 := R1.bk.frozen 10
  have R2 := (R1.put 10 (.int .i64 ((p + 1)))).to (C' := (rc (.slice (some ⟨b, off, none⟩) ln cp) (.slice (some ⟨gg, 0, none⟩) gl.length vc) (.slice ua wl.length uc) tr 3 k nn (tr - left) bn 0 (p + 1))) rfl
  generalize hv2 : v1.setCell ⟨o, 10, none⟩ (.int .i64 ((p + 1))) = v2 at R2
  have lo2 := R2.bk.lt
  have lw2 := R2.row.lt
  have HRq := Lib.hid (fun q => R2.drewN q)
  have e2_0 := R2.bk.cell (i := 0) (v := .slice (some ⟨b, off, none⟩) ln cp) rfl
  have e2_3 := R2.bk.cell (i := 3) (v := .int .i64 (k)) rfl
  clear R1 R2 hM1 hv1
  go_wp2_with fail
  go_quiet (fail)
  have R3 := HRq.out nq
  clear HRq hv2 d1 lm1 lo1 lw1 lo2 lw2 e1_2 e1_10 z1_10 e2_0 e2_3
  generalize v2.drewN nq = v3 at R3 ⊢
  have lo3 := R3.bk.lt
  have lw3 := R3.row.lt
  have e3_2 := R3.bk.cell (i := 2) (v := .int .i64 (3)) rfl
  have e3_3 := R3.bk.cell (i := 3) (v := .int .i64 (k)) rfl
  have e3_6 := R3.bk.cell (i := 6) (v := (.slice (some ⟨gg, 0, none⟩) gl.length vc)) rfl
  have ew3 := R3.row.cell Hv1.out
  have eg3 := owns_cell R3.gv (i := k) (y := .int .u64 gen) (by rw [List.getElem?_map, Hgk.out]; rfl)
  have HRq := Lib.hid (fun q => R3.drewN q)
  clear R3
  go_wp2_with fail
  go_quiet (fail)
  have R4 := HRq.out nq
  clear HRq lo3 lw3 e3_2 e3_3 e3_6 ew3 eg3
  generalize v3.drewN nq = v4 at R4 ⊢
  have lo4 := R4.bk.lt
  have lw4 := R4.row.lt
  have e4_5 := R4.bk.cell (i := 5) (v := .int .i64 ((tr - left))) rfl
  have z4_5 := R4.bk.frozen 5
  have R5 := (R4.put 5 (.int .i64 ((tr - left + 1)))).to (C' := (rc (.slice (some ⟨b, off, none⟩) ln cp) (.slice (some ⟨gg, 0, none⟩) gl.length vc) (.slice ua wl.length uc) tr 3 k nn (tr - left + 1) bn 0 (p + 1))) rfl
  generalize hv5 : v4.setCell ⟨o, 5, none⟩ (.int .i64 ((tr - left + 1))) = v5 at R5
  have lo5 := R5.bk.lt
  have lw5 := R5.row.lt
  have e5_2 := R5.bk.cell (i := 2) (v := .int .i64 (3)) rfl
  have z5_2 := R5.bk.frozen 2
  have R6 := (R5.put 2 (.int .i64 (1))).to (C' := (rc (.slice (some ⟨b, off, none⟩) ln cp) (.slice (some ⟨gg, 0, none⟩) gl.length vc) (.slice ua wl.length uc) tr 1 k nn (tr - left + 1) bn 0 (p + 1))) rfl
  generalize hv6 : v5.setCell ⟨o, 2, none⟩ (.int .i64 (1)) = v6 at R6
  have lo6 := R6.bk.lt
  have lw6 := R6.row.lt
  have e6_3 := R6.bk.cell (i := 3) (v := .int .i64 (k)) rfl
  have z6_3 := R6.bk.frozen 3
  have R7 := (R6.put 3 (.int .i64 (0))).to (C' := (rc (.slice (some ⟨b, off, none⟩) ln cp) (.slice (some ⟨gg, 0, none⟩) gl.length vc) (.slice ua wl.length uc) tr 1 0 nn (tr - left + 1) bn 0 (p + 1))) rfl
  generalize hv7 : v6.setCell ⟨o, 3, none⟩ (.int .i64 (0)) = v7 at R7
  have lo7 := R7.bk.lt
  have lw7 := R7.row.lt
  have e7_5 := R7.bk.cell (i := 5) (v := .int .i64 ((tr - left + 1))) rfl
  have e7_1 := R7.bk.cell (i := 1) (v := .int .i64 tr) rfl
  have HRq := Lib.hid (fun q => R7.drewN q)
  clear R4 R5 R6 R7
  go_wp2_with fail
  go_quiet (fail)
  have R8 := HRq.out nq
  clear HRq
  generalize v7.drewN nq = v8 at R8 ⊢
  have HR8 := Lib.hid R8
  clear R8
  go_wp2
  go_end0
  exact (HR8.out.to (show _ = rfc (.slice (some ⟨b, off, none⟩) ln cp) (.slice (some ⟨gg, 0, none⟩) gl.length vc) (.slice ua wl.length uc) tr ⟨0, 0, 0, nn, (left - 1), (p + 1), bn, []⟩ from by simp [rfc, rc]; try omega)).post Hlen.out (fun c => absurd ⟨rfl, rfl⟩ c)
set_option maxRecDepth 100000 in
set_option maxHeartbeats 2000000 in
theorem rn_spent (h : RnAt w o (some ⟨b, off, none⟩) ln cp V U SS tr ⟨0, 2, k, nn, left, p, bn, tl⟩) (hB : Row w wb ys) (hne : o ≠ wb) (hvw : V.ownBlock ≠ some wb) (huw : U.ownBlock ≠ some wb) (hw : NWf SS ⟨0, 2, k, nn, left, p, bn, tl⟩) (t1 : left ≤ tr) (t2 : tr ≤ 16) (p0 : 0 ≤ p) (p1 : p ≤ 1000000) (_hyl : ys.length ≤ 1000) (hv : getI ys (nxl SS ⟨0, 2, k, nn, left, p, bn, tl⟩) = some v) (hu : U64 v) (hc : ¬ v / 2 = tl.getD k 0) (hl : left - 1 = 0) :
    Calls Try.prog 16 #[.pointer (some ⟨o, 0, none⟩), .slice (some ⟨wb, 0, none⟩) ys.length ys.length] w (RnPost o wb (some ⟨b, off, none⟩) ln cp V U SS tr ys ⟨2, 0, 0, nn, (left - 1), (p + 1), bn, []⟩ w) := by
  obtain ⟨gl, wl, hr, Q0⟩ := Rtg.start h hB hne hvw huw
  have hgw := hr (fun c => by have := c.1; dsimp only at this; omega)
  clear hr
  dsimp only at hgw
  have hlen := h.len
  have ha1 := hw.a2 rfl
  dsimp only at ha1
  have hk0 := hw.k
  dsimp only at hk0
  have hgll : gl.length = ln := by rw [hgw.1, List.length_take]; omega
  obtain ⟨gg, vc, rfl, hgb⟩ := owns_some Q0.gv (by omega)
  obtain ⟨ua, uc, rfl⟩ := owns_sl Q0.uv
  have hsp := hw.sp
  obtain ⟨gen, g1, g2, g3⟩ := hw.gen (by show (1 : Int) ≤ 2; omega)
  dsimp only at g1 g2
  have hgk : gl[k]? = some gen := by rw [hgw.1, List.getElem?_take_of_lt (by omega)]; exact g1
  have Hgw := Lib.hid hgw
  have Hgk := Lib.hid hgk
  have R0 := Q0.to (C' := (rc (.slice (some ⟨b, off, none⟩) ln cp) (.slice (some ⟨gg, 0, none⟩) gl.length vc) (.slice ua wl.length uc) tr 3 k nn (tr - left) bn 0 p)) (by simp [rfc, rc])
  obtain ⟨b', off', heq, hbl, hjj⟩ := R0.sp k _ hsp
  clear hjj
  cases heq
  obtain ⟨S, hSe⟩ : ∃ S, nxs SS ⟨0, 2, k, nn, left, p, bn, tl⟩ = S := ⟨_, rfl⟩
  have hrt := hw.rts
  rw [hSe] at hsp hrt
  have hs64 := hw.s64
  rw [hlen] at hs64
  have hkl : k < ln := by omega
  have hkl2 : (k : Int) < ln := by omega
  have hkg : (k : Int) < gl.length := by omega
  have hq0 : 0 ≤ S.sq := by unfold Rt at hrt; omega
  unfold nxl at hv
  rw [if_neg (by dsimp only; omega), hSe] at hv
  obtain ⟨_, hv1⟩ := getI_some hv
  have hlt := lt_of_some hv1
  obtain ⟨i, hi⟩ := Int.eq_ofNat_of_zero_le hq0
  rw [hi, Int.toNat_natCast] at hv1 hlt
  have hlt2 : (i : Int) < ys.length := by omega
  have Hv1 := Lib.hid hv1
  have Hi := Lib.hid hi
  obtain ⟨u0, u1⟩ := hu
  have hdv : IntKind.u64.wrap (v.tdiv 2) = v / 2 := by rw [Int.tdiv_eq_ediv_of_nonneg u0, IntKind.wrap_u64]; omega
  have hgn : (v / 2 != gen) = true := by rw [g2] at hc; simpa using hc
  have f0 := hw.f0
  dsimp only at f0
  obtain ⟨bb, hm8⟩ : ∃ bb : Bool, ((k : Int) == (ln : Int) - 1) = bb := ⟨_, rfl⟩
  have hm9 : ((tr - left + 1) == tr) = true := by simp; omega
  have RA := R0.drew.alloc (.cells #[.int .i64 0, .int .i64 0, .int .i64 0, .int .i64 0, .int .i64 0] 96)
  have R1 := (R0.alloc (sb2 S)).drew
  have hM1 : Blk (w.alloc (sb2 S)).drew w.heap.size (spc5 S) := Blk.new w #[.int .i64 S.ow, .int .i64 S.sq, .int .i64 S.fs, .int .i64 S.wd, .int .i64 S.dp] 96
  have HQ0 := Lib.hid (RX.of R0.drew hsp)
  have HQ1 := Lib.hid (RX.of RA hsp)
  have HQ2 := Lib.hid (RX.of R1 hsp)
  have hM := Blk.new w.drew #[.int .i64 0, .int .i64 0, .int .i64 0, .int .i64 0, .int .i64 0] 96
  change Blk _ w.heap.size _ at hM
  have hM0 := hM.cell (i := 0) rfl
  have hM1c := hM.cell (i := 1) rfl
  have hM2 := hM.cell (i := 2) rfl
  have hM3 := hM.cell (i := 3) rfl
  have hM4 := hM.cell (i := 4) rfl
  have y0 := hM.frozen 0
  have y1 := hM.frozen 1
  have y2 := hM.frozen 2
  have y3 := hM.frozen 3
  have y4 := hM.frozen 4
  have lA := hM.lt
  have lo0 := R0.bk.lt
  have lw0 := R0.row.lt
  have e0_9 := R0.bk.cell (i := 9) (v := .int .i64 (0)) rfl
  have Hlen := Lib.hid hlen
  have HR1 := Lib.hid R1
  have HM1 := Lib.hid hM1
  clear Q0 R0 RA R1 hM1 hM h hB hvw huw hsp hgw hgk hw hSe hrt ha1 g1 g2 g3 hgll hlen hk0 hv hv1 hlt hi hl hc
  go_enter Try.func16, Try.ntmps16
  go_wp2_with fail
  refine wp_region_held_drew (S := RX o b off cp ln k S) (by kernel_rfl) (HQ0.out) (fun hHeld => ?_)
  refine wpAnyH_take (i := 0) (v := ?v37) rfl (by kernel_rfl) (by kernel_rfl) (by kernel_rfl) (fun _ _ _ h => h) (Or.inl ⟨by rfl, ?y37⟩) hHeld ?r37
  case y37 => (intro w hSw; obtain ⟨⟨q0, q1⟩, q2, q3, q4, q5, q6⟩ := hSw; (try simp only [Nat.zero_mul, Nat.add_zero] at q2 q3 q4 q5 q6); go_simp; try with_reducible rfl)
  simp only [List.getElem_toArray, List.getElem_cons_zero, Act.put, List.setIfInBounds_toArray, List.set_cons_zero, List.set_cons_succ]
  refine wpAnyH_take (i := 1) (v := ?v38) rfl (by kernel_rfl) (by kernel_rfl) (by kernel_rfl) (fun _ _ _ h => h) (Or.inl ⟨by rfl, ?y38⟩) hHeld ?r38
  case y38 => (intro w hSw; obtain ⟨⟨q0, q1⟩, q2, q3, q4, q5, q6⟩ := hSw; (try simp only [Nat.zero_mul, Nat.add_zero] at q2 q3 q4 q5 q6); go_simp; try with_reducible rfl)
  simp only [List.getElem_toArray, List.getElem_cons_zero, List.getElem_cons_succ, Act.put, List.setIfInBounds_toArray, List.set_cons_zero, List.set_cons_succ]
  refine wpAnyH_take (i := 2) (v := ?v39) rfl (by kernel_rfl) (by kernel_rfl) (by kernel_rfl) (fun _ _ _ h => h) (Or.inl ⟨by rfl, ?y39⟩) hHeld ?r39
  case y39 => (intro w hSw; obtain ⟨⟨q0, q1⟩, q2, q3, q4, q5, q6⟩ := hSw; (try simp only [Nat.zero_mul, Nat.add_zero] at q2 q3 q4 q5 q6); go_simp; try with_reducible rfl)
  simp only [List.getElem_toArray, List.getElem_cons_zero, List.getElem_cons_succ, Act.put, List.setIfInBounds_toArray, List.set_cons_zero, List.set_cons_succ]
  refine wpAnyH_take (i := 3) (v := ?v40) rfl (by kernel_rfl) (by kernel_rfl) (by kernel_rfl) (fun _ _ _ h => h) (Or.inl ⟨by rfl, ?y40⟩) hHeld ?r40
  case y40 => (intro w hSw; obtain ⟨⟨q0, q1⟩, q2, q3, q4, q5, q6⟩ := hSw; (try simp only [Nat.zero_mul, Nat.add_zero] at q2 q3 q4 q5 q6); go_simp; try with_reducible rfl)
  simp only [List.getElem_toArray, List.getElem_cons_zero, List.getElem_cons_succ, Act.put, List.setIfInBounds_toArray, List.set_cons_zero, List.set_cons_succ]
  refine wpAnyH_take (i := 4) (v := ?v41) rfl (by kernel_rfl) (by kernel_rfl) (by kernel_rfl) (fun _ _ _ h => h) (Or.inl ⟨by rfl, ?y41⟩) hHeld ?r41
  case y41 => (intro w hSw; obtain ⟨⟨q0, q1⟩, q2, q3, q4, q5, q6⟩ := hSw; (try simp only [Nat.zero_mul, Nat.add_zero] at q2 q3 q4 q5 q6); go_simp; try with_reducible rfl)
  simp only [List.getElem_toArray, List.getElem_cons_zero, List.getElem_cons_succ, Act.put, List.setIfInBounds_toArray, List.set_cons_zero, List.set_cons_succ]
  refine wpAnyH_take (i := 5) (v := ?v42) rfl (by kernel_rfl) (by kernel_rfl) (by kernel_rfl) (fun _ _ _ h => h) (Or.inl ⟨by rfl, ?y42⟩) hHeld ?r42
  case y42 => (intro w hSw; obtain ⟨⟨q0, q1⟩, q2, q3, q4, q5, q6⟩ := hSw; (try simp only [Nat.zero_mul, Nat.add_zero] at q2 q3 q4 q5 q6); go_simp; try with_reducible rfl)
  simp only [List.getElem_toArray, List.getElem_cons_zero, List.getElem_cons_succ, Act.put, List.setIfInBounds_toArray, List.set_cons_zero, List.set_cons_succ]
  refine wpAnyH_take (i := 6) (v := ?v43) rfl (by kernel_rfl) (by kernel_rfl) (by kernel_rfl) (fun _ _ _ h => h) (Or.inl ⟨by rfl, ?y43⟩) hHeld ?r43
  case y43 => (intro w hSw; obtain ⟨⟨q0, q1⟩, q2, q3, q4, q5, q6⟩ := hSw; (try simp only [Nat.zero_mul, Nat.add_zero] at q2 q3 q4 q5 q6); go_simp; try with_reducible rfl)
  simp only [List.getElem_toArray, List.getElem_cons_zero, List.getElem_cons_succ, Act.put, List.setIfInBounds_toArray, List.set_cons_zero, List.set_cons_succ]
  refine wpAnyH_take (i := 7) (v := ?v44) rfl (by kernel_rfl) (by kernel_rfl) (by kernel_rfl) (fun _ _ _ h => h) (Or.inl ⟨by rfl, ?y44⟩) hHeld ?r44
  case y44 => (intro w hSw; obtain ⟨⟨q0, q1⟩, q2, q3, q4, q5, q6⟩ := hSw; (try simp only [Nat.zero_mul, Nat.add_zero] at q2 q3 q4 q5 q6); go_simp; try with_reducible rfl)
  simp only [List.getElem_toArray, List.getElem_cons_zero, List.getElem_cons_succ, Act.put, List.setIfInBounds_toArray, List.set_cons_zero, List.set_cons_succ]
  refine wpAnyH_take (i := 8) (v := ?v45) rfl (by kernel_rfl) (by kernel_rfl) (by kernel_rfl) (fun _ _ _ h => h) (Or.inl ⟨by rfl, ?y45⟩) hHeld ?r45
  case y45 => (intro w hSw; obtain ⟨⟨q0, q1⟩, q2, q3, q4, q5, q6⟩ := hSw; (try simp only [Nat.zero_mul, Nat.add_zero] at q2 q3 q4 q5 q6); go_simp; try with_reducible rfl)
  simp only [List.getElem_toArray, List.getElem_cons_zero, List.getElem_cons_succ, Act.put, List.setIfInBounds_toArray, List.set_cons_zero, List.set_cons_succ]
  refine wpAnyH_take (i := 9) (v := ?v46) rfl (by kernel_rfl) (by kernel_rfl) (by kernel_rfl) (fun _ _ _ h => h) (Or.inl ⟨by rfl, ?y46⟩) hHeld ?r46
  case y46 => (intro w hSw; obtain ⟨⟨q0, q1⟩, q2, q3, q4, q5, q6⟩ := hSw; (try simp only [Nat.zero_mul, Nat.add_zero] at q2 q3 q4 q5 q6); go_simp; try with_reducible rfl)
  simp only [List.getElem_toArray, List.getElem_cons_zero, List.getElem_cons_succ, Act.put, List.setIfInBounds_toArray, List.set_cons_zero, List.set_cons_succ]
  refine wpAnyH_ready (rs := [10]) (by kernel_rfl) (by simp) (AllReadyH.cons rfl (fun K hK => ?_) AllReadyH.nil)
  go_simp
  skip
  refine hK.out _ _ (HQ1.out) (fun hHeld => ?_)
  clear hK K
  refine wpAnyH_ready (rs := [11]) (by kernel_rfl) (by simp) (AllReadyH.cons rfl (fun K hK => ?_) AllReadyH.nil)
  go_simp
  skip
  refine hK.out _ _ (HQ2.out) (fun hHeld => ?_)
  clear hK K
  refine wpAnyH_done (by kernel_rfl) ?_ _
  clear hHeld HQ0 HQ1 HQ2 hM0 hM1c hM2 hM3 hM4 y0 y1 y2 y3 y4 lA lo0 lw0 e0_9
  have R1 := HR1.out
  have hM1 := HM1.out
  clear HR1 HM1
  generalize hv1 : (w.alloc (sb2 S)).drew = v1 at R1 hM1 ⊢
  have lo1 := R1.bk.lt
  have lw1 := R1.row.lt
  have d1 := hM1.cell (i := 1) rfl
  have lm1 := hM1.lt
  rw [Hi.out] at d1
  have e1_2 := R1.bk.cell (i := 2) (v := .int .i64 (3)) rfl
  have e1_10 := R1.bk.cell (i := 10) (v := .int .i64 (p)) rfl
  have z1_10 := R1.bk.frozen 10
  have R2 := (R1.put 10 (.int .i64 ((p + 1)))).to (C' := (rc (.slice (some ⟨b, off, none⟩) ln cp) (.slice (some ⟨gg, 0, none⟩) gl.length vc) (.slice ua wl.length uc) tr 3 k nn (tr - left) bn 0 (p + 1))) rfl
  generalize hv2 : v1.setCell ⟨o, 10, none⟩ (.int .i64 ((p + 1))) = v2 at R2
  have lo2 := R2.bk.lt
  have lw2 := R2.row.lt
  have HRq := Lib.hid (fun q => R2.drewN q)
  have e2_0 := R2.bk.cell (i := 0) (v := .slice (some ⟨b, off, none⟩) ln cp) rfl
  have e2_3 := R2.bk.cell (i := 3) (v := .int .i64 (k)) rfl
  clear R1 R2 hM1 hv1
  go_wp2_with fail
  go_quiet (fail)
  have R3 := HRq.out nq
  clear HRq hv2 d1 lm1 lo1 lw1 lo2 lw2 e1_2 e1_10 z1_10 e2_0 e2_3
  generalize v2.drewN nq = v3 at R3 ⊢
  have lo3 := R3.bk.lt
  have lw3 := R3.row.lt
  have e3_2 := R3.bk.cell (i := 2) (v := .int .i64 (3)) rfl
  have e3_3 := R3.bk.cell (i := 3) (v := .int .i64 (k)) rfl
  have e3_6 := R3.bk.cell (i := 6) (v := (.slice (some ⟨gg, 0, none⟩) gl.length vc)) rfl
  have ew3 := R3.row.cell Hv1.out
  have eg3 := owns_cell R3.gv (i := k) (y := .int .u64 gen) (by rw [List.getElem?_map, Hgk.out]; rfl)
  have HRq := Lib.hid (fun q => R3.drewN q)
  clear R3
  go_wp2_with fail
  go_quiet (fail)
  have R4 := HRq.out nq
  clear HRq lo3 lw3 e3_2 e3_3 e3_6 ew3 eg3
  generalize v3.drewN nq = v4 at R4 ⊢
  have lo4 := R4.bk.lt
  have lw4 := R4.row.lt
  have e4_5 := R4.bk.cell (i := 5) (v := .int .i64 ((tr - left))) rfl
  have z4_5 := R4.bk.frozen 5
  have R5 := (R4.put 5 (.int .i64 ((tr - left + 1)))).to (C' := (rc (.slice (some ⟨b, off, none⟩) ln cp) (.slice (some ⟨gg, 0, none⟩) gl.length vc) (.slice ua wl.length uc) tr 3 k nn (tr - left + 1) bn 0 (p + 1))) rfl
  generalize hv5 : v4.setCell ⟨o, 5, none⟩ (.int .i64 ((tr - left + 1))) = v5 at R5
  have lo5 := R5.bk.lt
  have lw5 := R5.row.lt
  have e5_2 := R5.bk.cell (i := 2) (v := .int .i64 (3)) rfl
  have z5_2 := R5.bk.frozen 2
  have R6 := (R5.put 2 (.int .i64 (1))).to (C' := (rc (.slice (some ⟨b, off, none⟩) ln cp) (.slice (some ⟨gg, 0, none⟩) gl.length vc) (.slice ua wl.length uc) tr 1 k nn (tr - left + 1) bn 0 (p + 1))) rfl
  generalize hv6 : v5.setCell ⟨o, 2, none⟩ (.int .i64 (1)) = v6 at R6
  have lo6 := R6.bk.lt
  have lw6 := R6.row.lt
  have e6_3 := R6.bk.cell (i := 3) (v := .int .i64 (k)) rfl
  have z6_3 := R6.bk.frozen 3
  have R7 := (R6.put 3 (.int .i64 (0))).to (C' := (rc (.slice (some ⟨b, off, none⟩) ln cp) (.slice (some ⟨gg, 0, none⟩) gl.length vc) (.slice ua wl.length uc) tr 1 0 nn (tr - left + 1) bn 0 (p + 1))) rfl
  generalize hv7 : v6.setCell ⟨o, 3, none⟩ (.int .i64 (0)) = v7 at R7
  have lo7 := R7.bk.lt
  have lw7 := R7.row.lt
  have e7_5 := R7.bk.cell (i := 5) (v := .int .i64 ((tr - left + 1))) rfl
  have e7_1 := R7.bk.cell (i := 1) (v := .int .i64 tr) rfl
  have HRq := Lib.hid (fun q => R7.drewN q)
  clear R4 R5 R6 R7
  go_wp2_with fail
  go_quiet (fail)
  have R8 := HRq.out nq
  clear HRq
  generalize v7.drewN nq = v8 at R8 ⊢
  have lo8 := R8.bk.lt
  have lw8 := R8.row.lt
  have e8_9 := R8.bk.cell (i := 9) (v := .int .i64 (0)) rfl
  have z8_9 := R8.bk.frozen 9
  have R9 := (R8.put 9 (.int .i64 (2))).to (C' := (rc (.slice (some ⟨b, off, none⟩) ln cp) (.slice (some ⟨gg, 0, none⟩) gl.length vc) (.slice ua wl.length uc) tr 1 0 nn (tr - left + 1) bn 2 (p + 1))) rfl
  generalize hv9 : v8.setCell ⟨o, 9, none⟩ (.int .i64 (2)) = v9 at R9
  have HR9 := Lib.hid R9
  clear R8 R9
  go_wp2
  go_end0
  exact (HR9.out.to (show _ = rfc (.slice (some ⟨b, off, none⟩) ln cp) (.slice (some ⟨gg, 0, none⟩) gl.length vc) (.slice ua wl.length uc) tr ⟨2, 0, 0, nn, (left - 1), (p + 1), bn, []⟩ from by simp [rfc, rc]; try omega)).post Hlen.out (fun c => absurd ⟨rfl, rfl⟩ c)
end
end Go.Proofs.Ytflgggfomhifeaa
