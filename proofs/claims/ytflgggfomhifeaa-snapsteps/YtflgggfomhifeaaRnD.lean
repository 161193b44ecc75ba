/- The document's step: words, out of the bank. -/
import Derived.Test.YtflgggfomhifeaaRnA
namespace Go.Proofs.Ytflgggfomhifeaa
open Go.RowKit
/-- What the call of At reads. -/
def RN4 (o g m k n : Nat) (S : Sp) (len cap : Nat) (gen : Int) (w' : World) : Prop :=
  Blk w' m (spc5 S) ∧ w'.cell? ⟨o, 3, none⟩ = some (.int .i64 k) ∧ w'.cell? ⟨o, 4, none⟩ = some (.int .i64 n) ∧ w'.cell? ⟨o, 6, none⟩ = some (.slice (some ⟨g, 0, none⟩) len cap) ∧ w'.cell? ⟨g, k, none⟩ = some (.int .u64 gen)
theorem RN4.of {w0 W : World} {o wb m gg c : Nat} {a : Option Addr} {L V0 U0 U : Value} {gl wl ys : List Int} {SS : List Sp} {tr nx hd bg hw dd gen : Int} {k n : Nat} {S : Sp} (h : Rtg w0 o wb a V0 U0 (.slice (some ⟨gg, 0, none⟩) gl.length c) U gl wl SS ys (rc L (.slice (some ⟨gg, 0, none⟩) gl.length c) U tr nx k n hd bg hw dd) W) (hm : Blk W m (spc5 S)) (hg : gl[k]? = some gen) : RN4 o gg m k n S gl.length c gen W :=
  ⟨hm, h.bk.cell (i := 3) rfl, h.bk.cell (i := 4) rfl, h.bk.cell (i := 6) rfl, owns_cell h.gv (by rw [List.getElem?_map, hg]; rfl)⟩

section
variable {w : World} {o wb b off ln cp k nn : Nat} {V U : Value} {SS : List Sp} {tr left p bn v : Int} {tl ys : List Int}
set_option maxRecDepth 100000 in
set_option maxHeartbeats 2000000 in
theorem rn_out1 (h : RnAt w o (some ⟨b, off, none⟩) ln cp V U SS tr ⟨0, 1, k, nn, left, p, bn, tl⟩) (hB : Row w wb ys) (hne : o ≠ wb) (hvw : V.ownBlock ≠ some wb) (huw : U.ownBlock ≠ some wb) (hw : NWf SS ⟨0, 1, k, nn, left, p, bn, tl⟩) (_t1 : left ≤ tr) (_t2 : tr ≤ 16) (_p0 : 0 ≤ p) (_p1 : p ≤ 1000000) (hyl : ys.length ≤ 1000) (hv : getI ys (nxl SS ⟨0, 1, k, nn, left, p, bn, tl⟩) = none) :
    Calls Try.prog 16 #[.pointer (some ⟨o, 0, none⟩), .slice (some ⟨wb, 0, none⟩) ys.length ys.length] w (RnPost o wb (some ⟨b, off, none⟩) ln cp V U SS tr ys ⟨3, 1, k, nn, left, p, bn, tl⟩ w) := by
  obtain ⟨gl, wl, hr, Q0⟩ := Rtg.start h hB hne hvw huw
  have hgw := hr (fun c => by have := c.1; dsimp only at this; omega)
  clear hr
  dsimp only at hgw
  have hlen := h.len
  have ha1 := hw.a1 rfl
  dsimp only at ha1
  have hk0 := hw.k
  dsimp only at hk0
  have hgll : gl.length = ln := by rw [hgw.1, List.length_take]; omega
  obtain ⟨gg, vc, rfl, hgb⟩ := owns_some Q0.gv (by omega)
  obtain ⟨ua, uc, rfl⟩ := owns_sl Q0.uv
  have hsp := hw.sp
  obtain ⟨gen, g1, g2, g3⟩ := hw.gen (by show (1 : Int) ≤ 1; omega)
  dsimp only at g1 g2
  have hgk : gl[k]? = some gen := by rw [hgw.1, List.getElem?_take_of_lt (by omega)]; exact g1
  have Hgw := Lib.hid hgw
  have Hgk := Lib.hid hgk
  have R0 := Q0.to (C' := (rc (.slice (some ⟨b, off, none⟩) ln cp) (.slice (some ⟨gg, 0, none⟩) gl.length vc) (.slice ua wl.length uc) tr 2 k nn (tr - left) bn 0 p)) (by simp [rfc, rc])
  obtain ⟨b', off', heq, hbl, hjj⟩ := R0.sp k _ hsp
  clear hjj
  cases heq
  obtain ⟨S, hSe⟩ : ∃ S, nxs SS ⟨0, 1, k, nn, left, p, bn, tl⟩ = S := ⟨_, rfl⟩
  have hrm := hw.room1 (by show (1 : Int) ≤ 1; omega)
  dsimp only at hrm
  have hwll : wl.length ≤ 100000 := by rw [hgw.2, List.length_drop]; have := hw.rbd; omega
  have hmu : Value.ownBlock (.slice ua wl.length uc) ≠ some w.heap.size := fun e => by have := owns_lt Q0.uv e; omega
  have Hwl := Lib.hid (And.intro hwll hmu)
  obtain ⟨_, hA0, hA1⟩ := nxl_bd hw
  rw [hSe] at ha1
  dsimp only at hA0 hA1
  rw [hSe, g2] at hA0 hA1
  have hHt := rat_any S.ow S.sq S.fs S.wd S.dp gen
  have Hat := Lib.hid (fun W => hHt W g3.1 g3.2)
  clear hHt
  have HtlL := Lib.hid (show SS.length ≤ tl.length by omega)
  have hn2 := ha1.2
  have hn64 : S.wd ≤ 64 := by rw [← hSe]; exact hw.rts.2.1
  have hrt := hw.rts
  rw [hSe] at hsp hrt
  have hs64 := hw.s64
  rw [hlen] at hs64
  have hkl : k < ln := by omega
  have hkl2 : (k : Int) < ln := by omega
  have hkg : (k : Int) < gl.length := by omega
  have hq0 : 0 ≤ S.sq := by unfold Rt at hrt; omega
  unfold nxl at hv
  rw [if_pos (by rfl), hSe] at hv
  dsimp only at hv
  rw [g2] at hv
  obtain ⟨J, hJ⟩ : ∃ J : Int, atv S.fs S.wd S.dp gen + (nn : Int) = J := ⟨_, rfl⟩
  generalize atv S.fs S.wd S.dp gen = A at *
  have hJ1 : (ys.length : Int) ≤ J := by rw [hJ] at hv; rcases getI_none hv with q | q <;> omega
  have hJ2 : J ≤ 2000000 := by omega
  have hwA : IntKind.i64.wrap J = J := by rw [IntKind.wrap_i64]; omega
  have RA := R0.drew.alloc (.cells #[.int .i64 0, .int .i64 0, .int .i64 0, .int .i64 0, .int .i64 0] 96)
  have R1 := (R0.alloc (sb2 S)).drew
  have hM1 : Blk (w.alloc (sb2 S)).drew w.heap.size (spc5 S) := Blk.new w #[.int .i64 S.ow, .int .i64 S.sq, .int .i64 S.fs, .int .i64 S.wd, .int .i64 S.dp] 96
  have HQ0 := Lib.hid (RX.of R0.drew hsp)
  have HQ1 := Lib.hid (RX.of RA hsp)
  have HQ2 := Lib.hid (RX.of R1 hsp)
  have hM := Blk.new w.drew #[.int .i64 0, .int .i64 0, .int .i64 0, .int .i64 0, .int .i64 0] 96
  change Blk _ w.heap.size _ at hM
  have hM0 := hM.cell (i := 0) rfl
  have hM1c := hM.cell (i := 1) rfl
  have hM2 := hM.cell (i := 2) rfl
  have hM3 := hM.cell (i := 3) rfl
  have hM4 := hM.cell (i := 4) rfl
  have y0 := hM.frozen 0
  have y1 := hM.frozen 1
  have y2 := hM.frozen 2
  have y3 := hM.frozen 3
  have y4 := hM.frozen 4
  have lA := hM.lt
  have lo0 := R0.bk.lt
  have lw0 := R0.row.lt
  have e0_9 := R0.bk.cell (i := 9) (v := .int .i64 (0)) rfl
  have hlen2 := Lib.hid hlen
  have HR1 := Lib.hid R1
  have HM1 := Lib.hid hM1
  clear Q0 R0 RA R1 hM1 hM h hB hvw huw hsp hgw hgk hv hw hSe hrt ha1 hrm hwll hmu g1 g2 g3 hgll hlen hk0
  go_enter Try.func16, Try.ntmps16
  go_wp2_with fail
  refine wp_region_held_drew (S := RX o b off cp ln k S) (by kernel_rfl) (HQ0.out) (fun hHeld => ?_)
  refine wpAnyH_take (i := 0) (v := ?v19) rfl (by kernel_rfl) (by kernel_rfl) (by kernel_rfl) (fun _ _ _ h => h) (Or.inl ⟨by rfl, ?y19⟩) hHeld ?r19
  case y19 => (intro w hSw; obtain ⟨⟨q0, q1⟩, q2, q3, q4, q5, q6⟩ := hSw; (try simp only [Nat.zero_mul, Nat.add_zero] at q2 q3 q4 q5 q6); go_simp; try with_reducible rfl)
  simp only [List.getElem_toArray, List.getElem_cons_zero, Act.put, List.setIfInBounds_toArray, List.set_cons_zero, List.set_cons_succ]
  refine wpAnyH_take (i := 1) (v := ?v20) rfl (by kernel_rfl) (by kernel_rfl) (by kernel_rfl) (fun _ _ _ h => h) (Or.inl ⟨by rfl, ?y20⟩) hHeld ?r20
  case y20 => (intro w hSw; obtain ⟨⟨q0, q1⟩, q2, q3, q4, q5, q6⟩ := hSw; (try simp only [Nat.zero_mul, Nat.add_zero] at q2 q3 q4 q5 q6); go_simp; try with_reducible rfl)
  simp only [List.getElem_toArray, List.getElem_cons_zero, List.getElem_cons_succ, Act.put, List.setIfInBounds_toArray, List.set_cons_zero, List.set_cons_succ]
  refine wpAnyH_take (i := 2) (v := ?v21) rfl (by kernel_rfl) (by kernel_rfl) (by kernel_rfl) (fun _ _ _ h => h) (Or.inl ⟨by rfl, ?y21⟩) hHeld ?r21
  case y21 => (intro w hSw; obtain ⟨⟨q0, q1⟩, q2, q3, q4, q5, q6⟩ := hSw; (try simp only [Nat.zero_mul, Nat.add_zero] at q2 q3 q4 q5 q6); go_simp; try with_reducible rfl)
  simp only [List.getElem_toArray, List.getElem_cons_zero, List.getElem_cons_succ, Act.put, List.setIfInBounds_toArray, List.set_cons_zero, List.set_cons_succ]
  refine wpAnyH_take (i := 3) (v := ?v22) rfl (by kernel_rfl) (by kernel_rfl) (by kernel_rfl) (fun _ _ _ h => h) (Or.inl ⟨by rfl, ?y22⟩) hHeld ?r22
  case y22 => (intro w hSw; obtain ⟨⟨q0, q1⟩, q2, q3, q4, q5, q6⟩ := hSw; (try simp only [Nat.zero_mul, Nat.add_zero] at q2 q3 q4 q5 q6); go_simp; try with_reducible rfl)
  simp only [List.getElem_toArray, List.getElem_cons_zero, List.getElem_cons_succ, Act.put, List.setIfInBounds_toArray, List.set_cons_zero, List.set_cons_succ]
  refine wpAnyH_take (i := 4) (v := ?v23) rfl (by kernel_rfl) (by kernel_rfl) (by kernel_rfl) (fun _ _ _ h => h) (Or.inl ⟨by rfl, ?y23⟩) hHeld ?r23
  case y23 => (intro w hSw; obtain ⟨⟨q0, q1⟩, q2, q3, q4, q5, q6⟩ := hSw; (try simp only [Nat.zero_mul, Nat.add_zero] at q2 q3 q4 q5 q6); go_simp; try with_reducible rfl)
  simp only [List.getElem_toArray, List.getElem_cons_zero, List.getElem_cons_succ, Act.put, List.setIfInBounds_toArray, List.set_cons_zero, List.set_cons_succ]
  refine wpAnyH_take (i := 5) (v := ?v24) rfl (by kernel_rfl) (by kernel_rfl) (by kernel_rfl) (fun _ _ _ h => h) (Or.inl ⟨by rfl, ?y24⟩) hHeld ?r24
  case y24 => (intro w hSw; obtain ⟨⟨q0, q1⟩, q2, q3, q4, q5, q6⟩ := hSw; (try simp only [Nat.zero_mul, Nat.add_zero] at q2 q3 q4 q5 q6); go_simp; try with_reducible rfl)
  simp only [List.getElem_toArray, List.getElem_cons_zero, List.getElem_cons_succ, Act.put, List.setIfInBounds_toArray, List.set_cons_zero, List.set_cons_succ]
  refine wpAnyH_take (i := 6) (v := ?v25) rfl (by kernel_rfl) (by kernel_rfl) (by kernel_rfl) (fun _ _ _ h => h) (Or.inl ⟨by rfl, ?y25⟩) hHeld ?r25
  case y25 => (intro w hSw; obtain ⟨⟨q0, q1⟩, q2, q3, q4, q5, q6⟩ := hSw; (try simp only [Nat.zero_mul, Nat.add_zero] at q2 q3 q4 q5 q6); go_simp; try with_reducible rfl)
  simp only [List.getElem_toArray, List.getElem_cons_zero, List.getElem_cons_succ, Act.put, List.setIfInBounds_toArray, List.set_cons_zero, List.set_cons_succ]
  refine wpAnyH_take (i := 7) (v := ?v26) rfl (by kernel_rfl) (by kernel_rfl) (by kernel_rfl) (fun _ _ _ h => h) (Or.inl ⟨by rfl, ?y26⟩) hHeld ?r26
  case y26 => (intro w hSw; obtain ⟨⟨q0, q1⟩, q2, q3, q4, q5, q6⟩ := hSw; (try simp only [Nat.zero_mul, Nat.add_zero] at q2 q3 q4 q5 q6); go_simp; try with_reducible rfl)
  simp only [List.getElem_toArray, List.getElem_cons_zero, List.getElem_cons_succ, Act.put, List.setIfInBounds_toArray, List.set_cons_zero, List.set_cons_succ]
  refine wpAnyH_take (i := 8) (v := ?v27) rfl (by kernel_rfl) (by kernel_rfl) (by kernel_rfl) (fun _ _ _ h => h) (Or.inl ⟨by rfl, ?y27⟩) hHeld ?r27
  case y27 => (intro w hSw; obtain ⟨⟨q0, q1⟩, q2, q3, q4, q5, q6⟩ := hSw; (try simp only [Nat.zero_mul, Nat.add_zero] at q2 q3 q4 q5 q6); go_simp; try with_reducible rfl)
  simp only [List.getElem_toArray, List.getElem_cons_zero, List.getElem_cons_succ, Act.put, List.setIfInBounds_toArray, List.set_cons_zero, List.set_cons_succ]
  refine wpAnyH_take (i := 9) (v := ?v28) rfl (by kernel_rfl) (by kernel_rfl) (by kernel_rfl) (fun _ _ _ h => h) (Or.inl ⟨by rfl, ?y28⟩) hHeld ?r28
  case y28 => (intro w hSw; obtain ⟨⟨q0, q1⟩, q2, q3, q4, q5, q6⟩ := hSw; (try simp only [Nat.zero_mul, Nat.add_zero] at q2 q3 q4 q5 q6); go_simp; try with_reducible rfl)
  simp only [List.getElem_toArray, List.getElem_cons_zero, List.getElem_cons_succ, Act.put, List.setIfInBounds_toArray, List.set_cons_zero, List.set_cons_succ]
  refine wpAnyH_ready (rs := [10]) (by kernel_rfl) (by simp) (AllReadyH.cons rfl (fun K hK => ?_) AllReadyH.nil)
  go_simp
  skip
  refine hK.out _ _ (HQ1.out) (fun hHeld => ?_)
  clear hK K
  refine wpAnyH_ready (rs := [11]) (by kernel_rfl) (by simp) (AllReadyH.cons rfl (fun K hK => ?_) AllReadyH.nil)
  go_simp
  skip
  refine hK.out _ _ (HQ2.out) (fun hHeld => ?_)
  clear hK K
  refine wpAnyH_done (by kernel_rfl) ?_ _
  clear hHeld HQ0 HQ1 HQ2 hM0 hM1c hM2 hM3 hM4 y0 y1 y2 y3 y4 lA lo0 lw0 e0_9
  have R1 := HR1.out
  have hM1 := HM1.out
  clear HR1 HM1
  generalize hv1 : (w.alloc (sb2 S)).drew = v1 at R1 hM1 ⊢
  have lo1 := R1.bk.lt
  have lw1 := R1.row.lt
  have d1 := hM1.cell (i := 1) rfl
  have lm1 := hM1.lt
  have e1_2 := R1.bk.cell (i := 2) (v := .int .i64 (2)) rfl
  have HA := Lib.hid (And.intro R1.drew hM1.drew)
  have hq : RN4 o gg w.heap.size k nn S gl.length vc gen v1.drew := RN4.of R1.drew hM1.drew Hgk.out
  clear R1 hM1 hv1
  go_wp2_with fail
  refine wp_region_held_drew (S := RN4 o gg w.heap.size k nn S gl.length vc gen) (by kernel_rfl) (hq) (fun hHeld => ?_)
  refine wpAnyH_take (i := 0) (v := ?v1) rfl (by kernel_rfl) (by kernel_rfl) (by kernel_rfl) (fun _ _ _ h => h) (Or.inl ⟨by rfl, ?y1⟩) hHeld ?r1
  case y1 => (intro w hSw; obtain ⟨q0, q1, q2, q3, q4⟩ := hSw; have b0 := q0.cell (i := 0) rfl; have b1 := q0.cell (i := 1) rfl; have b2 := q0.cell (i := 2) rfl; have b3 := q0.cell (i := 3) rfl; have b4 := q0.cell (i := 4) rfl; clear q0; go_simp; try with_reducible rfl)
  simp only [List.getElem_toArray, List.getElem_cons_zero, Act.put, List.setIfInBounds_toArray, List.set_cons_zero, List.set_cons_succ]
  refine wpAnyH_take (i := 1) (v := ?v2) rfl (by kernel_rfl) (by kernel_rfl) (by kernel_rfl) (fun _ _ _ h => h) (Or.inl ⟨by rfl, ?y2⟩) hHeld ?r2
  case y2 => (intro w hSw; obtain ⟨q0, q1, q2, q3, q4⟩ := hSw; have b0 := q0.cell (i := 0) rfl; have b1 := q0.cell (i := 1) rfl; have b2 := q0.cell (i := 2) rfl; have b3 := q0.cell (i := 3) rfl; have b4 := q0.cell (i := 4) rfl; clear q0; go_simp; try with_reducible rfl)
  simp only [List.getElem_toArray, List.getElem_cons_zero, List.getElem_cons_succ, Act.put, List.setIfInBounds_toArray, List.set_cons_zero, List.set_cons_succ]
  refine wpAnyH_take (i := 2) (v := ?v3) rfl (by kernel_rfl) (by kernel_rfl) (by kernel_rfl) (fun _ _ _ h => h) (Or.inl ⟨by rfl, ?y3⟩) hHeld ?r3
  case y3 => (intro w hSw; obtain ⟨q0, q1, q2, q3, q4⟩ := hSw; have b0 := q0.cell (i := 0) rfl; have b1 := q0.cell (i := 1) rfl; have b2 := q0.cell (i := 2) rfl; have b3 := q0.cell (i := 3) rfl; have b4 := q0.cell (i := 4) rfl; clear q0; go_simp; try with_reducible rfl)
  simp only [List.getElem_toArray, List.getElem_cons_zero, List.getElem_cons_succ, Act.put, List.setIfInBounds_toArray, List.set_cons_zero, List.set_cons_succ]
  refine wpAnyH_take (i := 3) (v := ?v4) rfl (by kernel_rfl) (by kernel_rfl) (by kernel_rfl) (fun _ _ _ h => h) (Or.inl ⟨by rfl, ?y4⟩) hHeld ?r4
  case y4 => (intro w hSw; obtain ⟨q0, q1, q2, q3, q4⟩ := hSw; have b0 := q0.cell (i := 0) rfl; have b1 := q0.cell (i := 1) rfl; have b2 := q0.cell (i := 2) rfl; have b3 := q0.cell (i := 3) rfl; have b4 := q0.cell (i := 4) rfl; clear q0; go_simp; try with_reducible rfl)
  simp only [List.getElem_toArray, List.getElem_cons_zero, List.getElem_cons_succ, Act.put, List.setIfInBounds_toArray, List.set_cons_zero, List.set_cons_succ]
  refine wpAnyH_take (i := 4) (v := ?v5) rfl (by kernel_rfl) (by kernel_rfl) (by kernel_rfl) (fun _ _ _ h => h) (Or.inl ⟨by rfl, ?y5⟩) hHeld ?r5
  case y5 => (intro w hSw; obtain ⟨q0, q1, q2, q3, q4⟩ := hSw; have b0 := q0.cell (i := 0) rfl; have b1 := q0.cell (i := 1) rfl; have b2 := q0.cell (i := 2) rfl; have b3 := q0.cell (i := 3) rfl; have b4 := q0.cell (i := 4) rfl; clear q0; go_simp; try with_reducible rfl)
  simp only [List.getElem_toArray, List.getElem_cons_zero, List.getElem_cons_succ, Act.put, List.setIfInBounds_toArray, List.set_cons_zero, List.set_cons_succ]
  refine wpAnyH_take (i := 5) (v := ?v6) rfl (by kernel_rfl) (by kernel_rfl) (by kernel_rfl) (fun _ _ _ h => h) (Or.inl ⟨by rfl, ?y6⟩) hHeld ?r6
  case y6 => (intro w hSw; obtain ⟨q0, q1, q2, q3, q4⟩ := hSw; have b0 := q0.cell (i := 0) rfl; have b1 := q0.cell (i := 1) rfl; have b2 := q0.cell (i := 2) rfl; have b3 := q0.cell (i := 3) rfl; have b4 := q0.cell (i := 4) rfl; clear q0; go_simp; try with_reducible rfl)
  simp only [List.getElem_toArray, List.getElem_cons_zero, List.getElem_cons_succ, Act.put, List.setIfInBounds_toArray, List.set_cons_zero, List.set_cons_succ]
  refine wpAnyH_take (i := 6) (v := ?v7) rfl (by kernel_rfl) (by kernel_rfl) (by kernel_rfl) (fun _ _ _ h => h) (Or.inl ⟨by rfl, ?y7⟩) hHeld ?r7
  case y7 => (intro w hSw; obtain ⟨q0, q1, q2, q3, q4⟩ := hSw; have b0 := q0.cell (i := 0) rfl; have b1 := q0.cell (i := 1) rfl; have b2 := q0.cell (i := 2) rfl; have b3 := q0.cell (i := 3) rfl; have b4 := q0.cell (i := 4) rfl; clear q0; go_simp; try with_reducible rfl)
  simp only [List.getElem_toArray, List.getElem_cons_zero, List.getElem_cons_succ, Act.put, List.setIfInBounds_toArray, List.set_cons_zero, List.set_cons_succ]
  refine wpAnyH_take (i := 7) (v := ?v8) rfl (by kernel_rfl) (by kernel_rfl) (by kernel_rfl) (fun _ _ _ h => h) (Or.inl ⟨by rfl, ?y8⟩) hHeld ?r8
  case y8 => (intro w hSw; obtain ⟨q0, q1, q2, q3, q4⟩ := hSw; have b0 := q0.cell (i := 0) rfl; have b1 := q0.cell (i := 1) rfl; have b2 := q0.cell (i := 2) rfl; have b3 := q0.cell (i := 3) rfl; have b4 := q0.cell (i := 4) rfl; clear q0; go_simp; try with_reducible rfl)
  simp only [List.getElem_toArray, List.getElem_cons_zero, List.getElem_cons_succ, Act.put, List.setIfInBounds_toArray, List.set_cons_zero, List.set_cons_succ]
  refine wpAnyH_take (i := 8) (v := ?v9) rfl (by kernel_rfl) (by kernel_rfl) (by kernel_rfl) (fun _ _ _ h => h) (Or.inl ⟨by rfl, ?y9⟩) hHeld ?r9
  case y9 => (intro w hSw; obtain ⟨q0, q1, q2, q3, q4⟩ := hSw; have b0 := q0.cell (i := 0) rfl; have b1 := q0.cell (i := 1) rfl; have b2 := q0.cell (i := 2) rfl; have b3 := q0.cell (i := 3) rfl; have b4 := q0.cell (i := 4) rfl; clear q0; go_simp; try with_reducible rfl)
  simp only [List.getElem_toArray, List.getElem_cons_zero, List.getElem_cons_succ, Act.put, List.setIfInBounds_toArray, List.set_cons_zero, List.set_cons_succ]
  refine wpAnyH_take (i := 9) (v := ?v10) rfl (by kernel_rfl) (by kernel_rfl) (by kernel_rfl) (fun _ _ _ h => h) (Or.inl ⟨by rfl, ?y10⟩) hHeld ?r10
  case y10 => (intro w hSw; obtain ⟨q0, q1, q2, q3, q4⟩ := hSw; have b0 := q0.cell (i := 0) rfl; have b1 := q0.cell (i := 1) rfl; have b2 := q0.cell (i := 2) rfl; have b3 := q0.cell (i := 3) rfl; have b4 := q0.cell (i := 4) rfl; clear q0; go_simp; try with_reducible rfl)
  simp only [List.getElem_toArray, List.getElem_cons_zero, List.getElem_cons_succ, Act.put, List.setIfInBounds_toArray, List.set_cons_zero, List.set_cons_succ]
  refine wpAnyH_take (i := 10) (v := ?v11) rfl (by kernel_rfl) (by kernel_rfl) (by kernel_rfl) (fun _ _ _ h => h) (Or.inl ⟨by rfl, ?y11⟩) hHeld ?r11
  case y11 => (intro w hSw; obtain ⟨q0, q1, q2, q3, q4⟩ := hSw; have b0 := q0.cell (i := 0) rfl; have b1 := q0.cell (i := 1) rfl; have b2 := q0.cell (i := 2) rfl; have b3 := q0.cell (i := 3) rfl; have b4 := q0.cell (i := 4) rfl; clear q0; go_simp; try with_reducible rfl)
  simp only [List.getElem_toArray, List.getElem_cons_zero, List.getElem_cons_succ, Act.put, List.setIfInBounds_toArray, List.set_cons_zero, List.set_cons_succ]
  refine wpAnyH_take (i := 12) (v := ?v12) rfl (by kernel_rfl) (by kernel_rfl) (by kernel_rfl) (fun _ _ _ h => h) (Or.inl ⟨by rfl, ?y12⟩) hHeld ?r12
  case y12 => (intro w hSw; obtain ⟨q0, q1, q2, q3, q4⟩ := hSw; have b0 := q0.cell (i := 0) rfl; have b1 := q0.cell (i := 1) rfl; have b2 := q0.cell (i := 2) rfl; have b3 := q0.cell (i := 3) rfl; have b4 := q0.cell (i := 4) rfl; clear q0; go_simp; try with_reducible rfl)
  simp only [List.getElem_toArray, List.getElem_cons_zero, List.getElem_cons_succ, Act.put, List.setIfInBounds_toArray, List.set_cons_zero, List.set_cons_succ]
  refine wpAnyH_take (i := 13) (v := ?v13) rfl (by kernel_rfl) (by kernel_rfl) (by kernel_rfl) (fun _ _ _ h => h) (Or.inl ⟨by rfl, ?y13⟩) hHeld ?r13
  case y13 => (intro w hSw; obtain ⟨q0, q1, q2, q3, q4⟩ := hSw; have b0 := q0.cell (i := 0) rfl; have b1 := q0.cell (i := 1) rfl; have b2 := q0.cell (i := 2) rfl; have b3 := q0.cell (i := 3) rfl; have b4 := q0.cell (i := 4) rfl; clear q0; go_simp; try with_reducible rfl)
  simp only [List.getElem_toArray, List.getElem_cons_zero, List.getElem_cons_succ, Act.put, List.setIfInBounds_toArray, List.set_cons_zero, List.set_cons_succ]
  refine wpAnyH_take (i := 14) (v := ?v14) rfl (by kernel_rfl) (by kernel_rfl) (by kernel_rfl) (fun _ _ _ h => h) (Or.inl ⟨by rfl, ?y14⟩) hHeld ?r14
  case y14 => (intro w hSw; obtain ⟨q0, q1, q2, q3, q4⟩ := hSw; have b0 := q0.cell (i := 0) rfl; have b1 := q0.cell (i := 1) rfl; have b2 := q0.cell (i := 2) rfl; have b3 := q0.cell (i := 3) rfl; have b4 := q0.cell (i := 4) rfl; clear q0; go_simp; try with_reducible rfl)
  simp only [List.getElem_toArray, List.getElem_cons_zero, List.getElem_cons_succ, Act.put, List.setIfInBounds_toArray, List.set_cons_zero, List.set_cons_succ]
  refine wpAnyH_take (i := 15) (v := ?v15) rfl (by kernel_rfl) (by kernel_rfl) (by kernel_rfl) (fun _ _ _ h => h) (Or.inl ⟨by rfl, ?y15⟩) hHeld ?r15
  case y15 => (intro w hSw; obtain ⟨q0, q1, q2, q3, q4⟩ := hSw; have b0 := q0.cell (i := 0) rfl; have b1 := q0.cell (i := 1) rfl; have b2 := q0.cell (i := 2) rfl; have b3 := q0.cell (i := 3) rfl; have b4 := q0.cell (i := 4) rfl; clear q0; go_simp; try with_reducible rfl)
  simp only [List.getElem_toArray, List.getElem_cons_zero, List.getElem_cons_succ, Act.put, List.setIfInBounds_toArray, List.set_cons_zero, List.set_cons_succ]
  refine wpAnyH_ready (rs := [11]) (by kernel_rfl) (by simp) (AllReadyH.cons rfl (fun K hK => ?_) AllReadyH.nil)
  go_simp
  refine (Hat.out _).mono ?_
  rintro e v3 ⟨rfl, hb3⟩
  have R3 := HA.out.1.low hb3
  have hM3 := HA.out.2.low hb3
  have hq3 : RN4 o gg w.heap.size k nn S gl.length vc gen v3 := RN4.of R3 hM3 Hgk.out
  have HB3 := Lib.hid (And.intro R3 hM3)
  clear hb3 R3 hM3
  go_wp2_with fail
  refine hK.out _ _ (hq3) (fun hHeld => ?_)
  clear hK K
  refine wpAnyH_take (i := 16) (v := (.int .i64 J)) rfl (by kernel_rfl) (by kernel_rfl) (by kernel_rfl) (fun _ _ _ h => h) (Or.inl ⟨by rfl, ?y17⟩) hHeld ?r17
  case y17 => (intro w hSw; obtain ⟨q0, q1, q2, q3, q4⟩ := hSw; have b0 := q0.cell (i := 0) rfl; have b1 := q0.cell (i := 1) rfl; have b2 := q0.cell (i := 2) rfl; have b3 := q0.cell (i := 3) rfl; have b4 := q0.cell (i := 4) rfl; clear q0; go_simp; try with_reducible rfl)
  simp only [List.getElem_toArray, List.getElem_cons_zero, List.getElem_cons_succ, Act.put, List.setIfInBounds_toArray, List.set_cons_zero, List.set_cons_succ]
  refine wpAnyH_take (i := 17) (v := (.int .i64 J)) rfl (by kernel_rfl) (by kernel_rfl) (by kernel_rfl) (fun _ _ _ h => h) (Or.inl ⟨by rfl, ?y18⟩) hHeld ?r18
  case y18 => (intro w hSw; obtain ⟨q0, q1, q2, q3, q4⟩ := hSw; have b0 := q0.cell (i := 0) rfl; have b1 := q0.cell (i := 1) rfl; have b2 := q0.cell (i := 2) rfl; have b3 := q0.cell (i := 3) rfl; have b4 := q0.cell (i := 4) rfl; clear q0; go_simp; try with_reducible rfl)
  simp only [List.getElem_toArray, List.getElem_cons_zero, List.getElem_cons_succ, Act.put, List.setIfInBounds_toArray, List.set_cons_zero, List.set_cons_succ]
  refine wpAnyH_done (by kernel_rfl) ?_ _
  clear hHeld hq hq3 Hat HA hJ hwA d1 lm1 lo1 lw1 e1_2
  obtain ⟨R3, hM3⟩ := HB3.out
  clear HB3
  have lo3 := R3.bk.lt
  have lw3 := R3.row.lt
  have e3_9 := R3.bk.cell (i := 9) (v := .int .i64 (0)) rfl
  have z3_9 := R3.bk.frozen 9
  have R4 := (R3.put 9 (.int .i64 (3))).to (C' := (rc (.slice (some ⟨b, off, none⟩) ln cp) (.slice (some ⟨gg, 0, none⟩) gl.length vc) (.slice ua wl.length uc) tr 2 k nn (tr - left) bn 3 p)) rfl
  generalize hv4 : v3.setCell ⟨o, 9, none⟩ (.int .i64 (3)) = v4 at R4
  have HR4 := Lib.hid R4
  clear R3 R4 hM3
  go_wp2
  go_end0
  exact (HR4.out.to (show _ = rfc (.slice (some ⟨b, off, none⟩) ln cp) (.slice (some ⟨gg, 0, none⟩) gl.length vc) (.slice ua wl.length uc) tr ⟨3, 1, k, nn, left, p, bn, tl⟩ from by simp [rfc, rc]; try omega)).post hlen2.out (fun _ => Hgw.out)
end
end Go.Proofs.Ytflgggfomhifeaa
