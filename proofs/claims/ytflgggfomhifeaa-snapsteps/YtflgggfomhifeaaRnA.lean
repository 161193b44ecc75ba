/- The document's step: ended, out of the bank. -/
import Derived.Test.YtflgggfomhifeaaRnM
namespace Go.Proofs.Ytflgggfomhifeaa
open Go.RowKit
abbrev rc (L V U : Value) (tr nx k n hd bg hw dd : Int) : List Value := [L, .int .i64 tr, .int .i64 nx, .int .i64 k, .int .i64 n, .int .i64 hd, V, U, .int .i64 bg, .int .i64 hw, .int .i64 dd]
/-- What the first part of a step reads. -/
def RX (o b off c n k : Nat) (S : Sp) (w' : World) : Prop :=
  (w'.cell? ⟨o, 0, none⟩ = some (.slice (some ⟨b, off, none⟩) n c) ∧ w'.cell? ⟨o, 3, none⟩ = some (.int .i64 k)) ∧
  w'.cell? ⟨b, off + k * 5, none⟩ = some (.int .i64 S.ow) ∧ w'.cell? ⟨b, off + k * 5 + 1, none⟩ = some (.int .i64 S.sq) ∧ w'.cell? ⟨b, off + k * 5 + 2, none⟩ = some (.int .i64 S.fs) ∧ w'.cell? ⟨b, off + k * 5 + 3, none⟩ = some (.int .i64 S.wd) ∧ w'.cell? ⟨b, off + k * 5 + 4, none⟩ = some (.int .i64 S.dp)
theorem RX.of {w0 W : World} {o wb b off n c k : Nat} {V0 U0 V U : Value} {gl wl ys : List Int} {SS : List Sp} {tr nx nn hd bg hw dd : Int} {S : Sp} (h : Rtg w0 o wb (some ⟨b, off, none⟩) V0 U0 V U gl wl SS ys (rc (.slice (some ⟨b, off, none⟩) n c) V U tr nx k nn hd bg hw dd) W) (hS : SS[k]? = some S) : RX o b off c n k S W := by
  obtain ⟨b', off', e, _, c0, c1, c2, c3, c4⟩ := h.sp k S hS
  cases e
  exact ⟨⟨h.bk.cell (i := 0) rfl, h.bk.cell (i := 3) rfl⟩, c0, c1, c2, c3, c4⟩
/-- What an append reads. -/
def RW (wb i : Nat) (v : Int) (w' : World) : Prop := w'.cell? ⟨wb, i, none⟩ = some (.int .u64 v)
theorem rows0 {α : Type} {gl wl tl : List α} {L : Nat} {u : α} (h : tl.length < L) (hr : gl = tl.take L ∧ wl = tl.drop L) : gl ++ [u] = (tl ++ [u]).take L ∧ wl = (tl ++ [u]).drop L := by
  obtain ⟨rfl, rfl⟩ := hr
  rw [List.take_of_length_le (Nat.le_of_lt h), List.take_of_length_le (by simp; omega), List.drop_eq_nil_of_le (Nat.le_of_lt h), List.drop_eq_nil_of_le (by simp; omega)]
  exact ⟨rfl, rfl⟩
theorem rows1 {α : Type} {gl wl tl : List α} {L : Nat} {u : α} (h : L ≤ tl.length) (hr : gl = tl.take L ∧ wl = tl.drop L) : gl = (tl ++ [u]).take L ∧ wl ++ [u] = (tl ++ [u]).drop L := by
  obtain ⟨rfl, rfl⟩ := hr
  rw [List.take_append_of_le_length h, List.drop_append_of_le_length h]
  exact ⟨rfl, rfl⟩
theorem owns_some {W : World} {v : Value} {k : Nat} {xs : List Value} (h : W.ownsRow 0 42 1 v k xs) (hk : 0 < k) : ∃ g c, v = .slice (some ⟨g, 0, none⟩) k c ∧ g < W.heap.size := by
  rcases h.2 with ⟨_, c⟩ | ⟨g, cap, cur, rfl, _, hg, _⟩
  · omega
  · exact ⟨g, cap, rfl, (Array.getElem?_eq_some_iff.1 hg).1⟩
theorem owns_cell {W : World} {g k c : Nat} {xs : List Value} (h : W.ownsRow 0 42 1 (.slice (some ⟨g, 0, none⟩) k c) k xs) {i : Nat} {y : Value} (hi : xs[i]? = some y) : W.cell? ⟨g, i, none⟩ = some y := by
  have h1 := World.ownsRow.cells (w := W) h rfl i y hi
  have e2 : (⟨g, 0, none⟩ : Addr).add i = ⟨g, i, none⟩ := by unfold Addr.add; split <;> simp_all
  rw [e2] at h1
  exact h1

section
variable {w : World} {o wb b off ln cp k nn : Nat} {V U : Value} {SS : List Sp} {tr left p bn v : Int} {tl ys : List Int}
set_option maxRecDepth 100000 in
theorem rn_ended {a : Option Addr} {x : NSt} (h : RnAt w o a ln cp V U SS tr x) (bv : Value) (hh : ¬ x.how = 0) : Calls Try.prog 16 #[.pointer (some ⟨o, 0, none⟩), bv] w (Pur (.tuple #[]) w) := by
  have c9 := h.cells.cell (i := 9) rfl
  have lo := h.cells.lt
  clear h
  generalize x.how = y at *
  go_enter Try.func16, Try.ntmps16
  go_wp2
  go_end0
  exact ⟨rfl, rfl⟩
set_option maxRecDepth 100000 in
set_option maxHeartbeats 2000000 in
theorem rn_out0 (h : RnAt w o (some ⟨b, off, none⟩) ln cp V U SS tr ⟨0, 0, k, nn, left, p, bn, tl⟩) (hB : Row w wb ys) (hne : o ≠ wb) (hvw : V.ownBlock ≠ some wb) (huw : U.ownBlock ≠ some wb) (hw : NWf SS ⟨0, 0, k, nn, left, p, bn, tl⟩) (_t1 : left ≤ tr) (_t2 : tr ≤ 16) (_p0 : 0 ≤ p) (_p1 : p ≤ 1000000) (_hyl : ys.length ≤ 1000) (hv : getI ys (nxl SS ⟨0, 0, k, nn, left, p, bn, tl⟩) = none) :
    Calls Try.prog 16 #[.pointer (some ⟨o, 0, none⟩), .slice (some ⟨wb, 0, none⟩) ys.length ys.length] w (RnPost o wb (some ⟨b, off, none⟩) ln cp V U SS tr ys ⟨3, 0, k, nn, left, p, bn, tl⟩ w) := by
  obtain ⟨gl, wl, hr, Q0⟩ := Rtg.start h hB hne hvw huw
  have Hrr := Lib.hid hr
  have R0 := Q0.to (C' := (rc (.slice (some ⟨b, off, none⟩) ln cp) V U tr 1 k nn (tr - left) bn 0 p)) (by simp [rfc, rc])
  have hlen := h.len
  have hsp := hw.sp
  have hk0 := hw.k
  obtain ⟨b', off', heq, hbl, hjj⟩ := R0.sp k _ hsp
  clear hjj
  cases heq
  obtain ⟨S, hSe⟩ : ∃ S, nxs SS ⟨0, 0, k, nn, left, p, bn, tl⟩ = S := ⟨_, rfl⟩
  have hrt := hw.rts
  rw [hSe] at hsp hrt
  have hs64 := hw.s64
  rw [hlen] at hs64
  dsimp only at hk0 hsp
  have hkl : k < ln := by omega
  have hkl2 : (k : Int) < ln := by omega
  have hq0 : 0 ≤ S.sq := by unfold Rt at hrt; omega
  have RA := R0.drew.alloc (.cells #[.int .i64 0, .int .i64 0, .int .i64 0, .int .i64 0, .int .i64 0] 96)
  have R1 := (R0.alloc (sb2 S)).drew
  have hM1 : Blk (w.alloc (sb2 S)).drew w.heap.size (spc5 S) := Blk.new w #[.int .i64 S.ow, .int .i64 S.sq, .int .i64 S.fs, .int .i64 S.wd, .int .i64 S.dp] 96
  have HQ0 := Lib.hid (RX.of R0.drew hsp)
  have HQ1 := Lib.hid (RX.of RA hsp)
  have HQ2 := Lib.hid (RX.of R1 hsp)
  have hM := Blk.new w.drew #[.int .i64 0, .int .i64 0, .int .i64 0, .int .i64 0, .int .i64 0] 96
  change Blk _ w.heap.size _ at hM
  have hM0 := hM.cell (i := 0) rfl
  have hM1c := hM.cell (i := 1) rfl
  have hM2 := hM.cell (i := 2) rfl
  have hM3 := hM.cell (i := 3) rfl
  have hM4 := hM.cell (i := 4) rfl
  have y0 := hM.frozen 0
  have y1 := hM.frozen 1
  have y2 := hM.frozen 2
  have y3 := hM.frozen 3
  have y4 := hM.frozen 4
  have lA := hM.lt
  have lo0 := R0.bk.lt
  have lw0 := R0.row.lt
  have e0_9 := R0.bk.cell (i := 9) (v := .int .i64 (0)) rfl
  unfold nxl at hv
  rw [if_neg (by dsimp only; omega), hSe] at hv
  have hlen2 : (ys.length : Int) ≤ S.sq := by rcases getI_none hv with q | q <;> omega
  have HR1 := Lib.hid R1
  have HM1 := Lib.hid hM1
  clear R0 RA R1 hM1 hM Q0 h hB hvw huw hsp hr hv hw hSe hrt
  go_enter Try.func16, Try.ntmps16
  go_wp2_with fail
  refine wp_region_held_drew (S := RX o b off cp ln k S) (by kernel_rfl) (HQ0.out) (fun hHeld => ?_)
  refine wpAnyH_take (i := 0) (v := ?v1) rfl (by kernel_rfl) (by kernel_rfl) (by kernel_rfl) (fun _ _ _ h => h) (Or.inl ⟨by rfl, ?y1⟩) hHeld ?r1
  case y1 => (intro w hSw; obtain ⟨⟨q0, q1⟩, q2, q3, q4, q5, q6⟩ := hSw; (try simp only [Nat.zero_mul, Nat.add_zero] at q2 q3 q4 q5 q6); go_simp; try with_reducible rfl)
  simp only [List.getElem_toArray, List.getElem_cons_zero, Act.put, List.setIfInBounds_toArray, List.set_cons_zero, List.set_cons_succ]
  refine wpAnyH_take (i := 1) (v := ?v2) rfl (by kernel_rfl) (by kernel_rfl) (by kernel_rfl) (fun _ _ _ h => h) (Or.inl ⟨by rfl, ?y2⟩) hHeld ?r2
  case y2 => (intro w hSw; obtain ⟨⟨q0, q1⟩, q2, q3, q4, q5, q6⟩ := hSw; (try simp only [Nat.zero_mul, Nat.add_zero] at q2 q3 q4 q5 q6); go_simp; try with_reducible rfl)
  simp only [List.getElem_toArray, List.getElem_cons_zero, List.getElem_cons_succ, Act.put, List.setIfInBounds_toArray, List.set_cons_zero, List.set_cons_succ]
  refine wpAnyH_take (i := 2) (v := ?v3) rfl (by kernel_rfl) (by kernel_rfl) (by kernel_rfl) (fun _ _ _ h => h) (Or.inl ⟨by rfl, ?y3⟩) hHeld ?r3
  case y3 => (intro w hSw; obtain ⟨⟨q0, q1⟩, q2, q3, q4, q5, q6⟩ := hSw; (try simp only [Nat.zero_mul, Nat.add_zero] at q2 q3 q4 q5 q6); go_simp; try with_reducible rfl)
  simp only [List.getElem_toArray, List.getElem_cons_zero, List.getElem_cons_succ, Act.put, List.setIfInBounds_toArray, List.set_cons_zero, List.set_cons_succ]
  refine wpAnyH_take (i := 3) (v := ?v4) rfl (by kernel_rfl) (by kernel_rfl) (by kernel_rfl) (fun _ _ _ h => h) (Or.inl ⟨by rfl, ?y4⟩) hHeld ?r4
  case y4 => (intro w hSw; obtain ⟨⟨q0, q1⟩, q2, q3, q4, q5, q6⟩ := hSw; (try simp only [Nat.zero_mul, Nat.add_zero] at q2 q3 q4 q5 q6); go_simp; try with_reducible rfl)
  simp only [List.getElem_toArray, List.getElem_cons_zero, List.getElem_cons_succ, Act.put, List.setIfInBounds_toArray, List.set_cons_zero, List.set_cons_succ]
  refine wpAnyH_take (i := 4) (v := ?v5) rfl (by kernel_rfl) (by kernel_rfl) (by kernel_rfl) (fun _ _ _ h => h) (Or.inl ⟨by rfl, ?y5⟩) hHeld ?r5
  case y5 => (intro w hSw; obtain ⟨⟨q0, q1⟩, q2, q3, q4, q5, q6⟩ := hSw; (try simp only [Nat.zero_mul, Nat.add_zero] at q2 q3 q4 q5 q6); go_simp; try with_reducible rfl)
  simp only [List.getElem_toArray, List.getElem_cons_zero, List.getElem_cons_succ, Act.put, List.setIfInBounds_toArray, List.set_cons_zero, List.set_cons_succ]
  refine wpAnyH_take (i := 5) (v := ?v6) rfl (by kernel_rfl) (by kernel_rfl) (by kernel_rfl) (fun _ _ _ h => h) (Or.inl ⟨by rfl, ?y6⟩) hHeld ?r6
  case y6 => (intro w hSw; obtain ⟨⟨q0, q1⟩, q2, q3, q4, q5, q6⟩ := hSw; (try simp only [Nat.zero_mul, Nat.add_zero] at q2 q3 q4 q5 q6); go_simp; try with_reducible rfl)
  simp only [List.getElem_toArray, List.getElem_cons_zero, List.getElem_cons_succ, Act.put, List.setIfInBounds_toArray, List.set_cons_zero, List.set_cons_succ]
  refine wpAnyH_take (i := 6) (v := ?v7) rfl (by kernel_rfl) (by kernel_rfl) (by kernel_rfl) (fun _ _ _ h => h) (Or.inl ⟨by rfl, ?y7⟩) hHeld ?r7
  case y7 => (intro w hSw; obtain ⟨⟨q0, q1⟩, q2, q3, q4, q5, q6⟩ := hSw; (try simp only [Nat.zero_mul, Nat.add_zero] at q2 q3 q4 q5 q6); go_simp; try with_reducible rfl)
  simp only [List.getElem_toArray, List.getElem_cons_zero, List.getElem_cons_succ, Act.put, List.setIfInBounds_toArray, List.set_cons_zero, List.set_cons_succ]
  refine wpAnyH_take (i := 7) (v := ?v8) rfl (by kernel_rfl) (by kernel_rfl) (by kernel_rfl) (fun _ _ _ h => h) (Or.inl ⟨by rfl, ?y8⟩) hHeld ?r8
  case y8 => (intro w hSw; obtain ⟨⟨q0, q1⟩, q2, q3, q4, q5, q6⟩ := hSw; (try simp only [Nat.zero_mul, Nat.add_zero] at q2 q3 q4 q5 q6); go_simp; try with_reducible rfl)
  simp only [List.getElem_toArray, List.getElem_cons_zero, List.getElem_cons_succ, Act.put, List.setIfInBounds_toArray, List.set_cons_zero, List.set_cons_succ]
  refine wpAnyH_take (i := 8) (v := ?v9) rfl (by kernel_rfl) (by kernel_rfl) (by kernel_rfl) (fun _ _ _ h => h) (Or.inl ⟨by rfl, ?y9⟩) hHeld ?r9
  case y9 => (intro w hSw; obtain ⟨⟨q0, q1⟩, q2, q3, q4, q5, q6⟩ := hSw; (try simp only [Nat.zero_mul, Nat.add_zero] at q2 q3 q4 q5 q6); go_simp; try with_reducible rfl)
  simp only [List.getElem_toArray, List.getElem_cons_zero, List.getElem_cons_succ, Act.put, List.setIfInBounds_toArray, List.set_cons_zero, List.set_cons_succ]
  refine wpAnyH_take (i := 9) (v := ?v10) rfl (by kernel_rfl) (by kernel_rfl) (by kernel_rfl) (fun _ _ _ h => h) (Or.inl ⟨by rfl, ?y10⟩) hHeld ?r10
  case y10 => (intro w hSw; obtain ⟨⟨q0, q1⟩, q2, q3, q4, q5, q6⟩ := hSw; (try simp only [Nat.zero_mul, Nat.add_zero] at q2 q3 q4 q5 q6); go_simp; try with_reducible rfl)
  simp only [List.getElem_toArray, List.getElem_cons_zero, List.getElem_cons_succ, Act.put, List.setIfInBounds_toArray, List.set_cons_zero, List.set_cons_succ]
  refine wpAnyH_ready (rs := [10]) (by kernel_rfl) (by simp) (AllReadyH.cons rfl (fun K hK => ?_) AllReadyH.nil)
  go_simp
  skip
  refine hK.out _ _ (HQ1.out) (fun hHeld => ?_)
  clear hK K
  refine wpAnyH_ready (rs := [11]) (by kernel_rfl) (by simp) (AllReadyH.cons rfl (fun K hK => ?_) AllReadyH.nil)
  go_simp
  skip
  refine hK.out _ _ (HQ2.out) (fun hHeld => ?_)
  clear hK K
  refine wpAnyH_done (by kernel_rfl) ?_ _
  clear hHeld HQ0 HQ1 HQ2 hM0 hM1c hM2 hM3 hM4 y0 y1 y2 y3 y4 lA lo0 lw0 e0_9
  have R1 := HR1.out
  have hM1 := HM1.out
  clear HR1 HM1
  generalize hv1 : (w.alloc (sb2 S)).drew = v1 at R1 hM1 ⊢
  have lo1 := R1.bk.lt
  have lw1 := R1.row.lt
  have d1 := hM1.cell (i := 1) rfl
  have lm1 := hM1.lt
  have e1_2 := R1.bk.cell (i := 2) (v := .int .i64 (1)) rfl
  have e1_9 := R1.bk.cell (i := 9) (v := .int .i64 (0)) rfl
  have z1_9 := R1.bk.frozen 9
  have R2 := (R1.put 9 (.int .i64 (3))).to (C' := (rc (.slice (some ⟨b, off, none⟩) ln cp) V U tr 1 k nn (tr - left) bn 3 p)) rfl
  generalize hv2 : v1.setCell ⟨o, 9, none⟩ (.int .i64 (3)) = v2 at R2
  have HR2 := Lib.hid R2
  clear R1 R2 hM1 hv1
  go_wp2
  go_end0
  exact (HR2.out.to (show _ = rfc (.slice (some ⟨b, off, none⟩) ln cp) V U tr ⟨3, 0, k, nn, left, p, bn, tl⟩ from by simp [rfc, rc]; try omega)).post hlen (fun c => Hrr.out (by simpa using c))
set_option maxRecDepth 100000 in
set_option maxHeartbeats 2000000 in
theorem rn_out2 (h : RnAt w o (some ⟨b, off, none⟩) ln cp V U SS tr ⟨0, 2, k, nn, left, p, bn, tl⟩) (hB : Row w wb ys) (hne : o ≠ wb) (hvw : V.ownBlock ≠ some wb) (huw : U.ownBlock ≠ some wb) (hw : NWf SS ⟨0, 2, k, nn, left, p, bn, tl⟩) (_t1 : left ≤ tr) (_t2 : tr ≤ 16) (_p0 : 0 ≤ p) (_p1 : p ≤ 1000000) (_hyl : ys.length ≤ 1000) (hv : getI ys (nxl SS ⟨0, 2, k, nn, left, p, bn, tl⟩) = none) :
    Calls Try.prog 16 #[.pointer (some ⟨o, 0, none⟩), .slice (some ⟨wb, 0, none⟩) ys.length ys.length] w (RnPost o wb (some ⟨b, off, none⟩) ln cp V U SS tr ys ⟨3, 2, k, nn, left, p, bn, tl⟩ w) := by
  obtain ⟨gl, wl, hr, Q0⟩ := Rtg.start h hB hne hvw huw
  have Hrr := Lib.hid hr
  have R0 := Q0.to (C' := (rc (.slice (some ⟨b, off, none⟩) ln cp) V U tr 3 k nn (tr - left) bn 0 p)) (by simp [rfc, rc])
  have hlen := h.len
  have hsp := hw.sp
  have hk0 := hw.k
  obtain ⟨b', off', heq, hbl, hjj⟩ := R0.sp k _ hsp
  clear hjj
  cases heq
  obtain ⟨S, hSe⟩ : ∃ S, nxs SS ⟨0, 2, k, nn, left, p, bn, tl⟩ = S := ⟨_, rfl⟩
  have hrt := hw.rts
  rw [hSe] at hsp hrt
  have hs64 := hw.s64
  rw [hlen] at hs64
  dsimp only at hk0 hsp
  have hkl : k < ln := by omega
  have hkl2 : (k : Int) < ln := by omega
  have hq0 : 0 ≤ S.sq := by unfold Rt at hrt; omega
  have RA := R0.drew.alloc (.cells #[.int .i64 0, .int .i64 0, .int .i64 0, .int .i64 0, .int .i64 0] 96)
  have R1 := (R0.alloc (sb2 S)).drew
  have hM1 : Blk (w.alloc (sb2 S)).drew w.heap.size (spc5 S) := Blk.new w #[.int .i64 S.ow, .int .i64 S.sq, .int .i64 S.fs, .int .i64 S.wd, .int .i64 S.dp] 96
  have HQ0 := Lib.hid (RX.of R0.drew hsp)
  have HQ1 := Lib.hid (RX.of RA hsp)
  have HQ2 := Lib.hid (RX.of R1 hsp)
  have hM := Blk.new w.drew #[.int .i64 0, .int .i64 0, .int .i64 0, .int .i64 0, .int .i64 0] 96
  change Blk _ w.heap.size _ at hM
  have hM0 := hM.cell (i := 0) rfl
  have hM1c := hM.cell (i := 1) rfl
  have hM2 := hM.cell (i := 2) rfl
  have hM3 := hM.cell (i := 3) rfl
  have hM4 := hM.cell (i := 4) rfl
  have y0 := hM.frozen 0
  have y1 := hM.frozen 1
  have y2 := hM.frozen 2
  have y3 := hM.frozen 3
  have y4 := hM.frozen 4
  have lA := hM.lt
  have lo0 := R0.bk.lt
  have lw0 := R0.row.lt
  have e0_9 := R0.bk.cell (i := 9) (v := .int .i64 (0)) rfl
  unfold nxl at hv
  rw [if_neg (by dsimp only; omega), hSe] at hv
  have hlen2 : (ys.length : Int) ≤ S.sq := by rcases getI_none hv with q | q <;> omega
  have HR1 := Lib.hid R1
  have HM1 := Lib.hid hM1
  clear R0 RA R1 hM1 hM Q0 h hB hvw huw hsp hr hv hw hSe hrt
  go_enter Try.func16, Try.ntmps16
  go_wp2_with fail
  refine wp_region_held_drew (S := RX o b off cp ln k S) (by kernel_rfl) (HQ0.out) (fun hHeld => ?_)
  refine wpAnyH_take (i := 0) (v := ?v13) rfl (by kernel_rfl) (by kernel_rfl) (by kernel_rfl) (fun _ _ _ h => h) (Or.inl ⟨by rfl, ?y13⟩) hHeld ?r13
  case y13 => (intro w hSw; obtain ⟨⟨q0, q1⟩, q2, q3, q4, q5, q6⟩ := hSw; (try simp only [Nat.zero_mul, Nat.add_zero] at q2 q3 q4 q5 q6); go_simp; try with_reducible rfl)
  simp only [List.getElem_toArray, List.getElem_cons_zero, Act.put, List.setIfInBounds_toArray, List.set_cons_zero, List.set_cons_succ]
  refine wpAnyH_take (i := 1) (v := ?v14) rfl (by kernel_rfl) (by kernel_rfl) (by kernel_rfl) (fun _ _ _ h => h) (Or.inl ⟨by rfl, ?y14⟩) hHeld ?r14
  case y14 => (intro w hSw; obtain ⟨⟨q0, q1⟩, q2, q3, q4, q5, q6⟩ := hSw; (try simp only [Nat.zero_mul, Nat.add_zero] at q2 q3 q4 q5 q6); go_simp; try with_reducible rfl)
  simp only [List.getElem_toArray, List.getElem_cons_zero, List.getElem_cons_succ, Act.put, List.setIfInBounds_toArray, List.set_cons_zero, List.set_cons_succ]
  refine wpAnyH_take (i := 2) (v := ?v15) rfl (by kernel_rfl) (by kernel_rfl) (by kernel_rfl) (fun _ _ _ h => h) (Or.inl ⟨by rfl, ?y15⟩) hHeld ?r15
  case y15 => (intro w hSw; obtain ⟨⟨q0, q1⟩, q2, q3, q4, q5, q6⟩ := hSw; (try simp only [Nat.zero_mul, Nat.add_zero] at q2 q3 q4 q5 q6); go_simp; try with_reducible rfl)
  simp only [List.getElem_toArray, List.getElem_cons_zero, List.getElem_cons_succ, Act.put, List.setIfInBounds_toArray, List.set_cons_zero, List.set_cons_succ]
  refine wpAnyH_take (i := 3) (v := ?v16) rfl (by kernel_rfl) (by kernel_rfl) (by kernel_rfl) (fun _ _ _ h => h) (Or.inl ⟨by rfl, ?y16⟩) hHeld ?r16
  case y16 => (intro w hSw; obtain ⟨⟨q0, q1⟩, q2, q3, q4, q5, q6⟩ := hSw; (try simp only [Nat.zero_mul, Nat.add_zero] at q2 q3 q4 q5 q6); go_simp; try with_reducible rfl)
  simp only [List.getElem_toArray, List.getElem_cons_zero, List.getElem_cons_succ, Act.put, List.setIfInBounds_toArray, List.set_cons_zero, List.set_cons_succ]
  refine wpAnyH_take (i := 4) (v := ?v17) rfl (by kernel_rfl) (by kernel_rfl) (by kernel_rfl) (fun _ _ _ h => h) (Or.inl ⟨by rfl, ?y17⟩) hHeld ?r17
  case y17 => (intro w hSw; obtain ⟨⟨q0, q1⟩, q2, q3, q4, q5, q6⟩ := hSw; (try simp only [Nat.zero_mul, Nat.add_zero] at q2 q3 q4 q5 q6); go_simp; try with_reducible rfl)
  simp only [List.getElem_toArray, List.getElem_cons_zero, List.getElem_cons_succ, Act.put, List.setIfInBounds_toArray, List.set_cons_zero, List.set_cons_succ]
  refine wpAnyH_take (i := 5) (v := ?v18) rfl (by kernel_rfl) (by kernel_rfl) (by kernel_rfl) (fun _ _ _ h => h) (Or.inl ⟨by rfl, ?y18⟩) hHeld ?r18
  case y18 => (intro w hSw; obtain ⟨⟨q0, q1⟩, q2, q3, q4, q5, q6⟩ := hSw; (try simp only [Nat.zero_mul, Nat.add_zero] at q2 q3 q4 q5 q6); go_simp; try with_reducible rfl)
  simp only [List.getElem_toArray, List.getElem_cons_zero, List.getElem_cons_succ, Act.put, List.setIfInBounds_toArray, List.set_cons_zero, List.set_cons_succ]
  refine wpAnyH_take (i := 6) (v := ?v19) rfl (by kernel_rfl) (by kernel_rfl) (by kernel_rfl) (fun _ _ _ h => h) (Or.inl ⟨by rfl, ?y19⟩) hHeld ?r19
  case y19 => (intro w hSw; obtain ⟨⟨q0, q1⟩, q2, q3, q4, q5, q6⟩ := hSw; (try simp only [Nat.zero_mul, Nat.add_zero] at q2 q3 q4 q5 q6); go_simp; try with_reducible rfl)
  simp only [List.getElem_toArray, List.getElem_cons_zero, List.getElem_cons_succ, Act.put, List.setIfInBounds_toArray, List.set_cons_zero, List.set_cons_succ]
  refine wpAnyH_take (i := 7) (v := ?v20) rfl (by kernel_rfl) (by kernel_rfl) (by kernel_rfl) (fun _ _ _ h => h) (Or.inl ⟨by rfl, ?y20⟩) hHeld ?r20
  case y20 => (intro w hSw; obtain ⟨⟨q0, q1⟩, q2, q3, q4, q5, q6⟩ := hSw; (try simp only [Nat.zero_mul, Nat.add_zero] at q2 q3 q4 q5 q6); go_simp; try with_reducible rfl)
  simp only [List.getElem_toArray, List.getElem_cons_zero, List.getElem_cons_succ, Act.put, List.setIfInBounds_toArray, List.set_cons_zero, List.set_cons_succ]
  refine wpAnyH_take (i := 8) (v := ?v21) rfl (by kernel_rfl) (by kernel_rfl) (by kernel_rfl) (fun _ _ _ h => h) (Or.inl ⟨by rfl, ?y21⟩) hHeld ?r21
  case y21 => (intro w hSw; obtain ⟨⟨q0, q1⟩, q2, q3, q4, q5, q6⟩ := hSw; (try simp only [Nat.zero_mul, Nat.add_zero] at q2 q3 q4 q5 q6); go_simp; try with_reducible rfl)
  simp only [List.getElem_toArray, List.getElem_cons_zero, List.getElem_cons_succ, Act.put, List.setIfInBounds_toArray, List.set_cons_zero, List.set_cons_succ]
  refine wpAnyH_take (i := 9) (v := ?v22) rfl (by kernel_rfl) (by kernel_rfl) (by kernel_rfl) (fun _ _ _ h => h) (Or.inl ⟨by rfl, ?y22⟩) hHeld ?r22
  case y22 => (intro w hSw; obtain ⟨⟨q0, q1⟩, q2, q3, q4, q5, q6⟩ := hSw; (try simp only [Nat.zero_mul, Nat.add_zero] at q2 q3 q4 q5 q6); go_simp; try with_reducible rfl)
  simp only [List.getElem_toArray, List.getElem_cons_zero, List.getElem_cons_succ, Act.put, List.setIfInBounds_toArray, List.set_cons_zero, List.set_cons_succ]
  refine wpAnyH_ready (rs := [10]) (by kernel_rfl) (by simp) (AllReadyH.cons rfl (fun K hK => ?_) AllReadyH.nil)
  go_simp
  skip
  refine hK.out _ _ (HQ1.out) (fun hHeld => ?_)
  clear hK K
  refine wpAnyH_ready (rs := [11]) (by kernel_rfl) (by simp) (AllReadyH.cons rfl (fun K hK => ?_) AllReadyH.nil)
  go_simp
  skip
  refine hK.out _ _ (HQ2.out) (fun hHeld => ?_)
  clear hK K
  refine wpAnyH_done (by kernel_rfl) ?_ _
  clear hHeld HQ0 HQ1 HQ2 hM0 hM1c hM2 hM3 hM4 y0 y1 y2 y3 y4 lA lo0 lw0 e0_9
  have R1 := HR1.out
  have hM1 := HM1.out
  clear HR1 HM1
  generalize hv1 : (w.alloc (sb2 S)).drew = v1 at R1 hM1 ⊢
  have lo1 := R1.bk.lt
  have lw1 := R1.row.lt
  have d1 := hM1.cell (i := 1) rfl
  have lm1 := hM1.lt
  have e1_2 := R1.bk.cell (i := 2) (v := .int .i64 (3)) rfl
  have e1_9 := R1.bk.cell (i := 9) (v := .int .i64 (0)) rfl
  have z1_9 := R1.bk.frozen 9
  have R2 := (R1.put 9 (.int .i64 (3))).to (C' := (rc (.slice (some ⟨b, off, none⟩) ln cp) V U tr 3 k nn (tr - left) bn 3 p)) rfl
  generalize hv2 : v1.setCell ⟨o, 9, none⟩ (.int .i64 (3)) = v2 at R2
  have HR2 := Lib.hid R2
  clear R1 R2 hM1 hv1
  go_wp2
  go_end0
  exact (HR2.out.to (show _ = rfc (.slice (some ⟨b, off, none⟩) ln cp) V U tr ⟨3, 2, k, nn, left, p, bn, tl⟩ from by simp [rfc, rc]; try omega)).post hlen (fun _ => Hrr.out (by simp))
end
end Go.Proofs.Ytflgggfomhifeaa
