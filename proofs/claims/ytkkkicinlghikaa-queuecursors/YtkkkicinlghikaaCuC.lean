/- The walk of the law QueueCursors. -/
import Derived.Test.YtkkkicinlghikaaCuA
namespace Go.Proofs.Ytkkkicinlghikaa
open Go.RowKit

attribute [local go_sem] eql27 neq27
set_option maxRecDepth 100000 in
set_option maxHeartbeats 2000000 in
theorem cursors_SB (n c g l x r : Int) (hx : Gen x) (hr : 15 < r) (E : Int) (hE : (E == 0) = false) (hM : may n c x = E) (hS : ∀ w, Calls Try.prog 15 #[cu n c g l, .int .u64 x] w (Ret (.tuple #[cu 0 0 0 0, .int .i64 E]) w)) (hC : ∀ w, Calls Try.prog 16 #[cu n c g l, .int .u64 x] w (Ret (.int .i64 0) w)) (w : World) : Calls Try.prog 6 #[cu n c g l, .int .u64 x, .int .i64 r] w (Ret (.bool true) w) := by
  have HN := Lib.hid (fun w => new_room x r hx (fun c => by omega) w)
  have hi := fun w => is_any x w
  simp only [decide_eq_true (show x < 9223372036854775808 by have := hx.2; omega)] at hi
  have HI := Lib.hid hi
  clear hi
  have q0 : same4 0 0 0 0 0 0 0 0 = true := rfl
  have hm := fun w => may_any n c g l x w
  rw [hM] at hm
  have HM := Lib.hid hm
  have HS := Lib.hid hS
  have HT := Lib.hid (fun w => take_bad n c g l x E hE hS w)
  have HC := Lib.hid hC
  have hE2 : (E != 0) = true := by rw [bne, hE]; rfl
  clear hm hM hS hC
  have x0 := hx.1
  have x1 := hx.2
  clear hx
  have H0 := Lib.hid (Cs.two w n c g l)
  go_enter Try.func6, Try.ntmps6
  go_wp2_with fail
  refine (HN.out _).mono ?_
  rintro e w1 ⟨rfl, hb⟩
  have H1 := Lib.hid ((H0.out.next hb).new 0 0 0 0)
  clear hb H0
  have a0 := (H1.out.blk 0 rfl).cell (i := 0) rfl
  have a1 := (H1.out.blk 0 rfl).cell (i := 1) rfl
  have a2 := (H1.out.blk 0 rfl).cell (i := 2) rfl
  have a3 := (H1.out.blk 0 rfl).cell (i := 3) rfl
  have b0 := (H1.out.blk 2 rfl).cell (i := 0) rfl
  have b1 := (H1.out.blk 2 rfl).cell (i := 1) rfl
  have b2 := (H1.out.blk 2 rfl).cell (i := 2) rfl
  have b3 := (H1.out.blk 2 rfl).cell (i := 3) rfl
  go_wp2_with fail
  refine (HI.out _).mono ?_
  rintro e w' ⟨rfl, rfl⟩
  go_wp2_with fail
  refine (HS.out _).mono ?_
  rintro e w2 ⟨rfl, hb⟩
  have H2 := Lib.hid ((H1.out.next hb).new 0 0 0 0)
  clear hb H1 a0 a1 a2 a3 b0 b1 b2 b3
  have a0 := (H2.out.blk 0 rfl).cell (i := 0) rfl
  have a1 := (H2.out.blk 0 rfl).cell (i := 1) rfl
  have a2 := (H2.out.blk 0 rfl).cell (i := 2) rfl
  have a3 := (H2.out.blk 0 rfl).cell (i := 3) rfl
  go_wp2_with fail
  refine (HT.out _).mono ?_
  rintro e w3 ⟨rfl, hb⟩
  have H3 := Lib.hid ((H2.out.next hb).new 0 0 0 0)
  clear hb H2 a0 a1 a2 a3
  have a0 := (H3.out.blk 1 rfl).cell (i := 0) rfl
  have a1 := (H3.out.blk 1 rfl).cell (i := 1) rfl
  have a2 := (H3.out.blk 1 rfl).cell (i := 2) rfl
  have a3 := (H3.out.blk 1 rfl).cell (i := 3) rfl
  go_wp2_with fail
  refine (HM.out _).mono ?_
  rintro e w4 ⟨rfl, hb⟩
  have H4 := Lib.hid (H3.out.next hb)
  clear hb H3 a0 a1 a2 a3
  have a0 := (H4.out.blk 0 rfl).cell (i := 0) rfl
  have a1 := (H4.out.blk 0 rfl).cell (i := 1) rfl
  have a2 := (H4.out.blk 0 rfl).cell (i := 2) rfl
  have a3 := (H4.out.blk 0 rfl).cell (i := 3) rfl
  have b0 := (H4.out.blk 3 rfl).cell (i := 0) rfl
  have b1 := (H4.out.blk 3 rfl).cell (i := 1) rfl
  have b2 := (H4.out.blk 3 rfl).cell (i := 2) rfl
  have b3 := (H4.out.blk 3 rfl).cell (i := 3) rfl
  have c0 := (H4.out.blk 4 rfl).cell (i := 0) rfl
  have c1 := (H4.out.blk 4 rfl).cell (i := 1) rfl
  have c2 := (H4.out.blk 4 rfl).cell (i := 2) rfl
  have c3 := (H4.out.blk 4 rfl).cell (i := 3) rfl
  go_wp2_with fail
  refine (HC.out _).mono ?_
  rintro e w5 ⟨rfl, hb⟩
  have H5 := Lib.hid (H4.out.next hb)
  clear hb
  go_wp2_with fail
  refine (awake_any _).mono ?_
  rintro e w6 ⟨rfl, hb⟩
  have H6 := Lib.hid (H5.out.next hb)
  clear hb
  go_wp2
  go_ret
  exact ⟨rfl, H6.out.1⟩
set_option maxRecDepth 100000 in
set_option maxHeartbeats 2000000 in
theorem cursors_SN (n c g l x r : Int) (hx : Gen x) (hr : 15 < r) (h : Rgt n c) (hl : W64 l) (hq : qd n c x = 0) (w : World) : Calls Try.prog 6 #[cu n c g l, .int .u64 x, .int .i64 r] w (Ret (.bool true) w) := by
  have HN := Lib.hid (fun w => new_room x r hx (fun c => by omega) w)
  have hi := fun w => is_any x w
  simp only [decide_eq_true (show x < 9223372036854775808 by have := hx.2; omega)] at hi
  have HI := Lib.hid hi
  clear hi
  have q0 : same4 0 0 0 0 0 0 0 0 = true := rfl
  have hm := fun w => may_any n c g l x w
  rw [may_ok h hx] at hm
  have HM := Lib.hid hm
  have HS := Lib.hid (fun w => see_ok n c g l x h hl hx w)
  have HR := Lib.hid (fun w => rsee_ok n c g l x h hl hx w)
  have hlo : 0 ≤ lo n c x := by unfold lo; split <;> omega
  have hN0 : 0 ≤ n + lo n c x := by have := h.1; omega
  have hN1 := see_le h hx
  have hw := rwaits_any (n + lo n c x) c g (u6 (l + lo n c x)) x hN0 hx
  rw [wt_lo h] at hw
  have HW := Lib.hid hw
  have HC := Lib.hid (fun w => count_ok n c g l x h hx w)
  have hq0 : 0 ≤ qd n c x := qd_nn h
  have hq1 : qd n c x < 16 := qd_lt h
  have hqw : IntKind.u64.wrap (qd n c x) = qd n c x := wrap_u6 hq0 (by omega)
  have HT := Lib.hid (fun w => take_none n c g l x h hl hx hq w)
  rw [hq] at HC HW
  have hz : IntKind.u64.wrap 0 = 0 := wrap_u6 (by omega) (by omega)
  clear hm h hl hq hlo hw hq0 hq1 hqw
  generalize n + lo n c x = P at *
  generalize u6 (l + lo n c x) = L at *
  generalize qd n c x = q at *
  have x0 := hx.1
  have x1 := hx.2
  clear hx
  have H0 := Lib.hid (Cs.two w n c g l)
  go_enter Try.func6, Try.ntmps6
  go_wp2_with fail
  refine (HN.out _).mono ?_
  rintro e w1 ⟨rfl, hb⟩
  have H1 := Lib.hid ((H0.out.next hb).new 0 0 0 0)
  clear hb H0
  have a0 := (H1.out.blk 0 rfl).cell (i := 0) rfl
  have a1 := (H1.out.blk 0 rfl).cell (i := 1) rfl
  have a2 := (H1.out.blk 0 rfl).cell (i := 2) rfl
  have a3 := (H1.out.blk 0 rfl).cell (i := 3) rfl
  have b0 := (H1.out.blk 2 rfl).cell (i := 0) rfl
  have b1 := (H1.out.blk 2 rfl).cell (i := 1) rfl
  have b2 := (H1.out.blk 2 rfl).cell (i := 2) rfl
  have b3 := (H1.out.blk 2 rfl).cell (i := 3) rfl
  go_wp2_with fail
  refine (HI.out _).mono ?_
  rintro e w' ⟨rfl, rfl⟩
  go_wp2_with fail
  refine (HS.out _).mono ?_
  rintro e w2 ⟨rfl, hb⟩
  have H2 := Lib.hid ((H1.out.next hb).new P c g L)
  clear hb H1 a0 a1 a2 a3 b0 b1 b2 b3
  have a0 := (H2.out.blk 0 rfl).cell (i := 0) rfl
  have a1 := (H2.out.blk 0 rfl).cell (i := 1) rfl
  have a2 := (H2.out.blk 0 rfl).cell (i := 2) rfl
  have a3 := (H2.out.blk 0 rfl).cell (i := 3) rfl
  go_wp2_with fail
  refine (HT.out _).mono ?_
  rintro e w3 ⟨rfl, hb⟩
  have H3 := Lib.hid ((H2.out.next hb).new 0 0 0 0)
  clear hb H2 a0 a1 a2 a3
  have a0 := (H3.out.blk 1 rfl).cell (i := 0) rfl
  have a1 := (H3.out.blk 1 rfl).cell (i := 1) rfl
  have a2 := (H3.out.blk 1 rfl).cell (i := 2) rfl
  have a3 := (H3.out.blk 1 rfl).cell (i := 3) rfl
  go_wp2_with fail
  refine (HM.out _).mono ?_
  rintro e w4 ⟨rfl, hb⟩
  have H4 := Lib.hid (H3.out.next hb)
  clear hb H3 a0 a1 a2 a3
  have a0 := (H4.out.blk 1 rfl).cell (i := 0) rfl
  have a1 := (H4.out.blk 1 rfl).cell (i := 1) rfl
  have a2 := (H4.out.blk 1 rfl).cell (i := 2) rfl
  have a3 := (H4.out.blk 1 rfl).cell (i := 3) rfl
  go_wp2_with fail
  refine (HR.out _).mono ?_
  rintro e w5 ⟨rfl, hb⟩
  have H5 := Lib.hid ((H4.out.next hb).newT P c g L 46)
  clear hb H4 a0 a1 a2 a3
  have a0 := (H5.out.blk 5 rfl).cell (i := 0) rfl
  have a1 := (H5.out.blk 5 rfl).cell (i := 1) rfl
  have a2 := (H5.out.blk 5 rfl).cell (i := 2) rfl
  have a3 := (H5.out.blk 5 rfl).cell (i := 3) rfl
  go_wp2_with fail
  refine (HW.out _).mono ?_
  rintro e w6 ⟨rfl, hb⟩
  have H6 := Lib.hid (H5.out.next hb)
  clear hb H5 a0 a1 a2 a3
  have a0 := (H6.out.blk 3 rfl).cell (i := 0) rfl
  have a1 := (H6.out.blk 3 rfl).cell (i := 1) rfl
  have a2 := (H6.out.blk 3 rfl).cell (i := 2) rfl
  have a3 := (H6.out.blk 3 rfl).cell (i := 3) rfl
  have b0 := (H6.out.blk 5 rfl).cell (i := 0) rfl
  have b1 := (H6.out.blk 5 rfl).cell (i := 1) rfl
  have b2 := (H6.out.blk 5 rfl).cell (i := 2) rfl
  have b3 := (H6.out.blk 5 rfl).cell (i := 3) rfl
  go_wp2_with fail
  refine (same_any P c g L _).mono ?_
  rintro e w7 ⟨rfl, hb⟩
  have H7 := Lib.hid (H6.out.next hb)
  clear hb H6 a0 a1 a2 a3 b0 b1 b2 b3
  have a0 := (H7.out.blk 0 rfl).cell (i := 0) rfl
  have a1 := (H7.out.blk 0 rfl).cell (i := 1) rfl
  have a2 := (H7.out.blk 0 rfl).cell (i := 2) rfl
  have a3 := (H7.out.blk 0 rfl).cell (i := 3) rfl
  go_wp2_with fail
  refine (HC.out _).mono ?_
  rintro e w8 ⟨rfl, hb⟩
  have H8 := Lib.hid (H7.out.next hb)
  clear hb H7 a0 a1 a2 a3
  have a0 := (H8.out.blk 4 rfl).cell (i := 0) rfl
  have a1 := (H8.out.blk 4 rfl).cell (i := 1) rfl
  have a2 := (H8.out.blk 4 rfl).cell (i := 2) rfl
  have a3 := (H8.out.blk 4 rfl).cell (i := 3) rfl
  go_wp2_with fail
  refine (awake_any _).mono ?_
  rintro e w9 ⟨rfl, hb⟩
  have H9 := Lib.hid (H8.out.next hb)
  clear hb
  go_wp2
  go_ret
  exact ⟨rfl, H9.out.1⟩
set_option maxRecDepth 100000 in
set_option maxHeartbeats 2000000 in
theorem cursors_ST (n c g l x r : Int) (hx : Gen x) (hr : 15 < r) (h : Rgt n c) (hl : W64 l) (hq : qd n c x ≠ 0) (w : World) : Calls Try.prog 6 #[cu n c g l, .int .u64 x, .int .i64 r] w (Ret (.bool true) w) := by
  have HN := Lib.hid (fun w => new_room x r hx (fun c => by omega) w)
  have hi := fun w => is_any x w
  simp only [decide_eq_true (show x < 9223372036854775808 by have := hx.2; omega)] at hi
  have HI := Lib.hid hi
  clear hi
  have q0 : same4 0 0 0 0 0 0 0 0 = true := rfl
  have hm := fun w => may_any n c g l x w
  rw [may_ok h hx] at hm
  have HM := Lib.hid hm
  have HS := Lib.hid (fun w => see_ok n c g l x h hl hx w)
  have HR := Lib.hid (fun w => rsee_ok n c g l x h hl hx w)
  have hlo : 0 ≤ lo n c x := by unfold lo; split <;> omega
  have hN0 : 0 ≤ n + lo n c x := by have := h.1; omega
  have hN1 := see_le h hx
  have hw := rwaits_any (n + lo n c x) c g (u6 (l + lo n c x)) x hN0 hx
  rw [wt_lo h] at hw
  have HW := Lib.hid hw
  have HC := Lib.hid (fun w => count_ok n c g l x h hx w)
  have hq0 : 0 ≤ qd n c x := qd_nn h
  have hq1 : qd n c x < 16 := qd_lt h
  have hqw : IntKind.u64.wrap (qd n c x) = qd n c x := wrap_u6 hq0 (by omega)
  have HT := Lib.hid (fun w => take_ok n c g l x h hl hx hq w)
  have hqz : (qd n c x == 0) = false := by simpa using hq
  have Q2 := Lib.hid (u6_w64 (l + lo n c x))
  clear hm h hl hq hlo hw
  generalize n + lo n c x = P at *
  generalize u6 (l + lo n c x) = L at *
  generalize qd n c x = q at *
  have x0 := hx.1
  have x1 := hx.2
  clear hx
  have H0 := Lib.hid (Cs.two w n c g l)
  go_enter Try.func6, Try.ntmps6
  go_wp2_with fail
  refine (HN.out _).mono ?_
  rintro e w1 ⟨rfl, hb⟩
  have H1 := Lib.hid ((H0.out.next hb).new 0 0 0 0)
  clear hb H0
  have a0 := (H1.out.blk 0 rfl).cell (i := 0) rfl
  have a1 := (H1.out.blk 0 rfl).cell (i := 1) rfl
  have a2 := (H1.out.blk 0 rfl).cell (i := 2) rfl
  have a3 := (H1.out.blk 0 rfl).cell (i := 3) rfl
  have b0 := (H1.out.blk 2 rfl).cell (i := 0) rfl
  have b1 := (H1.out.blk 2 rfl).cell (i := 1) rfl
  have b2 := (H1.out.blk 2 rfl).cell (i := 2) rfl
  have b3 := (H1.out.blk 2 rfl).cell (i := 3) rfl
  go_wp2_with fail
  refine (HI.out _).mono ?_
  rintro e w' ⟨rfl, rfl⟩
  go_wp2_with fail
  refine (HS.out _).mono ?_
  rintro e w2 ⟨rfl, hb⟩
  have H2 := Lib.hid ((H1.out.next hb).new P c g L)
  clear hb H1 a0 a1 a2 a3 b0 b1 b2 b3
  have a0 := (H2.out.blk 0 rfl).cell (i := 0) rfl
  have a1 := (H2.out.blk 0 rfl).cell (i := 1) rfl
  have a2 := (H2.out.blk 0 rfl).cell (i := 2) rfl
  have a3 := (H2.out.blk 0 rfl).cell (i := 3) rfl
  go_wp2_with fail
  refine (HT.out _).mono ?_
  rintro e w3 ⟨rfl, hb⟩
  have H3 := Lib.hid ((H2.out.next hb).new (P + 1) c (u6 (g + 1)) L)
  clear hb H2 a0 a1 a2 a3
  have a0 := (H3.out.blk 1 rfl).cell (i := 0) rfl
  have a1 := (H3.out.blk 1 rfl).cell (i := 1) rfl
  have a2 := (H3.out.blk 1 rfl).cell (i := 2) rfl
  have a3 := (H3.out.blk 1 rfl).cell (i := 3) rfl
  go_wp2_with fail
  refine (HM.out _).mono ?_
  rintro e w4 ⟨rfl, hb⟩
  have H4 := Lib.hid (H3.out.next hb)
  clear hb H3 a0 a1 a2 a3
  have a0 := (H4.out.blk 1 rfl).cell (i := 0) rfl
  have a1 := (H4.out.blk 1 rfl).cell (i := 1) rfl
  have a2 := (H4.out.blk 1 rfl).cell (i := 2) rfl
  have a3 := (H4.out.blk 1 rfl).cell (i := 3) rfl
  go_wp2_with fail
  refine (HR.out _).mono ?_
  rintro e w5 ⟨rfl, hb⟩
  have Hne := Lib.hid (show w3.heap.size ≠ w5.heap.size by have h1 := (H4.out.blk 4 rfl).lt; have h2 := hb.size; omega)
  have Hlt := Lib.hid (show w.heap.size ≤ w5.heap.size by have h1 := H4.out.1.size; have h2 := hb.size; omega)
  have H5 := Lib.hid ((H4.out.next hb).newT P c g L 46)
  clear hb H4 a0 a1 a2 a3
  have a0 := (H5.out.blk 5 rfl).cell (i := 0) rfl
  have a1 := (H5.out.blk 5 rfl).cell (i := 1) rfl
  have a2 := (H5.out.blk 5 rfl).cell (i := 2) rfl
  have a3 := (H5.out.blk 5 rfl).cell (i := 3) rfl
  go_wp2_with fail
  refine (HW.out _).mono ?_
  rintro e w6 ⟨rfl, hb⟩
  have H6 := Lib.hid (H5.out.next hb)
  clear hb H5 a0 a1 a2 a3
  have a0 := (H6.out.blk 3 rfl).cell (i := 0) rfl
  have a1 := (H6.out.blk 3 rfl).cell (i := 1) rfl
  have a2 := (H6.out.blk 3 rfl).cell (i := 2) rfl
  have a3 := (H6.out.blk 3 rfl).cell (i := 3) rfl
  have b0 := (H6.out.blk 5 rfl).cell (i := 0) rfl
  have b1 := (H6.out.blk 5 rfl).cell (i := 1) rfl
  have b2 := (H6.out.blk 5 rfl).cell (i := 2) rfl
  have b3 := (H6.out.blk 5 rfl).cell (i := 3) rfl
  go_wp2_with fail
  refine (same_any P c g L _).mono ?_
  rintro e w7 ⟨rfl, hb⟩
  have H7 := Lib.hid (H6.out.next hb)
  clear hb H6 a0 a1 a2 a3 b0 b1 b2 b3
  have a0 := (H7.out.blk 0 rfl).cell (i := 0) rfl
  have a1 := (H7.out.blk 0 rfl).cell (i := 1) rfl
  have a2 := (H7.out.blk 0 rfl).cell (i := 2) rfl
  have a3 := (H7.out.blk 0 rfl).cell (i := 3) rfl
  go_wp2_with fail
  refine (HC.out _).mono ?_
  rintro e w8 ⟨rfl, hb⟩
  have H8 := Lib.hid (H7.out.next hb)
  clear hb H7 a0 a1 a2 a3
  have a0 := (H8.out.blk 5 rfl).cell (i := 0) rfl
  have a1 := (H8.out.blk 5 rfl).cell (i := 1) rfl
  have a2 := (H8.out.blk 5 rfl).cell (i := 2) rfl
  have a3 := (H8.out.blk 5 rfl).cell (i := 3) rfl
  have af0 := (H8.out.blk 5 rfl).frozen 0
  have af2 := (H8.out.blk 5 rfl).frozen 2
  obtain ⟨V, hV⟩ : ∃ V, (w8.setCell ⟨w5.heap.size, 0, none⟩ (.int .u64 (P + 1))) = V := ⟨_, rfl⟩
  obtain ⟨V2, hV2⟩ : ∃ V2, (V.setCell ⟨w5.heap.size, 2, none⟩ (.int .u64 (IntKind.u64.wrap (g + 1)))) = V2 := ⟨_, rfl⟩
  have hB := H8.out.blk 5 rfl
  have hB1 : Blk V w5.heap.size [.int .u64 (P + 1), .int .i64 c, .int .u64 g, .int .u64 L] := by
    subst hV
    exact hB.put 0 _
  have hB2 : Blk V2 w5.heap.size (cuL (P + 1) c (u6 (g + 1)) L) := by
    subst hV2
    exact hB1.put 2 _
  have hT2 : Blk V2 w3.heap.size (cuL (P + 1) c (u6 (g + 1)) L) := by
    subst hV2 hV
    exact ((H8.out.blk 4 rfl).setFar (Hne.out) _).setFar (Hne.out) _
  have hU2 : Below w.heap.size w V2 := by
    subst hV2 hV
    exact (H8.out.1.setCell Hlt.out _).setCell Hlt.out _
  have b0 := hB1.cell (i := 0) rfl
  have b1 := hB1.cell (i := 1) rfl
  have b2 := hB1.cell (i := 2) rfl
  have b3 := hB1.cell (i := 3) rfl
  have bf := hB1.frozen 2
  have c0 := hB2.cell (i := 0) rfl
  have c1 := hB2.cell (i := 1) rfl
  have c2 := hB2.cell (i := 2) rfl
  have c3 := hB2.cell (i := 3) rfl
  have d0 := hT2.cell (i := 0) rfl
  have d1 := hT2.cell (i := 1) rfl
  have d2 := hT2.cell (i := 2) rfl
  have d3 := hT2.cell (i := 3) rfl
  have U2 := Lib.hid hU2
  have Hp : P + 1 - 1 = P := by omega
  clear hB hB1 hB2 hT2 hU2 H8
  go_wp2_with fail
  refine (same_any (P + 1) c (u6 (g + 1)) L _).mono ?_
  rintro e w9 ⟨rfl, hb⟩
  have U3 := Lib.hid (U2.out.trans (hb.mono U2.out.size))
  clear hb
  go_wp2_with fail
  refine (awake_any _).mono ?_
  rintro e w10 ⟨rfl, hb⟩
  have U4 := Lib.hid (U3.out.trans (hb.mono U3.out.size))
  clear hb
  go_wp2
  go_ret
  exact ⟨rfl, U4.out⟩
end Go.Proofs.Ytkkkicinlghikaa
