/- Cursors: Take, New. -/
import Derived.Test.YtkkkicinlghikaaSee
import Derived.RegionTactic
namespace Go.Proofs.Ytkkkicinlghikaa
open Go.RowKit

theorem SB.putBox {w W : World} {n c g l : Int} (h : SB w n c g l W) (n' c' g' l' : Int) :
    SB w n' c' g' l' ((((W.setCell ⟨w.heap.size, 0, none⟩ (.int .u64 n')).setCell ⟨w.heap.size, 1, none⟩ (.int .i64 c')).setCell ⟨w.heap.size, 2, none⟩ (.int .u64 g')).setCell ⟨w.heap.size, 3, none⟩ (.int .u64 l')) :=
  ⟨put4 h.1 _ _ _ _, (((h.2.1.setFar (by simp) _).setFar (by simp) _).setFar (by simp) _).setFar (by simp) _, low4 h.2.2 (Nat.le_refl _) _ _ _ _⟩
theorem wt_lo {n c x : Int} (h : Rgt n c) : wt (n + lo n c x) x = qd n c x := by
  obtain ⟨h0, h1, h2, h3⟩ := h
  by_cases k : x < n
  · have hw : wt n x = 0 := if_pos k
    rw [show lo n c x = 0 by unfold lo; rw [hw, if_neg (by omega)], show qd n c x = 0 by unfold qd; rw [hw, if_neg (by omega)], Int.add_zero, hw]
  · have hw : wt n x = x - n + 1 := if_neg k
    by_cases k2 : c < x - n + 1
    · rw [show lo n c x = x - n + 1 - c by unfold lo; rw [hw, if_pos k2], show qd n c x = c by unfold qd; rw [hw, if_pos k2]]
      unfold wt
      rw [if_neg (by omega)]
      omega
    · rw [show lo n c x = 0 by unfold lo; rw [hw, if_neg k2], show qd n c x = x - n + 1 by unfold qd; rw [hw, if_neg k2], Int.add_zero, hw]
set_option maxHeartbeats 1000000 in
theorem take_bad (n c g l x E : Int) (hE : (E == 0) = false) (hS : ∀ w, Calls Try.prog 15 #[cu n c g l, .int .u64 x] w (Ret (.tuple #[cu 0 0 0 0, .int .i64 E]) w)) (w : World) :
    Calls Try.prog 13 #[cu n c g l, .int .u64 x] w (Ret (.tuple #[.int .u64 0, cu 0 0 0 0, .int .i64 E]) w) := by
  have HS := Lib.hid (SB.new w n c g l)
  have Hs := Lib.hid hS
  clear hS
  go_enter Try.func13, Try.ntmps13
  go_wp2_with fail
  refine (Hs.out _).mono ?_
  rintro e w1 ⟨rfl, hb1⟩
  have H1 := HS.out.next hb1
  have c0 := H1.1.cell (i := 0) rfl
  have c1 := H1.1.cell (i := 1) rfl
  have c2 := H1.1.cell (i := 2) rfl
  have c3 := H1.1.cell (i := 3) rfl
  have f0 := H1.1.frozen 0
  have f1 := H1.1.frozen 1
  have f2 := H1.1.frozen 2
  have f3 := H1.1.frozen 3
  obtain ⟨v, hv⟩ : ∃ v, ((((w1.setCell ⟨w.heap.size, 0, none⟩ (.int .u64 0)).setCell ⟨w.heap.size, 1, none⟩ (.int .i64 0)).setCell ⟨w.heap.size, 2, none⟩ (.int .u64 0)).setCell ⟨w.heap.size, 3, none⟩ (.int .u64 0)) = v := ⟨_, rfl⟩
  have H2 := H1.putBox 0 0 0 0
  rw [hv] at H2
  have H2 := Lib.hid H2
  have d0 := H2.out.2.1.cell (i := 0) rfl
  have d1 := H2.out.2.1.cell (i := 1) rfl
  have d2 := H2.out.2.1.cell (i := 2) rfl
  have d3 := H2.out.2.1.cell (i := 3) rfl
  have g0 := H2.out.2.1.frozen 0
  have g1 := H2.out.2.1.frozen 1
  have g2 := H2.out.2.1.frozen 2
  have g3 := H2.out.2.1.frozen 3
  clear hb1 HS H1
  go_wp2
  exact ret_tct rfl (put4 H2.out.2.1 0 0 0 0) rfl rfl ⟨rfl, low4 H2.out.2.2 (by omega) _ _ _ _⟩
set_option maxHeartbeats 1000000 in
theorem take_none (n c g l x : Int) (h : Rgt n c) (hl : W64 l) (hx : Gen x) (hq : qd n c x = 0) (w : World) :
    Calls Try.prog 13 #[cu n c g l, .int .u64 x] w (Ret (.tuple #[.int .u64 0, cu 0 0 0 0, .int .i64 14]) w) := by
  have HS := Lib.hid (SB.new w n c g l)
  have Hs := Lib.hid (fun w => see_ok n c g l x h hl hx w)
  have hlo : 0 ≤ lo n c x := by unfold lo; split <;> omega
  have Hw := waiting_any (n + lo n c x) c g (u6 (l + lo n c x)) x (by have := h.1; omega) hx
  rw [wt_lo h, hq] at Hw
  have Hw := Lib.hid Hw
  clear h hl hx hq hlo
  generalize n + lo n c x = N at *
  generalize u6 (l + lo n c x) = L at *
  go_enter Try.func13, Try.ntmps13
  go_wp2_with fail
  refine (Hs.out _).mono ?_
  rintro e w1 ⟨rfl, hb1⟩
  have H1 := HS.out.next hb1
  have c0 := H1.1.cell (i := 0) rfl
  have c1 := H1.1.cell (i := 1) rfl
  have c2 := H1.1.cell (i := 2) rfl
  have c3 := H1.1.cell (i := 3) rfl
  have f0 := H1.1.frozen 0
  have f1 := H1.1.frozen 1
  have f2 := H1.1.frozen 2
  have f3 := H1.1.frozen 3
  obtain ⟨v, hv⟩ : ∃ v, ((((w1.setCell ⟨w.heap.size, 0, none⟩ (.int .u64 N)).setCell ⟨w.heap.size, 1, none⟩ (.int .i64 c)).setCell ⟨w.heap.size, 2, none⟩ (.int .u64 g)).setCell ⟨w.heap.size, 3, none⟩ (.int .u64 L)) = v := ⟨_, rfl⟩
  have H2 := H1.putBox N c g L
  rw [hv] at H2
  have H2 := Lib.hid H2
  have b0 := H2.out.1.cell (i := 0) rfl
  have b1 := H2.out.1.cell (i := 1) rfl
  have b2 := H2.out.1.cell (i := 2) rfl
  have b3 := H2.out.1.cell (i := 3) rfl
  clear hb1 HS H1
  go_wp2_with fail
  refine (Hw.out _).mono ?_
  rintro e w2 ⟨rfl, hb2⟩
  have H3 := Lib.hid (H2.out.next hb2)
  have d0 := H3.out.2.1.cell (i := 0) rfl
  have d1 := H3.out.2.1.cell (i := 1) rfl
  have d2 := H3.out.2.1.cell (i := 2) rfl
  have d3 := H3.out.2.1.cell (i := 3) rfl
  have g0 := H3.out.2.1.frozen 0
  have g1 := H3.out.2.1.frozen 1
  have g2 := H3.out.2.1.frozen 2
  have g3 := H3.out.2.1.frozen 3
  clear hb2 H2 hv c0 c1 c2 c3 f0 f1 f2 f3 b0 b1 b2 b3
  go_wp2
  exact ret_tct rfl (put4 H3.out.2.1 0 0 0 0) rfl rfl ⟨rfl, low4 H3.out.2.2 (by omega) _ _ _ _⟩
set_option maxHeartbeats 1000000 in
theorem take_ok (n c g l x : Int) (h : Rgt n c) (hl : W64 l) (hx : Gen x) (hq : qd n c x ≠ 0) (w : World) :
    Calls Try.prog 13 #[cu n c g l, .int .u64 x] w (Ret (.tuple #[.int .u64 (n + lo n c x), cu (n + lo n c x + 1) c (u6 (g + 1)) (u6 (l + lo n c x)), .int .i64 0]) w) := by
  have HS := Lib.hid (SB.new w n c g l)
  have Hs := Lib.hid (fun w => see_ok n c g l x h hl hx w)
  have hlo : 0 ≤ lo n c x := by unfold lo; split <;> omega
  have hN0 : 0 ≤ n + lo n c x := by have := h.1; omega
  have hN1 : n + lo n c x ≤ 9223372036854775808 := by
    obtain ⟨h0, h1, h2, h3⟩ := h
    obtain ⟨h4, h5⟩ := hx
    unfold lo wt
    split <;> split at * <;> omega
  have Hw := waiting_any (n + lo n c x) c g (u6 (l + lo n c x)) x hN0 hx
  rw [wt_lo h] at Hw
  have hz : (qd n c x == 0) = false := by simpa using hq
  have Hw := Lib.hid Hw
  clear h hl hx hq hlo
  generalize n + lo n c x = N at *
  generalize u6 (l + lo n c x) = L at *
  generalize qd n c x = q at *
  go_enter Try.func13, Try.ntmps13
  go_wp2_with fail
  refine (Hs.out _).mono ?_
  rintro e w1 ⟨rfl, hb1⟩
  have H1 := HS.out.next hb1
  have c0 := H1.1.cell (i := 0) rfl
  have c1 := H1.1.cell (i := 1) rfl
  have c2 := H1.1.cell (i := 2) rfl
  have c3 := H1.1.cell (i := 3) rfl
  have f0 := H1.1.frozen 0
  have f1 := H1.1.frozen 1
  have f2 := H1.1.frozen 2
  have f3 := H1.1.frozen 3
  obtain ⟨v, hv⟩ : ∃ v, ((((w1.setCell ⟨w.heap.size, 0, none⟩ (.int .u64 N)).setCell ⟨w.heap.size, 1, none⟩ (.int .i64 c)).setCell ⟨w.heap.size, 2, none⟩ (.int .u64 g)).setCell ⟨w.heap.size, 3, none⟩ (.int .u64 L)) = v := ⟨_, rfl⟩
  have H2 := H1.putBox N c g L
  rw [hv] at H2
  have H2 := Lib.hid H2
  have b0 := H2.out.1.cell (i := 0) rfl
  have b1 := H2.out.1.cell (i := 1) rfl
  have b2 := H2.out.1.cell (i := 2) rfl
  have b3 := H2.out.1.cell (i := 3) rfl
  clear hb1 HS H1
  go_wp2_with fail
  refine (Hw.out _).mono ?_
  rintro e w2 ⟨rfl, hb2⟩
  have H3 := Lib.hid (H2.out.next hb2)
  have a0 := H3.out.1.cell (i := 0) rfl
  have a1 := H3.out.1.cell (i := 1) rfl
  have a2 := H3.out.1.cell (i := 2) rfl
  have a3 := H3.out.1.cell (i := 3) rfl
  have r0 := H3.out.1.frozen 0
  have r2 := H3.out.1.frozen 2
  obtain ⟨v2, hv2⟩ : ∃ v, (w2.setCell ⟨w.heap.size, 0, none⟩ (.int .u64 (N + 1))) = v := ⟨_, rfl⟩
  obtain ⟨v3, hv3⟩ : ∃ v, (v2.setCell ⟨w.heap.size, 2, none⟩ (.int .u64 (IntKind.u64.wrap (g + 1)))) = v := ⟨_, rfl⟩
  have H4 : SB w (N + 1) c (u6 (g + 1)) L v3 := by
    subst hv2 hv3
    exact ⟨(H3.out.1.put 0 _).put 2 _, (H3.out.2.1.setFar (by simp) _).setFar (by simp) _, (H3.out.2.2.setCell (Nat.le_refl _) _).setCell (Nat.le_refl _) _⟩
  have hy : Blk v2 w.heap.size [.int .u64 (N + 1), .int .i64 c, .int .u64 g, .int .u64 L] := by
    subst hv2
    exact H3.out.1.put 0 _
  have e0 := hy.cell (i := 0) rfl
  have e1 := hy.cell (i := 1) rfl
  have e2 := hy.cell (i := 2) rfl
  have e3 := hy.cell (i := 3) rfl
  have t2 := hy.frozen 2
  have m0 := H4.drew.1.cell (i := 0) rfl
  have m1 := H4.drew.1.cell (i := 1) rfl
  have m2 := H4.drew.1.cell (i := 2) rfl
  have m3 := H4.drew.1.cell (i := 3) rfl
  have d0 := H4.drew.2.1.cell (i := 0) rfl
  have d1 := H4.drew.2.1.cell (i := 1) rfl
  have d2 := H4.drew.2.1.cell (i := 2) rfl
  have d3 := H4.drew.2.1.cell (i := 3) rfl
  have g0 := H4.drew.2.1.frozen 0
  have g1 := H4.drew.2.1.frozen 1
  have g2 := H4.drew.2.1.frozen 2
  have g3 := H4.drew.2.1.frozen 3
  have mx0 := H4.1.cell (i := 0) rfl
  have mx1 := H4.1.cell (i := 1) rfl
  have mx2 := H4.1.cell (i := 2) rfl
  have mx3 := H4.1.cell (i := 3) rfl
  have dx0 := H4.2.1.cell (i := 0) rfl
  have dx1 := H4.2.1.cell (i := 1) rfl
  have dx2 := H4.2.1.cell (i := 2) rfl
  have dx3 := H4.2.1.cell (i := 3) rfl
  have gx0 := H4.2.1.frozen 0
  have gx1 := H4.2.1.frozen 1
  have gx2 := H4.2.1.frozen 2
  have gx3 := H4.2.1.frozen 3
  have H4 := Lib.hid H4
  clear hb2 H2 hv c0 c1 c2 c3 f0 f1 f2 f3 b0 b1 b2 b3 H3 hy
  go_wp2
  go_region
  go_wp2
  exact ret_tct rfl (put4 H4.out.2.1 _ _ _ _).drew rfl rfl ⟨rfl, (low4 H4.out.2.2 (by omega) _ _ _ _).drew⟩

set_option maxHeartbeats 1000000 in
theorem new_gen (x r : Int) (hx : 9223372036854775807 < x) (w : World) : Calls Try.prog 11 #[.int .u64 x, .int .i64 r] w (Ret (.tuple #[cu 0 0 0 0, .int .i64 10]) w) := by
  have hm := fun w => none_any x w
  simp only [decide_eq_true hx] at hm
  have Hm := Lib.hid hm
  clear hm
  go_enter Try.func11, Try.ntmps11
  go_wp2_with fail
  refine (Hm.out _).mono ?_
  rintro e w' ⟨rfl, rfl⟩
  go_wp2
  exact ret_ct rfl (cuN w 0 0 0 0).1 rfl rfl ⟨rfl, (cuN w 0 0 0 0).2⟩
set_option maxHeartbeats 1000000 in
theorem new_room (x r : Int) (hx : Gen x) (hr : ¬ (1 ≤ r ∧ r < 16)) (w : World) : Calls Try.prog 11 #[.int .u64 x, .int .i64 r] w (Ret (.tuple #[cu 0 0 0 0, .int .i64 10]) w) := by
  have hm := fun w => none_any x w
  simp only [decide_eq_false (show ¬ (9223372036854775807 : Int) < x from Int.not_lt.2 hx.2)] at hm
  have Hm := Lib.hid hm
  have hk := Lib.hid (fun w => mh_f hr ▸ mh_any r w)
  clear hm hr hx
  go_enter Try.func11, Try.ntmps11
  go_wp2_with fail
  refine (Hm.out _).mono ?_
  rintro e w' ⟨rfl, rfl⟩
  go_wp2_with fail
  refine (hk.out _).mono ?_
  rintro e w' ⟨rfl, rfl⟩
  go_wp2
  exact ret_ct rfl (cuN w 0 0 0 0).1 rfl rfl ⟨rfl, (cuN w 0 0 0 0).2⟩
set_option maxHeartbeats 1000000 in
theorem new_ok (x r : Int) (hx : Gen x) (hr : 1 ≤ r ∧ r < 16) (w : World) : Calls Try.prog 11 #[.int .u64 x, .int .i64 r] w (Ret (.tuple #[cu (x + 1) r 0 0, .int .i64 0]) w) := by
  have hm := fun w => none_any x w
  simp only [decide_eq_false (show ¬ (9223372036854775807 : Int) < x from Int.not_lt.2 hx.2)] at hm
  have Hm := Lib.hid hm
  have hk := Lib.hid (fun w => mh_t hr.1 hr.2 ▸ mh_any r w)
  obtain ⟨x0, x1⟩ := hx
  clear hm hr
  go_enter Try.func11, Try.ntmps11
  go_wp2_with fail
  refine (Hm.out _).mono ?_
  rintro e w' ⟨rfl, rfl⟩
  go_wp2_with fail
  refine (hk.out _).mono ?_
  rintro e w' ⟨rfl, rfl⟩
  go_wp2
  exact ret_ct rfl (cuN w (x + 1) r 0 0).1 rfl rfl ⟨rfl, (cuN w (x + 1) r 0 0).2⟩
end Go.Proofs.Ytkkkicinlghikaa
