/- Cursors: New, See. -/
import Derived.Test.YtkkkicinlghikaaCur
import Derived.Laws.ResultCell
import Derived.Laws.Rows
namespace Go.Proofs.Ytkkkicinlghikaa
open Go.RowKit

/-- A result that lies in a cell of four, and another one. -/
theorem ret_ct {fn : Func} {p u : Tmp} {Q : Ending → World → Prop} {a : Act} {W : World} {g : Nat} {n c o l : Int} (h : fn.results = #[.cell p 27, .tmp u]) (hB : Blk W g (cuL n c o l))
    (hp : a.tmps.getD p undef = .pointer (some ⟨g, 0, none⟩)) (hd : a.defers = []) (hR : Q (.returned (.tuple #[cu n c o l, a.tmps.getD u undef])) W) : bodyPost Try.prog fn Q .ret a W := by
  obtain ⟨T, hB⟩ := hB
  refine bodyPost_ret ?_ hd hR
  rw [results_cell_tmp h, hp]
  simp [asAddr, run_loadVar_row (P := Try.prog) W g T 27 _ (0, 0) _ hB Try.underlying27 rfl (by kernel_rfl), Result.andThen]
theorem ret_tct {fn : Func} {v p u : Tmp} {Q : Ending → World → Prop} {a : Act} {W : World} {g : Nat} {n c o l : Int} (h : fn.results = #[.tmp v, .cell p 27, .tmp u]) (hB : Blk W g (cuL n c o l))
    (hp : a.tmps.getD p undef = .pointer (some ⟨g, 0, none⟩)) (hd : a.defers = []) (hR : Q (.returned (.tuple #[a.tmps.getD v undef, cu n c o l, a.tmps.getD u undef])) W) : bodyPost Try.prog fn Q .ret a W := by
  obtain ⟨T, hB⟩ := hB
  refine bodyPost_ret ?_ hd hR
  have hp' : a.tmps[p]?.getD undef = .pointer (some ⟨g, 0, none⟩) := by simpa using hp
  simp [results, h, hp', asAddr, run_loadVar_row (P := Try.prog) W g T 27 _ (0, 0) _ hB Try.underlying27 rfl (by kernel_rfl)]
/-- What is there behind the box of a receiver and the cell of a result. -/
def SB (w : World) (n c g l : Int) (W : World) : Prop :=
  Blk W w.heap.size (cuL n c g l) ∧ Blk W (w.heap.size + 1) (cuL 0 0 0 0) ∧ Below w.heap.size w W
theorem SB.new (w : World) (n c g l : Int) : SB w n c g l ((w.alloc (cuO n c g l)).alloc (cuO 0 0 0 0)) := by
  have h := Blk.new (w.alloc (cuO n c g l)) #[.int .u64 0, .int .i64 0, .int .u64 0, .int .u64 0] 27
  exact ⟨(cuN w n c g l).1.alloc _, by simpa using h, (cuN w n c g l).2.alloc (by simp) _⟩
theorem SB.drew {w : World} {n c g l : Int} {W : World} (h : SB w n c g l W) : SB w n c g l W.drew := ⟨h.1.drew, h.2.1.drew, h.2.2.drew⟩
theorem SB.next {w : World} {n c g l : Int} {W W' : World} (h : SB w n c g l W) (u : Below W.heap.size W W') : SB w n c g l W' :=
  ⟨h.1.low u, h.2.1.low u, h.2.2.trans (u.mono h.2.2.size)⟩
/-- A cursor stored over four cells. -/
theorem put4 {W : World} {b : Nat} {a1 a2 a3 a4 : Value} (h : Blk W b [a1, a2, a3, a4]) (n c g l : Int) :
    Blk ((((W.setCell ⟨b, 0, none⟩ (.int .u64 n)).setCell ⟨b, 1, none⟩ (.int .i64 c)).setCell ⟨b, 2, none⟩ (.int .u64 g)).setCell ⟨b, 3, none⟩ (.int .u64 l)) b (cuL n c g l) :=
  (((h.put 0 _).put 1 _).put 2 _).put 3 _
theorem low4 {W w : World} {b B : Nat} (h : Below B w W) (hb : B ≤ b) (v0 v1 v2 v3 : Value) :
    Below B w ((((W.setCell ⟨b, 0, none⟩ v0).setCell ⟨b, 1, none⟩ v1).setCell ⟨b, 2, none⟩ v2).setCell ⟨b, 3, none⟩ v3) :=
  (((h.setCell hb _).setCell hb _).setCell hb _).setCell hb _

theorem wrap_u6 {n : Int} (h1 : 0 ≤ n) (h2 : n < 18446744073709551616) : IntKind.u64.wrap n = n := by
  simp [IntKind.wrap, IntKind.bits, IntKind.signed]
  omega
theorem wrap_i6 {n : Int} (h1 : -9223372036854775808 ≤ n) (h2 : n < 9223372036854775808) : IntKind.i64.wrap n = n := by
  simp [IntKind.wrap, IntKind.bits, IntKind.signed]
  omega
set_option maxHeartbeats 1000000 in
theorem see_arg (n c g l x : Int) (hn : 0 ≤ n) (h : ¬ Rgt n c) (w : World) : Calls Try.prog 15 #[cu n c g l, .int .u64 x] w (Ret (.tuple #[cu 0 0 0 0, .int .i64 1]) w) := by
  have HS := Lib.hid (SB.new w n c g l)
  have HR := Lib.hid (fun w => rt_f hn h ▸ right_any n c g l w)
  clear hn h
  go_enter Try.func15, Try.ntmps15
  go_wp2_with fail
  refine (HR.out _).mono ?_
  rintro e w1 ⟨rfl, hb1⟩
  have H1 := Lib.hid (HS.out.next hb1)
  have d0 := H1.out.2.1.cell (i := 0) rfl
  have d1 := H1.out.2.1.cell (i := 1) rfl
  have d2 := H1.out.2.1.cell (i := 2) rfl
  have d3 := H1.out.2.1.cell (i := 3) rfl
  have f0 := H1.out.2.1.frozen 0
  have f1 := H1.out.2.1.frozen 1
  have f2 := H1.out.2.1.frozen 2
  have f3 := H1.out.2.1.frozen 3
  clear hb1 HS
  go_wp2
  exact ret_ct rfl (put4 H1.out.2.1 0 0 0 0) rfl rfl ⟨rfl, low4 H1.out.2.2 (by omega) _ _ _ _⟩
set_option maxHeartbeats 1000000 in
theorem see_range (n c g l x : Int) (h : Rgt n c) (hx : 9223372036854775807 < x) (w : World) : Calls Try.prog 15 #[cu n c g l, .int .u64 x] w (Ret (.tuple #[cu 0 0 0 0, .int .i64 10]) w) := by
  have HS := Lib.hid (SB.new w n c g l)
  have HR := Lib.hid (fun w => rt_t h ▸ right_any n c g l w)
  have hm := fun w => none_any x w
  simp only [decide_eq_true hx] at hm
  have Hm := Lib.hid hm
  clear h hm
  go_enter Try.func15, Try.ntmps15
  go_wp2_with fail
  refine (HR.out _).mono ?_
  rintro e w1 ⟨rfl, hb1⟩
  have H1 := Lib.hid (HS.out.next hb1)
  have d0 := H1.out.2.1.cell (i := 0) rfl
  have d1 := H1.out.2.1.cell (i := 1) rfl
  have d2 := H1.out.2.1.cell (i := 2) rfl
  have d3 := H1.out.2.1.cell (i := 3) rfl
  have f0 := H1.out.2.1.frozen 0
  have f1 := H1.out.2.1.frozen 1
  have f2 := H1.out.2.1.frozen 2
  have f3 := H1.out.2.1.frozen 3
  clear hb1 HS
  go_wp2_with fail
  refine (Hm.out _).mono ?_
  rintro e w' ⟨rfl, rfl⟩
  go_wp2
  exact ret_ct rfl (put4 H1.out.2.1 0 0 0 0) rfl rfl ⟨rfl, low4 H1.out.2.2 (by omega) _ _ _ _⟩
set_option maxHeartbeats 1000000 in
theorem see_ok (n c g l x : Int) (h : Rgt n c) (hl : W64 l) (hx : Gen x) (w : World) : Calls Try.prog 15 #[cu n c g l, .int .u64 x] w (Ret (.tuple #[cu (n + lo n c x) c g (u6 (l + lo n c x)), .int .i64 0]) w) := by
  have HS := Lib.hid (SB.new w n c g l)
  have HR := Lib.hid (fun w => rt_t h ▸ right_any n c g l w)
  have hm := fun w => none_any x w
  simp only [decide_eq_false (show ¬ (9223372036854775807 : Int) < x from Int.not_lt.2 hx.2)] at hm
  have Hm := Lib.hid hm
  have HW := Lib.hid (fun w => waiting_any n c g l x h.1 hx w)
  have HL := Lib.hid hl
  obtain ⟨n0, n1, k0, k1⟩ := h
  have hw0 : 0 ≤ wt n x := by unfold wt; split <;> omega
  have hw1 : wt n x ≤ 9223372036854775808 := by unfold wt; obtain ⟨h0, h1⟩ := hx; split <;> omega
  have hw2 : n + wt n x ≤ 9223372036854775808 ∨ wt n x = 0 := by unfold wt; obtain ⟨h0, h1⟩ := hx; split <;> omega
  have hlo : lo n c x = if c < wt n x then wt n x - c else 0 := rfl
  have Hlo := Lib.hid (And.intro hlo hw2)
  clear hm hx hlo hw2 hl
  generalize wt n x = q at *
  generalize lo n c x = z at *
  go_enter Try.func15, Try.ntmps15
  go_wp2_with fail
  refine (HR.out _).mono ?_
  rintro e w1 ⟨rfl, hb1⟩
  have H1 := Lib.hid (HS.out.next hb1)
  have c0 := H1.out.1.cell (i := 0) rfl
  have c1 := H1.out.1.cell (i := 1) rfl
  have c2 := H1.out.1.cell (i := 2) rfl
  have c3 := H1.out.1.cell (i := 3) rfl
  clear hb1 HS
  go_wp2_with fail
  refine (Hm.out _).mono ?_
  rintro e w' ⟨rfl, rfl⟩
  go_wp2_with fail
  go_region_held3 (fun w' => w'.cell? ⟨w.heap.size, 0, none⟩ = some (.int .u64 n) ∧ w'.cell? ⟨w.heap.size, 1, none⟩ = some (.int .i64 c) ∧ w'.cell? ⟨w.heap.size, 2, none⟩ = some (.int .u64 g) ∧ w'.cell? ⟨w.heap.size, 3, none⟩ = some (.int .u64 l) ∧ SB w n c g l w') (first | exact ⟨c0, c1, c2, c3, H1.out.drew⟩ | exact ⟨d0, d1, d2, d3, H2⟩) (first | (go_at_call 26; refine (HW.out _).mono ?_; rintro e w2 ⟨rfl, hb⟩; have H2 := H1.out.drew.next hb; have d0 := H2.1.cell (i := 0) rfl; have d1 := H2.1.cell (i := 1) rfl; have d2 := H2.1.cell (i := 2) rfl; have d3 := H2.1.cell (i := 3) rfl))
  rename_i hHeld
  have H2 := Lib.hid H2
  have f0 := H2.out.1.frozen 0
  have f3 := H2.out.1.frozen 3
  have e0 := H2.out.2.1.cell (i := 0) rfl
  have e1 := H2.out.2.1.cell (i := 1) rfl
  have e2 := H2.out.2.1.cell (i := 2) rfl
  have e3 := H2.out.2.1.cell (i := 3) rfl
  have g0 := H2.out.2.1.frozen 0
  have g1 := H2.out.2.1.frozen 1
  have g2 := H2.out.2.1.frozen 2
  have g3 := H2.out.2.1.frozen 3
  have hc : IntKind.u64.wrap c = c := wrap_u6 (by omega) (by omega)
  clear hHeld hb c0 c1 c2 c3
  by_cases hq : c < q
  · have hz : z = q - c := by rw [Hlo.out.1, if_pos hq]
    subst hz
    have h1 : 0 ≤ q - c := by omega
    have hs : n + (q - c) < 18446744073709551616 := by omega
    go_wp2
    exact ret_ct rfl (put4 (((H2.out.2.1.setFar (by simp) _).setFar (by simp) _)) _ _ _ _) rfl rfl ⟨rfl, low4 ((H2.out.2.2.setCell (Nat.le_refl _) _).setCell (Nat.le_refl _) _) (by omega) _ _ _ _⟩
  · have hz : z = 0 := by rw [Hlo.out.1, if_neg hq]
    subst hz
    go_wp2
    exact ret_ct rfl (put4 H2.out.2.1 _ _ _ _) rfl rfl ⟨by rw [u6_small HL.out.1 HL.out.2]; rfl, low4 H2.out.2.2 (by omega) _ _ _ _⟩

/-- What lies behind a box alone. -/
def BX (w : World) (n c g l : Int) (W : World) : Prop := Blk W w.heap.size (cuL n c g l) ∧ Below w.heap.size w W
theorem BX.new (w : World) (n c g l : Int) : BX w n c g l (w.alloc (cuO n c g l)) := cuN w n c g l
theorem BX.drew {w : World} {n c g l : Int} {W : World} (h : BX w n c g l W) : BX w n c g l W.drew := ⟨h.1.drew, h.2.drew⟩
theorem BX.next {w : World} {n c g l : Int} {W W' : World} (h : BX w n c g l W) (u : Below W.heap.size W W') : BX w n c g l W' :=
  ⟨h.1.low u, h.2.trans (u.mono h.2.size)⟩
set_option maxHeartbeats 1000000 in
theorem count_arg (n c g l x : Int) (hn : 0 ≤ n) (h : ¬ Rgt n c) (w : World) : Calls Try.prog 16 #[cu n c g l, .int .u64 x] w (Ret (.int .i64 0) w) := by
  have HS := Lib.hid (BX.new w n c g l)
  have HR := Lib.hid (fun w => rt_f hn h ▸ right_any n c g l w)
  clear hn h
  go_enter Try.func16, Try.ntmps16
  go_wp2_with fail
  refine (HR.out _).mono ?_
  rintro e w1 ⟨rfl, hb1⟩
  have H1 := Lib.hid (HS.out.next hb1)
  clear hb1 HS
  go_wp2
  go_ret
  exact ⟨rfl, H1.out.2⟩
set_option maxHeartbeats 1000000 in
theorem count_range (n c g l x : Int) (h : Rgt n c) (hx : 9223372036854775807 < x) (w : World) : Calls Try.prog 16 #[cu n c g l, .int .u64 x] w (Ret (.int .i64 0) w) := by
  have HS := Lib.hid (BX.new w n c g l)
  have HR := Lib.hid (fun w => rt_t h ▸ right_any n c g l w)
  have hm := fun w => none_any x w
  simp only [decide_eq_true hx] at hm
  have Hm := Lib.hid hm
  clear h hm
  go_enter Try.func16, Try.ntmps16
  go_wp2_with fail
  refine (HR.out _).mono ?_
  rintro e w1 ⟨rfl, hb1⟩
  have H1 := Lib.hid (HS.out.next hb1)
  clear hb1 HS
  go_wp2_with fail
  refine (Hm.out _).mono ?_
  rintro e w' ⟨rfl, rfl⟩
  go_wp2
  go_ret
  exact ⟨rfl, H1.out.2⟩
set_option maxHeartbeats 1000000 in
theorem count_ok (n c g l x : Int) (h : Rgt n c) (hx : Gen x) (w : World) : Calls Try.prog 16 #[cu n c g l, .int .u64 x] w (Ret (.int .i64 (qd n c x)) w) := by
  have HS := Lib.hid (BX.new w n c g l)
  have HR := Lib.hid (fun w => rt_t h ▸ right_any n c g l w)
  have hm := fun w => none_any x w
  simp only [decide_eq_false (show ¬ (9223372036854775807 : Int) < x from Int.not_lt.2 hx.2)] at hm
  have Hm := Lib.hid hm
  have HW := Lib.hid (fun w => waiting_any n c g l x h.1 hx w)
  obtain ⟨n0, n1, k0, k1⟩ := h
  have hw0 : 0 ≤ wt n x := by unfold wt; split <;> omega
  have Hqd := Lib.hid (show qd n c x = if c < wt n x then c else wt n x from rfl)
  clear hm hx
  generalize wt n x = q at *
  generalize qd n c x = z at *
  have hc : IntKind.u64.wrap c = c := wrap_u6 (by omega) (by omega)
  go_enter Try.func16, Try.ntmps16
  go_wp2_with fail
  refine (HR.out _).mono ?_
  rintro e w1 ⟨rfl, hb1⟩
  have H1 := Lib.hid (HS.out.next hb1)
  have c0 := H1.out.1.cell (i := 0) rfl
  have c1 := H1.out.1.cell (i := 1) rfl
  have c2 := H1.out.1.cell (i := 2) rfl
  have c3 := H1.out.1.cell (i := 3) rfl
  clear hb1 HS
  go_wp2_with fail
  refine (Hm.out _).mono ?_
  rintro e w' ⟨rfl, rfl⟩
  go_wp2_with fail
  by_cases hq : c < q
  · have hz : z = c := by rw [Hqd.out, if_pos hq]
    subst hz
    go_region_held3 (fun w' => w'.cell? ⟨w.heap.size, 0, none⟩ = some (.int .u64 n) ∧ w'.cell? ⟨w.heap.size, 1, none⟩ = some (.int .i64 z) ∧ w'.cell? ⟨w.heap.size, 2, none⟩ = some (.int .u64 g) ∧ w'.cell? ⟨w.heap.size, 3, none⟩ = some (.int .u64 l) ∧ BX w n z g l w') (first | exact ⟨c0, c1, c2, c3, H1.out.drew⟩ | exact ⟨d0, d1, d2, d3, H2⟩) (first | (go_at_call 26; refine (HW.out _).mono ?_; rintro e w2 ⟨rfl, hb⟩; have H2 := H1.out.drew.next hb; have d0 := H2.1.cell (i := 0) rfl; have d1 := H2.1.cell (i := 1) rfl; have d2 := H2.1.cell (i := 2) rfl; have d3 := H2.1.cell (i := 3) rfl))
    rename_i hHeld
    have H2 := Lib.hid H2
    clear hHeld d0 d1 d2 d3 hb
    go_wp2
    go_ret
    exact ⟨by show Ending.returned (.int .i64 (IntKind.i64.wrap z)) = _; rw [wrap_i6 (by omega) (by omega)], H2.out.2⟩
  · have hz : z = q := by rw [Hqd.out, if_neg hq]
    subst hz
    have hd : decide (c < z) = false := decide_eq_false hq
    go_region_held3 (fun w' => w'.cell? ⟨w.heap.size, 0, none⟩ = some (.int .u64 n) ∧ w'.cell? ⟨w.heap.size, 1, none⟩ = some (.int .i64 c) ∧ w'.cell? ⟨w.heap.size, 2, none⟩ = some (.int .u64 g) ∧ w'.cell? ⟨w.heap.size, 3, none⟩ = some (.int .u64 l) ∧ BX w n c g l w') (first | exact ⟨c0, c1, c2, c3, H1.out.drew⟩ | exact ⟨d0, d1, d2, d3, H2⟩) (first | (go_at_call 26; refine (HW.out _).mono ?_; rintro e w2 ⟨rfl, hb⟩; have H2 := H1.out.drew.next hb; have d0 := H2.1.cell (i := 0) rfl; have d1 := H2.1.cell (i := 1) rfl; have d2 := H2.1.cell (i := 2) rfl; have d3 := H2.1.cell (i := 3) rfl))
    rename_i hHeld
    have H2 := Lib.hid H2
    clear hHeld d0 d1 d2 d3 hb
    go_wp2
    go_ret
    exact ⟨by show Ending.returned (.int .i64 (IntKind.i64.wrap z)) = _; rw [wrap_i6 (by omega) (by omega)], H2.out.2⟩
end Go.Proofs.Ytkkkicinlghikaa
