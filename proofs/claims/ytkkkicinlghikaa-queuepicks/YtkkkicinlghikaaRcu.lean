/- The document's cursors: Is, Right, May, Waits, See; the law's own 'same'. -/
import Derived.Test.YtkkkicinlghikaaSee
namespace Go.Proofs.Ytkkkicinlghikaa
open Go.RowKit

theorem is_any (x : Int) (w : World) : Calls Try.prog 17 #[.int .u64 x] w (Pur (.bool (decide (x < 9223372036854775808))) w) := by
  go_enter Try.func17, Try.ntmps17
  go_wp2
  go_ret
  exact ⟨rfl, rfl⟩
abbrev ruO (n c g l : Int) : Obj := .cells #[.int .u64 n, .int .i64 c, .int .u64 g, .int .u64 l] 46
theorem ruN (w : World) (n c g l : Int) : Blk (w.alloc (ruO n c g l)) w.heap.size (cuL n c g l) ∧ Below w.heap.size w (w.alloc (ruO n c g l)) :=
  ⟨Blk.new w _ 46, (Below.refl w.heap.size w).alloc (Nat.le_refl _) _⟩
theorem rright_any (n c g l : Int) (w : World) : Calls Try.prog 28 #[cu n c g l] w (Ret (.bool (rt n c)) w) := by
  have hN := ruN w n c g l
  have c0 := hN.1.cell (i := 0) rfl
  have c1 := hN.1.cell (i := 1) rfl
  have HN := Lib.hid hN.2
  clear hN
  by_cases h1 : 1 ≤ c
  · by_cases h3 : c < 16
    · have h4 : c ≤ 15 := by omega
      by_cases h2 : n ≤ 9223372036854775808
      · rw [show rt n c = true from decide_eq_true ⟨h1, h3, h2⟩]
        clear h3
        go_enter Try.func28, Try.ntmps28
        go_wp2
        go_ret
        exact ⟨by simp, HN.out⟩
      · rw [show rt n c = false from decide_eq_false (fun k => h2 k.2.2)]
        clear h3
        go_enter Try.func28, Try.ntmps28
        go_wp2
        go_ret
        exact ⟨by simp, HN.out⟩
    · have h4 : ¬ c ≤ 15 := by omega
      rw [show rt n c = false from decide_eq_false (fun k => h3 k.2.1)]
      clear h3
      go_enter Try.func28, Try.ntmps28
      go_wp2
      go_ret
      exact ⟨by first | rfl | (simp; omega), HN.out⟩
  · rw [show rt n c = false from decide_eq_false (fun k => h1 k.1)]
    go_enter Try.func28, Try.ntmps28
    go_wp2
    go_ret
    exact ⟨by first | rfl | (simp; omega), HN.out⟩
theorem rwaits_any (n c g l x : Int) (hn : 0 ≤ n) (hx : Gen x) (w : World) : Calls Try.prog 20 #[cu n c g l, .int .u64 x] w (Ret (.int .u64 (wt n x)) w) := by
  have hN := ruN w n c g l
  have c0 := hN.1.cell (i := 0) rfl
  have HN := Lib.hid hN.2
  obtain ⟨hx0, hx1⟩ := hx
  clear hN
  by_cases h : x < n
  · rw [show wt n x = 0 from if_pos h]
    go_enter Try.func20, Try.ntmps20
    go_wp2
    go_ret
    exact ⟨rfl, HN.out⟩
  · rw [show wt n x = x - n + 1 from if_neg h]
    go_enter Try.func20, Try.ntmps20
    go_wp2
    go_ret
    exact ⟨rfl, HN.out⟩
/-- What May tells. -/
def may (n c x : Int) : Int := if rt n c = false then 1 else if 9223372036854775807 < x then 10 else 0
theorem may_arg {n c x : Int} (hn : 0 ≤ n) (h : ¬ Rgt n c) : may n c x = 1 := if_pos (rt_f hn h)
theorem may_range {n c x : Int} (h : Rgt n c) (hx : 9223372036854775807 < x) : may n c x = 10 := by
  unfold may
  rw [if_neg (by rw [rt_t h]; decide), if_pos hx]
theorem may_ok {n c x : Int} (h : Rgt n c) (hx : Gen x) : may n c x = 0 := by
  unfold may
  rw [if_neg (by rw [rt_t h]; decide), if_neg (by have := hx.2; omega)]
theorem may_any (n c g l x : Int) (w : World) : Calls Try.prog 18 #[cu n c g l, .int .u64 x] w (Ret (.int .i64 (may n c x)) w) := by
  have hN := ruN w n c g l
  have c0 := hN.1.cell (i := 0) rfl
  have c1 := hN.1.cell (i := 1) rfl
  have c2 := hN.1.cell (i := 2) rfl
  have c3 := hN.1.cell (i := 3) rfl
  have HN := Lib.hid hN.2
  clear hN
  have hr := fun w => rright_any n c g l w
  cases q : rt n c with
  | false =>
    rw [show may n c x = 1 from if_pos q]
    rw [q] at hr
    have Hr := Lib.hid hr
    clear q hr
    go_enter Try.func18, Try.ntmps18
    go_wp2_with fail
    refine (Hr.out _).mono ?_
    rintro e w1 ⟨rfl, hb⟩
    have Hb := Lib.hid (HN.out.trans (hb.mono HN.out.size))
    clear hb
    go_wp2
    go_ret
    exact ⟨rfl, Hb.out⟩
  | true =>
    rw [q] at hr
    have Hr := Lib.hid hr
    by_cases hx : 9223372036854775807 < x
    · rw [show may n c x = 10 by unfold may; rw [if_neg (by rw [q]; decide), if_pos hx]]
      have hi := fun w => is_any x w
      rw [decide_eq_false (by omega)] at hi
      have Hi := Lib.hid hi
      clear q hr hi
      go_enter Try.func18, Try.ntmps18
      go_wp2_with fail
      refine (Hr.out _).mono ?_
      rintro e w1 ⟨rfl, hb⟩
      have Hb := Lib.hid (HN.out.trans (hb.mono HN.out.size))
      clear hb
      go_wp2_with fail
      refine (Hi.out _).mono ?_
      rintro e w' ⟨rfl, rfl⟩
      go_wp2
      go_ret
      exact ⟨rfl, Hb.out⟩
    · rw [show may n c x = 0 by unfold may; rw [if_neg (by rw [q]; decide), if_neg hx]]
      have hi := fun w => is_any x w
      rw [decide_eq_true (by omega)] at hi
      have Hi := Lib.hid hi
      clear q hr hi
      go_enter Try.func18, Try.ntmps18
      go_wp2_with fail
      refine (Hr.out _).mono ?_
      rintro e w1 ⟨rfl, hb⟩
      have Hb := Lib.hid (HN.out.trans (hb.mono HN.out.size))
      clear hb
      go_wp2_with fail
      refine (Hi.out _).mono ?_
      rintro e w' ⟨rfl, rfl⟩
      go_wp2
      go_ret
      exact ⟨rfl, Hb.out⟩
/-- A result that lies in a cell of four. -/
theorem ret_c46 {fn : Func} {p : Tmp} {Q : Ending → World → Prop} {a : Act} {W : World} {g : Nat} {n c o l : Int} (h : fn.results = #[.cell p 46]) (hB : Blk W g (cuL n c o l))
    (hp : a.tmps.getD p undef = .pointer (some ⟨g, 0, none⟩)) (hd : a.defers = []) (hR : Q (.returned (cu n c o l)) W) : bodyPost Try.prog fn Q .ret a W := by
  obtain ⟨T, hB⟩ := hB
  exact bodyPost_ret (results_cell_row (P := Try.prog) h _ W g T _ (0, 0) _ hp hB Try.underlying46 rfl (by kernel_rfl)) hd hR
theorem SB.new46 (w : World) (n c g l : Int) : SB w n c g l ((w.alloc (ruO n c g l)).alloc (ruO 0 0 0 0)) := by
  have h := Blk.new (w.alloc (ruO n c g l)) #[.int .u64 0, .int .i64 0, .int .u64 0, .int .u64 0] 46
  exact ⟨(ruN w n c g l).1.alloc _, by simpa using h, (ruN w n c g l).2.alloc (by simp) _⟩
set_option maxHeartbeats 1000000 in
theorem rsee_ok (n c g l x : Int) (h : Rgt n c) (hl : W64 l) (hx : Gen x) (w : World) : Calls Try.prog 19 #[cu n c g l, .int .u64 x] w (Ret (cu (n + lo n c x) c g (u6 (l + lo n c x))) w) := by
  have HS := Lib.hid (SB.new46 w n c g l)
  have HW := Lib.hid (fun w => rwaits_any n c g l x h.1 hx w)
  have HL := Lib.hid hl
  obtain ⟨n0, n1, k0, k1⟩ := h
  have hw0 : 0 ≤ wt n x := by unfold wt; split <;> omega
  have hw1 : wt n x ≤ 9223372036854775808 := by unfold wt; obtain ⟨h0, h1⟩ := hx; split <;> omega
  have hw2 : wt n x = 0 ∨ wt n x = x - n + 1 := by unfold wt; split <;> simp
  have hlo : lo n c x = if c < wt n x then wt n x - c else 0 := rfl
  have Hlo := Lib.hid (And.intro hlo hw2)
  have x0 := hx.1
  have x1 := hx.2
  have hc : IntKind.u64.wrap c = c := wrap_u6 (by omega) (by omega)
  clear hx hlo hw2 hl
  generalize wt n x = q at *
  generalize lo n c x = z at *
  have b0 := HS.out.1.cell (i := 0) rfl
  have b1 := HS.out.1.cell (i := 1) rfl
  have b2 := HS.out.1.cell (i := 2) rfl
  have b3 := HS.out.1.cell (i := 3) rfl
  go_enter Try.func19, Try.ntmps19
  go_wp2_with fail
  refine (HW.out _).mono ?_
  rintro e w1 ⟨rfl, hb1⟩
  have H2 := Lib.hid (HS.out.next hb1)
  have c0 := H2.out.1.cell (i := 0) rfl
  have c1 := H2.out.1.cell (i := 1) rfl
  have c2 := H2.out.1.cell (i := 2) rfl
  have c3 := H2.out.1.cell (i := 3) rfl
  have f0 := H2.out.1.frozen 0
  have f3 := H2.out.1.frozen 3
  have e0 := H2.out.2.1.cell (i := 0) rfl
  have e1 := H2.out.2.1.cell (i := 1) rfl
  have e2 := H2.out.2.1.cell (i := 2) rfl
  have e3 := H2.out.2.1.cell (i := 3) rfl
  have g0 := H2.out.2.1.frozen 0
  have g1 := H2.out.2.1.frozen 1
  have g2 := H2.out.2.1.frozen 2
  have g3 := H2.out.2.1.frozen 3
  clear hb1 HS b0 b1 b2 b3
  by_cases hq : c < q
  · have hz : z = q - c := by rw [Hlo.out.1, if_pos hq]
    have hn : n + z = x - c + 1 := by have := Hlo.out.2; omega
    subst hz
    have Hn := Lib.hid hn
    have h1 : 0 ≤ q - c := by omega
    have h2 : 0 ≤ x - c := by have := Hlo.out.2; omega
    clear hn
    go_wp2
    exact ret_c46 rfl (put4 (((H2.out.2.1.setFar (by simp) _).setFar (by simp) _)) _ _ _ _) rfl rfl ⟨by rw [Hn.out]; rfl, low4 ((H2.out.2.2.setCell (Nat.le_refl _) _).setCell (Nat.le_refl _) _) (by omega) _ _ _ _⟩
  · have hz : z = 0 := by rw [Hlo.out.1, if_neg hq]
    subst hz
    go_wp2
    exact ret_c46 rfl (put4 H2.out.2.1 _ _ _ _) rfl rfl ⟨by rw [Int.add_zero, Int.add_zero, u6_small HL.out.1 HL.out.2], low4 H2.out.2.2 (by omega) _ _ _ _⟩
theorem same_any (n c g l : Int) (w : World) : Calls Try.prog 21 #[cu n c g l, cu n c g l] w (Ret (.bool true) w) := by
  have h1 := cuN w n c g l
  have hB := Lib.hid (h1.2.alloc h1.2.size (ruO n c g l))
  have hA := h1.1.alloc (ruO n c g l)
  have hC : Blk ((w.alloc (cuO n c g l)).alloc (ruO n c g l)) (w.heap.size + 1) (cuL n c g l) := by simpa using (ruN (w.alloc (cuO n c g l)) n c g l).1
  have c0 := hA.cell (i := 0) rfl
  have c1 := hA.cell (i := 1) rfl
  have c2 := hA.cell (i := 2) rfl
  have c3 := hA.cell (i := 3) rfl
  have d0 := hC.cell (i := 0) rfl
  have d1 := hC.cell (i := 1) rfl
  have d2 := hC.cell (i := 2) rfl
  have d3 := hC.cell (i := 3) rfl
  clear h1 hA hC
  go_enter Try.func21, Try.ntmps21
  go_wp2
  go_ret
  exact ⟨by simp, hB.out⟩
end Go.Proofs.Ytkkkicinlghikaa
