/- codec.get: its contract. -/
import Derived.Test.YtenbbnmhgpclkaaDoorEncX
import Derived.Test.YtenbbnmhgpclkaaDoorRef2
namespace Go.Proofs.YtenbbnmhgpclkaaDoor
open Go.RowKit

theorem run_store_cx (w : World) (a : Addr) (k : FloatKind) (x y : Nat) (m : Mode) : (store a (.complex k x y) m).run Tryd.prog w = stored Tryd.prog w a (.complex k x y) m := run_store Tryd.prog w a _ m rfl
attribute [local go_sem] run_store_cx

/-- The float of a number. -/
def fl (n : Int) : Nat := floatOfInt .f64 n
/-- The value of a part's field in a word. -/
def dvN (kd a n x : Nat) : Int := if kd = 3 then 0 else if kd = 2 then sg n (gt a n x) else (gt a n x : Int)
def dvZ (kd x : Nat) : Value := if kd = 3 then .complex .f64 (fl (sg 32 (gt 0 32 x))) (fl (sg 32 (gt 32 32 x))) else z0

theorem dvZ_form (kd x : Nat) : ∃ a b, dvZ kd x = .complex .f64 a b := by
  unfold dvZ
  split
  · exact ⟨_, _, rfl⟩
  · exact ⟨0, 0, rfl⟩
/-- Two pairs of cells. -/
def S4 (x y : Nat) (x0 x1 y0 y1 : Value) (w : World) : Prop :=
  w.cell? ⟨x, 0, none⟩ = some x0 ∧ w.cell? ⟨x, 1, none⟩ = some x1 ∧ w.cell? ⟨y, 0, none⟩ = some y0 ∧ w.cell? ⟨y, 1, none⟩ = some y1
section
variable {x y : Nat} {x0 x1 y0 y1 : Value} {w w' : World}
theorem S4.next (h : S4 x y x0 x1 y0 y1 w) (u : Below w.heap.size w w') : S4 x y x0 x1 y0 y1 w' := by
  obtain ⟨a, b, c, d⟩ := h
  exact ⟨(u.cell (p := ⟨x, 0, none⟩) (World.block_lt_of_cell? w _ a)).trans a, (u.cell (p := ⟨x, 1, none⟩) (World.block_lt_of_cell? w _ b)).trans b, (u.cell (p := ⟨y, 0, none⟩) (World.block_lt_of_cell? w _ c)).trans c, (u.cell (p := ⟨y, 1, none⟩) (World.block_lt_of_cell? w _ d)).trans d⟩
theorem S4.set (h : S4 x y x0 x1 y0 y1 w) {g i : Nat} (u : Value) (hx : x ≠ g) (hy : y ≠ g) : S4 x y x0 x1 y0 y1 (w.setCell ⟨g, i, none⟩ u) := by
  obtain ⟨a, b, c, d⟩ := h
  exact ⟨(cell_far u hx).trans a, (cell_far u hx).trans b, (cell_far u hy).trans c, (cell_far u hy).trans d⟩
end

theorem toI_small {g : Nat} (h : g < 9223372036854775808) : wrap64 (g : Int) = g := by unfold wrap64; omega

set_option maxRecDepth 100000 in
set_option maxHeartbeats 1000000 in
theorem get_num (x k a n : Nat) (w : World) (hk : k < 2) (h1 : 1 ≤ n) (h2 : a + n ≤ 64) (hn : n ≤ 63) (hx : W64 x) :
    Calls Tryd.prog 24 #[.int .u64 x, .int .i64 k, fld a n] w (Ret (val (gt a n x) z0) w) := by
  have hk3 : ((k : Int) == 3) = false := by rw [beq_eq_false_iff_ne]; omega
  have hk2 : ((k : Int) == 2) = false := by rw [beq_eq_false_iff_ne]; omega
  have hg : gt a n x < 9223372036854775808 := Nat.lt_of_lt_of_le (gt_lt a n x) (Nat.le_trans (Nat.pow_le_pow_right (by omega) hn) (by decide))
  unfold val z0
  go_enter Tryd.func24, Tryd.ntmps24
  go_wp2_with fail
  refine (get_in a n x _ h1 h2 hx).mono ?_
  rintro e w2 ⟨rfl, hb⟩
  have hb0 := ((Below.refl w.heap.size w).alloc (Nat.le_refl _) (.cells #[.int .i64 (a : Int), .int .i64 n] 68)).alloc (by simp) (.cells #[.int .i64 0, .complex .f64 0 0] 43)
  have hG := (Blk.new (w.alloc (.cells #[.int .i64 (a : Int), .int .i64 n] 68)) #[.int .i64 0, .complex .f64 0 0] 43).low hb
  simp only [World.size_alloc] at hG
  have hb2 := hb0.trans (hb.mono hb0.size)
  have r0 := hG.cell (i := 0) rfl
  have r1 := hG.cell (i := 1) rfl
  have z0' := hG.frozen 0
  have z1' := hG.frozen 1
  have hw := toI_small hg
  have Hb := Lib.hid (And.intro hb2 hG)
  clear hb0 hb hb2 hG
  generalize gt a n x = g at *
  go_wp2
  have hfin := (Hb.out.1.setCell (p := ⟨w.heap.size + 1, 0, none⟩) (by simp) (.int .i64 (g : Int))).setCell (p := ⟨w.heap.size + 1, 1, none⟩) (by simp) (.complex .f64 0 0)
  have hG := (Hb.out.2.put 0 (.int .i64 (g : Int))).put 1 (.complex .f64 0 0)
  have c0 := hG.cell (i := 0) rfl
  have c1 := hG.cell (i := 1) rfl
  exact bodyPost_ret (v := .agg #[.int .i64 (g : Int), .complex .f64 0 0]) (by simp [results, Tryd.results24, go_sem, c0, c1]) rfl ⟨rfl, hfin⟩

set_option maxRecDepth 100000 in
set_option maxHeartbeats 1000000 in
theorem get_whl (x a n : Nat) (w : World) (h1 : 1 ≤ n) (h2 : a + n ≤ 64) (hx : W64 x) :
    Calls Tryd.prog 24 #[.int .u64 x, .int .i64 2, fld a n] w (Ret (val (sg n (gt a n x)) z0) w) := by
  unfold val z0
  go_enter Tryd.func24, Tryd.ntmps24
  go_wp2_with fail
  refine (signed_in a n x _ h1 h2 hx).mono ?_
  rintro e w2 ⟨rfl, hb⟩
  have hb0 := ((Below.refl w.heap.size w).alloc (Nat.le_refl _) (.cells #[.int .i64 (a : Int), .int .i64 n] 68)).alloc (by simp) (.cells #[.int .i64 0, .complex .f64 0 0] 43)
  have hG := (Blk.new (w.alloc (.cells #[.int .i64 (a : Int), .int .i64 n] 68)) #[.int .i64 0, .complex .f64 0 0] 43).low hb
  simp only [World.size_alloc] at hG
  have hb2 := hb0.trans (hb.mono hb0.size)
  have r0 := hG.cell (i := 0) rfl
  have r1 := hG.cell (i := 1) rfl
  have z0' := hG.frozen 0
  have z1' := hG.frozen 1
  have Hb := Lib.hid (And.intro hb2 hG)
  clear hb0 hb hb2 hG
  generalize sg n (gt a n x) = g at *
  go_wp2
  have hfin := (Hb.out.1.setCell (p := ⟨w.heap.size + 1, 0, none⟩) (by simp) (.int .i64 g)).setCell (p := ⟨w.heap.size + 1, 1, none⟩) (by simp) (.complex .f64 0 0)
  have hG := (Hb.out.2.put 0 (.int .i64 g)).put 1 (.complex .f64 0 0)
  have c0 := hG.cell (i := 0) rfl
  have c1 := hG.cell (i := 1) rfl
  exact bodyPost_ret (v := .agg #[.int .i64 g, .complex .f64 0 0]) (by simp [results, Tryd.results24, go_sem, c0, c1]) rfl ⟨rfl, hfin⟩

set_option maxRecDepth 100000 in
set_option maxHeartbeats 4000000 in
theorem get_pnt (x : Nat) (a n : Int) (w : World) (hx : W64 x) :
    Calls Tryd.prog 24 #[.int .u64 x, .int .i64 3, fld a n] w (Ret (val 0 (.complex .f64 (fl (sg 32 (gt 0 32 x))) (fl (sg 32 (gt 32 32 x))))) w) := by
  unfold val fl
  go_enter Tryd.func24, Tryd.ntmps24
  go_wp2_with fail
  have hb0 := ((Below.refl w.heap.size w).alloc (Nat.le_refl _) (.cells #[.int .i64 a, .int .i64 n] 68)).alloc (by simp) (.cells #[.int .i64 0, .complex .f64 0 0] 43)
  have hG := (Blk.new (w.alloc (.cells #[.int .i64 a, .int .i64 n] 68)) #[.int .i64 0, .complex .f64 0 0] 43)
  simp only [World.size_alloc] at hG
  generalize (w.alloc (.cells #[.int .i64 a, .int .i64 n] 68)).alloc (.cells #[.int .i64 0, .complex .f64 0 0] 43) = w0 at *
  refine (halves_any w0).mono ?_
  rintro e w1 ⟨rfl, hb1⟩
  have hG1 := hG.low hb1
  have hB1 := hb0.trans (hb1.mono hb0.size)
  clear hb0 hb1 hG
  go_wp2_with fail
  have hL := (Blk.new w1 #[.int .i64 0, .int .i64 32] 68).alloc (.cells #[.int .i64 32, .int .i64 32] 68)
  have hU := Blk.new (w1.alloc (.cells #[.int .i64 0, .int .i64 32] 68)) #[.int .i64 32, .int .i64 32] 68
  simp only [World.size_alloc] at hU
  have hG2 := (hG1.alloc (.cells #[.int .i64 0, .int .i64 32] 68)).alloc (.cells #[.int .i64 32, .int .i64 32] 68)
  have hB2 := (hB1.alloc hB1.size (.cells #[.int .i64 0, .int .i64 32] 68)).alloc (hB1.alloc hB1.size _).size (.cells #[.int .i64 32, .int .i64 32] 68)
  have hlt := hG1.lt
  have hS : S4 w1.heap.size (w1.heap.size + 1) (.int .i64 0) (.int .i64 32) (.int .i64 32) (.int .i64 32) ((w1.alloc (.cells #[.int .i64 0, .int .i64 32] 68)).alloc (.cells #[.int .i64 32, .int .i64 32] 68)) := ⟨hL.cell (i := 0) rfl, hL.cell (i := 1) rfl, hU.cell (i := 0) rfl, hU.cell (i := 1) rfl⟩
  have HS := Lib.hid (And.intro hS (And.intro hG2 hB2))
  clear hL hU hG2 hB2 hS hG1 hB1
  generalize (w1.alloc (.cells #[.int .i64 0, .int .i64 32] 68)).alloc (.cells #[.int .i64 32, .int .i64 32] 68) = W2 at *
  refine wp_region_held_drew (S := S4 w1.heap.size (w1.heap.size + 1) (.int .i64 0) (.int .i64 32) (.int .i64 32) (.int .i64 32)) (by kernel_rfl) (HS.out.1) (fun hHeld => ?_)
  refine wpAnyH_take (i := 0) (v := ?v1) rfl (by kernel_rfl) (by kernel_rfl) (by kernel_rfl) (fun _ _ _ h => h) (Or.inl ⟨by rfl, ?y1⟩) hHeld ?r1
  case y1 => (intro w hSw; have ⟨q0, q1, q2, q3⟩ := hSw; go_simp; try with_reducible rfl)
  simp only [List.getElem_toArray, List.getElem_cons_zero, Act.put, List.setIfInBounds_toArray, List.set_cons_zero, List.set_cons_succ]
  refine wpAnyH_take (i := 1) (v := ?v2) rfl (by kernel_rfl) (by kernel_rfl) (by kernel_rfl) (fun _ _ _ h => h) (Or.inl ⟨by rfl, ?y2⟩) hHeld ?r2
  case y2 => (intro w hSw; have ⟨q0, q1, q2, q3⟩ := hSw; go_simp; try with_reducible rfl)
  simp only [List.getElem_toArray, List.getElem_cons_zero, List.getElem_cons_succ, Act.put, List.setIfInBounds_toArray, List.set_cons_zero, List.set_cons_succ]
  refine wpAnyH_take (i := 4) (v := ?v3) rfl (by kernel_rfl) (by kernel_rfl) (by kernel_rfl) (fun _ _ _ h => h) (Or.inl ⟨by rfl, ?y3⟩) hHeld ?r3
  case y3 => (intro w hSw; have ⟨q0, q1, q2, q3⟩ := hSw; go_simp; try with_reducible rfl)
  simp only [List.getElem_toArray, List.getElem_cons_zero, List.getElem_cons_succ, Act.put, List.setIfInBounds_toArray, List.set_cons_zero, List.set_cons_succ]
  refine wpAnyH_take (i := 5) (v := ?v4) rfl (by kernel_rfl) (by kernel_rfl) (by kernel_rfl) (fun _ _ _ h => h) (Or.inl ⟨by rfl, ?y4⟩) hHeld ?r4
  case y4 => (intro w hSw; have ⟨q0, q1, q2, q3⟩ := hSw; go_simp; try with_reducible rfl)
  simp only [List.getElem_toArray, List.getElem_cons_zero, List.getElem_cons_succ, Act.put, List.setIfInBounds_toArray, List.set_cons_zero, List.set_cons_succ]
  refine wpAnyH_ready (rs := [2]) (by kernel_rfl) (by simp) (AllReadyH.cons rfl (fun K hK => ?_) AllReadyH.nil)
  go_simp
  refine (signed_in 0 32 x _ (by omega) (by omega) hx).mono ?_
  rintro e w3 ⟨rfl, hb3⟩
  have hS3 := S4.next (w := W2.drew) HS.out.1 hb3
  have hG3 := HS.out.2.1.drew.low hb3
  have hB3 := HS.out.2.2.drew.trans (hb3.mono HS.out.2.2.size)
  go_wp2_with fail
  refine hK.out _ _ (hS3) (fun hHeld => ?_)
  clear hK K
  refine wpAnyH_take (i := 3) (v := ?v6) rfl (by kernel_rfl) (by kernel_rfl) (by kernel_rfl) (fun _ _ _ h => h) (Or.inl ⟨by rfl, ?y6⟩) hHeld ?r6
  case y6 => (intro w hSw; have ⟨q0, q1, q2, q3⟩ := hSw; go_simp; try with_reducible rfl)
  simp only [List.getElem_toArray, List.getElem_cons_zero, List.getElem_cons_succ, Act.put, List.setIfInBounds_toArray, List.set_cons_zero, List.set_cons_succ]
  refine wpAnyH_ready (rs := [6]) (by kernel_rfl) (by simp) (AllReadyH.cons rfl (fun K hK => ?_) AllReadyH.nil)
  go_simp
  refine (signed_in 32 32 x _ (by omega) (by omega) hx).mono ?_
  rintro e w4 ⟨rfl, hb4⟩
  have hS4 := S4.next hS3 hb4
  have hG4 := hG3.low hb4
  have hB4 := hB3.trans (hb4.mono hB3.size)
  have r0 := hG4.cell (i := 0) rfl
  have r1 := hG4.cell (i := 1) rfl
  have z0' := hG4.frozen 0
  have z1' := hG4.frozen 1
  go_wp2_with fail
  refine hK.out _ _ (hS4) (fun hHeld => ?_)
  clear hK K
  refine wpAnyH_take (i := 7) (v := ?v8) rfl (by kernel_rfl) (by kernel_rfl) (by kernel_rfl) (fun _ _ _ h => h) (Or.inl ⟨by rfl, ?y8⟩) hHeld ?r8
  case y8 => (intro w hSw; have ⟨q0, q1, q2, q3⟩ := hSw; go_simp; try with_reducible rfl)
  simp only [List.getElem_toArray, List.getElem_cons_zero, List.getElem_cons_succ, Act.put, List.setIfInBounds_toArray, List.set_cons_zero, List.set_cons_succ]
  refine wpAnyH_take (i := 8) (v := ?v9) rfl (by kernel_rfl) (by kernel_rfl) (by kernel_rfl) (fun _ _ _ h => h) (Or.inl ⟨by rfl, ?y9⟩) hHeld ?r9
  case y9 => (intro w hSw; have ⟨q0, q1, q2, q3⟩ := hSw; go_simp; try with_reducible rfl)
  simp only [List.getElem_toArray, List.getElem_cons_zero, List.getElem_cons_succ, Act.put, List.setIfInBounds_toArray, List.set_cons_zero, List.set_cons_succ]
  refine wpAnyH_take (i := 9) (v := ?v10) rfl (by kernel_rfl) (by kernel_rfl) (by kernel_rfl) (fun _ _ _ h => h) (Or.inl ⟨by rfl, ?y10⟩) hHeld ?r10
  case y10 => (intro w hSw; have ⟨q0, q1, q2, q3⟩ := hSw; go_simp; try with_reducible rfl)
  simp only [List.getElem_toArray, List.getElem_cons_zero, List.getElem_cons_succ, Act.put, List.setIfInBounds_toArray, List.set_cons_zero, List.set_cons_succ]
  refine wpAnyH_ready (rs := [10]) (by kernel_rfl) (by simp) (AllReadyH.cons rfl (fun K hK => ?_) AllReadyH.nil)
  go_simp
  go_wp2_with fail
  refine hK.out _ _ (S4.set (S4.set hS4 _ (by omega) (by omega)) _ (by omega) (by omega)) (fun hHeld => ?_)
  clear hK K
  refine wpAnyH_done (by kernel_rfl) ?_ _
  go_wp2
  have hfin := (hB4.setCell (p := ⟨w.heap.size + 1, 0, none⟩) (by simp) (.int .i64 0)).setCell (p := ⟨w.heap.size + 1, 1, none⟩) (by simp) (.complex .f64 (floatOfInt .f64 (sg 32 (gt 0 32 x))) (floatOfInt .f64 (sg 32 (gt 32 32 x))))
  have hG5 := (hG4.put 0 (.int .i64 0)).put 1 (.complex .f64 (floatOfInt .f64 (sg 32 (gt 0 32 x))) (floatOfInt .f64 (sg 32 (gt 32 32 x))))
  have c0 := hG5.cell (i := 0) rfl
  have c1 := hG5.cell (i := 1) rfl
  exact bodyPost_ret (v := .agg #[.int .i64 0, .complex .f64 (floatOfInt .f64 (sg 32 (gt 0 32 x))) (floatOfInt .f64 (sg 32 (gt 32 32 x)))]) (by simp [results, Tryd.results24, go_sem, c0, c1]) rfl ⟨rfl, hfin⟩

theorem get_any (x kd a n : Nat) (w : World) (hb : bad kd n = 0) (h2 : a + n ≤ 64) (hx : W64 x) :
    Calls Tryd.prog 24 #[.int .u64 x, .int .i64 kd, fld a n] w (Ret (val (dvN kd a n x) (dvZ kd x)) w) := by
  obtain ⟨_, h4, _, hhi, h1, _⟩ := ok_bad hb
  by_cases k3 : kd = 3
  · subst k3
    exact get_pnt x a n w hx
  · by_cases k2 : kd = 2
    · subst k2
      exact get_whl x a n w (by omega) h2 hx
    · have hn : n ≤ 63 := by
        have : kHi ((kd : Int)).toNat ≤ 63 := by
          simp only [Int.toNat_natCast]
          match kd, k3, k2, h4 with
          | 0, _, _, _ => decide
          | 1, _, _, _ => decide
          | 2, _, h, _ => exact absurd rfl h
          | 3, h, _, _ => exact absurd rfl h
          | k + 4, _, _, h => omega
        omega
      have e1 : dvN kd a n x = (gt a n x : Int) := by unfold dvN; rw [if_neg k3, if_neg k2]
      have e2 : dvZ kd x = z0 := by unfold dvZ; rw [if_neg k3]
      rw [e1, e2]
      exact get_num x kd a n w (by omega) (by omega) h2 hn hx
end Go.Proofs.YtenbbnmhgpclkaaDoor
