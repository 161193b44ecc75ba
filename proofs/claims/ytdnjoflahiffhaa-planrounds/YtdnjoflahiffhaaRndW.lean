/- The walk of the law PlanRounds. -/
import Derived.Test.YtdnjoflahiffhaaAwk
import Derived.Test.YtdnjoflahiffhaaRdM
import Derived.Maps.AppendAt
namespace Go.Proofs.Ytdnjoflahiffhaa
open Go.RowKit

def RB (w : World) (o q f x d : Int) (P : Nat) (W : World) : Prop :=
  Blk W w.heap.size (spc o q f x d) ∧ Blk W P (plc 0 1 d (.slice none 0 0) 0) ∧ Below w.heap.size w W
theorem RB.next {w : World} {o q f x d : Int} {P : Nat} {W W' : World} (h : RB w o q f x d P W) (u : Below W.heap.size W W') : RB w o q f x d P W' :=
  ⟨h.1.low u, h.2.1.low u, h.2.2.trans (u.mono h.2.2.size)⟩
theorem wrap_u64' (n : Int) (h1 : 0 ≤ n) (h2 : n < 18446744073709551616) : IntKind.u64.wrap n = n := by
  simp [IntKind.wrap, IntKind.bits, IntKind.signed]
  omega
theorem info3 : (Try.prog.info? 3).map (fun i => (i.zero, i.size, i.bytes)) = some (some (.int .i64 0), 1, 8) := by kernel_rfl

set_option maxRecDepth 100000 in
set_option maxHeartbeats 1000000 in
theorem rounds_bad (o q f x d g : Int) (w : World) (hg : 0 ≤ g) (hg2 : g < 18446744073709551616) (hno : ¬ okS f x d) : Calls Try.prog 8 #[spv o q f x d, .int .u64 g] w (Ret (.bool true) w) := by
  have hC := Blk.new w #[.int .i64 o, .int .i64 q, .int .i64 f, .int .i64 x, .int .i64 d] 43
  have hB := (Below.refl w.heap.size w).alloc (Nat.le_refl _) (.cells #[.int .i64 o, .int .i64 q, .int .i64 f, .int .i64 x, .int .i64 d] 43)
  have c0 := hC.cell (i := 0) rfl
  have c1 := hC.cell (i := 1) rfl
  have c2 := hC.cell (i := 2) rfl
  have c3 := hC.cell (i := 3) rfl
  have c4 := hC.cell (i := 4) rfl
  have HB := Lib.hid (And.intro hC hB)
  clear hC hB
  by_cases k1 : x < 1
  · have m0 : decide (x < 1) = true := decide_eq_true k1
    have hv := at_any o q f x d g (w.alloc (.cells #[.int .i64 o, .int .i64 q, .int .i64 f, .int .i64 x, .int .i64 d] 43)) hg hg2
    rw [atv_no (by unfold okS; omega)] at hv
    have Hv := Lib.hid hv
    clear hv
    go_enter Try.func8, Try.ntmps8
    go_wp2_with fail
    refine Hv.out.mono ?_
    rintro e w1 ⟨rfl, hb1⟩
    have H1 := Lib.hid (HB.out.2.trans (hb1.mono HB.out.2.size))
    clear hb1 HB c0 c1 c2 c3 c4
    go_wp2_with fail
    refine (awake_any w1).mono ?_
    rintro e w2 ⟨rfl, hb2⟩
    have H2 := Lib.hid (H1.out.trans (hb2.mono H1.out.size))
    clear hb2 H1
    go_wp2
    go_ret
    exact ⟨rfl, H2.out⟩
  have m0 : decide (x < 1) = false := decide_eq_false k1
  by_cases k2 : 64 < x
  · have m1 : decide (64 < x) = true := decide_eq_true k2
    have hv := at_any o q f x d g (w.alloc (.cells #[.int .i64 o, .int .i64 q, .int .i64 f, .int .i64 x, .int .i64 d] 43)) hg hg2
    rw [atv_no (by unfold okS; omega)] at hv
    have Hv := Lib.hid hv
    clear hv
    go_enter Try.func8, Try.ntmps8
    go_wp2_with fail
    refine Hv.out.mono ?_
    rintro e w1 ⟨rfl, hb1⟩
    have H1 := Lib.hid (HB.out.2.trans (hb1.mono HB.out.2.size))
    clear hb1 HB c0 c1 c2 c3 c4
    go_wp2_with fail
    refine (awake_any w1).mono ?_
    rintro e w2 ⟨rfl, hb2⟩
    have H2 := Lib.hid (H1.out.trans (hb2.mono H1.out.size))
    clear hb2 H1
    go_wp2
    go_ret
    exact ⟨rfl, H2.out⟩
  have m1 : decide (64 < x) = false := decide_eq_false k2
  by_cases k3 : d < 1
  · have m2 : decide (d < 1) = true := decide_eq_true k3
    have hv := at_any o q f x d g (w.alloc (.cells #[.int .i64 o, .int .i64 q, .int .i64 f, .int .i64 x, .int .i64 d] 43)) hg hg2
    rw [atv_no (by unfold okS; omega)] at hv
    have Hv := Lib.hid hv
    clear hv
    go_enter Try.func8, Try.ntmps8
    go_wp2_with fail
    refine Hv.out.mono ?_
    rintro e w1 ⟨rfl, hb1⟩
    have H1 := Lib.hid (HB.out.2.trans (hb1.mono HB.out.2.size))
    clear hb1 HB c0 c1 c2 c3 c4
    go_wp2_with fail
    refine (awake_any w1).mono ?_
    rintro e w2 ⟨rfl, hb2⟩
    have H2 := Lib.hid (H1.out.trans (hb2.mono H1.out.size))
    clear hb2 H1
    go_wp2
    go_ret
    exact ⟨rfl, H2.out⟩
  have m2 : decide (d < 1) = false := decide_eq_false k3
  by_cases k4 : 16 < d
  · have m3 : decide (16 < d) = true := decide_eq_true k4
    have hv := at_any o q f x d g (w.alloc (.cells #[.int .i64 o, .int .i64 q, .int .i64 f, .int .i64 x, .int .i64 d] 43)) hg hg2
    rw [atv_no (by unfold okS; omega)] at hv
    have Hv := Lib.hid hv
    clear hv
    go_enter Try.func8, Try.ntmps8
    go_wp2_with fail
    refine Hv.out.mono ?_
    rintro e w1 ⟨rfl, hb1⟩
    have H1 := Lib.hid (HB.out.2.trans (hb1.mono HB.out.2.size))
    clear hb1 HB c0 c1 c2 c3 c4
    go_wp2_with fail
    refine (awake_any w1).mono ?_
    rintro e w2 ⟨rfl, hb2⟩
    have H2 := Lib.hid (H1.out.trans (hb2.mono H1.out.size))
    clear hb2 H1
    go_wp2
    go_ret
    exact ⟨rfl, H2.out⟩
  have m3 : decide (16 < d) = false := decide_eq_false k4
  by_cases k5 : f < 0
  · have m4 : decide (f < 0) = true := decide_eq_true k5
    have hv := at_any o q f x d g (w.alloc (.cells #[.int .i64 o, .int .i64 q, .int .i64 f, .int .i64 x, .int .i64 d] 43)) hg hg2
    rw [atv_no (by unfold okS; omega)] at hv
    have Hv := Lib.hid hv
    clear hv
    go_enter Try.func8, Try.ntmps8
    go_wp2_with fail
    refine Hv.out.mono ?_
    rintro e w1 ⟨rfl, hb1⟩
    have H1 := Lib.hid (HB.out.2.trans (hb1.mono HB.out.2.size))
    clear hb1 HB c0 c1 c2 c3 c4
    go_wp2_with fail
    refine (awake_any w1).mono ?_
    rintro e w2 ⟨rfl, hb2⟩
    have H2 := Lib.hid (H1.out.trans (hb2.mono H1.out.size))
    clear hb2 H1
    go_wp2
    go_ret
    exact ⟨rfl, H2.out⟩
  have m4 : decide (f < 0) = false := decide_eq_false k5
  by_cases k6 : 1048576 < f
  · have m5 : decide (1048576 < f) = true := decide_eq_true k6
    have hv := at_any o q f x d g (w.alloc (.cells #[.int .i64 o, .int .i64 q, .int .i64 f, .int .i64 x, .int .i64 d] 43)) hg hg2
    rw [atv_no (by unfold okS; omega)] at hv
    have Hv := Lib.hid hv
    clear hv
    go_enter Try.func8, Try.ntmps8
    go_wp2_with fail
    refine Hv.out.mono ?_
    rintro e w1 ⟨rfl, hb1⟩
    have H1 := Lib.hid (HB.out.2.trans (hb1.mono HB.out.2.size))
    clear hb1 HB c0 c1 c2 c3 c4
    go_wp2_with fail
    refine (awake_any w1).mono ?_
    rintro e w2 ⟨rfl, hb2⟩
    have H2 := Lib.hid (H1.out.trans (hb2.mono H1.out.size))
    clear hb2 H1
    go_wp2
    go_ret
    exact ⟨rfl, H2.out⟩
  have m5 : decide (1048576 < f) = false := decide_eq_false k6
  exact absurd (by unfold okS; omega) hno

/-- At the head of the outer loop. -/
def RelR (w : World) (o q f x d g : Int) (v i : Value) (wr : World) : Prop :=
  ∃ k : Nat, (k : Int) ≤ d ∧ i = .int .i64 k ∧ Blk wr w.heap.size (spc o q f x d) ∧ wr.ownsRow (w.heap.size + 1) 3 1 v k (icl (ats f x d g k)) ∧ Below w.heap.size w wr
def RelI (W : World) (k : Nat) (i : Value) (wr : World) : Prop := ∃ j m : Nat, j ≤ k ∧ i = .int .i64 j ∧ wr = W.drewN m

set_option maxRecDepth 100000 in
set_option maxHeartbeats 4000000 in
theorem rounds_ok (o q f x d g : Int) (w : World) (hg : 0 ≤ g) (hg2 : g < 18446744073709551616) (hok : okS f x d) : Calls Try.prog 8 #[spv o q f x d, .int .u64 g] w (Ret (.bool true) w) := by
  have hC := Blk.new w #[.int .i64 o, .int .i64 q, .int .i64 f, .int .i64 x, .int .i64 d] 43
  have hB := (Below.refl w.heap.size w).alloc (Nat.le_refl _) (.cells #[.int .i64 o, .int .i64 q, .int .i64 f, .int .i64 x, .int .i64 d] 43)
  have c0 := hC.cell (i := 0) rfl
  have c1 := hC.cell (i := 1) rfl
  have c2 := hC.cell (i := 2) rfl
  have c3 := hC.cell (i := 3) rfl
  have c4 := hC.cell (i := 4) rfl
  have HB := Lib.hid (And.intro hC hB)
  have Hok := Lib.hid hok
  obtain ⟨h1, h2, h3, h4, h5, h6⟩ := hok
  clear hC hB
  have m0 : decide (x < 1) = false := decide_eq_false (by omega)
  have m1 : decide (64 < x) = false := decide_eq_false (by omega)
  have m2 : decide (d < 1) = false := decide_eq_false (by omega)
  have m3 : decide (16 < d) = false := decide_eq_false (by omega)
  have m4 : decide (f < 0) = false := decide_eq_false (by omega)
  have m5 : decide (1048576 < f) = false := decide_eq_false (by omega)
  by_cases hbig : 4611686018427387904 < g
  · have m6 : decide (4611686018427387904 < g) = true := decide_eq_true hbig
    go_enter Try.func8, Try.ntmps8
    go_wp2_with fail
    refine (awake_any _).mono ?_
    rintro e w1 ⟨rfl, hb1⟩
    have H1 := Lib.hid (HB.out.2.trans (hb1.mono HB.out.2.size))
    clear hb1 HB c0 c1 c2 c3 c4
    go_wp2
    go_ret
    exact ⟨rfl, H1.out⟩
  have m6 : decide (4611686018427387904 < g) = false := decide_eq_false hbig
  obtain ⟨i0, hi, hz0, hz1, hz2⟩ := info_parts info3
  go_enter Try.func8, Try.ntmps8
  go_wp2_with fail
  clear m0 m1 m2 m3 m4 m5 m6 c0 c1 c2 c3 c4
  have HB' := Lib.hid (And.intro HB.out.1 (And.intro (World.ownsRow_nil (w.alloc (.cells #[.int .i64 o, .int .i64 q, .int .i64 f, .int .i64 x, .int .i64 d] 43)) (w.heap.size + 1) 3 1) HB.out.2))
  clear HB
  generalize w.alloc (.cells #[.int .i64 o, .int .i64 q, .int .i64 f, .int .i64 x, .int .i64 d] 43) = W1 at *
  go_loopw [5, 6] (RelR w o q f x d g) (fun _ i _ => d.toNat - (intOf i).toNat)
  case atStart => exact ⟨0, by omega, rfl, HB'.out.1, HB'.out.2.1, HB'.out.2.2⟩
  case round =>
    clear HB'
    obtain ⟨k, hk, rfl, hC, hO, hB⟩ := hrel
    obtain ⟨av, cv, rfl, hcells⟩ := owns_slice hO
    have c0 := hC.cell (i := 0) rfl
    have c1 := hC.cell (i := 1) rfl
    have c2 := hC.cell (i := 2) rfl
    have c3 := hC.cell (i := 3) rfl
    have c4 := hC.cell (i := 4) rfl
    have HX := Lib.hid (And.intro hC (And.intro hO hB))
    have Hc := Lib.hid hcells
    clear hC hO hB hcells
    by_cases hkd : (k : Int) < d
    · have md : decide ((k : Int) < d) = true := decide_eq_true hkd
      go_wp2_with fail
      refine (at_any o q f x d (g + k) wr (by omega) (by omega)).mono ?_
      rintro e w2 ⟨rfl, hb2⟩
      have hC2 := HX.out.1.low hb2
      have hO2 := owns_keep HX.out.2.1 (fun j _ hj => hb2.block j hj)
      have hB2 := HX.out.2.2.trans (hb2.mono HX.out.2.2.size)
      have hc2 : ∀ j : Nat, j < k → ∃ b, av = some ⟨b, 0, none⟩ ∧ w2.cell? ⟨b, j, none⟩ = some (.int .i64 (atv f x d (g + j))) := fun j hj => by
        obtain ⟨b, e, _, hbl, hcc⟩ := Hc.out j _ (icl_at (ats_at f x d g k j hj))
        exact ⟨b, e, (hb2.cell (p := ⟨b, j, none⟩) hbl).trans hcc⟩
      have hap : ∀ j : Nat, j < k → atv f x d (g + j) + x ≤ atv f x d (g + k) ∨ atv f x d (g + k) + x ≤ atv f x d (g + j) := fun j hj => at_apart Hok.out (by omega) (by omega) hkd
      have hin := at_in (g := g + k) Hok.out (by omega)
      have hin' : ∀ j : Nat, f ≤ atv f x d (g + j) ∧ atv f x d (g + j) + x ≤ f + x * d ∧ x * d ≤ 1024 := fun j => at_in Hok.out (by omega)
      have Hat : Hid (ats f x d g (k + 1) = ats f x d g k ++ [atv f x d (g + k)]) := Lib.hid rfl
      generalize atv f x d (g + k) = A at *
      have H2 := Lib.hid (And.intro hC2 (And.intro hO2 hB2))
      have Hcc := Lib.hid (And.intro hc2 (And.intro hap hin'))
      clear hC2 hO2 hB2 hc2 hap hin' hb2 HX Hc c0 c1 c2 c3 c4 md
      go_wp2_with fail
      go_loopw [8] (RelI w2 k) (fun i _ => k - (intOf i).toNat)
      case atStart => exact ⟨0, 0, by omega, rfl, rfl⟩
      case round =>
        obtain ⟨j, m, hj, rfl, rfl⟩ := hrel
        by_cases hjk : j < k
        · have mj : decide ((j : Int) < (k : Int)) = true := decide_eq_true (by omega)
          have mj' : (j : Int) < (k : Int) := by omega
          obtain ⟨b, rfl, cj⟩ := Hcc.out.1 j hjk
          have hap := Hcc.out.2.1 j hjk
          have hbd := Hcc.out.2.2 j
          generalize atv f x d (g + j) = B at *
          have cj' : w2.cell? ⟨b, 0 + j, none⟩ = some (.int .i64 B) := by rw [Nat.zero_add]; exact cj
          have c3 := H2.out.1.cell (i := 3) rfl
          have a1 : 0 ≤ A := by omega
          have a2 : A ≤ 2000000 := by omega
          have b1 : 0 ≤ B := by omega
          have b2 : B ≤ 2000000 := by omega
          have Hin := Lib.hid hin
          have n0 : (B == A) = false := by rw [beq_eq_false_iff_ne]; omega
          by_cases hlt : B - A < x
          · have n1 : decide (B - A < x) = true := decide_eq_true hlt
            have n2 : decide (A - B < x) = false := decide_eq_false (by omega)
            clear hap hbd hin
            go_wp2_with fail
            go_quiet (fail)
            go_wp2
            go_roundw
            case rel => exact ⟨j + 1, m + _, by omega, by go_num, rfl⟩
            case measure => simp [intOf]; omega
          · have n1 : decide (B - A < x) = false := decide_eq_false hlt
            clear hap hbd hin
            go_wp2_with fail
            go_quiet (fail)
            go_wp2
            go_roundw
            case rel => exact ⟨j + 1, m + _, by omega, by go_num, rfl⟩
            case measure => simp [intOf]; omega
        · obtain rfl : j = k := by omega
          have mj : decide ((j : Int) < (j : Int)) = false := decide_eq_false (by omega)
          have c2 : (w2.drewN m).cell? ⟨w.heap.size, 2, none⟩ = some (.int .i64 f) := H2.out.1.cell (i := 2) rfl
          have c3 : (w2.drewN m).cell? ⟨w.heap.size, 3, none⟩ = some (.int .i64 x) := H2.out.1.cell (i := 3) rfl
          have c4 : (w2.drewN m).cell? ⟨w.heap.size, 4, none⟩ = some (.int .i64 d) := H2.out.1.cell (i := 4) rfl
          have n0 : decide (A < f) = false := decide_eq_false (by omega)
          have hw : wrap64 (x * d) = x * d := by
            have := Int.mul_nonneg (by omega : 0 ≤ x) (by omega : 0 ≤ d)
            unfold wrap64
            omega
          have x0 : 0 ≤ x * d := Int.mul_nonneg (by omega : 0 ≤ x) (by omega : 0 ≤ d)
          have n1 : decide (f + x * d < A + x) = false := decide_eq_false (by omega)
          have a1 : 0 ≤ A := by omega
          have a2 : A ≤ 2000000 := by omega
          have x1 : x * d ≤ 1024 := hin.2.2
          have hml : j + 1 ≤ maxLen := Nat.le_trans (by omega : j + 1 ≤ 17) (by decide)
          have hlt2 : w.heap.size < (w2.drewN m).heap.size := H2.out.1.lt
          have HO : Hid ((w2.drewN m).ownsRow (w.heap.size + 1) 3 1 (.slice av j cv) j (icl (ats f x d g j))) := Lib.hid H2.out.2.1
          have hCm : Blk (w2.drewN m) w.heap.size (spc o q f x d) := H2.out.1
          have hBm : Below w.heap.size w (w2.drewN m) := belN H2.out.2.2 m
          have HM := Lib.hid (And.intro hCm hBm)
          clear hin H2 Hcc hCm hBm
          generalize w2.drewN m = w3 at *
          go_wp2_with (at_builtin; refine wpList_append_own _ rfl _ _ 37 rfl (w.heap.size + 1) 3 i0 _ 1 8 Try.underlying37 hi hz0 hz1 hz2 rfl (by decide) (.slice av j cv) j _ rfl (HO.out.alloc _) ⟨w3.heap.size, 0, none⟩ 1 1 [.int .i64 A] rfl rfl (cell_one_new _ _ _) (by simp [Value.oneCell']) hml (by omega) (by simp; omega) ?_; intro v' w4 hown' hgrow _; obtain ⟨g', cap', rfl⟩ := ownsRow_succ hown')
          have hC4 : Blk w4 w.heap.size (spc o q f x d) := (HM.out.1.alloc _).of_block (hgrow.block _ (HM.out.1.alloc _).lt (fun e => by have := (HO.out.lt _ e.symm).1; omega))
          have hB4 : Below w.heap.size w w4 := (HM.out.2.alloc HM.out.2.size _).grown hgrow (by simp; omega) (fun q e => by have := (HO.out.lt q e).1; omega)
          have H4 := Lib.hid (And.intro hC4 (And.intro hown' hB4))
          clear hC4 hown' hB4 hgrow
          go_roundw
          case rel =>
            refine ⟨j + 1, by omega, by go_num, H4.out.1, ?_, H4.out.2.2⟩
            rw [Hat.out, icl_snoc]
            exact H4.out.2.1
          case measure => simp [intOf]; omega
    · have md : decide ((k : Int) < d) = false := decide_eq_false hkd
      have hkd' : (k : Int) = d := by omega
      have hP := Blk.new wr #[.int .i64 0, .int .i64 1, .int .i64 d, .slice none 0 0, .int .i64 0] 29
      have X0 := Lib.hid (show RB w o q f x d wr.heap.size (wr.alloc (.cells #[.int .i64 0, .int .i64 1, .int .i64 d, .slice none 0 0, .int .i64 0] 29)) from ⟨HX.out.1.alloc _, hP, HX.out.2.2.alloc HX.out.2.2.size _⟩)
      have y0 := hP.cell (i := 0) rfl
      have y1 := hP.cell (i := 1) rfl
      have y2 := hP.cell (i := 2) rfl
      have y3 := hP.cell (i := 3) rfl
      have y4 := hP.cell (i := 4) rfl
      have c4' := X0.out.1.cell (i := 4) rfl
      clear hP HX Hc c0 c1 c2 c3 hkd hkd'
      go_wp2_with fail
      clear y0 y1 y2 y3 y4 c4' c4
      generalize wr.alloc (.cells #[.int .i64 0, .int .i64 1, .int .i64 d, .slice none 0 0, .int .i64 0] 29) = V1 at *
      generalize wr.heap.size = P at *
      refine (ent_any 0 1 d 0 (g + d) none 0 0 V1 (by omega)).mono ?_
      rintro e V2 ⟨rfl, hb2⟩
      rw [env_again]
      have X1 := Lib.hid (X0.out.next hb2)
      have hin := env_in (o := 1) (n := d) (g := g) ⟨by omega, by omega, by omega, by omega⟩ hg
      have z1 : decide ((1 : Int) ≤ env 1 d g) = true := decide_eq_true hin.1
      have z2 : decide (env 1 d g ≤ d) = true := decide_eq_true (by omega)
      generalize hen : env 1 d g = E at *
      have Hen := Lib.hid hen
      have qe : (E == E) = true := by simp
      have qa : (atv f x d g == atv f x d g) = true := by simp
      clear hb2 X0 hin hen
      go_wp2_with fail
      have Xd : Hid (RB w o q f x d P V2.drew) := Lib.hid (X1.out.next (belN (Below.refl _ _) 1))
      clear X1
      refine wp_region_held_drew (S := RB w o q f x d P) (by kernel_rfl) (Xd.out) (fun hHeld => ?_)
      refine wpAnyH_take (i := 0) (v := ?v1) rfl (by kernel_rfl) (by kernel_rfl) (by kernel_rfl) (fun _ _ _ h => h) (Or.inl ⟨by rfl, ?y1⟩) hHeld ?r1
      case y1 => (intro w hSw; have hc := hSw.1; have c0 := hc.cell (i := 0) rfl; have c1 := hc.cell (i := 1) rfl; have c2 := hc.cell (i := 2) rfl; have c3 := hc.cell (i := 3) rfl; have c4 := hc.cell (i := 4) rfl; have he := hSw.2.1; have e0 := he.cell (i := 0) rfl; have e1 := he.cell (i := 1) rfl; have e2 := he.cell (i := 2) rfl; have e3 := he.cell (i := 3) rfl; have e4 := he.cell (i := 4) rfl; clear hc he hSw; go_simp; try with_reducible rfl)
      simp only [List.getElem_toArray, List.getElem_cons_zero, Act.put, List.setIfInBounds_toArray, List.set_cons_zero, List.set_cons_succ]
      refine wpAnyH_take (i := 1) (v := ?v2) rfl (by kernel_rfl) (by kernel_rfl) (by kernel_rfl) (fun _ _ _ h => h) (Or.inl ⟨by rfl, ?y2⟩) hHeld ?r2
      case y2 => (intro w hSw; have hc := hSw.1; have c0 := hc.cell (i := 0) rfl; have c1 := hc.cell (i := 1) rfl; have c2 := hc.cell (i := 2) rfl; have c3 := hc.cell (i := 3) rfl; have c4 := hc.cell (i := 4) rfl; have he := hSw.2.1; have e0 := he.cell (i := 0) rfl; have e1 := he.cell (i := 1) rfl; have e2 := he.cell (i := 2) rfl; have e3 := he.cell (i := 3) rfl; have e4 := he.cell (i := 4) rfl; clear hc he hSw; go_simp; try with_reducible rfl)
      simp only [List.getElem_toArray, List.getElem_cons_zero, List.getElem_cons_succ, Act.put, List.setIfInBounds_toArray, List.set_cons_zero, List.set_cons_succ]
      refine wpAnyH_take (i := 2) (v := ?v3) rfl (by kernel_rfl) (by kernel_rfl) (by kernel_rfl) (fun _ _ _ h => h) (Or.inl ⟨by rfl, ?y3⟩) hHeld ?r3
      case y3 => (intro w hSw; have hc := hSw.1; have c0 := hc.cell (i := 0) rfl; have c1 := hc.cell (i := 1) rfl; have c2 := hc.cell (i := 2) rfl; have c3 := hc.cell (i := 3) rfl; have c4 := hc.cell (i := 4) rfl; have he := hSw.2.1; have e0 := he.cell (i := 0) rfl; have e1 := he.cell (i := 1) rfl; have e2 := he.cell (i := 2) rfl; have e3 := he.cell (i := 3) rfl; have e4 := he.cell (i := 4) rfl; clear hc he hSw; go_simp; try with_reducible rfl)
      simp only [List.getElem_toArray, List.getElem_cons_zero, List.getElem_cons_succ, Act.put, List.setIfInBounds_toArray, List.set_cons_zero, List.set_cons_succ]
      refine wpAnyH_take (i := 3) (v := ?v4) rfl (by kernel_rfl) (by kernel_rfl) (by kernel_rfl) (fun _ _ _ h => h) (Or.inl ⟨by rfl, ?y4⟩) hHeld ?r4
      case y4 => (intro w hSw; have hc := hSw.1; have c0 := hc.cell (i := 0) rfl; have c1 := hc.cell (i := 1) rfl; have c2 := hc.cell (i := 2) rfl; have c3 := hc.cell (i := 3) rfl; have c4 := hc.cell (i := 4) rfl; have he := hSw.2.1; have e0 := he.cell (i := 0) rfl; have e1 := he.cell (i := 1) rfl; have e2 := he.cell (i := 2) rfl; have e3 := he.cell (i := 3) rfl; have e4 := he.cell (i := 4) rfl; clear hc he hSw; go_simp; try with_reducible rfl)
      simp only [List.getElem_toArray, List.getElem_cons_zero, List.getElem_cons_succ, Act.put, List.setIfInBounds_toArray, List.set_cons_zero, List.set_cons_succ]
      refine wpAnyH_take (i := 4) (v := ?v5) rfl (by kernel_rfl) (by kernel_rfl) (by kernel_rfl) (fun _ _ _ h => h) (Or.inl ⟨by rfl, ?y5⟩) hHeld ?r5
      case y5 => (intro w hSw; have hc := hSw.1; have c0 := hc.cell (i := 0) rfl; have c1 := hc.cell (i := 1) rfl; have c2 := hc.cell (i := 2) rfl; have c3 := hc.cell (i := 3) rfl; have c4 := hc.cell (i := 4) rfl; have he := hSw.2.1; have e0 := he.cell (i := 0) rfl; have e1 := he.cell (i := 1) rfl; have e2 := he.cell (i := 2) rfl; have e3 := he.cell (i := 3) rfl; have e4 := he.cell (i := 4) rfl; clear hc he hSw; go_simp; try with_reducible rfl)
      simp only [List.getElem_toArray, List.getElem_cons_zero, List.getElem_cons_succ, Act.put, List.setIfInBounds_toArray, List.set_cons_zero, List.set_cons_succ]
      refine wpAnyH_take (i := 5) (v := ?v6) rfl (by kernel_rfl) (by kernel_rfl) (by kernel_rfl) (fun _ _ _ h => h) (Or.inl ⟨by rfl, ?y6⟩) hHeld ?r6
      case y6 => (intro w hSw; have hc := hSw.1; have c0 := hc.cell (i := 0) rfl; have c1 := hc.cell (i := 1) rfl; have c2 := hc.cell (i := 2) rfl; have c3 := hc.cell (i := 3) rfl; have c4 := hc.cell (i := 4) rfl; have he := hSw.2.1; have e0 := he.cell (i := 0) rfl; have e1 := he.cell (i := 1) rfl; have e2 := he.cell (i := 2) rfl; have e3 := he.cell (i := 3) rfl; have e4 := he.cell (i := 4) rfl; clear hc he hSw; go_simp; try with_reducible rfl)
      simp only [List.getElem_toArray, List.getElem_cons_zero, List.getElem_cons_succ, Act.put, List.setIfInBounds_toArray, List.set_cons_zero, List.set_cons_succ]
      refine wpAnyH_take (i := 7) (v := ?v7) rfl (by kernel_rfl) (by kernel_rfl) (by kernel_rfl) (fun _ _ _ h => h) (Or.inl ⟨by rfl, ?y7⟩) hHeld ?r7
      case y7 => (intro w hSw; have hc := hSw.1; have c0 := hc.cell (i := 0) rfl; have c1 := hc.cell (i := 1) rfl; have c2 := hc.cell (i := 2) rfl; have c3 := hc.cell (i := 3) rfl; have c4 := hc.cell (i := 4) rfl; have he := hSw.2.1; have e0 := he.cell (i := 0) rfl; have e1 := he.cell (i := 1) rfl; have e2 := he.cell (i := 2) rfl; have e3 := he.cell (i := 3) rfl; have e4 := he.cell (i := 4) rfl; clear hc he hSw; go_simp; try with_reducible rfl)
      simp only [List.getElem_toArray, List.getElem_cons_zero, List.getElem_cons_succ, Act.put, List.setIfInBounds_toArray, List.set_cons_zero, List.set_cons_succ]
      refine wpAnyH_take (i := 8) (v := ?v8) rfl (by kernel_rfl) (by kernel_rfl) (by kernel_rfl) (fun _ _ _ h => h) (Or.inl ⟨by rfl, ?y8⟩) hHeld ?r8
      case y8 => (intro w hSw; have hc := hSw.1; have c0 := hc.cell (i := 0) rfl; have c1 := hc.cell (i := 1) rfl; have c2 := hc.cell (i := 2) rfl; have c3 := hc.cell (i := 3) rfl; have c4 := hc.cell (i := 4) rfl; have he := hSw.2.1; have e0 := he.cell (i := 0) rfl; have e1 := he.cell (i := 1) rfl; have e2 := he.cell (i := 2) rfl; have e3 := he.cell (i := 3) rfl; have e4 := he.cell (i := 4) rfl; clear hc he hSw; go_simp; try with_reducible rfl)
      simp only [List.getElem_toArray, List.getElem_cons_zero, List.getElem_cons_succ, Act.put, List.setIfInBounds_toArray, List.set_cons_zero, List.set_cons_succ]
      refine wpAnyH_ready (rs := [6]) (by kernel_rfl) (by simp) (AllReadyH.cons rfl (fun K hK => ?_) AllReadyH.nil)
      go_simp
      rw [show IntKind.u64.wrap (g + IntKind.u64.wrap d) = g + d by rw [wrap_u64' d (by omega) (by omega), wrap_u64' (g + d) (by omega) (by omega)]]
      refine (at_any o q f x d (g + d) _ (by omega) (by omega)).mono ?_
      rintro e Y1 ⟨rfl, hb1⟩
      rw [at_again]
      have X1 := Lib.hid (Xd.out.next hb1)
      clear hb1
      go_wp2_with fail
      refine hK.out _ _ (X1.out) (fun hHeld => ?_)
      clear hK K
      refine wpAnyH_ready (rs := [9]) (by kernel_rfl) (by simp) (AllReadyH.cons rfl (fun K hK => ?_) AllReadyH.nil)
      go_simp
      refine (at_any o q f x d g _ hg hg2).mono ?_
      rintro e Y2 ⟨rfl, hb2⟩
      have X2 := Lib.hid (X1.out.next hb2)
      clear hb2
      go_wp2_with fail
      refine hK.out _ _ (X2.out) (fun hHeld => ?_)
      clear hK K
      refine wpAnyH_take (i := 10) (v := ?v11) rfl (by kernel_rfl) (by kernel_rfl) (by kernel_rfl) (fun _ _ _ h => h) (Or.inl ⟨by rfl, ?y11⟩) hHeld ?r11
      case y11 => (intro w hSw; have hc := hSw.1; have c0 := hc.cell (i := 0) rfl; have c1 := hc.cell (i := 1) rfl; have c2 := hc.cell (i := 2) rfl; have c3 := hc.cell (i := 3) rfl; have c4 := hc.cell (i := 4) rfl; have he := hSw.2.1; have e0 := he.cell (i := 0) rfl; have e1 := he.cell (i := 1) rfl; have e2 := he.cell (i := 2) rfl; have e3 := he.cell (i := 3) rfl; have e4 := he.cell (i := 4) rfl; clear hc he hSw; go_simp; try with_reducible rfl)
      simp only [List.getElem_toArray, List.getElem_cons_zero, List.getElem_cons_succ, Act.put, List.setIfInBounds_toArray, List.set_cons_zero, List.set_cons_succ]
      refine wpAnyH_take (i := 11) (v := ?v12) rfl (by kernel_rfl) (by kernel_rfl) (by kernel_rfl) (fun _ _ _ h => h) (Or.inl ⟨by rfl, ?y12⟩) hHeld ?r12
      case y12 => (intro w hSw; have hc := hSw.1; have c0 := hc.cell (i := 0) rfl; have c1 := hc.cell (i := 1) rfl; have c2 := hc.cell (i := 2) rfl; have c3 := hc.cell (i := 3) rfl; have c4 := hc.cell (i := 4) rfl; have he := hSw.2.1; have e0 := he.cell (i := 0) rfl; have e1 := he.cell (i := 1) rfl; have e2 := he.cell (i := 2) rfl; have e3 := he.cell (i := 3) rfl; have e4 := he.cell (i := 4) rfl; clear hc he hSw; go_simp; try with_reducible rfl)
      simp only [List.getElem_toArray, List.getElem_cons_zero, List.getElem_cons_succ, Act.put, List.setIfInBounds_toArray, List.set_cons_zero, List.set_cons_succ]
      refine wpAnyH_take (i := 12) (v := ?v13) rfl (by kernel_rfl) (by kernel_rfl) (by kernel_rfl) (fun _ _ _ h => h) (Or.inl ⟨by rfl, ?y13⟩) hHeld ?r13
      case y13 => (intro w hSw; have hc := hSw.1; have c0 := hc.cell (i := 0) rfl; have c1 := hc.cell (i := 1) rfl; have c2 := hc.cell (i := 2) rfl; have c3 := hc.cell (i := 3) rfl; have c4 := hc.cell (i := 4) rfl; have he := hSw.2.1; have e0 := he.cell (i := 0) rfl; have e1 := he.cell (i := 1) rfl; have e2 := he.cell (i := 2) rfl; have e3 := he.cell (i := 3) rfl; have e4 := he.cell (i := 4) rfl; clear hc he hSw; go_simp; try with_reducible rfl)
      simp only [List.getElem_toArray, List.getElem_cons_zero, List.getElem_cons_succ, Act.put, List.setIfInBounds_toArray, List.set_cons_zero, List.set_cons_succ]
      refine wpAnyH_take (i := 13) (v := ?v14) rfl (by kernel_rfl) (by kernel_rfl) (by kernel_rfl) (fun _ _ _ h => h) (Or.inl ⟨by rfl, ?y14⟩) hHeld ?r14
      case y14 => (intro w hSw; have hc := hSw.1; have c0 := hc.cell (i := 0) rfl; have c1 := hc.cell (i := 1) rfl; have c2 := hc.cell (i := 2) rfl; have c3 := hc.cell (i := 3) rfl; have c4 := hc.cell (i := 4) rfl; have he := hSw.2.1; have e0 := he.cell (i := 0) rfl; have e1 := he.cell (i := 1) rfl; have e2 := he.cell (i := 2) rfl; have e3 := he.cell (i := 3) rfl; have e4 := he.cell (i := 4) rfl; clear hc he hSw; go_simp; try with_reducible rfl)
      simp only [List.getElem_toArray, List.getElem_cons_zero, List.getElem_cons_succ, Act.put, List.setIfInBounds_toArray, List.set_cons_zero, List.set_cons_succ]
      refine wpAnyH_take (i := 15) (v := ?v15) rfl (by kernel_rfl) (by kernel_rfl) (by kernel_rfl) (fun _ _ _ h => h) (Or.inl ⟨by rfl, ?y15⟩) hHeld ?r15
      case y15 => (intro w hSw; have hc := hSw.1; have c0 := hc.cell (i := 0) rfl; have c1 := hc.cell (i := 1) rfl; have c2 := hc.cell (i := 2) rfl; have c3 := hc.cell (i := 3) rfl; have c4 := hc.cell (i := 4) rfl; have he := hSw.2.1; have e0 := he.cell (i := 0) rfl; have e1 := he.cell (i := 1) rfl; have e2 := he.cell (i := 2) rfl; have e3 := he.cell (i := 3) rfl; have e4 := he.cell (i := 4) rfl; clear hc he hSw; go_simp; try with_reducible rfl)
      simp only [List.getElem_toArray, List.getElem_cons_zero, List.getElem_cons_succ, Act.put, List.setIfInBounds_toArray, List.set_cons_zero, List.set_cons_succ]
      refine wpAnyH_ready (rs := [14]) (by kernel_rfl) (by simp) (AllReadyH.cons rfl (fun K hK => ?_) AllReadyH.nil)
      go_simp
      refine (ent_any 0 1 d 0 g none 0 0 _ hg).mono ?_
      rintro e Y3 ⟨rfl, hb3⟩
      rw [Hen.out]
      have X3 := Lib.hid (X2.out.next hb3)
      clear hb3
      go_wp2_with fail
      refine hK.out _ _ (X3.out) (fun hHeld => ?_)
      clear hK K
      refine wpAnyH_take (i := 16) (v := ?v17) rfl (by kernel_rfl) (by kernel_rfl) (by kernel_rfl) (fun _ _ _ h => h) (Or.inl ⟨by rfl, ?y17⟩) hHeld ?r17
      case y17 => (intro w hSw; have hc := hSw.1; have c0 := hc.cell (i := 0) rfl; have c1 := hc.cell (i := 1) rfl; have c2 := hc.cell (i := 2) rfl; have c3 := hc.cell (i := 3) rfl; have c4 := hc.cell (i := 4) rfl; have he := hSw.2.1; have e0 := he.cell (i := 0) rfl; have e1 := he.cell (i := 1) rfl; have e2 := he.cell (i := 2) rfl; have e3 := he.cell (i := 3) rfl; have e4 := he.cell (i := 4) rfl; clear hc he hSw; go_simp; try with_reducible rfl)
      simp only [List.getElem_toArray, List.getElem_cons_zero, List.getElem_cons_succ, Act.put, List.setIfInBounds_toArray, List.set_cons_zero, List.set_cons_succ]
      refine wpAnyH_take (i := 17) (v := ?v18) rfl (by kernel_rfl) (by kernel_rfl) (by kernel_rfl) (fun _ _ _ h => h) (Or.inl ⟨by rfl, ?y18⟩) hHeld ?r18
      case y18 => (intro w hSw; have hc := hSw.1; have c0 := hc.cell (i := 0) rfl; have c1 := hc.cell (i := 1) rfl; have c2 := hc.cell (i := 2) rfl; have c3 := hc.cell (i := 3) rfl; have c4 := hc.cell (i := 4) rfl; have he := hSw.2.1; have e0 := he.cell (i := 0) rfl; have e1 := he.cell (i := 1) rfl; have e2 := he.cell (i := 2) rfl; have e3 := he.cell (i := 3) rfl; have e4 := he.cell (i := 4) rfl; clear hc he hSw; go_simp; try with_reducible rfl)
      simp only [List.getElem_toArray, List.getElem_cons_zero, List.getElem_cons_succ, Act.put, List.setIfInBounds_toArray, List.set_cons_zero, List.set_cons_succ]
      refine wpAnyH_take (i := 18) (v := ?v19) rfl (by kernel_rfl) (by kernel_rfl) (by kernel_rfl) (fun _ _ _ h => h) (Or.inl ⟨by rfl, ?y19⟩) hHeld ?r19
      case y19 => (intro w hSw; have hc := hSw.1; have c0 := hc.cell (i := 0) rfl; have c1 := hc.cell (i := 1) rfl; have c2 := hc.cell (i := 2) rfl; have c3 := hc.cell (i := 3) rfl; have c4 := hc.cell (i := 4) rfl; have he := hSw.2.1; have e0 := he.cell (i := 0) rfl; have e1 := he.cell (i := 1) rfl; have e2 := he.cell (i := 2) rfl; have e3 := he.cell (i := 3) rfl; have e4 := he.cell (i := 4) rfl; clear hc he hSw; go_simp; try with_reducible rfl)
      simp only [List.getElem_toArray, List.getElem_cons_zero, List.getElem_cons_succ, Act.put, List.setIfInBounds_toArray, List.set_cons_zero, List.set_cons_succ]
      refine wpAnyH_take (i := 19) (v := ?v20) rfl (by kernel_rfl) (by kernel_rfl) (by kernel_rfl) (fun _ _ _ h => h) (Or.inl ⟨by rfl, ?y20⟩) hHeld ?r20
      case y20 => (intro w hSw; have hc := hSw.1; have c0 := hc.cell (i := 0) rfl; have c1 := hc.cell (i := 1) rfl; have c2 := hc.cell (i := 2) rfl; have c3 := hc.cell (i := 3) rfl; have c4 := hc.cell (i := 4) rfl; have he := hSw.2.1; have e0 := he.cell (i := 0) rfl; have e1 := he.cell (i := 1) rfl; have e2 := he.cell (i := 2) rfl; have e3 := he.cell (i := 3) rfl; have e4 := he.cell (i := 4) rfl; clear hc he hSw; go_simp; try with_reducible rfl)
      simp only [List.getElem_toArray, List.getElem_cons_zero, List.getElem_cons_succ, Act.put, List.setIfInBounds_toArray, List.set_cons_zero, List.set_cons_succ]
      refine wpAnyH_take (i := 20) (v := ?v21) rfl (by kernel_rfl) (by kernel_rfl) (by kernel_rfl) (fun _ _ _ h => h) (Or.inl ⟨by rfl, ?y21⟩) hHeld ?r21
      case y21 => (intro w hSw; have hc := hSw.1; have c0 := hc.cell (i := 0) rfl; have c1 := hc.cell (i := 1) rfl; have c2 := hc.cell (i := 2) rfl; have c3 := hc.cell (i := 3) rfl; have c4 := hc.cell (i := 4) rfl; have he := hSw.2.1; have e0 := he.cell (i := 0) rfl; have e1 := he.cell (i := 1) rfl; have e2 := he.cell (i := 2) rfl; have e3 := he.cell (i := 3) rfl; have e4 := he.cell (i := 4) rfl; clear hc he hSw; go_simp; try with_reducible rfl)
      simp only [List.getElem_toArray, List.getElem_cons_zero, List.getElem_cons_succ, Act.put, List.setIfInBounds_toArray, List.set_cons_zero, List.set_cons_succ]
      refine wpAnyH_take (i := 21) (v := ?v22) rfl (by kernel_rfl) (by kernel_rfl) (by kernel_rfl) (fun _ _ _ h => h) (Or.inl ⟨by rfl, ?y22⟩) hHeld ?r22
      case y22 => (intro w hSw; have hc := hSw.1; have c0 := hc.cell (i := 0) rfl; have c1 := hc.cell (i := 1) rfl; have c2 := hc.cell (i := 2) rfl; have c3 := hc.cell (i := 3) rfl; have c4 := hc.cell (i := 4) rfl; have he := hSw.2.1; have e0 := he.cell (i := 0) rfl; have e1 := he.cell (i := 1) rfl; have e2 := he.cell (i := 2) rfl; have e3 := he.cell (i := 3) rfl; have e4 := he.cell (i := 4) rfl; clear hc he hSw; go_simp; try with_reducible rfl)
      simp only [List.getElem_toArray, List.getElem_cons_zero, List.getElem_cons_succ, Act.put, List.setIfInBounds_toArray, List.set_cons_zero, List.set_cons_succ]
      refine wpAnyH_take (i := 22) (v := ?v23) rfl (by kernel_rfl) (by kernel_rfl) (by kernel_rfl) (fun _ _ _ h => h) (Or.inl ⟨by rfl, ?y23⟩) hHeld ?r23
      case y23 => (intro w hSw; have hc := hSw.1; have c0 := hc.cell (i := 0) rfl; have c1 := hc.cell (i := 1) rfl; have c2 := hc.cell (i := 2) rfl; have c3 := hc.cell (i := 3) rfl; have c4 := hc.cell (i := 4) rfl; have he := hSw.2.1; have e0 := he.cell (i := 0) rfl; have e1 := he.cell (i := 1) rfl; have e2 := he.cell (i := 2) rfl; have e3 := he.cell (i := 3) rfl; have e4 := he.cell (i := 4) rfl; clear hc he hSw; go_simp; try with_reducible rfl)
      simp only [List.getElem_toArray, List.getElem_cons_zero, List.getElem_cons_succ, Act.put, List.setIfInBounds_toArray, List.set_cons_zero, List.set_cons_succ]
      refine wpAnyH_take (i := 23) (v := ?v24) rfl (by kernel_rfl) (by kernel_rfl) (by kernel_rfl) (fun _ _ _ h => h) (Or.inl ⟨by rfl, ?y24⟩) hHeld ?r24
      case y24 => (intro w hSw; have hc := hSw.1; have c0 := hc.cell (i := 0) rfl; have c1 := hc.cell (i := 1) rfl; have c2 := hc.cell (i := 2) rfl; have c3 := hc.cell (i := 3) rfl; have c4 := hc.cell (i := 4) rfl; have he := hSw.2.1; have e0 := he.cell (i := 0) rfl; have e1 := he.cell (i := 1) rfl; have e2 := he.cell (i := 2) rfl; have e3 := he.cell (i := 3) rfl; have e4 := he.cell (i := 4) rfl; clear hc he hSw; go_simp; try with_reducible rfl)
      simp only [List.getElem_toArray, List.getElem_cons_zero, List.getElem_cons_succ, Act.put, List.setIfInBounds_toArray, List.set_cons_zero, List.set_cons_succ]
      refine wpAnyH_take (i := 24) (v := ?v25) rfl (by kernel_rfl) (by kernel_rfl) (by kernel_rfl) (fun _ _ _ h => h) (Or.inl ⟨by rfl, ?y25⟩) hHeld ?r25
      case y25 => (intro w hSw; have hc := hSw.1; have c0 := hc.cell (i := 0) rfl; have c1 := hc.cell (i := 1) rfl; have c2 := hc.cell (i := 2) rfl; have c3 := hc.cell (i := 3) rfl; have c4 := hc.cell (i := 4) rfl; have he := hSw.2.1; have e0 := he.cell (i := 0) rfl; have e1 := he.cell (i := 1) rfl; have e2 := he.cell (i := 2) rfl; have e3 := he.cell (i := 3) rfl; have e4 := he.cell (i := 4) rfl; clear hc he hSw; go_simp; try with_reducible rfl)
      simp only [List.getElem_toArray, List.getElem_cons_zero, List.getElem_cons_succ, Act.put, List.setIfInBounds_toArray, List.set_cons_zero, List.set_cons_succ]
      refine wpAnyH_take (i := 25) (v := ?v26) rfl (by kernel_rfl) (by kernel_rfl) (by kernel_rfl) (fun _ _ _ h => h) (Or.inl ⟨by rfl, ?y26⟩) hHeld ?r26
      case y26 => (intro w hSw; have hc := hSw.1; have c0 := hc.cell (i := 0) rfl; have c1 := hc.cell (i := 1) rfl; have c2 := hc.cell (i := 2) rfl; have c3 := hc.cell (i := 3) rfl; have c4 := hc.cell (i := 4) rfl; have he := hSw.2.1; have e0 := he.cell (i := 0) rfl; have e1 := he.cell (i := 1) rfl; have e2 := he.cell (i := 2) rfl; have e3 := he.cell (i := 3) rfl; have e4 := he.cell (i := 4) rfl; clear hc he hSw; go_simp; try with_reducible rfl)
      simp only [List.getElem_toArray, List.getElem_cons_zero, List.getElem_cons_succ, Act.put, List.setIfInBounds_toArray, List.set_cons_zero, List.set_cons_succ]
      refine wpAnyH_take (i := 26) (v := ?v27) rfl (by kernel_rfl) (by kernel_rfl) (by kernel_rfl) (fun _ _ _ h => h) (Or.inl ⟨by rfl, ?y27⟩) hHeld ?r27
      case y27 => (intro w hSw; have hc := hSw.1; have c0 := hc.cell (i := 0) rfl; have c1 := hc.cell (i := 1) rfl; have c2 := hc.cell (i := 2) rfl; have c3 := hc.cell (i := 3) rfl; have c4 := hc.cell (i := 4) rfl; have he := hSw.2.1; have e0 := he.cell (i := 0) rfl; have e1 := he.cell (i := 1) rfl; have e2 := he.cell (i := 2) rfl; have e3 := he.cell (i := 3) rfl; have e4 := he.cell (i := 4) rfl; clear hc he hSw; go_simp; try with_reducible rfl)
      simp only [List.getElem_toArray, List.getElem_cons_zero, List.getElem_cons_succ, Act.put, List.setIfInBounds_toArray, List.set_cons_zero, List.set_cons_succ]
      refine wpAnyH_take (i := 27) (v := ?v28) rfl (by kernel_rfl) (by kernel_rfl) (by kernel_rfl) (fun _ _ _ h => h) (Or.inl ⟨by rfl, ?y28⟩) hHeld ?r28
      case y28 => (intro w hSw; have hc := hSw.1; have c0 := hc.cell (i := 0) rfl; have c1 := hc.cell (i := 1) rfl; have c2 := hc.cell (i := 2) rfl; have c3 := hc.cell (i := 3) rfl; have c4 := hc.cell (i := 4) rfl; have he := hSw.2.1; have e0 := he.cell (i := 0) rfl; have e1 := he.cell (i := 1) rfl; have e2 := he.cell (i := 2) rfl; have e3 := he.cell (i := 3) rfl; have e4 := he.cell (i := 4) rfl; clear hc he hSw; go_simp; try with_reducible rfl)
      simp only [List.getElem_toArray, List.getElem_cons_zero, List.getElem_cons_succ, Act.put, List.setIfInBounds_toArray, List.set_cons_zero, List.set_cons_succ]
      refine wpAnyH_take (i := 28) (v := ?v29) rfl (by kernel_rfl) (by kernel_rfl) (by kernel_rfl) (fun _ _ _ h => h) (Or.inl ⟨by rfl, ?y29⟩) hHeld ?r29
      case y29 => (intro w hSw; have hc := hSw.1; have c0 := hc.cell (i := 0) rfl; have c1 := hc.cell (i := 1) rfl; have c2 := hc.cell (i := 2) rfl; have c3 := hc.cell (i := 3) rfl; have c4 := hc.cell (i := 4) rfl; have he := hSw.2.1; have e0 := he.cell (i := 0) rfl; have e1 := he.cell (i := 1) rfl; have e2 := he.cell (i := 2) rfl; have e3 := he.cell (i := 3) rfl; have e4 := he.cell (i := 4) rfl; clear hc he hSw; go_simp; try with_reducible rfl)
      simp only [List.getElem_toArray, List.getElem_cons_zero, List.getElem_cons_succ, Act.put, List.setIfInBounds_toArray, List.set_cons_zero, List.set_cons_succ]
      refine wpAnyH_ready (rs := [29]) (by kernel_rfl) (by simp) (AllReadyH.cons rfl (fun K hK => ?_) AllReadyH.nil)
      go_simp
      refine (awake_any _).mono ?_
      rintro e Y4 ⟨rfl, hb4⟩
      have X4 := Lib.hid (X3.out.next hb4)
      clear hb4
      go_wp2_with fail
      refine hK.out _ _ (X4.out) (fun hHeld => ?_)
      clear hK K
      refine wpAnyH_take (i := 30) (v := ?v31) rfl (by kernel_rfl) (by kernel_rfl) (by kernel_rfl) (fun _ _ _ h => h) (Or.inl ⟨by rfl, ?y31⟩) hHeld ?r31
      case y31 => (intro w hSw; have hc := hSw.1; have c0 := hc.cell (i := 0) rfl; have c1 := hc.cell (i := 1) rfl; have c2 := hc.cell (i := 2) rfl; have c3 := hc.cell (i := 3) rfl; have c4 := hc.cell (i := 4) rfl; have he := hSw.2.1; have e0 := he.cell (i := 0) rfl; have e1 := he.cell (i := 1) rfl; have e2 := he.cell (i := 2) rfl; have e3 := he.cell (i := 3) rfl; have e4 := he.cell (i := 4) rfl; clear hc he hSw; go_simp; try with_reducible rfl)
      simp only [List.getElem_toArray, List.getElem_cons_zero, List.getElem_cons_succ, Act.put, List.setIfInBounds_toArray, List.set_cons_zero, List.set_cons_succ]
      refine wpAnyH_take (i := 31) (v := ?v32) rfl (by kernel_rfl) (by kernel_rfl) (by kernel_rfl) (fun _ _ _ h => h) (Or.inl ⟨by rfl, ?y32⟩) hHeld ?r32
      case y32 => (intro w hSw; have hc := hSw.1; have c0 := hc.cell (i := 0) rfl; have c1 := hc.cell (i := 1) rfl; have c2 := hc.cell (i := 2) rfl; have c3 := hc.cell (i := 3) rfl; have c4 := hc.cell (i := 4) rfl; have he := hSw.2.1; have e0 := he.cell (i := 0) rfl; have e1 := he.cell (i := 1) rfl; have e2 := he.cell (i := 2) rfl; have e3 := he.cell (i := 3) rfl; have e4 := he.cell (i := 4) rfl; clear hc he hSw; go_simp; try with_reducible rfl)
      simp only [List.getElem_toArray, List.getElem_cons_zero, List.getElem_cons_succ, Act.put, List.setIfInBounds_toArray, List.set_cons_zero, List.set_cons_succ]
      refine wpAnyH_done (by kernel_rfl) ?_ _
      go_wp2
      go_ret
      exact ⟨rfl, X4.out.2.2⟩

theorem rounds_law (o q f x d g : Int) (w : World) (hg : 0 ≤ g) (hg2 : g < 18446744073709551616) : Calls Try.prog 8 #[spv o q f x d, .int .u64 g] w (Ret (.bool true) w) := by
  by_cases h : okS f x d
  · exact rounds_ok o q f x d g w hg hg2 h
  · exact rounds_bad o q f x d g w hg hg2 h
end Go.Proofs.Ytdnjoflahiffhaa
