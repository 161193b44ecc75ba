/- Small calls: lies, mayBe, New, Most, next, Got, At, Steps of a reading. -/
import Derived.Test.YtajibhhmcjcchaaRdM
import Derived.Test.YtajibhhmcjcchaaNewO
import Derived.Test.YtajibhhmcjcchaaNew
import Derived.Lib.SlBuf
import Derived.Deep.RegionHeld3
namespace Go.Proofs.Ytajibhhmcjcchaa
open Go.RowKit

theorem lies_any (n : Int) (w : World) : Calls Try.prog 51 #[.int .i64 n] w (Pur (.bool (inB n 0 1048576)) w) := by
  go_enter Try.func51, Try.ntmps51
  go_wp2
  · go_ret
    exact ⟨by simp_all [inB], rfl⟩
  · go_ret
    exact ⟨by rw [inB_1 (by assumption)]; rfl, rfl⟩
theorem mb_no {S : Sp} {tr : Int} (h : ¬ (Rt S ∧ 1 ≤ tr ∧ tr ≤ 16)) : mb S tr = false := by
  cases q : mb S tr with
  | false => rfl
  | true => exact absurd ((mb_iff S tr).1 q) h
theorem inB_iff {n a b : Int} : inB n a b = true ↔ a ≤ n ∧ n ≤ b := by simp [inB]
set_option maxRecDepth 100000 in
set_option maxHeartbeats 1000000 in
theorem rmb_any (S : Sp) (tr : Int) (w : World) : Calls Try.prog 30 #[spV S, .int .i64 tr] w (Ret (.bool (mb S tr)) w) := by
  have hC := Blk.new w #[.int .i64 S.ow, .int .i64 S.sq, .int .i64 S.fs, .int .i64 S.wd, .int .i64 S.dp] 23
  have hb0 := (Below.refl w.heap.size w).alloc (Nat.le_refl _) (sb S)
  have HB := Lib.hid (And.intro hC hb0)
  have Hat := Lib.hid (fun w => at_any S.ow S.sq S.fs S.wd S.dp 0 w (by omega) (by omega))
  have Hl0 := Lib.hid (fun w => lies_any S.ow w)
  have Hl1 := Lib.hid (fun w => lies_any S.sq w)
  clear hC hb0
  by_cases k0 : okS S.fs S.wd S.dp
  · have hv : atv S.fs S.wd S.dp 0 = S.fs := by rw [atv_ok k0]; simp
    rw [hv] at Hat
    clear hv
    have K0 := Lib.hid k0
    have f0 : 0 ≤ S.fs := k0.2.2.2.2.1
    clear k0
    by_cases k1 : 2 ≤ S.dp
    · cases q2 : inB S.ow 0 1048576 with
      | false =>
        have hm : mb S tr = false := mb_no (fun c => by obtain ⟨⟨_, _, _, _, a, b, _⟩, _⟩ := c; have h := inB_iff.2 (And.intro a b); rw [q2] at h; cases h)
        rw [hm]
        rw [q2] at Hl0
        clear hm q2
        go_enter Try.func30, Try.ntmps30
        go_wp2_with fail
        refine (Hat.out _).mono ?_
        rintro e w1 ⟨rfl, hb1⟩
        have c4 := (HB.out.1.low hb1).cell (i := 4) rfl
        have c0 := (HB.out.1.low hb1).cell (i := 0) rfl
        have Hb := Lib.hid (HB.out.2.trans (hb1.mono HB.out.2.size))
        clear hb1
        go_wp2_with fail
        refine (Hl0.out _).mono ?_
        rintro e w' ⟨rfl, rfl⟩
        go_wp2
        go_ret
        exact ⟨rfl, Hb.out⟩
      | true =>
        cases q3 : inB S.sq 0 1048576 with
        | false =>
          have hm : mb S tr = false := mb_no (fun c => by obtain ⟨⟨_, _, _, _, _, _, a, b, _⟩, _⟩ := c; have h := inB_iff.2 (And.intro a b); rw [q3] at h; cases h)
          rw [hm]
          rw [q2] at Hl0
          rw [q3] at Hl1
          clear hm q2 q3
          go_enter Try.func30, Try.ntmps30
          go_wp2_with fail
          refine (Hat.out _).mono ?_
          rintro e w1 ⟨rfl, hb1⟩
          have c4 := (HB.out.1.low hb1).cell (i := 4) rfl
          have c0 := (HB.out.1.low hb1).cell (i := 0) rfl
          have c1 := (HB.out.1.low hb1).cell (i := 1) rfl
          have Hb := Lib.hid (HB.out.2.trans (hb1.mono HB.out.2.size))
          clear hb1
          go_wp2_with fail
          refine (Hl0.out _).mono ?_
          rintro e w' ⟨rfl, rfl⟩
          go_wp2_with fail
          refine (Hl1.out _).mono ?_
          rintro e w' ⟨rfl, rfl⟩
          go_wp2
          go_ret
          exact ⟨rfl, Hb.out⟩
        | true =>
          have h2 := inB_iff.1 q2
          have h3 := inB_iff.1 q3
          rw [q2] at Hl0
          rw [q3] at Hl1
          have hm : mb S tr = decide (1 ≤ tr ∧ tr ≤ 16) := by
            rw [Bool.eq_iff_iff, mb_iff, decide_eq_true_eq]
            obtain ⟨a1, a2, a3, a4, a5, a6⟩ := K0.out
            unfold Rt
            omega
          rw [hm]
          clear hm q2 q3 h2 h3
          by_cases k4 : 1 ≤ tr
          · by_cases k5 : tr ≤ 16
            · rw [decide_eq_true ⟨k4, k5⟩]
              go_enter Try.func30, Try.ntmps30
              go_wp2_with fail
              refine (Hat.out _).mono ?_
              rintro e w1 ⟨rfl, hb1⟩
              have c4 := (HB.out.1.low hb1).cell (i := 4) rfl
              have c0 := (HB.out.1.low hb1).cell (i := 0) rfl
              have c1 := (HB.out.1.low hb1).cell (i := 1) rfl
              have Hb := Lib.hid (HB.out.2.trans (hb1.mono HB.out.2.size))
              clear hb1
              go_wp2_with fail
              refine (Hl0.out _).mono ?_
              rintro e w' ⟨rfl, rfl⟩
              go_wp2_with fail
              refine (Hl1.out _).mono ?_
              rintro e w' ⟨rfl, rfl⟩
              go_wp2
              go_ret
              exact ⟨rfl, Hb.out⟩
            · rw [decide_eq_false (fun c => k5 c.2)]
              go_enter Try.func30, Try.ntmps30
              go_wp2_with fail
              refine (Hat.out _).mono ?_
              rintro e w1 ⟨rfl, hb1⟩
              have c4 := (HB.out.1.low hb1).cell (i := 4) rfl
              have c0 := (HB.out.1.low hb1).cell (i := 0) rfl
              have c1 := (HB.out.1.low hb1).cell (i := 1) rfl
              have Hb := Lib.hid (HB.out.2.trans (hb1.mono HB.out.2.size))
              clear hb1
              go_wp2_with fail
              refine (Hl0.out _).mono ?_
              rintro e w' ⟨rfl, rfl⟩
              go_wp2_with fail
              refine (Hl1.out _).mono ?_
              rintro e w' ⟨rfl, rfl⟩
              go_wp2
              go_ret
              exact ⟨by rw [show decide (tr ≤ 16) = false from decide_eq_false (by omega)]; rfl, Hb.out⟩
          · rw [decide_eq_false (fun c => k4 c.1)]
            go_enter Try.func30, Try.ntmps30
            go_wp2_with fail
            refine (Hat.out _).mono ?_
            rintro e w1 ⟨rfl, hb1⟩
            have c4 := (HB.out.1.low hb1).cell (i := 4) rfl
            have c0 := (HB.out.1.low hb1).cell (i := 0) rfl
            have c1 := (HB.out.1.low hb1).cell (i := 1) rfl
            have Hb := Lib.hid (HB.out.2.trans (hb1.mono HB.out.2.size))
            clear hb1
            go_wp2_with fail
            refine (Hl0.out _).mono ?_
            rintro e w' ⟨rfl, rfl⟩
            go_wp2_with fail
            refine (Hl1.out _).mono ?_
            rintro e w' ⟨rfl, rfl⟩
            go_wp2
            go_ret
            exact ⟨rfl, Hb.out⟩
    · have hm : mb S tr = false := mb_no (fun c => k1 c.1.2.2.1)
      rw [hm]
      clear hm
      go_enter Try.func30, Try.ntmps30
      go_wp2_with fail
      refine (Hat.out _).mono ?_
      rintro e w1 ⟨rfl, hb1⟩
      have c4 := (HB.out.1.low hb1).cell (i := 4) rfl
      have Hb := Lib.hid (HB.out.2.trans (hb1.mono HB.out.2.size))
      clear hb1
      go_wp2
      go_ret
      exact ⟨rfl, Hb.out⟩
  · have hv : atv S.fs S.wd S.dp 0 = -1 := atv_no k0
    have hm : mb S tr = false := mb_no (fun c => k0 (by obtain ⟨⟨a1, a2, a3, a4, _, _, _, _, a5, a6⟩, _⟩ := c; exact ⟨a1, a2, by omega, a4, a5, a6⟩))
    rw [hm]
    rw [hv] at Hat
    clear hv hm k0
    go_enter Try.func30, Try.ntmps30
    go_wp2_with fail
    refine (Hat.out _).mono ?_
    rintro e w1 ⟨rfl, hb1⟩
    have Hb := Lib.hid (HB.out.2.trans (hb1.mono HB.out.2.size))
    clear hb1
    go_wp2
    go_ret
    exact ⟨rfl, Hb.out⟩

/-- Most. -/
def rmst (S : Sp) (tr : Int) : Int := if mb S tr = true then tr * (S.wd + 2) else 0
set_option maxRecDepth 100000 in
theorem rmost_any (S : Sp) (tr : Int) (w : World) : Calls Try.prog 12 #[spV S, .int .i64 tr] w (Ret (.int .i64 (rmst S tr)) w) := by
  have hb0 := (Below.refl w.heap.size w).alloc (Nat.le_refl _) (sb S)
  have hC := Blk.new w #[.int .i64 S.ow, .int .i64 S.sq, .int .i64 S.fs, .int .i64 S.wd, .int .i64 S.dp] 23
  have Hm := Lib.hid (rmb_any S tr (w.alloc (sb S)))
  have HB := Lib.hid (And.intro hC hb0)
  clear hC hb0
  cases hq : mb S tr with
  | false =>
    have hv : rmst S tr = 0 := by unfold rmst; rw [hq]; rfl
    rw [hv]
    rw [hq] at Hm
    clear hv hq
    go_enter Try.func12, Try.ntmps12
    go_wp2_with fail
    refine Hm.out.mono ?_
    rintro e w1 ⟨rfl, hb1⟩
    have Hb := Lib.hid (HB.out.2.trans (hb1.mono HB.out.2.size))
    clear hb1
    go_wp2
    go_ret
    exact ⟨rfl, Hb.out⟩
  | true =>
    have hv : rmst S tr = tr * (S.wd + 2) := by unfold rmst; rw [hq]; rfl
    rw [hv]
    have hr := (mb_iff S tr).1 hq
    rw [hq] at Hm
    clear hv hq
    obtain ⟨⟨a1, a2, a3, a4, _⟩, b1, b2⟩ := hr
    obtain ⟨m1, m2⟩ := mul_bd (m := 16) (n := 66) (by omega : 0 ≤ tr) b2 (by omega : 0 ≤ S.wd + 2) (by omega)
    go_enter Try.func12, Try.ntmps12
    go_wp2_with fail
    refine Hm.out.mono ?_
    rintro e w1 ⟨rfl, hb1⟩
    have Hb := Lib.hid (HB.out.2.trans (hb1.mono HB.out.2.size))
    have c3 := (HB.out.1.low hb1).cell (i := 3) rfl
    clear hb1
    go_wp2
    go_ret
    exact ⟨rfl, Hb.out⟩

/-- One that has not begun. -/
def rst0 (tr : Int) : RSt := ⟨0, 0, tr, 0, 0, 0, []⟩
theorem rwf0 {S : Sp} {tr : Int} (h : mb S tr = true) : RWf S (rst0 tr) := by
  obtain ⟨h1, h2, h3⟩ := (mb_iff S tr).1 h
  have a := h1.1
  exact ⟨h1, u64_zero, fun v hv => (by cases hv), by show (0 : Int) ≤ S.wd; omega, fun c => absurd (show (0 : Int) = 1 from c) (by omega), by show (0 : Int) ≤ 0; omega, by show (0 : Int) ≤ 2; omega, by show 0 ≤ tr; omega, h3, fun _ => h2⟩
def RNewOp (S : Sp) (tr : Int) (w : World) (e : Ending) (w' : World) : Prop :=
  ∃ o g : Nat, w.heap.size ≤ o ∧ w.heap.size ≤ g ∧ e = .returned (.tuple #[.pointer (some ⟨o, 0, none⟩), .int .i64 0]) ∧ RdAt w' o g S (rst0 tr) ∧ Below w.heap.size w w'
theorem make_u64 (l c : Int) (h0 : 0 ≤ l) (h1 : l ≤ c) (h2 : c ≤ 1048576) (w : World) :
    (Instr.makeSlice 42 (.int .i64 l) (.int .i64 c)).run Try.prog w = .ok (.slice (some ⟨w.heap.size, 0, none⟩) l.toNat c.toNat) (w.alloc (.cells (zeros c.toNat) 43)) := by
  obtain ⟨i, hi, he⟩ := Option.map_eq_some_iff.1 info49
  simp only [Prod.mk.injEq] at he
  obtain ⟨hz, hs, hb⟩ := he
  have hr := run_make (P := Try.prog) w 42 43 i _ Try.underlying42 hi hz .i64 .i64 l c h0 h1 (by rw [hb]; omega) (by omega)
  rw [hs] at hr
  simp only [Nat.mul_one] at hr
  rw [show (Value.int .u64 0).cells = #[Value.int .u64 0] from rfl, made_zeros] at hr
  exact hr
set_option maxRecDepth 100000 in
theorem rnew_bad (S : Sp) (tr : Int) (w : World) (h : mb S tr = false) : Calls Try.prog 9 #[spV S, .int .i64 tr] w (Ret (.tuple #[.pointer none, .int .i64 10]) w) := by
  have hb0 := (Below.refl w.heap.size w).alloc (Nat.le_refl _) (sb S)
  have hC := Blk.new w #[.int .i64 S.ow, .int .i64 S.sq, .int .i64 S.fs, .int .i64 S.wd, .int .i64 S.dp] 23
  have Hm := Lib.hid (rmb_any S tr (w.alloc (sb S)))
  have HB := Lib.hid (And.intro hC hb0)
  clear hC hb0
  rw [h] at Hm
  clear h
  go_enter Try.func9, Try.ntmps9
  go_wp2_with fail
  refine Hm.out.mono ?_
  rintro e w1 ⟨rfl, hb1⟩
  have Hb := Lib.hid (HB.out.2.trans (hb1.mono HB.out.2.size))
  clear hb1
  go_wp2
  go_ret2
  exact ⟨rfl, Hb.out⟩
set_option maxRecDepth 100000 in
set_option maxHeartbeats 1000000 in
theorem rnew_ok (S : Sp) (tr : Int) (w : World) (h : mb S tr = true) : Calls Try.prog 9 #[spV S, .int .i64 tr] w (RNewOp S tr w) := by
  have hb0 := (Below.refl w.heap.size w).alloc (Nat.le_refl _) (sb S)
  have hC := Blk.new w #[.int .i64 S.ow, .int .i64 S.sq, .int .i64 S.fs, .int .i64 S.wd, .int .i64 S.dp] 23
  have Hm := Lib.hid (rmb_any S tr (w.alloc (sb S)))
  have HB := Lib.hid (And.intro hC hb0)
  clear hC hb0
  rw [h] at Hm
  have hr := ((mb_iff S tr).1 h).1
  have h1 := hr.1
  have h2 := hr.2.1
  have hmk := make_u64 0 S.wd (Int.le_refl _) (by omega) (by omega)
  rw [show (0 : Int).toNat = 0 from rfl] at hmk
  have Hmk := Lib.hid hmk
  have Hwd := Lib.hid (And.intro h1 h2)
  clear h hr h1 h2 hmk
  go_enter Try.func9, Try.ntmps9
  go_wp2_with fail
  refine Hm.out.mono ?_
  rintro e w1 ⟨rfl, hb1⟩
  have c3 := (HB.out.1.low hb1).cell (i := 3) rfl
  have hbl := HB.out.2.trans (hb1.mono HB.out.2.size)
  have HK := Lib.hid (show B5' w.heap.size S w1.drew ∧ Below w.heap.size w w1.drew from ⟨(HB.out.1.low hb1).drew, belN hbl 1⟩)
  clear hb1 hbl HB
  go_wp2_with fail
  refine wp_region_held_drew (S := B5' w.heap.size S) (by kernel_rfl) (HK.out.1) (fun hHeld => ?_)
  refine wpAnyH_take (i := 0) (v := ?v1) rfl (by kernel_rfl) (by kernel_rfl) (by kernel_rfl) (fun _ _ _ h => h) (Or.inl ⟨by rfl, ?y1⟩) hHeld ?r1
  case y1 => (intro w hSw; have c0 := hSw.cell (i := 0) rfl; have c1 := hSw.cell (i := 1) rfl; have c2 := hSw.cell (i := 2) rfl; have c3 := hSw.cell (i := 3) rfl; have c4 := hSw.cell (i := 4) rfl; clear hSw; go_simp; try with_reducible rfl)
  simp only [List.getElem_toArray, List.getElem_cons_zero, Act.put, List.setIfInBounds_toArray, List.set_cons_zero, List.set_cons_succ]
  refine wpAnyH_take (i := 1) (v := ?v2) rfl (by kernel_rfl) (by kernel_rfl) (by kernel_rfl) (fun _ _ _ h => h) (Or.inl ⟨by rfl, ?y2⟩) hHeld ?r2
  case y2 => (intro w hSw; have c0 := hSw.cell (i := 0) rfl; have c1 := hSw.cell (i := 1) rfl; have c2 := hSw.cell (i := 2) rfl; have c3 := hSw.cell (i := 3) rfl; have c4 := hSw.cell (i := 4) rfl; clear hSw; go_simp; try with_reducible rfl)
  simp only [List.getElem_toArray, List.getElem_cons_zero, List.getElem_cons_succ, Act.put, List.setIfInBounds_toArray, List.set_cons_zero, List.set_cons_succ]
  refine wpAnyH_take (i := 2) (v := ?v3) rfl (by kernel_rfl) (by kernel_rfl) (by kernel_rfl) (fun _ _ _ h => h) (Or.inl ⟨by rfl, ?y3⟩) hHeld ?r3
  case y3 => (intro w hSw; have c0 := hSw.cell (i := 0) rfl; have c1 := hSw.cell (i := 1) rfl; have c2 := hSw.cell (i := 2) rfl; have c3 := hSw.cell (i := 3) rfl; have c4 := hSw.cell (i := 4) rfl; clear hSw; go_simp; try with_reducible rfl)
  simp only [List.getElem_toArray, List.getElem_cons_zero, List.getElem_cons_succ, Act.put, List.setIfInBounds_toArray, List.set_cons_zero, List.set_cons_succ]
  refine wpAnyH_take (i := 3) (v := ?v4) rfl (by kernel_rfl) (by kernel_rfl) (by kernel_rfl) (fun _ _ _ h => h) (Or.inl ⟨by rfl, ?y4⟩) hHeld ?r4
  case y4 => (intro w hSw; have c0 := hSw.cell (i := 0) rfl; have c1 := hSw.cell (i := 1) rfl; have c2 := hSw.cell (i := 2) rfl; have c3 := hSw.cell (i := 3) rfl; have c4 := hSw.cell (i := 4) rfl; clear hSw; go_simp; try with_reducible rfl)
  simp only [List.getElem_toArray, List.getElem_cons_zero, List.getElem_cons_succ, Act.put, List.setIfInBounds_toArray, List.set_cons_zero, List.set_cons_succ]
  refine wpAnyH_ready (rs := [4]) (by kernel_rfl) (by simp) (AllReadyH.cons rfl (fun K hK => ?_) AllReadyH.nil)
  go_simp
  rw [Hmk.out]
  go_simp
  refine hK.out _ _ (Blk.alloc hHeld _) (fun hHeld => ?_)
  clear hK K
  refine wpAnyH_take (i := 5) (v := ?v6) rfl (by kernel_rfl) (by kernel_rfl) (by kernel_rfl) (fun _ _ _ h => h) (Or.inl ⟨by rfl, ?y6⟩) hHeld ?r6
  case y6 => (intro w hSw; have c0 := hSw.cell (i := 0) rfl; have c1 := hSw.cell (i := 1) rfl; have c2 := hSw.cell (i := 2) rfl; have c3 := hSw.cell (i := 3) rfl; have c4 := hSw.cell (i := 4) rfl; clear hSw; go_simp; try with_reducible rfl)
  simp only [List.getElem_toArray, List.getElem_cons_zero, List.getElem_cons_succ, Act.put, List.setIfInBounds_toArray, List.set_cons_zero, List.set_cons_succ]
  refine wpAnyH_ready (rs := [6]) (by kernel_rfl) (by simp) (AllReadyH.cons rfl (fun K hK => ?_) AllReadyH.nil)
  go_simp
  skip
  refine hK.out _ _ (Blk.alloc hHeld _) (fun hHeld => ?_)
  clear hK K
  refine wpAnyH_take (i := 7) (v := ?v8) rfl (by kernel_rfl) (by kernel_rfl) (by kernel_rfl) (fun _ _ _ h => h) (Or.inl ⟨by rfl, ?y8⟩) hHeld ?r8
  case y8 => (intro w hSw; have c0 := hSw.cell (i := 0) rfl; have c1 := hSw.cell (i := 1) rfl; have c2 := hSw.cell (i := 2) rfl; have c3 := hSw.cell (i := 3) rfl; have c4 := hSw.cell (i := 4) rfl; clear hSw; go_simp; try with_reducible rfl)
  simp only [List.getElem_toArray, List.getElem_cons_zero, List.getElem_cons_succ, Act.put, List.setIfInBounds_toArray, List.set_cons_zero, List.set_cons_succ]
  refine wpAnyH_take (i := 8) (v := ?v9) rfl (by kernel_rfl) (by kernel_rfl) (by kernel_rfl) (fun _ _ _ h => h) (Or.inl ⟨by rfl, ?y9⟩) hHeld ?r9
  case y9 => (intro w hSw; have c0 := hSw.cell (i := 0) rfl; have c1 := hSw.cell (i := 1) rfl; have c2 := hSw.cell (i := 2) rfl; have c3 := hSw.cell (i := 3) rfl; have c4 := hSw.cell (i := 4) rfl; clear hSw; go_simp; try with_reducible rfl)
  simp only [List.getElem_toArray, List.getElem_cons_zero, List.getElem_cons_succ, Act.put, List.setIfInBounds_toArray, List.set_cons_zero, List.set_cons_succ]
  refine wpAnyH_done (by kernel_rfl) ?_ _
  go_wp2
  go_ret2
  obtain ⟨_, hbb⟩ := HK.out
  have hsz : w.heap.size ≤ w1.heap.size := hbb.size
  obtain ⟨k1, k2⟩ := Hwd.out
  refine ⟨w1.heap.size + 1, w1.heap.size, by omega, hsz, ?_, ⟨?_, ⟨_, (Blk.new w1.drew (zeros S.wd.toNat) 43).alloc _, by simp [zeros], fun i v c => by cases c⟩, by omega⟩, (hbb.alloc hsz _).alloc (by simp; omega) _⟩
  · simp
  · have := Blk.new (w1.drew.alloc (.cells (zeros S.wd.toNat) 43)) (rdc S w1.heap.size (rst0 tr)).toArray 83
    simp only [World.size_alloc] at this
    exact this
end Go.Proofs.Ytajibhhmcjcchaa
