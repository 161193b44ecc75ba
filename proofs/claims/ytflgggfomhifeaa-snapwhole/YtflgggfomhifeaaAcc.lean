/- At, Entry, and the document's: their contracts. -/
import Derived.Test.YtflgggfomhifeaaMem2
import Derived.Test.YtflgggfomhifeaaChecked
import Derived.BigQuiet
import Derived.Deep.RegionHeld3
namespace Go.Proofs.Ytflgggfomhifeaa
open Go.RowKit

/-- A spot's value. -/
abbrev spc (o q f x d : Int) : List Value := [.int .i64 o, .int .i64 q, .int .i64 f, .int .i64 x, .int .i64 d]
abbrev spv (o q f x d : Int) : Value := .agg #[.int .i64 o, .int .i64 q, .int .i64 f, .int .i64 x, .int .i64 d]
/-- The number of a range that is nearest. -/
def near (n a b : Int) : Int := if b < a then b else if n < a then a else if b < n then b else n
theorem near_in {n a b : Int} (h1 : a ≤ n) (h2 : n ≤ b) : near n a b = n := by
  unfold near
  rw [if_neg (by omega), if_neg (by omega), if_neg (by omega)]
theorem near_ne {n a b : Int} (hab : a ≤ b) (h : n < a ∨ b < n) : near n a b ≠ n := by
  unfold near
  rw [if_neg (by omega)]
  split
  · omega
  · split <;> omega
theorem near_1 {n a b : Int} (h : b < if n < a then a else n) : near n a b = b := by
  unfold near
  split at h <;> (repeat' split) <;> omega
theorem near_2 {n a b : Int} (h : (if n < a then a else n) ≤ b) (h2 : n < a) : near n a b = a := by
  unfold near
  rw [if_pos h2] at h
  rw [if_neg (by omega), if_pos h2]
theorem near_3 {n a b : Int} (h : (if n < a then a else n) ≤ b) (h2 : a ≤ n) : near n a b = n := by
  rw [if_neg (by omega)] at h
  exact near_in h2 h

theorem near_any (n a b : Int) (w : World) : Calls Try.prog 70 #[.int .i64 n, .int .i64 a, .int .i64 b] w (fun e w' => e = .returned (.int .i64 (near n a b)) ∧ w = w') := by
  go_enter Try.func70, Try.ntmps70
  go_wp2
  all_goals
    go_ret
    exact ⟨by first | (rw [near_1 (by assumption)]; rfl) | (rw [near_2 (by assumption) (by assumption)]; rfl) | (rw [near_3 (by assumption) (by assumption)]; rfl), rfl⟩

/-- drawnIn. -/
theorem drawn_any (o q f x d : Int) (w : World) : Calls Try.prog 64 #[spv o q f x d] w (Ret (spv o q (near f 0 1048576) (near x 1 64) (near d 1 16)) w) := by
  go_enter Try.func64, Try.ntmps64
  go_wp2_with fail
  refine (near_any _ _ _ _).mono ?_
  rintro e w' ⟨rfl, rfl⟩
  go_wp2_with fail
  refine (near_any _ _ _ _).mono ?_
  rintro e w' ⟨rfl, rfl⟩
  go_wp2_with fail
  refine (near_any _ _ _ _).mono ?_
  rintro e w' ⟨rfl, rfl⟩
  go_wp2
  generalize near f 0 1048576 = f'
  generalize near x 1 64 = x'
  generalize near d 1 16 = d'
  have hX := Blk.new (w.alloc (.cells #[.int .i64 o, .int .i64 q, .int .i64 f', .int .i64 x', .int .i64 d'] 69)) #[.int .i64 o, .int .i64 q, .int .i64 f', .int .i64 x', .int .i64 d'] 69
  simp only [World.size_alloc] at hX
  have e0 := hX.cell (i := 0) rfl
  have e1 := hX.cell (i := 1) rfl
  have e2 := hX.cell (i := 2) rfl
  have e3 := hX.cell (i := 3) rfl
  have e4 := hX.cell (i := 4) rfl
  exact bodyPost_ret (v := spv o q f' x' d') (by simp [results, Try.results64, go_sem, e0, e1, e2, e3, e4]) rfl ⟨rfl, ((Below.refl w.heap.size w).alloc (Nat.le_refl _) _).alloc (by simp) _⟩

theorem eq23 (a b c d e a' b' c' d' e' : Int) (w : World) : (Op.equalIn 10000 69 (spv a b c d e) (spv a' b' c' d' e')).run Try.prog w = .ok (decide (a = a' ∧ b = b' ∧ c = c' ∧ d = d' ∧ e = e')) w := by
  have u3 := Try.underlying3
  have a3 := Try.isAgg3
  have z3 := Try.sizeOf3
  have hS : Try.prog.underlying 69 = some (.struct (Try.prog.fieldsOf 69)) := by kernel_rfl
  rw [show (10000 : Nat) = 9999 + 1 from rfl, run_equalIn_agg w 9999 69 _ _ hS (by kernel_rfl)]
  simp only [Program.fieldsOf, Try.underlying69]
  go_simp
  by_cases h0 : a = a' <;> by_cases h1 : b = b' <;> by_cases h2 : c = c' <;> by_cases h3 : d = d' <;> by_cases h4 : e = e' <;> simp [h0, h1, h2, h3, h4]
theorem eq45 (a b c d e a' b' c' d' e' : Int) (w : World) : (Op.equalIn 10000 96 (spv a b c d e) (spv a' b' c' d' e')).run Try.prog w = .ok (decide (a = a' ∧ b = b' ∧ c = c' ∧ d = d' ∧ e = e')) w := by
  have u3 := Try.underlying3
  have a3 := Try.isAgg3
  have z3 := Try.sizeOf3
  have hS : Try.prog.underlying 96 = some (.struct (Try.prog.fieldsOf 96)) := by kernel_rfl
  rw [show (10000 : Nat) = 9999 + 1 from rfl, run_equalIn_agg w 9999 96 _ _ hS (by kernel_rfl)]
  simp only [Program.fieldsOf, Try.underlying96]
  go_simp
  by_cases h0 : a = a' <;> by_cases h1 : b = b' <;> by_cases h2 : c = c' <;> by_cases h3 : d = d' <;> by_cases h4 : e = e' <;> simp [h0, h1, h2, h3, h4]

/-- A spot that may be. -/
def okS (f x d : Int) : Prop := 1 ≤ x ∧ x ≤ 64 ∧ 1 ≤ d ∧ d ≤ 16 ∧ 0 ≤ f ∧ f ≤ 1048576
instance (f x d : Int) : Decidable (okS f x d) := by unfold okS; infer_instance
/-- What At tells. -/
def atv (f x d g : Int) : Int := if okS f x d then f + g % d * x else -1
theorem atv_ok {f x d g : Int} (h : okS f x d) : atv f x d g = f + g % d * x := if_pos h
theorem atv_no {f x d g : Int} (h : ¬ okS f x d) : atv f x d g = -1 := if_neg h
/-- What Entry tells. -/
def okE (o n : Int) : Prop := 1 ≤ n ∧ n ≤ 64 ∧ 0 ≤ o ∧ o ≤ 1048576
instance (o n : Int) : Decidable (okE o n) := by unfold okE; infer_instance
def env (o n g : Int) : Int := if okE o n then o + g % n else -1
theorem env_ok {o n g : Int} (h : okE o n) : env o n g = o + g % n := if_pos h
theorem env_no {o n g : Int} (h : ¬ okE o n) : env o n g = -1 := if_neg h

theorem rem_fits {g d : Int} (hg : 0 ≤ g) (h1 : 1 ≤ d) (h2 : d ≤ 64) : 0 ≤ g % d ∧ g % d < d ∧ Int.tmod g d = g % d := by
  refine ⟨Int.emod_nonneg _ (by omega), Int.emod_lt_of_pos _ (by omega), ?_⟩
  exact Int.tmod_eq_emod_of_nonneg hg

theorem mul_bd {a b m n : Int} (h1 : 0 ≤ a) (h2 : a ≤ m) (h3 : 0 ≤ b) (h4 : b ≤ n) : 0 ≤ a * b ∧ a * b ≤ m * n :=
  ⟨Int.mul_nonneg h1 h3, Int.mul_le_mul h2 h4 h3 (by omega)⟩
theorem at_fits {f x d g : Int} (hg : 0 ≤ g) (h1 : 1 ≤ x) (h2 : x ≤ 64) (h3 : 1 ≤ d) (h4 : d ≤ 16) (h5 : 0 ≤ f) (h6 : f ≤ 1048576) : wrap64 (f + wrap64 (g % d * x)) = f + g % d * x := by
  obtain ⟨r1, r2, _⟩ := rem_fits (d := d) hg h3 (by omega)
  obtain ⟨m1, m2⟩ := mul_bd (m := 16) (n := 64) r1 (by omega) (by omega : 0 ≤ x) h2
  have e1 : wrap64 (g % d * x) = g % d * x := by unfold wrap64; omega
  rw [e1]
  unfold wrap64
  omega
theorem at_fits' {f x d g : Int} (hg : 0 ≤ g) (h1 : 1 ≤ x) (h2 : x ≤ 64) (h3 : 1 ≤ d) (h4 : d ≤ 16) (h5 : 0 ≤ f) (h6 : f ≤ 1048576) : wrap64 (f + wrap64 (x * (g % d))) = f + g % d * x := by
  rw [Int.mul_comm x]
  exact at_fits hg h1 h2 h3 h4 h5 h6

def B5 (s : Nat) (o q f x d : Int) (w0 w : World) : Prop := Blk w s (spc o q f x d) ∧ Below s w0 w

set_option maxRecDepth 100000 in
set_option maxHeartbeats 1000000 in
theorem at_ok (o q f x d g : Int) (w : World) (h : okS f x d) (hg : 0 ≤ g) (_hg2 : g < 18446744073709551616) : Calls Try.prog 50 #[spv o q f x d, .int .u64 g] w (Ret (.int .i64 (atv f x d g)) w) := by
  have hv : atv f x d g = f + g % d * x := by unfold atv; rw [if_pos h]
  rw [hv]
  clear hv
  obtain ⟨h1, h2, h3, h4, h5, h6⟩ := h
  have Hw := Lib.hid (at_fits hg h1 h2 h3 h4 h5 h6)
  have hdr := fun w => drawn_any o q f x d w
  rw [near_in h5 h6, near_in h1 h2, near_in h3 h4] at hdr
  have Hdr := Lib.hid hdr
  have heq : ∀ w, (Op.equalIn 10000 69 (spv o q f x d) (spv o q f x d)).run Try.prog w = .ok true w := fun w => by rw [eq23]; simp
  have hS0 : B5 w.heap.size o q f x d w (w.alloc (.cells #[.int .i64 o, .int .i64 q, .int .i64 f, .int .i64 x, .int .i64 d] 69)).drew := ⟨Blk.new w #[.int .i64 o, .int .i64 q, .int .i64 f, .int .i64 x, .int .i64 d] 69, belN ((Below.refl w.heap.size w).alloc (Nat.le_refl _) _) 1⟩
  have HS := Lib.hid hS0
  clear hdr hS0
  go_enter Try.func50, Try.ntmps50
  go_wp2_with fail
  refine wp_region_held_drew (S := B5 w.heap.size o q f x d w) (by kernel_rfl) (HS.out) (fun hHeld => ?_)
  refine wpAnyH_take (i := 0) (v := ?v1) rfl (by kernel_rfl) (by kernel_rfl) (by kernel_rfl) (fun _ _ _ h => h) (Or.inl ⟨by rfl, ?y1⟩) hHeld ?r1
  case y1 => (intro w hSw; have hc := hSw.1; have c0 := hc.cell (i := 0) rfl; have c1 := hc.cell (i := 1) rfl; have c2 := hc.cell (i := 2) rfl; have c3 := hc.cell (i := 3) rfl; have c4 := hc.cell (i := 4) rfl; clear hc hSw; go_simp; try with_reducible rfl)
  simp only [List.getElem_toArray, List.getElem_cons_zero, Act.put, List.setIfInBounds_toArray, List.set_cons_zero, List.set_cons_succ]
  refine wpAnyH_take (i := 1) (v := ?v2) rfl (by kernel_rfl) (by kernel_rfl) (by kernel_rfl) (fun _ _ _ h => h) (Or.inl ⟨by rfl, ?y2⟩) hHeld ?r2
  case y2 => (intro w hSw; have hc := hSw.1; have c0 := hc.cell (i := 0) rfl; have c1 := hc.cell (i := 1) rfl; have c2 := hc.cell (i := 2) rfl; have c3 := hc.cell (i := 3) rfl; have c4 := hc.cell (i := 4) rfl; clear hc hSw; go_simp; try with_reducible rfl)
  simp only [List.getElem_toArray, List.getElem_cons_zero, List.getElem_cons_succ, Act.put, List.setIfInBounds_toArray, List.set_cons_zero, List.set_cons_succ]
  refine wpAnyH_ready (rs := [2]) (by kernel_rfl) (by simp) (AllReadyH.cons rfl (fun K hK => ?_) AllReadyH.nil)
  go_simp
  refine (Hdr.out _).mono ?_
  rintro e w2 ⟨rfl, hb2⟩
  have H2 := Lib.hid (show B5 w.heap.size o q f x d w w2 from ⟨HS.out.1.low hb2, HS.out.2.trans (hb2.mono HS.out.2.size)⟩)
  clear hb2
  go_wp2_with fail
  refine hK.out _ _ (H2.out) (fun hHeld => ?_)
  clear hK K
  refine wpAnyH_take (i := 3) (v := ?v4) rfl (by kernel_rfl) (by kernel_rfl) (by kernel_rfl) (fun _ _ _ h => h) (Or.inl ⟨by rfl, ?y4⟩) hHeld ?r4
  case y4 => (intro w hSw; have hc := hSw.1; have c0 := hc.cell (i := 0) rfl; have c1 := hc.cell (i := 1) rfl; have c2 := hc.cell (i := 2) rfl; have c3 := hc.cell (i := 3) rfl; have c4 := hc.cell (i := 4) rfl; clear hc hSw; go_simp; try with_reducible rfl)
  simp only [List.getElem_toArray, List.getElem_cons_zero, List.getElem_cons_succ, Act.put, List.setIfInBounds_toArray, List.set_cons_zero, List.set_cons_succ]
  refine wpAnyH_done (by kernel_rfl) ?_ _
  have c0 := H2.out.1.cell (i := 0) rfl
  have c2 := H2.out.1.cell (i := 2) rfl
  have c3 := H2.out.1.cell (i := 3) rfl
  have c4 := H2.out.1.cell (i := 4) rfl
  have hbf := Lib.hid (belN H2.out.2)
  obtain ⟨r1, r2, r3⟩ := rem_fits (d := d) hg h3 (by omega)
  clear HS H2 Hdr heq
  go_wp2_with fail
  go_quiet (fail)
  go_wp2
  go_ret
  exact ⟨congrArg (fun z => Ending.returned (.int .i64 z)) Hw.out, hbf.out _⟩

set_option maxRecDepth 100000 in
set_option maxHeartbeats 1000000 in
theorem at_bad (o q f x d g : Int) (w : World) (h : ¬ okS f x d) : Calls Try.prog 50 #[spv o q f x d, .int .u64 g] w (Ret (.int .i64 (atv f x d g)) w) := by
  have hv : atv f x d g = -1 := by unfold atv; rw [if_neg h]
  rw [hv]
  clear hv
  have heq : ∀ w, (Op.equalIn 10000 69 (spv o q f x d) (spv o q (near f 0 1048576) (near x 1 64) (near d 1 16))).run Try.prog w = .ok false w := fun w => by
    rw [eq23]
    congr 1
    refine decide_eq_false (fun ⟨_, _, a, b, c⟩ => h ?_)
    refine Classical.byContradiction fun hn => ?_
    unfold okS at hn
    by_cases hf : f < 0 ∨ 1048576 < f
    · exact near_ne (by omega) hf a.symm
    · by_cases hx : x < 1 ∨ 64 < x
      · exact near_ne (by omega) hx b.symm
      · by_cases hd : d < 1 ∨ 16 < d
        · exact near_ne (by omega) hd c.symm
        · omega
  clear h
  have Hdr := Lib.hid (fun w => drawn_any o q f x d w)
  generalize near f 0 1048576 = f' at *
  generalize near x 1 64 = x' at *
  generalize near d 1 16 = d' at *
  have hS0 : B5 w.heap.size o q f x d w (w.alloc (.cells #[.int .i64 o, .int .i64 q, .int .i64 f, .int .i64 x, .int .i64 d] 69)).drew := ⟨Blk.new w #[.int .i64 o, .int .i64 q, .int .i64 f, .int .i64 x, .int .i64 d] 69, belN ((Below.refl w.heap.size w).alloc (Nat.le_refl _) _) 1⟩
  have HS := Lib.hid hS0
  clear hS0
  go_enter Try.func50, Try.ntmps50
  go_wp2_with fail
  refine wp_region_held_drew (S := B5 w.heap.size o q f x d w) (by kernel_rfl) (HS.out) (fun hHeld => ?_)
  refine wpAnyH_take (i := 0) (v := ?v5) rfl (by kernel_rfl) (by kernel_rfl) (by kernel_rfl) (fun _ _ _ h => h) (Or.inl ⟨by rfl, ?y5⟩) hHeld ?r5
  case y5 => (intro w hSw; have hc := hSw.1; have c0 := hc.cell (i := 0) rfl; have c1 := hc.cell (i := 1) rfl; have c2 := hc.cell (i := 2) rfl; have c3 := hc.cell (i := 3) rfl; have c4 := hc.cell (i := 4) rfl; clear hc hSw; go_simp; try with_reducible rfl)
  simp only [List.getElem_toArray, List.getElem_cons_zero, Act.put, List.setIfInBounds_toArray, List.set_cons_zero, List.set_cons_succ]
  refine wpAnyH_take (i := 1) (v := ?v6) rfl (by kernel_rfl) (by kernel_rfl) (by kernel_rfl) (fun _ _ _ h => h) (Or.inl ⟨by rfl, ?y6⟩) hHeld ?r6
  case y6 => (intro w hSw; have hc := hSw.1; have c0 := hc.cell (i := 0) rfl; have c1 := hc.cell (i := 1) rfl; have c2 := hc.cell (i := 2) rfl; have c3 := hc.cell (i := 3) rfl; have c4 := hc.cell (i := 4) rfl; clear hc hSw; go_simp; try with_reducible rfl)
  simp only [List.getElem_toArray, List.getElem_cons_zero, List.getElem_cons_succ, Act.put, List.setIfInBounds_toArray, List.set_cons_zero, List.set_cons_succ]
  refine wpAnyH_ready (rs := [2]) (by kernel_rfl) (by simp) (AllReadyH.cons rfl (fun K hK => ?_) AllReadyH.nil)
  go_simp
  refine (Hdr.out _).mono ?_
  rintro e w2 ⟨rfl, hb2⟩
  have H2 := Lib.hid (show B5 w.heap.size o q f x d w w2 from ⟨HS.out.1.low hb2, HS.out.2.trans (hb2.mono HS.out.2.size)⟩)
  clear hb2
  go_wp2_with fail
  refine hK.out _ _ (H2.out) (fun hHeld => ?_)
  clear hK K
  refine wpAnyH_take (i := 3) (v := ?v8) rfl (by kernel_rfl) (by kernel_rfl) (by kernel_rfl) (fun _ _ _ h => h) (Or.inl ⟨by rfl, ?y8⟩) hHeld ?r8
  case y8 => (intro w hSw; have hc := hSw.1; have c0 := hc.cell (i := 0) rfl; have c1 := hc.cell (i := 1) rfl; have c2 := hc.cell (i := 2) rfl; have c3 := hc.cell (i := 3) rfl; have c4 := hc.cell (i := 4) rfl; clear hc hSw; go_simp; try with_reducible rfl)
  simp only [List.getElem_toArray, List.getElem_cons_zero, List.getElem_cons_succ, Act.put, List.setIfInBounds_toArray, List.set_cons_zero, List.set_cons_succ]
  refine wpAnyH_done (by kernel_rfl) ?_ _
  have hbf := Lib.hid H2.out.2
  clear HS H2 Hdr heq
  go_wp2
  go_ret
  exact ⟨rfl, hbf.out⟩
theorem at_any (o q f x d g : Int) (w : World) (hg : 0 ≤ g) (hg2 : g < 18446744073709551616) : Calls Try.prog 50 #[spv o q f x d, .int .u64 g] w (Ret (.int .i64 (atv f x d g)) w) := by
  by_cases h : okS f x d
  · exact at_ok o q f x d g w h hg hg2
  · exact at_bad o q f x d g w h

set_option maxRecDepth 100000 in
set_option maxHeartbeats 1000000 in
theorem rat_any (o q f x d g : Int) (w : World) (hg : 0 ≤ g) (_hg2 : g < 18446744073709551616) : Calls Try.prog 39 #[spv o q f x d, .int .u64 g] w (Ret (.int .i64 (atv f x d g)) w) := by
  have hC := Blk.new w #[.int .i64 o, .int .i64 q, .int .i64 f, .int .i64 x, .int .i64 d] 96
  have c2 := hC.cell (i := 2) rfl
  have c3 := hC.cell (i := 3) rfl
  have c4 := hC.cell (i := 4) rfl
  have hB := Lib.hid ((Below.refl w.heap.size w).alloc (Nat.le_refl _) (.cells #[.int .i64 o, .int .i64 q, .int .i64 f, .int .i64 x, .int .i64 d] 96))
  clear hC
  by_cases k1 : x < 1
  · have m0 : decide (x < 1) = true := decide_eq_true k1
    have hv : atv f x d g = -1 := atv_no (by unfold okS; omega)
    rw [hv]
    clear hv
    go_enter Try.func39, Try.ntmps39
    go_wp2
    go_ret
    exact ⟨rfl, hB.out⟩
  have m0 : decide (x < 1) = false := decide_eq_false k1
  by_cases k2 : 64 < x
  · have m1 : decide (64 < x) = true := decide_eq_true k2
    have hv : atv f x d g = -1 := atv_no (by unfold okS; omega)
    rw [hv]
    clear hv
    go_enter Try.func39, Try.ntmps39
    go_wp2
    go_ret
    exact ⟨rfl, hB.out⟩
  have m1 : decide (64 < x) = false := decide_eq_false k2
  by_cases k3 : d < 1
  · have m2 : decide (d < 1) = true := decide_eq_true k3
    have hv : atv f x d g = -1 := atv_no (by unfold okS; omega)
    rw [hv]
    clear hv
    go_enter Try.func39, Try.ntmps39
    go_wp2
    go_ret
    exact ⟨rfl, hB.out⟩
  have m2 : decide (d < 1) = false := decide_eq_false k3
  by_cases k4 : 16 < d
  · have m3 : decide (16 < d) = true := decide_eq_true k4
    have hv : atv f x d g = -1 := atv_no (by unfold okS; omega)
    rw [hv]
    clear hv
    go_enter Try.func39, Try.ntmps39
    go_wp2
    go_ret
    exact ⟨rfl, hB.out⟩
  have m3 : decide (16 < d) = false := decide_eq_false k4
  by_cases k5 : f < 0
  · have m4 : decide (f < 0) = true := decide_eq_true k5
    have hv : atv f x d g = -1 := atv_no (by unfold okS; omega)
    rw [hv]
    clear hv
    go_enter Try.func39, Try.ntmps39
    go_wp2
    go_ret
    exact ⟨rfl, hB.out⟩
  have m4 : decide (f < 0) = false := decide_eq_false k5
  by_cases k6 : 1048576 < f
  · have m5 : decide (1048576 < f) = true := decide_eq_true k6
    have hv : atv f x d g = -1 := atv_no (by unfold okS; omega)
    rw [hv]
    clear hv
    go_enter Try.func39, Try.ntmps39
    go_wp2
    go_ret
    exact ⟨rfl, hB.out⟩
  have m5 : decide (1048576 < f) = false := decide_eq_false k6
  have hv : atv f x d g = f + g % d * x := atv_ok (by unfold okS; omega)
  rw [hv]
  clear hv
  have hw := at_fits' hg (by omega : 1 ≤ x) (by omega) (by omega : 1 ≤ d) (by omega) (by omega : 0 ≤ f) (by omega)
  have Hw := Lib.hid hw
  obtain ⟨r1, r2, r3⟩ := rem_fits (d := d) hg (by omega) (by omega)
  have h1 : 1 ≤ x := by omega
  have h3 : 1 ≤ d := by omega
  have h4 : d ≤ 16 := by omega
  clear hw k1 k2 k3 k4 k5 k6
  go_enter Try.func39, Try.ntmps39
  go_wp2_with fail
  go_quiet (fail)
  go_wp2
  go_ret
  exact ⟨congrArg (fun z => Ending.returned (.int .i64 z)) Hw.out, belN hB.out _⟩

end Go.Proofs.Ytflgggfomhifeaa
