/- Contracts of the document's answer for fields: bit by bit. -/
import Derived.Test.YtenbbnmhgpclkaaDoorField
import Derived.Deep.WholeRow
import Derived.Great.BuildSlice
namespace Go.Proofs.YtenbbnmhgpclkaaDoor
open Go.RowKit

/-- Sixty-four bools in a row. -/
def brow (f : Nat → Bool) : List Value := (List.range 64).map (fun i => .bool (f i))
theorem brow_len (f : Nat → Bool) : (brow f).length = 64 := by simp [brow]
theorem brow_size (f : Nat → Bool) : (brow f).toArray.size = 64 := by simp [brow]
theorem brow_at (f : Nat → Bool) {i : Nat} (h : i < 64) : (brow f)[i]? = some (.bool (f i)) := by simp [brow, h]
theorem brow_set (f : Nat → Bool) {i : Nat} (h : i < 64) (b : Bool) : (brow f).set i (.bool b) = brow (fun k => if k = i then b else f k) := by
  apply List.ext_getElem?
  intro k
  by_cases hk : k < 64
  · rw [List.getElem?_set, brow_at _ hk, brow_at _ hk]
    by_cases hki : i = k
    · subst hki; simp [brow_len, h]
    · have : ¬ k = i := fun e => hki e.symm
      simp [hki, this]
  · rw [List.getElem?_eq_none (by simp [brow_len]; omega), List.getElem?_eq_none (by simp [brow_len]; omega)]
theorem brow_ext {f g : Nat → Bool} (h : ∀ i, i < 64 → f i = g i) : brow f = brow g := by
  apply List.ext_getElem?
  intro k
  by_cases hk : k < 64
  · rw [brow_at _ hk, brow_at _ hk, h k hk]
  · rw [List.getElem?_eq_none (by simp [brow_len]; omega), List.getElem?_eq_none (by simp [brow_len]; omega)]

/-- The number of m bits. -/
def wordOf (f : Nat → Bool) : Nat → Nat
  | 0 => 0
  | m + 1 => (f 0).toNat + 2 * wordOf (fun i => f (i + 1)) m
theorem wordOf_lt : ∀ (m : Nat) (f : Nat → Bool), wordOf f m < 2 ^ m
  | 0, _ => by simp [wordOf]
  | m + 1, f => by
    have h := wordOf_lt m (fun i => f (i + 1))
    have hb : (f 0).toNat ≤ 1 := Bool.toNat_le (f 0)
    rw [Nat.pow_succ]
    unfold wordOf
    omega
theorem testBit_wordOf : ∀ (m : Nat) (f : Nat → Bool) (k : Nat), (wordOf f m).testBit k = (decide (k < m) && f k)
  | 0, _, _ => by simp [wordOf]
  | m + 1, f, 0 => by
    unfold wordOf
    rw [Nat.testBit_zero]
    cases f 0 <;> simp <;> omega
  | m + 1, f, k + 1 => by
    have h := testBit_wordOf m (fun i => f (i + 1)) k
    unfold wordOf
    rw [Nat.testBit_succ]
    have e : ((f 0).toNat + 2 * wordOf (fun i => f (i + 1)) m) / 2 = wordOf (fun i => f (i + 1)) m := by
      have hb : (f 0).toNat ≤ 1 := Bool.toNat_le (f 0)
      omega
    rw [e, h]
    simp
theorem wordOf_step (f : Nat → Bool) (j : Nat) (h : j < 64) : wordOf (fun i => f (i + j)) (64 - j) = (f j).toNat + 2 * wordOf (fun i => f (i + (j + 1))) (64 - (j + 1)) := by
  have e : 64 - j = (64 - (j + 1)) + 1 := by omega
  rw [e, wordOf]
  simp only [Nat.zero_add]
  congr 3
  funext i
  congr 1
  omega

/-- At the head of Word's loop. -/
def RelWd (w : World) (f : Nat → Bool) (u i : Value) (wr : World) : Prop :=
  ∃ j x : Nat, j ≤ 64 ∧ i = .int .i64 ((j : Int) - 1) ∧ u = .int .u64 x ∧ x = wordOf (fun i => f (i + j)) (64 - j) ∧ Blk wr w.heap.size (brow f) ∧ Below w.heap.size w wr

set_option maxHeartbeats 400000 in
theorem word_any (f : Nat → Bool) (w : World) : Calls Tryd.prog 43 #[.agg (brow f).toArray] w (Ret (.int .u64 (wordOf f 64)) w) := by
  have hB := Blk.new w (brow f).toArray 94
  have hb := (Below.refl w.heap.size w).alloc (Nat.le_refl _) (.cells (brow f).toArray 94)
  go_enter Tryd.func43, Tryd.ntmps43
  go_wp2
  generalize w.alloc (.cells (brow f).toArray 94) = w1 at *
  go_loopw [3, 4] (RelWd w f) (fun _ i _ => (intOf i + 1).toNat)
  case atStart => exact ⟨64, 0, by omega, rfl, rfl, rfl, hB, hb⟩
  case round =>
    clear hB hb
    obtain ⟨j, x, hj, rfl, rfl, hx, hB, hb⟩ := hrel
    have Hx := Lib.hid hx
    clear hx
    by_cases hj0 : j = 0
    · subst hj0
      go_wp2
      go_ret
      exact ⟨by rw [Hx.out]; rfl, hb⟩
    · obtain ⟨i, rfl⟩ : ∃ i, j = i + 1 := ⟨j - 1, by omega⟩
      have hxl : x < 2 ^ 63 := by
        rw [Hx.out]
        exact Nat.lt_of_lt_of_le (wordOf_lt _ _) (Nat.pow_le_pow_right (by decide) (by omega))
      have hs := wordOf_step f i (by omega)
      rw [← Hx.out] at hs
      have Hs := Lib.hid hs
      clear hs hj0
      have hw1 : IntKind.u64.wrap (2 * (x : Int)) = ((2 * x : Nat) : Int) := by rw [IntKind.wrap_u64]; omega
      have hw2 : IntKind.u64.wrap (((2 * x : Nat) : Int) + 1) = ((2 * x + 1 : Nat) : Int) := by rw [IntKind.wrap_u64]; omega
      have hc := hB.cell (brow_at f (i := i) (by omega))
      have hii : ((i + 1 : Nat) : Int) - 1 = i := by omega
      have hw3 : wrap64 ((i : Int) - 1) = (i : Int) - 1 := by unfold wrap64; omega
      generalize 2 * x = x2 at *
      cases hf : f i with
      | true =>
        rw [hf] at hc
        go_wp2
        go_roundw
        case rel => exact ⟨i, x2 + 1, by omega, rfl, rfl, by rw [Hs.out, hf]; simp; omega, hB, hb⟩
        case measure => simp [intOf]
      | false =>
        rw [hf] at hc
        go_wp2
        go_roundw
        case rel => exact ⟨i, x2, by omega, rfl, rfl, by rw [Hs.out, hf]; simp, hB, hb⟩
        case measure => simp [intOf]
theorem below_setRow {B : Nat} {a w : World} (h : Below B a w) {g : Nat} (hg : B ≤ g) (cs : Array Value) : Below B a (w.setRow g cs) :=
  h.trans ⟨rfl, rfl, rfl, by simp, fun k hk => setRow_other w g k cs (by omega)⟩

/-- At the head of Bits' loop. -/
def RelBits (w : World) (x : Nat) (u i : Value) (wr : World) : Prop :=
  ∃ (j y : Nat) (f : Nat → Bool), j ≤ 64 ∧ i = .int .i64 j ∧ u = .int .u64 y ∧ y = x / 2 ^ j ∧ (∀ k, k < j → f k = x.testBit k) ∧ (∀ k, j ≤ k → f k = false) ∧ Blk wr w.heap.size (brow (fun _ => false)) ∧ Blk wr (w.heap.size + 1) (brow f) ∧ Below w.heap.size w wr

theorem info94 : (Tryd.prog.info? 94).map (·.size) = some 64 := by kernel_rfl
theorem brow_info (f : Nat → Bool) : (Tryd.prog.info? 94).map (·.size) = some (brow f).toArray.size := by rw [brow_size]; exact info94
theorem brow_one (f : Nat → Bool) : (brow f).toArray.all (·.oneCell') = true := by simp [brow, Value.oneCell']
theorem brow_zero : Array.replicate 64 (Value.bool false) = (brow (fun _ => false)).toArray := by rfl

theorem odd_bit (x j : Nat) : decide ((x / 2 ^ j) % 2 = 1) = x.testBit j := by
  rw [Nat.testBit_eq_decide_div_mod_eq]

set_option maxHeartbeats 400000 in
theorem bits_any (x : Nat) (w : World) (hx : W64 x) : Calls Tryd.prog 42 #[.int .u64 x] w (Ret (.agg (brow x.testBit).toArray) w) := by
  have hB1 := (Blk.new w (brow fun _ => false).toArray 94).alloc (.cells (brow fun _ => false).toArray 94)
  have hB2 := Blk.new (w.alloc (.cells (brow fun _ => false).toArray 94)) (brow fun _ => false).toArray 94
  have hb := ((Below.refl w.heap.size w).alloc (Nat.le_refl _) (.cells (brow fun _ => false).toArray 94)).alloc (by simp) (.cells (brow fun _ => false).toArray 94)
  rw [World.size_alloc] at hB2
  have HH := Lib.hid (And.intro hB1 (And.intro hB2 hb))
  clear hB1 hB2 hb
  go_enter Tryd.func42, Tryd.ntmps42
  go_wp2
  change Code.wp _ _ _ _ ((w.alloc (.cells (brow fun _ => false).toArray 94)).alloc (.cells (brow fun _ => false).toArray 94))
  obtain ⟨hB1, hB2, hb⟩ := HH.out
  generalize (w.alloc (.cells (brow fun _ => false).toArray 94)).alloc (.cells (brow fun _ => false).toArray 94) = w1 at *
  go_loopw [0, 4] (RelBits w x) (fun _ i _ => 64 - (intOf i).toNat)
  case atStart => exact ⟨0, x, fun _ => false, by omega, rfl, rfl, by simp, fun k hk => by omega, fun _ _ => rfl, hB1, hB2, hb⟩
  case round =>
    clear hB1 hB2 hb HH
    obtain ⟨j, y, f, hj, rfl, rfl, hy, hf1, hf2, hB1, hB2, hb⟩ := hrel
    have Hf := Lib.hid (And.intro hf1 (And.intro hf2 hy))
    clear hf1 hf2 hy
    by_cases hlt : j < 64
    · have hc := hB2.cell (brow_at f hlt)
      have hf := hB2.frozen j
      have hy : W64 y := by rw [Hf.out.2.2]; exact div_w hx j
      have hm : ((y : Int) % 2 == 1) = x.testBit j := by
        rw [← odd_bit x j, ← Hf.out.2.2]
        apply Bool.eq_iff_iff.2
        simp
        omega
      have hq : IntKind.u64.wrap ((y : Int) / 2) = ((y / 2 : Nat) : Int) := by rw [IntKind.wrap_u64]; unfold W64 at hy; omega
      go_wp2
      go_roundw
      case rel =>
        have hB3 := hB2.put j (.bool (x.testBit j))
        rw [brow_set f hlt] at hB3
        refine ⟨j + 1, y / 2, _, by omega, by go_num, by simp, ?_, fun k hk => ?_, fun k hk => ?_, hB1.setFar (by simp) _, hB3, hb.setCell (by simp) _⟩
        · rw [Hf.out.2.2, Nat.pow_succ, Nat.div_div_eq_div_mul]
        · by_cases hkj : k = j
          · simp [hkj]
          · simp only [hkj, if_false]
            exact Hf.out.1 k (by omega)
        · have : ¬ k = j := by omega
          simp only [this, if_false]
          exact Hf.out.2.1 k (by omega)
      case measure => simp [intOf]; omega
    · obtain rfl : j = 64 := by omega
      have hB3 : Blk wr (w.heap.size + 1) (brow x.testBit) := by
        rw [brow_ext (f := x.testBit) (g := f) (fun k hk => (Hf.out.1 k hk).symm)]
        exact hB2
      obtain ⟨T1, g1⟩ := hB1
      obtain ⟨T2, g2⟩ := hB3
      clear hB2
      have hi := brow_info x.testBit
      have ho : (brow fun _ => false).toArray.size = (brow x.testBit).toArray.size := by rw [brow_size, brow_size]
      have h1 := brow_one x.testBit
      have HH := Lib.hid (And.intro hi (And.intro ho (And.intro h1 (And.intro g1 g2))))
      clear hi ho h1 g1 g2
      go_wp2_with (first | (refine wpList_load_row rfl 94 _ rfl (w.heap.size + 1) rfl T2 _ _ _ HH.out.2.2.2.2 Tryd.underlying94 rfl HH.out.1 ?_) | (refine wpList_store_row rfl 94 _ _ rfl w.heap.size _ rfl rfl T1 _ HH.out.2.2.2.1 HH.out.1 HH.out.2.1 HH.out.2.2.1 ?_))
      exact bodyPost_ret (results_cell_row (P := Tryd.prog) rfl _ _ w.heap.size T1 _ (0, 0) _ rfl (setRow_heap _ _ _ _ _ _ HH.out.2.2.2.1) Tryd.underlying94 rfl HH.out.1) rfl ⟨rfl, below_setRow hb (Nat.le_refl _) _⟩

/-- A row of bools laid into a new block. -/
theorem lay_row (w : World) (f : Nat → Bool) (c : Array Value) : (w.alloc (.cells c 94)).setRow w.heap.size (brow f).toArray = w.alloc (.cells (brow f).toArray 94) := World.setRow_alloc_new _ _ _ _

/-- The bits of w with those of x in a field, up to the k-th one. -/
def setf (a k w x : Nat) (i : Nat) : Bool := if a ≤ i ∧ i < a + k then x.testBit (i - a) else w.testBit i

/-- At the head of set's loop. -/
def RelSet (w : World) (bb yb : Nat) (a n x y : Nat) (i : Value) (wr : World) : Prop :=
  ∃ k : Nat, k ≤ n ∧ i = .int .i64 k ∧ FS w w.heap.size a n wr ∧ Blk wr bb (brow (setf a k x y)) ∧ Blk wr yb (brow y.testBit)

theorem FS.alloc {w w' : World} {b : Nat} {a n : Int} (h : FS w b a n w') (o : Obj) : FS w b a n (w'.alloc o) := h.next ((Below.refl _ _).alloc (Nat.le_refl _) o)
theorem FS.setCell {w w' : World} {b : Nat} {a n : Int} (h : FS w b a n w') {p : Addr} (h1 : b ≠ p.block) (h2 : w.heap.size ≤ p.block) (u : Value) : FS w b a n (w'.setCell p u) :=
  FS.of (h.blk.setFar h1 u) (h.bel.setCell h2 u)
theorem setf_zero (a x y : Nat) : setf a 0 x y = x.testBit := by
  funext i
  unfold setf
  rw [if_neg (by omega)]
theorem setf_step (a k x y : Nat) : (fun i => if i = a + k then y.testBit k else setf a k x y i) = setf a (k + 1) x y := by
  funext i
  unfold setf
  by_cases h : i = a + k
  · subst h
    rw [if_pos rfl, if_pos (by omega), Nat.add_sub_cancel_left]
  · rw [if_neg h]
    by_cases h' : a ≤ i ∧ i < a + k
    · rw [if_pos h', if_pos (by omega)]
    · rw [if_neg h', if_neg (by omega)]

set_option maxHeartbeats 1000000 in
theorem set_in (a n x y : Nat) (w : World) (h1 : 1 ≤ n) (h2 : a + n ≤ 64) (hx : W64 x) (hy : W64 y) : Calls Tryd.prog 45 #[fld a n, .int .u64 x, .int .u64 y] w (Ret (.int .u64 (wordOf (setf a n x y) 64)) w) := by
  have hi := Lib.hid brow_info
  have h11 := Lib.hid brow_one
  have hsz := Lib.hid brow_size
  go_enter Tryd.func45, Tryd.ntmps45
  go_wp2_with fail
  refine (bits_any x _ hx).mono ?_
  rintro e w1 ⟨rfl, hb⟩
  have hF := (FS.new w a n 72).next hb
  have hlt : w.heap.size < w1.heap.size := hF.blk.lt
  clear hb
  go_wp2_with (first | (refine wpList_store_row rfl 94 _ _ rfl w1.heap.size _ rfl rfl 94 _ (heap_alloc_new _ _) (hi.out _) (by rw [hsz.out]; rfl) (h11.out _) ?_; rw [lay_row]) | fail)
  have hF2 := hF.alloc (.cells (brow x.testBit).toArray 94)
  have hB2 := Blk.new w1 (brow x.testBit).toArray 94
  have hlt2 : w1.heap.size < (w1.alloc (.cells (brow x.testBit).toArray 94)).heap.size := by simp
  clear hF
  refine (bits_any y _ hy).mono ?_
  generalize hbb : w1.heap.size = bb at *
  generalize w1.alloc (.cells (brow x.testBit).toArray 94) = w2 at *
  rintro e w3 ⟨rfl, hb⟩
  have hF3 := hF2.next hb
  have hB3 := hB2.low hb
  have hlt3 : bb < w3.heap.size := Nat.lt_of_lt_of_le hlt2 hb.size
  clear hb hF2 hB2 hbb hlt2
  go_wp2_with (first | (refine wpList_store_row rfl 94 _ _ rfl w3.heap.size _ rfl rfl 94 _ (heap_alloc_new _ _) (hi.out _) (by rw [hsz.out]; rfl) (h11.out _) ?_; rw [lay_row]) | fail)
  have hF4 := hF3.alloc (.cells (brow y.testBit).toArray 94)
  have hB4 := hB3.alloc (.cells (brow y.testBit).toArray 94)
  have hC4 := Blk.new w3 (brow y.testBit).toArray 94
  generalize hyb : w3.heap.size = yb at *
  generalize w3.alloc (.cells (brow y.testBit).toArray 94) = w4 at *
  clear hF3 hB3 hyb
  go_loopw [9] (RelSet w bb yb a n x y) (fun i _ => n - (intOf i).toNat)
  case atStart => exact ⟨0, by omega, rfl, hF4, by rw [setf_zero]; exact hB4, hC4⟩
  case round =>
    clear hF4 hB4 hC4
    obtain ⟨k, hk, rfl, hF, hB, hC⟩ := hrel
    have ⟨_, _, c0, c1⟩ := hF
    by_cases hlt : (k : Int) < n
    · have hcb := hB.cell (brow_at (setf a k x y) (i := a + k) (by omega))
      have hfb := hB.frozen (a + k)
      have hcy := hC.cell (brow_at y.testBit (i := k) (by omega))
      have hw : wrap64 ((a : Int) + k) = ((a + k : Nat) : Int) := by unfold wrap64; omega
      go_wp2_with fail
      go_region
      have hF5 := (hF.setCell (p := ⟨bb, a + k, none⟩) (by simp; omega) (by simp; omega) (.bool (y.testBit k))).drew
      have hB5 := (hB.put (a + k) (.bool (y.testBit k))).drew
      have hC5 := (hC.setFar (p := ⟨bb, a + k, none⟩) (by simp; omega) (.bool (y.testBit k))).drew
      rw [brow_set _ (by omega), setf_step] at hB5
      go_wp2
      go_roundw
      case rel => exact ⟨k + 1, by omega, by go_num, hF5, hB5, hC5⟩
      case measure => simp [intOf]; omega
    · obtain rfl : k = n := by omega
      obtain ⟨T, g1⟩ := hB
      have HH := Lib.hid g1
      clear g1
      go_wp2_with (first | (refine wpList_load_row rfl 94 _ rfl bb rfl T _ _ _ HH.out Tryd.underlying94 rfl (hi.out _) ?_) | fail)
      refine (word_any _ _).mono ?_
      rintro e w5 ⟨rfl, hb⟩
      have hF5 := hF.next hb
      go_wp2
      go_ret
      exact ⟨rfl, hF5.bel⟩

set_option maxHeartbeats 400000 in
theorem rmay_in (a n : Int) (w : World) (h : May a n) : Calls Tryd.prog 41 #[fld a n] w (Ret (.bool true) w) := by
  obtain ⟨h1, h2, h3, h4⟩ := h
  have h5 : a ≤ 63 := by omega
  have h6 : n ≤ 64 := by omega
  have h7 : a ≤ 64 - n := by omega
  have hw : wrap64 (64 - n) = 64 - n := by unfold wrap64; omega
  go_enter Tryd.func41, Tryd.ntmps41
  go_wp2
  go_ret
  exact ⟨rfl, (Below.refl _ _).alloc (Nat.le_refl _) _⟩
set_option maxHeartbeats 400000 in
theorem rmay_out (a n : Int) (w : World) (h : ¬ May a n) : Calls Tryd.prog 41 #[fld a n] w (Ret (.bool false) w) := by
  have hw : 1 ≤ n → n ≤ 64 → wrap64 (64 - n) = 64 - n := by intro _ _; unfold wrap64; omega
  have H := Lib.hid h
  clear h
  have hb := (Below.refl w.heap.size w).alloc (Nat.le_refl _) (.cells #[.int .i64 a, .int .i64 n] 72)
  go_enter Tryd.func41, Tryd.ntmps41
  go_wp2
  all_goals go_ret
  all_goals try exact ⟨rfl, hb⟩
  all_goals
    refine ⟨?_, hb⟩
    have : ¬ a ≤ 64 - n := fun h => H.out ⟨by assumption, by omega, by assumption, by omega⟩
    show Ending.returned (.bool (decide (a ≤ 64 - n))) = _
    rw [decide_eq_false this]

/-- At the head of Max's loop. -/
def RelMax (w : World) (xb : Nat) (a n : Nat) (i : Value) (wr : World) : Prop :=
  ∃ k : Nat, k ≤ n ∧ i = .int .i64 k ∧ FS w w.heap.size a n wr ∧ Blk wr xb (brow (fun i => decide (i < k)))

set_option maxHeartbeats 400000 in
theorem rmax_out (a n : Int) (w : World) (h : ¬ May a n) : Calls Tryd.prog 44 #[fld a n] w (Ret (.int .u64 0) w) := by
  have hnot := hnot
  go_enter Tryd.func44, Tryd.ntmps44
  go_wp2_with fail
  refine (rmay_out a n _ h).mono ?_
  rintro e w1 ⟨rfl, hb⟩
  have ⟨hk, hb0, _, c1⟩ := (FS.new w a n 72).next hb
  go_wp2
  go_ret
  exact ⟨rfl, hb0⟩

theorem lt_step (k : Nat) : (fun i => if i = k then true else decide (i < k)) = (fun i => decide (i < k + 1)) := by
  funext i
  by_cases h : i = k
  · simp [h]
  · rw [if_neg h]
    apply Bool.eq_iff_iff.2
    simp
    omega
theorem brow_ff : brow (fun i => decide (i < 0)) = brow (fun _ => false) := brow_ext (fun i _ => by simp)

set_option maxHeartbeats 1000000 in
theorem rmax_in (a n : Nat) (w : World) (h1 : 1 ≤ n) (h2 : a + n ≤ 64) : Calls Tryd.prog 44 #[fld a n] w (Ret (.int .u64 (wordOf (fun i => decide (i < n)) 64)) w) := by
  have hnot := hnot
  have hi := Lib.hid brow_info
  go_enter Tryd.func44, Tryd.ntmps44
  go_wp2_with fail
  refine (rmay_in a n _ (may_nat h1 h2)).mono ?_
  rintro e w1 ⟨rfl, hb⟩
  have hF := (FS.new w a n 72).next hb
  have hlt : w.heap.size < w1.heap.size := hF.blk.lt
  clear hb
  go_wp2
  change Code.wp _ _ _ _ (w1.alloc (.cells (brow fun _ => false).toArray 94))
  have hF2 := hF.alloc (.cells (brow fun _ => false).toArray 94)
  have hB2 := Blk.new w1 (brow fun _ => false).toArray 94
  generalize hxb : w1.heap.size = xb at *
  generalize w1.alloc (.cells (brow fun _ => false).toArray 94) = w2 at *
  clear hF hxb
  go_loopw [4] (RelMax w xb a n) (fun i _ => n - (intOf i).toNat)
  case atStart => exact ⟨0, by omega, rfl, hF2, by rw [brow_ff]; exact hB2⟩
  case round =>
    clear hF2 hB2
    obtain ⟨k, hk, rfl, hF, hB⟩ := hrel
    have ⟨_, _, c0, c1⟩ := hF
    by_cases hlt : (k : Int) < n
    · have hcb := hB.cell (brow_at _ (i := k) (by omega))
      have hfb := hB.frozen k
      go_wp2
      have hF5 := (hF.setCell (p := ⟨xb, k, none⟩) (by simp; omega) (by simp; omega) (.bool true))
      have hB5 := (hB.put k (.bool true))
      rw [brow_set _ (by omega), lt_step] at hB5
      go_roundw
      case rel => exact ⟨k + 1, by omega, by go_num, hF5, hB5⟩
      case measure => simp [intOf]; omega
    · obtain rfl : k = n := by omega
      obtain ⟨T, g1⟩ := hB
      have HH := Lib.hid g1
      clear g1
      go_wp2_with (first | (refine wpList_load_row rfl 94 _ rfl xb rfl T _ _ _ HH.out Tryd.underlying94 rfl (hi.out _) ?_) | fail)
      refine (word_any _ _).mono ?_
      rintro e w5 ⟨rfl, hb⟩
      have hF5 := hF.next hb
      go_wp2
      go_ret
      exact ⟨rfl, hF5.bel⟩

/-- At the head of Get's loop. -/
def RelGet (w : World) (bb xb : Nat) (a n x : Nat) (i : Value) (wr : World) : Prop :=
  ∃ k : Nat, k ≤ n ∧ i = .int .i64 k ∧ FS w w.heap.size a n wr ∧ Blk wr bb (brow x.testBit) ∧ Blk wr xb (brow (fun i => decide (i < k) && x.testBit (a + i)))

set_option maxHeartbeats 400000 in
theorem rget_out (a n : Int) (x : Value) (w : World) (h : ¬ May a n) : Calls Tryd.prog 27 #[fld a n, x] w (Ret (.int .u64 0) w) := by
  have hnot := hnot
  go_enter Tryd.func27, Tryd.ntmps27
  go_wp2_with fail
  refine (rmay_out a n _ h).mono ?_
  rintro e w1 ⟨rfl, hb⟩
  have ⟨hk, hb0, _, c1⟩ := (FS.new w a n 72).next hb
  go_wp2
  go_ret
  exact ⟨rfl, hb0⟩

theorem get_step (f : Nat → Bool) (k : Nat) : (fun i => if i = k then f k else (decide (i < k) && f i)) = (fun i => decide (i < k + 1) && f i) := by
  funext i
  by_cases h : i = k
  · simp [h]
  · rw [if_neg h]
    congr 1
    apply Bool.eq_iff_iff.2
    simp
    omega
theorem brow_gg (f : Nat → Bool) : brow (fun i => decide (i < 0) && f i) = brow (fun _ => false) := brow_ext (fun i _ => by simp)

set_option maxHeartbeats 1000000 in
theorem rget_in (a n x : Nat) (w : World) (h1 : 1 ≤ n) (h2 : a + n ≤ 64) (hx : W64 x) : Calls Tryd.prog 27 #[fld a n, .int .u64 x] w (Ret (.int .u64 (wordOf (fun i => decide (i < n) && x.testBit (a + i)) 64)) w) := by
  have hnot := hnot
  have hi := Lib.hid brow_info
  have h11 := Lib.hid brow_one
  have hsz := Lib.hid brow_size
  go_enter Tryd.func27, Tryd.ntmps27
  go_wp2_with fail
  refine (rmay_in a n _ (may_nat h1 h2)).mono ?_
  rintro e w1 ⟨rfl, hb⟩
  have hF := (FS.new w a n 72).next hb
  clear hb
  go_wp2_with fail
  refine (bits_any x _ hx).mono ?_
  rintro e w2 ⟨rfl, hb⟩
  have hF1 := hF.next hb
  have hlt : w.heap.size < w2.heap.size := hF1.blk.lt
  clear hb hF
  go_wp2_with (first | (refine wpList_store_row rfl 94 _ _ rfl w2.heap.size _ rfl rfl 94 _ (heap_alloc_new _ _) (hi.out _) (by rw [hsz.out]; rfl) (h11.out _) ?_; rw [lay_row]) | fail)
  change Code.wp _ _ _ _ ((w2.alloc (.cells (brow x.testBit).toArray 94)).alloc (.cells (brow fun _ => false).toArray 94))
  have hF2 := (hF1.alloc (.cells (brow x.testBit).toArray 94)).alloc (.cells (brow fun _ => false).toArray 94)
  have hB2 := (Blk.new w2 (brow x.testBit).toArray 94).alloc (.cells (brow fun _ => false).toArray 94)
  have hC2 := Blk.new (w2.alloc (.cells (brow x.testBit).toArray 94)) (brow fun _ => false).toArray 94
  rw [World.size_alloc] at hC2
  generalize (w2.alloc (.cells (brow x.testBit).toArray 94)).alloc (.cells (brow fun _ => false).toArray 94) = w3 at *
  generalize hbb : w2.heap.size = bb at *
  clear hF1 hbb
  go_loopw [7] (RelGet w bb (bb + 1) a n x) (fun i _ => n - (intOf i).toNat)
  case atStart => exact ⟨0, by omega, rfl, hF2, hB2, by rw [brow_gg]; exact hC2⟩
  case round =>
    clear hF2 hB2 hC2
    obtain ⟨k, hk, rfl, hF, hB, hC⟩ := hrel
    have ⟨_, _, c0, c1⟩ := hF
    by_cases hlt : (k : Int) < n
    · have hcb := hB.cell (brow_at _ (i := a + k) (by omega))
      have hcx := hC.cell (brow_at _ (i := k) (by omega))
      have hfx := hC.frozen k
      have hw : wrap64 ((a : Int) + k) = ((a + k : Nat) : Int) := by unfold wrap64; omega
      go_wp2
      have hF5 := (hF.setCell (p := ⟨bb + 1, k, none⟩) (by simp; omega) (by simp; omega) (.bool (x.testBit (a + k))))
      have hB5 := (hB.setFar (p := ⟨bb + 1, k, none⟩) (by simp) (.bool (x.testBit (a + k))))
      have hC5 := (hC.put k (.bool (x.testBit (a + k))))
      rw [brow_set _ (by omega), get_step (fun i => x.testBit (a + i))] at hC5
      go_roundw
      case rel => exact ⟨k + 1, by omega, by go_num, hF5, hB5, hC5⟩
      case measure => simp [intOf]; omega
    · obtain rfl : k = n := by omega
      obtain ⟨T, g1⟩ := hC
      have HH := Lib.hid g1
      clear g1
      go_wp2_with (first | (refine wpList_load_row rfl 94 _ rfl (bb + 1) rfl T _ _ _ HH.out Tryd.underlying94 rfl (hi.out _) ?_) | fail)
      refine (word_any _ _).mono ?_
      rintro e w5 ⟨rfl, hb⟩
      have hF5 := hF.next hb
      go_wp2
      go_ret
      exact ⟨rfl, hF5.bel⟩
end Go.Proofs.YtenbbnmhgpclkaaDoor
