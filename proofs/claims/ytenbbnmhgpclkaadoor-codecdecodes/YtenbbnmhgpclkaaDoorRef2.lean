/- Contracts of the document's answer for signed numbers and for putting. -/
import Derived.Test.YtenbbnmhgpclkaaDoorRef
namespace Go.Proofs.YtenbbnmhgpclkaaDoor
open Go.RowKit

theorem wordMax {n : Nat} (h : n ≤ 64) : wordOf (fun i => decide (i < n)) 64 = mx n := by
  apply Nat.eq_of_testBit_eq
  intro k
  rw [testBit_wordOf, mx, Nat.testBit_two_pow_sub_one]
  apply Bool.eq_iff_iff.2
  simp
  omega
theorem wordGet {a n x : Nat} (h : a + n ≤ 64) : wordOf (fun i => decide (i < n) && x.testBit (a + i)) 64 = gt a n x := by
  apply Nat.eq_of_testBit_eq
  intro k
  rw [testBit_wordOf, testBit_gt]
  by_cases hk : k < n
  · have : k < 64 := by omega
    simp [hk, this]
  · simp [hk]
theorem wordSet {a n x y : Nat} (h : a + n ≤ 64) (hx : W64 x) : wordOf (setf a n x y) 64 = pt a n x (y % 2 ^ n) := by
  apply Nat.eq_of_testBit_eq
  intro k
  rw [testBit_wordOf, testBit_pt x h (Nat.mod_lt _ (pow_pos' n)) hx]
  unfold setf
  by_cases h1 : a ≤ k ∧ k < a + n
  · have h2 : k < 64 := by omega
    have h3 : k - a < n := by omega
    simp [h1, h2, h3, Nat.testBit_mod_two_pow]
  · rw [if_neg h1, if_neg h1]
    by_cases h2 : k < 64
    · simp [h2]
    · rw [tb_false (n := 64) hx (by omega)]
      simp
/-- The highest bit of a number of n bits. -/
theorem top_bit {n g : Nat} (h1 : 1 ≤ n) (hg : g < 2 ^ n) : g.testBit (n - 1) = decide (¬ g < 2 ^ (n - 1)) := by
  have e := pow_split h1
  rw [Nat.testBit_eq_decide_div_mod_eq]
  by_cases h : g < 2 ^ (n - 1)
  · rw [Nat.div_eq_of_lt h]
    simp [h]
  · have : g / 2 ^ (n - 1) = 1 := by
      apply Nat.div_eq_of_lt_le <;> omega
    rw [this]
    simp [h]
/-- The word whose bits from the highest one on go on. -/
def ext (n g : Nat) : Nat := if g < 2 ^ (n - 1) then g else g + (18446744073709551616 - 2 ^ n)
theorem ext_w {n g : Nat} (h1 : 1 ≤ n) (h2 : n ≤ 64) (hg : g < 2 ^ n) : W64 (ext n g) ∧ toI (ext n g) = sg n g := by
  have e := pow_split h1
  have hp := pow_le64 h2
  have hq : 2 ^ (n - 1) ≤ 9223372036854775808 := Nat.pow_le_pow_right (n := 2) (i := n - 1) (j := 63) (by decide) (by omega)
  unfold ext W64 toI sg
  by_cases h : g < 2 ^ (n - 1)
  · simp only [h, if_true]
    refine ⟨by omega, ?_⟩
    rw [if_pos (by omega)]
  · simp only [h, if_false]
    refine ⟨by omega, ?_⟩
    rw [if_neg (by omega)]
    omega
theorem wordExt {a n x : Nat} (h1 : 1 ≤ n) (h : a + n ≤ 64) : wordOf (fun i => x.testBit (a + min i (n - 1))) 64 = ext n (gt a n x) := by
  have hg := gt_lt a n x
  have ht := top_bit h1 hg
  rw [testBit_gt] at ht
  have hn1 : n - 1 < n := by omega
  simp only [hn1, decide_true, Bool.true_and] at ht
  have e := pow_split h1
  apply Nat.eq_of_testBit_eq
  intro k
  rw [testBit_wordOf]
  unfold ext
  by_cases hs : gt a n x < 2 ^ (n - 1)
  · rw [if_pos hs, testBit_gt]
    simp only [hs, not_true_eq_false, decide_false] at ht
    by_cases hk : k < n
    · by_cases hk' : k < n - 1
      · have : min k (n - 1) = k := by omega
        have h3 : k < 64 := by omega
        simp [hk, this, h3]
      · have e1 : min k (n - 1) = n - 1 := by omega
        have e2 : k = n - 1 := by omega
        rw [e1, ht, e2, ht]
        simp
    · have e1 : min k (n - 1) = n - 1 := by omega
      simp [e1, ht, hk]
  · rw [if_neg hs]
    simp only [hs, not_false_eq_true, decide_true] at ht
    have e3 : 18446744073709551616 - 2 ^ n = 2 ^ n * (2 ^ (64 - n) - 1) := by
      rw [Nat.mul_sub, pow_64 (by omega), Nat.mul_one]
    rw [e3, Nat.add_comm (gt a n x), Nat.testBit_two_pow_mul_add _ hg, Nat.testBit_two_pow_sub_one, testBit_gt]
    by_cases hk : k < n
    · rw [if_pos hk]
      by_cases hk' : k < n - 1
      · have : min k (n - 1) = k := by omega
        have h3 : k < 64 := by omega
        simp [hk, this, h3]
      · have e1 : min k (n - 1) = n - 1 := by omega
        have e2 : k = n - 1 := by omega
        have h3 : n - 1 < 64 := by omega
        rw [e1, e2, ht]
        simp [h3, hn1]
    · rw [if_neg hk]
      have e1 : min k (n - 1) = n - 1 := by omega
      rw [e1, ht]
      apply Bool.eq_iff_iff.2
      simp
      omega

/-- At the head of Signed's loop. -/
def RelSigned (w : World) (bb xb : Nat) (a n x : Nat) (i : Value) (wr : World) : Prop :=
  ∃ k : Nat, k ≤ 64 ∧ i = .int .i64 k ∧ FS w w.heap.size a n wr ∧ Blk wr bb (brow x.testBit) ∧ Blk wr xb (brow (fun i => decide (i < k) && x.testBit (a + min i (n - 1))))

set_option maxHeartbeats 400000 in
theorem rsigned_out (a n : Int) (x : Value) (w : World) (h : ¬ May a n) : Calls Tryd.prog 26 #[fld a n, x] w (Ret (.int .i64 0) w) := by
  have hnot := hnot
  go_enter Tryd.func26, Tryd.ntmps26
  go_wp2_with fail
  refine (rmay_out a n _ h).mono ?_
  rintro e w1 ⟨rfl, hb⟩
  have ⟨hk, hb0, _, c1⟩ := (FS.new w a n 72).next hb
  go_wp2
  go_ret
  exact ⟨rfl, hb0⟩

set_option maxHeartbeats 1000000 in
theorem rsigned_in (a n x : Nat) (w : World) (h1 : 1 ≤ n) (h2 : a + n ≤ 64) (hx : W64 x) : Calls Tryd.prog 26 #[fld a n, .int .u64 x] w (Ret (.int .i64 (sg n (gt a n x))) w) := by
  have hnot := hnot
  have hi := Lib.hid brow_info
  have h11 := Lib.hid brow_one
  have hsz := Lib.hid brow_size
  go_enter Tryd.func26, Tryd.ntmps26
  go_wp2_with fail
  refine (rmay_in a n _ (may_nat h1 h2)).mono ?_
  rintro e w1 ⟨rfl, hb⟩
  have hF := (FS.new w a n 72).next hb
  clear hb
  go_wp2_with fail
  refine (bits_any x _ hx).mono ?_
  rintro e w2 ⟨rfl, hb⟩
  have hF1 := hF.next hb
  have hlt : w.heap.size < w2.heap.size := hF1.blk.lt
  clear hb hF
  go_wp2_with (first | (refine wpList_store_row rfl 94 _ _ rfl w2.heap.size _ rfl rfl 94 _ (heap_alloc_new _ _) (hi.out _) (by rw [hsz.out]; rfl) (h11.out _) ?_; rw [lay_row]) | fail)
  change Code.wp _ _ _ _ ((w2.alloc (.cells (brow x.testBit).toArray 94)).alloc (.cells (brow fun _ => false).toArray 94))
  have hF2 := (hF1.alloc (.cells (brow x.testBit).toArray 94)).alloc (.cells (brow fun _ => false).toArray 94)
  have hB2 := (Blk.new w2 (brow x.testBit).toArray 94).alloc (.cells (brow fun _ => false).toArray 94)
  have hC2 := Blk.new (w2.alloc (.cells (brow x.testBit).toArray 94)) (brow fun _ => false).toArray 94
  rw [World.size_alloc] at hC2
  generalize (w2.alloc (.cells (brow x.testBit).toArray 94)).alloc (.cells (brow fun _ => false).toArray 94) = w3 at *
  generalize hbb : w2.heap.size = bb at *
  clear hF1 hbb
  go_loopw [7] (RelSigned w bb (bb + 1) a n x) (fun i _ => 64 - (intOf i).toNat)
  case atStart => exact ⟨0, by omega, rfl, hF2, hB2, by rw [brow_gg (fun i => x.testBit (a + min i (n - 1)))]; exact hC2⟩
  case round =>
    clear hF2 hB2 hC2
    obtain ⟨k, hk, rfl, hF, hB, hC⟩ := hrel
    have ⟨_, _, c0, c1⟩ := hF
    by_cases hlt : (k : Int) < 64
    · have hcx := hC.cell (brow_at _ (i := k) (by omega))
      have hfx := hC.frozen k
      have hw0 : wrap64 ((n : Int) - 1) = (n : Int) - 1 := by unfold wrap64; omega
      have hw1 : wrap64 ((a : Int) + ((n : Int) - 1)) = (a : Int) + ((n : Int) - 1) := by unfold wrap64; omega
      have hw2 : wrap64 ((a : Int) + k) = (a : Int) + k := by unfold wrap64; omega
      by_cases hkn : (n : Int) - 1 < k
      · have hcb := hB.cell (brow_at _ (i := a + (n - 1)) (by omega))
        go_wp2
        have hF5 := (hF.setCell (p := ⟨bb + 1, k, none⟩) (by simp; omega) (by simp; omega) (.bool (x.testBit (a + (n - 1)))))
        have hB5 := (hB.setFar (p := ⟨bb + 1, k, none⟩) (by simp) (.bool (x.testBit (a + (n - 1)))))
        have hC5 := (hC.put k (.bool (x.testBit (a + (n - 1)))))
        rw [brow_set _ (by omega), show a + (n - 1) = a + min k (n - 1) by omega, get_step (fun i => x.testBit (a + min i (n - 1)))] at hC5
        rw [show a + (n - 1) = a + min k (n - 1) by omega] at hF5 hB5
        go_roundw
        case rel => first | exact ⟨k + 1, by omega, by go_num, hF5, hB5, hC5⟩ | (rw [show a + (n - 1) = a + min k (n - 1) by omega]; exact ⟨k + 1, by omega, by go_num, hF5, hB5, hC5⟩)
        case measure => simp [intOf]; omega
      · have hcb := hB.cell (brow_at _ (i := a + k) (by omega))
        go_wp2
        have hF5 := (hF.setCell (p := ⟨bb + 1, k, none⟩) (by simp; omega) (by simp; omega) (.bool (x.testBit (a + k))))
        have hB5 := (hB.setFar (p := ⟨bb + 1, k, none⟩) (by simp) (.bool (x.testBit (a + k))))
        have hC5 := (hC.put k (.bool (x.testBit (a + k))))
        rw [brow_set _ (by omega), show a + k = a + min k (n - 1) by omega, get_step (fun i => x.testBit (a + min i (n - 1)))] at hC5
        rw [show a + k = a + min k (n - 1) by omega] at hF5 hB5
        go_roundw
        case rel => first | exact ⟨k + 1, by omega, by go_num, hF5, hB5, hC5⟩ | (rw [show a + k = a + min k (n - 1) by omega]; exact ⟨k + 1, by omega, by go_num, hF5, hB5, hC5⟩)
        case measure => simp [intOf]; omega
    · obtain rfl : k = 64 := by omega
      obtain ⟨T, g1⟩ := hC
      have HH := Lib.hid g1
      clear g1
      go_wp2_with (first | (refine wpList_load_row rfl 94 _ rfl (bb + 1) rfl T _ _ _ HH.out Tryd.underlying94 rfl (hi.out _) ?_) | fail)
      refine (word_any _ _).mono ?_
      rintro e w5 ⟨rfl, hb⟩
      have hF5 := hF.next hb
      have he : wordOf (fun i => decide (i < 64) && x.testBit (a + min i (n - 1))) 64 = ext n (gt a n x) := by
        rw [← wordExt h1 h2]
        apply Nat.eq_of_testBit_eq
        intro k
        rw [testBit_wordOf, testBit_wordOf]
        by_cases hk : k < 64 <;> simp [hk]
      obtain ⟨hew, hei⟩ := ext_w h1 (by omega) (gt_lt a n x)
      rw [he]
      have hsg : wrap64 ((ext n (gt a n x) : Nat) : Int) = sg n (gt a n x) := by rw [wrap64_toI hew, hei]
      go_wp2
      go_ret
      refine ⟨?_, hF5.bel⟩
      show Ending.returned (.int .i64 (wrap64 _)) = _
      rw [hsg]

theorem rput_out (a n : Int) (x : Value) (y : Int) (w : World) (h : ¬ May a n) : Calls Tryd.prog 28 #[fld a n, x, .int .u64 y] w (Ret (.tuple #[.int .u64 0, .int .i64 10]) w) := by
  have hnot := hnot
  go_enter Tryd.func28, Tryd.ntmps28
  go_wp2_with fail
  refine (rmay_out a n _ h).mono ?_
  rintro e w1 ⟨rfl, hb⟩
  have ⟨hk, hb0, _, c1⟩ := (FS.new w a n 72).next hb
  go_wp2
  go_ret2
  exact ⟨rfl, hb0⟩

set_option maxHeartbeats 400000 in
theorem rput_big (a n y : Nat) (x : Value) (w : World) (h1 : 1 ≤ n) (h2 : a + n ≤ 64) (hy : mx n < y) : Calls Tryd.prog 28 #[fld a n, x, .int .u64 y] w (Ret (.tuple #[.int .u64 0, .int .i64 10]) w) := by
  have hnot := hnot
  have hd : decide ((mx n : Int) < (y : Int)) = true := by simp; omega
  go_enter Tryd.func28, Tryd.ntmps28
  go_wp2_with fail
  refine (rmay_in a n _ (may_nat h1 h2)).mono ?_
  rintro e w1 ⟨rfl, hb⟩
  have hF := (FS.new w a n 72).next hb
  have ⟨hk, hb0, c0, c1⟩ := hF
  clear hb
  go_wp2_with fail
  refine (rmax_in a n _ h1 h2).mono ?_
  rintro e w2 ⟨rfl, hb⟩
  rw [wordMax (by omega)]
  have ⟨hk2, hb2, d0, d1⟩ := hF.next hb
  go_wp2
  go_ret2
  exact ⟨rfl, hb2⟩

set_option maxHeartbeats 400000 in
theorem rput_in (a n x y : Nat) (w : World) (h1 : 1 ≤ n) (h2 : a + n ≤ 64) (hx : W64 x) (hy : y ≤ mx n) : Calls Tryd.prog 28 #[fld a n, .int .u64 x, .int .u64 y] w (Ret (.tuple #[.int .u64 (pt a n x y), .int .i64 0]) w) := by
  have hnot := hnot
  have hd : decide ((mx n : Int) < (y : Int)) = false := by simp; omega
  have hyn : y % 2 ^ n = y := Nat.mod_eq_of_lt (le_mx.1 hy)
  have Hy := Lib.hid hyn
  clear hyn
  go_enter Tryd.func28, Tryd.ntmps28
  go_wp2_with fail
  refine (rmay_in a n _ (may_nat h1 h2)).mono ?_
  rintro e w1 ⟨rfl, hb⟩
  have hF := (FS.new w a n 72).next hb
  have ⟨hk, hb0, c0, c1⟩ := hF
  clear hb
  go_wp2_with fail
  refine (rmax_in a n _ h1 h2).mono ?_
  rintro e w2 ⟨rfl, hb⟩
  rw [wordMax (by omega)]
  have hF2 := hF.next hb
  clear hb hk hb0 c0 c1 hF
  have ⟨hk, hb0, c0, c1⟩ := hF2
  go_wp2_with fail
  refine (set_in a n x y _ h1 h2 hx (Nat.lt_of_le_of_lt hy (mx_w (by omega)))).mono ?_
  rintro e w3 ⟨rfl, hb⟩
  rw [wordSet h2 hx, Hy.out]
  have ⟨hk2, hb2, d0, d1⟩ := hF2.next hb
  go_wp2
  go_ret2
  exact ⟨rfl, hb2⟩

end Go.Proofs.YtenbbnmhgpclkaaDoor
