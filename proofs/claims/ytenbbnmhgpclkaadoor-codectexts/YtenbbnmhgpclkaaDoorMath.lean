/- Numbers in bits: plain arithmetic. No program is named here. -/
namespace Go.Proofs.YtenbbnmhgpclkaaDoor

/-- 2 to the n, less 1. -/
def mx (n : Nat) : Nat := 2 ^ n - 1
/-- The number of a field. -/
def gt (a n w : Nat) : Nat := w / 2 ^ a % 2 ^ n
/-- The word with x in a field. -/
def pt (a n w x : Nat) : Nat := (w &&& (18446744073709551615 - mx n * 2 ^ a)) ||| x * 2 ^ a
/-- What n bits tell, the highest of which counts below 0. -/
def sg (n r : Nat) : Int := if r < 2 ^ (n - 1) then (r : Int) else (r : Int) - (2 ^ n : Nat)

abbrev W64 (w : Nat) : Prop := w < 18446744073709551616

theorem pow_le64 {n : Nat} (h : n ≤ 64) : 2 ^ n ≤ 18446744073709551616 := Nat.pow_le_pow_right (by decide) h
theorem pow_pos' (n : Nat) : 0 < 2 ^ n := Nat.two_pow_pos n
theorem mx_lt (n : Nat) : mx n < 2 ^ n := by have := pow_pos' n; unfold mx; omega
theorem mx_w {n : Nat} (h : n ≤ 64) : W64 (mx n) := Nat.lt_of_lt_of_le (mx_lt n) (pow_le64 h)
theorem gt_lt (a n w : Nat) : gt a n w < 2 ^ n := Nat.mod_lt _ (pow_pos' n)
theorem gt_le (a n w : Nat) : gt a n w ≤ mx n := by have := gt_lt a n w; unfold mx; omega
theorem gt_w {n : Nat} (h : n ≤ 64) (a w : Nat) : W64 (gt a n w) := Nat.lt_of_lt_of_le (gt_lt a n w) (pow_le64 h)
theorem div_w {w : Nat} (h : W64 w) (a : Nat) : W64 (w / 2 ^ a) := Nat.lt_of_le_of_lt (Nat.div_le_self _ _) h
theorem le_mx {n x : Nat} : x ≤ mx n ↔ x < 2 ^ n := by have := pow_pos' n; unfold mx; omega

theorem mx_shr {n : Nat} (h : n ≤ 64) : (18446744073709551615 : Int) / 2 ^ (64 - n) = (mx n : Int) := by
  have h2 : (18446744073709551615 : Nat) / 2 ^ (64 - n) = 2 ^ n - 1 := by
    have h3 : (2 : Nat) ^ 64 = 2 ^ n * 2 ^ (64 - n) := by rw [← Nat.pow_add]; congr 1; omega
    have hp := pow_pos' (64 - n)
    have hq := pow_pos' n
    rw [Nat.div_eq_of_lt_le]
    · rw [Nat.sub_mul, ← h3]; omega
    · rw [show 2 ^ n - 1 + 1 = 2 ^ n by omega, ← h3]; omega
  unfold mx
  rw [← h2]
  simp
theorem and_mx (n w : Nat) : w &&& mx n = w % 2 ^ n := Nat.and_two_pow_sub_one_eq_mod w n

theorem mxa_lt {a n : Nat} (h : a + n ≤ 64) : mx n * 2 ^ a < 18446744073709551616 := by
  have h1 : mx n * 2 ^ a < 2 ^ n * 2 ^ a := Nat.mul_lt_mul_of_pos_right (mx_lt n) (pow_pos' a)
  rw [← Nat.pow_add] at h1
  exact Nat.lt_of_lt_of_le h1 (pow_le64 (by omega))
theorem xa_lt {a n x : Nat} (h : a + n ≤ 64) (hx : x ≤ mx n) : x * 2 ^ a < 18446744073709551616 :=
  Nat.lt_of_le_of_lt (Nat.mul_le_mul_right _ hx) (mxa_lt h)
theorem pt_w {a n x : Nat} (h : a + n ≤ 64) (hx : x ≤ mx n) (w : Nat) : W64 (pt a n w x) := by
  unfold pt W64
  have h1 : w &&& (18446744073709551615 - mx n * 2 ^ a) < 2 ^ 64 := Nat.lt_of_le_of_lt (Nat.and_le_right) (by omega)
  exact Nat.or_lt_two_pow h1 (xa_lt h hx)

theorem tb_false {x n k : Nat} (hx : x < 2 ^ n) (hk : n ≤ k) : x.testBit k = false :=
  Nat.testBit_lt_two_pow (Nat.lt_of_lt_of_le hx (Nat.pow_le_pow_right (by decide) hk))

/-- Bits of the word with x in a field. -/
theorem testBit_pt {a n x : Nat} (w : Nat) (h : a + n ≤ 64) (hx : x < 2 ^ n) (hw : W64 w) (k : Nat) :
    (pt a n w x).testBit k = if a ≤ k ∧ k < a + n then x.testBit (k - a) else w.testBit k := by
  have hm : mx n * 2 ^ a < 2 ^ 64 := mxa_lt h
  have e1 : (18446744073709551615 - mx n * 2 ^ a).testBit k = (decide (k < 64) && !(mx n * 2 ^ a).testBit k) := by
    have := Nat.testBit_two_pow_sub_succ (x := mx n * 2 ^ a) (n := 64) hm k
    rw [← this]
    congr 1
    omega
  unfold pt
  rw [Nat.testBit_or, Nat.testBit_and, e1, Nat.testBit_mul_two_pow, Nat.testBit_mul_two_pow, mx, Nat.testBit_two_pow_sub_one]
  have hwk : ¬ k < 64 → w.testBit k = false := fun hk => Nat.testBit_lt_two_pow (Nat.lt_of_lt_of_le hw (by
    have : (2 : Nat) ^ 64 ≤ 2 ^ k := Nat.pow_le_pow_right (by decide) (by omega)
    exact this))
  have hxk : ¬ k - a < n → x.testBit (k - a) = false := fun hk => Nat.testBit_lt_two_pow (Nat.lt_of_lt_of_le hx (Nat.pow_le_pow_right (by decide) (by omega)))
  by_cases h1 : a ≤ k
  · by_cases h2 : k - a < n
    · have h3 : k < 64 := by omega
      have h4 : k < a + n := by omega
      simp [h1, h2, h3, h4]
    · have h4 : ¬ k < a + n := by omega
      rw [hxk h2]
      by_cases h3 : k < 64
      · simp [h1, h2, h3, h4]
      · rw [hwk h3]
        simp [h1, h2, h3, h4]
  · by_cases h3 : k < 64
    · simp [h1, h3]
    · rw [hwk h3]
      simp [h1]

theorem testBit_gt (a n w k : Nat) : (gt a n w).testBit k = (decide (k < n) && w.testBit (a + k)) := by
  unfold gt
  rw [Nat.testBit_mod_two_pow, Nat.testBit_div_two_pow]
  congr 2
  omega

theorem gt_pt {a n x w : Nat} (h : a + n ≤ 64) (hx : x < 2 ^ n) (hw : W64 w) : gt a n (pt a n w x) = x := by
  apply Nat.eq_of_testBit_eq
  intro k
  rw [testBit_gt, testBit_pt w h hx hw]
  by_cases hk : k < n
  · simp [hk]
  · simp only [hk, decide_false, Bool.false_and]
    exact (tb_false hx (by omega)).symm
theorem gt_pt_far {a n b m x w : Nat} (h : a + n ≤ 64) (hx : x < 2 ^ n) (hw : W64 w) (hd : a + n ≤ b ∨ b + m ≤ a) : gt b m (pt a n w x) = gt b m w := by
  apply Nat.eq_of_testBit_eq
  intro k
  rw [testBit_gt, testBit_gt, testBit_pt w h hx hw]
  by_cases hk : k < m
  · have : ¬ (a ≤ b + k ∧ b + k < a + n) := by omega
    simp [hk, this]
  · simp [hk]
theorem pt_gt {a n w : Nat} (h : a + n ≤ 64) (hw : W64 w) : pt a n w (gt a n w) = w := by
  apply Nat.eq_of_testBit_eq
  intro k
  rw [testBit_pt w h (gt_lt a n w) hw, testBit_gt]
  by_cases hk : a ≤ k ∧ k < a + n
  · have h1 : k - a < n := by omega
    have h2 : a + (k - a) = k := by omega
    simp [hk, h1, h2]
  · simp [hk]
theorem pt_comm {a n b m x y w : Nat} (h : a + n ≤ 64) (h' : b + m ≤ 64) (hx : x < 2 ^ n) (hy : y < 2 ^ m) (hw : W64 w) (hd : a + n ≤ b ∨ b + m ≤ a) :
    pt b m (pt a n w x) y = pt a n (pt b m w y) x := by
  apply Nat.eq_of_testBit_eq
  intro k
  rw [testBit_pt _ h' hy (pt_w h (le_mx.2 hx) w), testBit_pt _ h hx hw, testBit_pt _ h hx (pt_w h' (le_mx.2 hy) w), testBit_pt _ h' hy hw]
  by_cases h1 : a ≤ k ∧ k < a + n <;> by_cases h2 : b ≤ k ∧ k < b + m
  · omega
  · simp only [if_neg h2, if_pos h1]
  · simp only [if_pos h2, if_neg h1]
  · simp only [if_neg h2, if_neg h1]
theorem other_bits {a n x w : Nat} (h : a + n ≤ 64) (hx : x < 2 ^ n) (hw : W64 w) : (pt a n w x ^^^ w) &&& (18446744073709551615 - mx n * 2 ^ a) = 0 := by
  have hm : mx n * 2 ^ a < 2 ^ 64 := mxa_lt h
  apply Nat.eq_of_testBit_eq
  intro k
  have e1 : (18446744073709551615 - mx n * 2 ^ a).testBit k = (decide (k < 64) && !(mx n * 2 ^ a).testBit k) := by
    have := Nat.testBit_two_pow_sub_succ (x := mx n * 2 ^ a) (n := 64) hm k
    rw [← this]
    congr 1
    omega
  rw [Nat.testBit_and, Nat.testBit_xor, testBit_pt w h hx hw, e1, Nat.testBit_mul_two_pow, mx, Nat.testBit_two_pow_sub_one, Nat.zero_testBit]
  by_cases hk : a ≤ k ∧ k < a + n
  · have h1 : k - a < n := by omega
    simp [hk, h1]
  · simp [hk]

theorem pow_split {n : Nat} (h1 : 1 ≤ n) : 2 ^ n = 2 * 2 ^ (n - 1) := by
  have : n = (n - 1) + 1 := by omega
  rw [this, Nat.pow_succ]
  simp
  omega
theorem pow_64 {n : Nat} (h : n ≤ 64) : 2 ^ n * 2 ^ (64 - n) = 18446744073709551616 := by
  rw [← Nat.pow_add, show n + (64 - n) = 64 by omega]

/-- Go's int64 of a number of 64 bits. -/
def toI (u : Nat) : Int := if u < 9223372036854775808 then (u : Int) else (u : Int) - 18446744073709551616
/-- Go's uint64 of an int64. -/
def toU (x : Int) : Nat := (x % 18446744073709551616).toNat
theorem toU_w (x : Int) : W64 (toU x) := by unfold toU W64; omega
theorem toU_cast (x : Int) : ((toU x : Nat) : Int) = x % 18446744073709551616 := by unfold toU; omega

/-- Up to the word's top and down again. -/
theorem sg_shift {n g : Nat} (h1 : 1 ≤ n) (h2 : n ≤ 64) (hg : g < 2 ^ n) : g * 2 ^ (64 - n) < 18446744073709551616 ∧ toI (g * 2 ^ (64 - n)) / ((2 ^ (64 - n) : Nat) : Int) = sg n g := by
  have hp := pow_pos' (64 - n)
  have e1 := pow_64 h2
  have e2 := pow_split h1
  have hlt : g * 2 ^ (64 - n) < 18446744073709551616 := by
    rw [← e1]
    exact Nat.mul_lt_mul_of_pos_right hg hp
  refine ⟨hlt, ?_⟩
  have e3 : 2 ^ (n - 1) * 2 ^ (64 - n) = 9223372036854775808 := by
    rw [e2, Nat.mul_assoc] at e1
    omega
  have hne : ((2 ^ (64 - n) : Nat) : Int) ≠ 0 := by omega
  unfold toI sg
  by_cases hs : g < 2 ^ (n - 1)
  · have h3 : g * 2 ^ (64 - n) < 9223372036854775808 := by rw [← e3]; exact Nat.mul_lt_mul_of_pos_right hs hp
    rw [if_pos h3, if_pos hs, Int.natCast_mul, Int.mul_ediv_cancel _ hne]
  · have h3 : ¬ g * 2 ^ (64 - n) < 9223372036854775808 := by
      rw [← e3]
      exact Nat.not_lt.2 (Nat.mul_le_mul_right _ (by omega))
    rw [if_neg h3, if_neg hs]
    have e4 : ((g * 2 ^ (64 - n) : Nat) : Int) - 18446744073709551616 = ((g : Int) - (2 ^ n : Nat)) * ((2 ^ (64 - n) : Nat) : Int) := by
      rw [Int.sub_mul, ← Int.natCast_mul, ← Int.natCast_mul, e1]
      rfl
    rw [e4, Int.mul_ediv_cancel _ hne]

/-- The lowest n bits of an int64. -/
def lo (n : Nat) (x : Int) : Nat := toU x % 2 ^ n
theorem lo_lt (n : Nat) (x : Int) : lo n x < 2 ^ n := Nat.mod_lt _ (pow_pos' n)
theorem lo_cast {n : Nat} (h : n ≤ 64) (x : Int) : ((lo n x : Nat) : Int) = x % (2 ^ n : Nat) := by
  unfold lo
  rw [Int.natCast_emod, toU_cast]
  have e1 := pow_64 h
  exact Int.emod_emod_of_dvd x ⟨(2 ^ (64 - n) : Nat), by rw [← Int.natCast_mul, e1]; rfl⟩
theorem sg_rng {n r : Nat} (h1 : 1 ≤ n) (hr : r < 2 ^ n) : -(2 ^ (n - 1) : Nat) ≤ sg n r ∧ sg n r < (2 ^ (n - 1) : Nat) := by
  have e2 := pow_split h1
  unfold sg
  split <;> omega
theorem sg_lo {n : Nat} (h1 : 1 ≤ n) (h2 : n ≤ 64) (x : Int) : sg n (lo n x) = x ↔ -(2 ^ (n - 1) : Nat) ≤ x ∧ x < (2 ^ (n - 1) : Nat) := by
  have e2 := pow_split h1
  constructor
  · intro h
    rw [← h]
    exact sg_rng h1 (lo_lt n x)
  · rintro ⟨ha, hb⟩
    have hc := lo_cast h2 x
    unfold sg
    by_cases h0 : 0 ≤ x
    · rw [Int.emod_eq_of_lt h0 (by omega)] at hc
      rw [if_pos (by omega)]
      exact hc
    · have : x % (2 ^ n : Nat) = x + (2 ^ n : Nat) := by
        rw [← Int.add_emod_right, Int.emod_eq_of_lt (by omega) (by omega)]
      rw [this] at hc
      rw [if_neg (by omega)]
      omega
theorem lo_sg {n g : Nat} (h1 : 1 ≤ n) (h2 : n ≤ 64) (hg : g < 2 ^ n) : lo n (sg n g) = g := by
  have e2 := pow_split h1
  have hc := lo_cast h2 (sg n g)
  have : sg n g % (2 ^ n : Nat) = (g : Int) := by
    unfold sg
    split
    · exact Int.emod_eq_of_lt (by omega) (by omega)
    · rw [Int.sub_emod_right]
      exact Int.emod_eq_of_lt (by omega) (by omega)
  omega
theorem toU_and (n : Nat) (x : Int) : toU x &&& mx n = lo n x := by rw [and_mx]; rfl
end Go.Proofs.YtenbbnmhgpclkaaDoor
