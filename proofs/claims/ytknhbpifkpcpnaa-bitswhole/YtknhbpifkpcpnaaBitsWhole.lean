/- The law BitsWhole returns true, whatever it is given. No condition. -/
import Derived.Test.YtknhbpifkpcpnaaAny
import Derived.Test.YtknhbpifkpcpnaaArgs
import Derived.Test.YtknhbpifkpcpnaaFew
import Derived.Test.YtknhbpifkpcpnaaRJoin
import Derived.Test.YtknhbpifkpcpnaaSplits
import Derived.Test.YtknhbpifkpcpnaaWhole
import Derived.ProofKit
import Derived.OpenShut
import Derived.ChangeOld
namespace Go.Proofs.Ytknhbpifkpcpnaa.bitsWhole
open Go.ChangeShapes Go.WideShapes Go.ChangeAt Go.RowKit Go.Deep

theorem own : ownKnob Try.prog.godebug = none := by kernel_rfl
theorem laidOut : laidOutB Try.prog = true := by kernel_rfl

set_option maxRecDepth 100000 in
set_option maxHeartbeats 4000000 in
theorem walk_b1 (a : Option Addr) (cap : Nat) (zs : List Int) (a2 : Option Addr) (cap2 : Nat) (xs : List Nat) (x : Nat) (w : World) (hI : Ints w.heap.size w a zs) (hX : Words w.heap.size w a2 xs) (hx : W64 x) (h80 : 80 < zs.length) : Calls Try.prog 10 #[.slice a zs.length cap, .slice a2 xs.length cap2, .int .u64 x] w (Ret (.bool true) w) := by
  have hnot := hnot
  have hd : decide ((zs.length : Int) ≤ 80) = false := decide_eq_false (by omega)
  clear h80 hx hI hX
  go_enter Try.func10, Try.ntmps10
  go_wp2_with fail
  refine (few_any a zs.length cap w).mono ?_
  rintro e w0 ⟨rfl, hb0⟩
  rw [hd]
  go_wp2_with fail
  refine (awake_any w0).mono ?_
  rintro e w1 ⟨rfl, hb1⟩
  have hfin := hb0.trans (hb1.mono hb0.size)
  go_wp2
  go_ret
  exact ⟨rfl, hfin⟩

set_option maxRecDepth 100000 in
set_option maxHeartbeats 4000000 in
theorem walk_b2 (a : Option Addr) (cap : Nat) (zs : List Int) (a2 : Option Addr) (cap2 : Nat) (xs : List Nat) (x : Nat) (w : World) (hI : Ints w.heap.size w a zs) (hX : Words w.heap.size w a2 xs) (hx : W64 x) (h80 : zs.length ≤ 80) (hx80 : 80 < xs.length) : Calls Try.prog 10 #[.slice a zs.length cap, .slice a2 xs.length cap2, .int .u64 x] w (Ret (.bool true) w) := by
  have hnot := hnot
  have hd : decide ((zs.length : Int) ≤ 80) = true := decide_eq_true (by omega)
  have hd2 : (80 : Int) < xs.length := by omega
  clear h80 hx80 hx hI hX
  go_enter Try.func10, Try.ntmps10
  go_wp2_with fail
  refine (few_any a zs.length cap w).mono ?_
  rintro e w0 ⟨rfl, hb0⟩
  rw [hd]
  go_wp2_with fail
  refine (awake_any w0).mono ?_
  rintro e w1 ⟨rfl, hb1⟩
  have hfin := hb0.trans (hb1.mono hb0.size)
  go_wp2
  go_ret
  exact ⟨rfl, hfin⟩

/-- At the head of the law's loop. -/
def RelA (w4 : World) (zs : List Int) (s13 s14 : Value) (wr : World) : Prop := ∃ k : Nat, k ≤ zs.length ∧ s14 = .int .i64 k ∧ s13 = .int .i64 (zs.take k).sum ∧ Below w4.heap.size w4 wr
theorem and_low {s x : Nat} (h : s < 64) (hx : W64 x) : bits .and .u64 (x : Int) (IntKind.u64.wrap (IntKind.u64.wrap (2 ^ s) - 1)) = ((x % 2 ^ s : Nat) : Int) := by
  have hp : 2 ^ s < 18446744073709551616 := Nat.lt_of_lt_of_le (Nat.pow_lt_pow_right (by decide) h) (pow_le64 (Nat.le_refl 64))
  have hq := pow_pos' s
  have e1 : IntKind.u64.wrap ((2 : Int) ^ s) = ((2 ^ s : Nat) : Int) := by
    have := wrap_nat hp
    simpa using this
  have e2 : IntKind.u64.wrap (((2 ^ s : Nat) : Int) - 1) = (mx s : Int) := by
    have : (((2 ^ s : Nat) : Int) - 1) = ((2 ^ s - 1 : Nat) : Int) := by omega
    rw [this]
    exact wrap_nat (by omega)
  rw [e1, e2, bits_and_u64_nat _ _ hx (mx_w (by omega)), and_mx]

set_option maxRecDepth 100000 in
set_option maxHeartbeats 4000000 in
theorem walk_e (a : Option Addr) (cap : Nat) (zs : List Int) (a2 : Option Addr) (cap2 : Nat) (xs : List Nat) (x : Nat) (w : World) (hI : Ints w.heap.size w a zs) (hX : Words w.heap.size w a2 xs) (hx : W64 x) (h80 : zs.length ≤ 80) (hx80 : xs.length ≤ 80) (he : rowE 0 zs ≠ 0) : Calls Try.prog 10 #[.slice a zs.length cap, .slice a2 xs.length cap2, .int .u64 x] w (Ret (.bool true) w) := by
  have hnot := hnot
  have hd : decide ((zs.length : Int) ≤ 80) = true := decide_eq_true (by omega)
  have hd2 : (xs.length : Int) ≤ 80 := by omega
  go_enter Try.func10, Try.ntmps10
  go_wp2_with fail
  refine (few_any a zs.length cap w).mono ?_
  rintro e w0 ⟨rfl, hb0⟩
  rw [hd]
  have hI0 := (hI.below hb0).mono hb0.size
  have hX0 := (hX.below hb0).mono hb0.size
  go_wp2_with fail
  refine (join_any a _ cap zs rfl h80 a2 _ cap2 xs rfl w0 hI0 hX0).mono ?_
  rintro e w1 ⟨rfl, hb1⟩
  have hB1 := hb0.trans (hb1.mono hb0.size)
  have hI1 := (hI0.below hb1).mono hb1.size
  have hX1 := (hX0.below hb1).mono hb1.size
  clear hI hX hI0 hX0 hb0 hb1 hd
  rw [joinE_err he]
  have hsw : splitL zs x = [] := by unfold splitL; rw [if_neg he]
  have Hpost : Hid (∀ e W', SplitPost zs x w1 e W' → e = .returned (.tuple #[.slice none 0 0, .int .i64 (rowE 0 zs)]) ∧ Below w1.heap.size w1 W') := by
    rintro e W' ⟨v, rfl, hb, h0, _⟩
    rw [h0 he]
    exact ⟨rfl, hb⟩
  have hsp := split_any a _ cap zs x hx rfl h80 w1 hI1
  have hsp2 := hsp.mono (fun e W' h => Hpost.out e W' h)
  have Hsp := Lib.hid hsp2
  clear hsp hsp2 Hpost hsw
  generalize rowE 0 zs = er at *
  have hne : (er != 0) = true := by simp [he]
  have hne2 : (er == 0) = false := by simp [he]
  go_wp2_with fail
  refine Hsp.out.mono ?_
  rintro e w2 ⟨rfl, hb2⟩
  have hB2 := hB1.trans (hb2.mono hB1.size)
  clear Hsp
  go_wp2_with fail
  refine (awake_any w2).mono ?_
  rintro e w3 ⟨rfl, hb3⟩
  have hB3 := hB2.trans (hb3.mono hB2.size)
  go_wp2
  go_ret
  exact ⟨rfl, hB3⟩

set_option maxRecDepth 100000 in
set_option maxHeartbeats 4000000 in
theorem walk_n (a : Option Addr) (cap : Nat) (zs : List Int) (a2 : Option Addr) (cap2 : Nat) (xs : List Nat) (x : Nat) (w : World) (hI : Ints w.heap.size w a zs) (hX : Words w.heap.size w a2 xs) (hx : W64 x) (h80 : zs.length ≤ 80) (hx80 : xs.length ≤ 80) (he : rowE 0 zs = 0) (hj : (joinE zs xs).2 ≠ 0) : Calls Try.prog 10 #[.slice a zs.length cap, .slice a2 xs.length cap2, .int .u64 x] w (Ret (.bool true) w) := by
  have hnot := hnot
  have hd : decide ((zs.length : Int) ≤ 80) = true := decide_eq_true (by omega)
  have hd2 : (xs.length : Int) ≤ 80 := by omega
  go_enter Try.func10, Try.ntmps10
  go_wp2_with fail
  refine (few_any a zs.length cap w).mono ?_
  rintro e w0 ⟨rfl, hb0⟩
  rw [hd]
  have hI0 := (hI.below hb0).mono hb0.size
  have hX0 := (hX.below hb0).mono hb0.size
  go_wp2_with fail
  refine (join_any a _ cap zs rfl h80 a2 _ cap2 xs rfl w0 hI0 hX0).mono ?_
  rintro e w1 ⟨rfl, hb1⟩
  have hB1 := hb0.trans (hb1.mono hb0.size)
  have hI1 := (hI0.below hb1).mono hb1.size
  have hX1 := (hX0.below hb1).mono hb1.size
  clear hI hX hI0 hX0 hb0 hb1 hd
  generalize joinE zs xs = je at *
  obtain ⟨j1, j2⟩ := je
  have hne : (j2 == 0) = false := by simp at hj; simp [hj]
  clear hj
  go_wp2_with fail
  refine (split_any a _ cap zs x hx rfl h80 w1 hI1).mono ?_
  rintro e w4 ⟨v, rfl, hb4, hv0, hv1⟩
  have hI4 := (hI1.below hb4).mono hb4.size
  obtain ⟨av, cv, rfl, hW⟩ := split_words hv0 hv1
  have hB4 := hB1.trans (hb4.mono hB1.size)
  rw [he]
  have Hsl := Lib.hid (split_len zs x h80)
  have HI := Lib.hid (And.intro hI4 hW)
  obtain ⟨s, hs, hs64, hjoin⟩ := whole_b he hx
  have Hs := Lib.hid (And.intro hs (And.intro hjoin (fun k => sums zs 0 (by omega) (by omega) he k)))
  clear hv0 hv1 hb4 hI4 hW hs hjoin hI1 hB1
  go_wp2_with fail
  go_loopw [13, 14] (RelA w4 zs) (fun _ i _ => zs.length - (intOf i).toNat)
  case atStart => exact ⟨0, by omega, rfl, by simp, Below.refl _ _⟩
  case round =>
    obtain ⟨k, hk, rfl, rfl, hu⟩ := hrel
    by_cases hlt : k < zs.length
    · obtain ⟨z, hz⟩ : ∃ z, zs[k]? = some z := ⟨zs[k], List.getElem?_eq_getElem hlt⟩
      obtain ⟨b, off, rfl, hbl, hc⟩ := (HI.out.1.below hu) k z hz
      have hk0 := Hs.out.2.2 k
      have hk1 := Hs.out.2.2 (k + 1)
      have htk : (zs.take (k + 1)).sum = (zs.take k).sum + z := by rw [List.take_add_one, hz]; simp
      have Htk := Lib.hid htk
      rw [htk] at hk1
      generalize (zs.take k).sum = S at *
      have hw1 : wrap64 (S + z) = S + z := by
        clear Hs HI Hsl Htk hs64 hx hd2 hk
        unfold wrap64
        omega
      have hkl : (k : Int) < zs.length := by omega
      clear hz htk hk0 hk1
      go_wp2
      go_roundw
      case rel => exact ⟨k + 1, by omega, by go_num, by rw [Htk.out, hw1], hu⟩
      case measure => simp [intOf]; omega
    · obtain rfl : k = zs.length := by omega
      have hI5 := (HI.out.1.below hu).mono hu.size
      have hW5 := (HI.out.2.below hu).mono hu.size
      have hB5 := hB4.trans (hu.mono hB4.size)
      have hsum : (zs.take zs.length).sum = s := by rw [List.take_length]; exact Hs.out.1
      rw [hsum]
      have Hj := Lib.hid Hs.out.2.1
      have Hl := Lib.hid (And.intro hI5 (And.intro hW5 hB5))
      clear hI5 hW5 hB5 hsum Hs
      go_wp2_with fail
      refine (join_any a _ cap zs rfl h80 av _ cv (splitL zs x) rfl wr Hl.out.1 Hl.out.2.1).mono ?_
      rintro e w6 ⟨rfl, hb6⟩
      have hB6 := Hl.out.2.2.trans (hb6.mono Hl.out.2.2.size)
      rw [Hj.out]
      clear Hl Hj hb6 HI Hsl
      generalize splitL zs x = ws at *
      by_cases h64 : s = 64
      · subst h64
        have hm : x % 2 ^ 64 = x := Nat.mod_eq_of_lt hx
        rw [hm]
        go_wp2_with fail
        refine (awake_any w6).mono ?_
        rintro e w7 ⟨rfl, hb7⟩
        have hB7 := hB6.trans (hb7.mono hB6.size)
        go_wp2
        go_ret
        exact ⟨rfl, hB7⟩
      · have hs63 : (s : Int) < 64 := by omega
        have hcs : IntKind.u64.wrap (s : Int) = s := wrap_nat (by omega)
        have hand := and_low (s := s) (by omega) hx
        generalize x % 2 ^ s = z at *
        go_wp2_with fail
        refine (awake_any w6).mono ?_
        rintro e w7 ⟨rfl, hb7⟩
        have hB7 := hB6.trans (hb7.mono hB6.size)
        go_wp2
        go_ret
        exact ⟨rfl, hB7⟩

set_option maxRecDepth 100000 in
set_option maxHeartbeats 4000000 in
theorem walk_y (a : Option Addr) (cap : Nat) (zs : List Int) (a2 : Option Addr) (cap2 : Nat) (xs : List Nat) (x : Nat) (w : World) (hI : Ints w.heap.size w a zs) (hX : Words w.heap.size w a2 xs) (hx : W64 x) (h80 : zs.length ≤ 80) (hx80 : xs.length ≤ 80) (he : rowE 0 zs = 0) (hj : (joinE zs xs).2 = 0) : Calls Try.prog 10 #[.slice a zs.length cap, .slice a2 xs.length cap2, .int .u64 x] w (Ret (.bool true) w) := by
  have hnot := hnot
  have hd : decide ((zs.length : Int) ≤ 80) = true := decide_eq_true (by omega)
  have hd2 : (xs.length : Int) ≤ 80 := by omega
  go_enter Try.func10, Try.ntmps10
  go_wp2_with fail
  refine (few_any a zs.length cap w).mono ?_
  rintro e w0 ⟨rfl, hb0⟩
  rw [hd]
  have hI0 := (hI.below hb0).mono hb0.size
  have hX0 := (hX.below hb0).mono hb0.size
  go_wp2_with fail
  refine (join_any a _ cap zs rfl h80 a2 _ cap2 xs rfl w0 hI0 hX0).mono ?_
  rintro e w1 ⟨rfl, hb1⟩
  have hB1 := hb0.trans (hb1.mono hb0.size)
  have hI1 := (hI0.below hb1).mono hb1.size
  have hX1 := (hX0.below hb1).mono hb1.size
  clear hI hX hI0 hX0 hb0 hb1 hd
  obtain ⟨_, hjw, hjs⟩ := whole_a hj
  generalize joinE zs xs = je at *
  obtain ⟨j1, j2⟩ := je
  simp only at hj hjw hjs
  subst hj
  have Hjs := Lib.hid hjs
  clear hjs
  go_wp2_with fail
  refine (split_any a _ cap zs j1 hjw rfl h80 w1 hI1).mono ?_
  rintro e w2 ⟨v, rfl, hb2, hv0, hv1⟩
  obtain ⟨au, cu, rfl, hWu⟩ := split_words hv0 hv1
  rw [Hjs.out] at hWu
  rw [Hjs.out, he]
  have hI2 := (hI1.below hb2).mono hb2.size
  have hX2 := (hX1.below hb2).mono hb2.size
  have hB2 := hB1.trans (hb2.mono hB1.size)
  have HW := Lib.hid (And.intro hX2 hWu)
  clear hv0 hv1 hb2 hWu hX2 hI1 hX1 hB1 Hjs
  go_wp2_with fail
  refine (words_eq a2 au cap2 cu xs w2 hx80 HW.out.1 HW.out.2).mono ?_
  rintro e w3 ⟨rfl, hb3⟩
  have hI3 := (hI2.below hb3).mono hb3.size
  have hB3 := hB2.trans (hb3.mono hB2.size)
  clear hb3 hI2 hB2 HW
  go_wp2_with fail
  refine (split_any a _ cap zs x hx rfl h80 w3 hI3).mono ?_
  rintro e w4 ⟨v, rfl, hb4, hv0, hv1⟩
  have hI4 := (hI3.below hb4).mono hb4.size
  obtain ⟨av, cv, rfl, hW⟩ := split_words hv0 hv1
  have hB4 := hB3.trans (hb4.mono hB3.size)
  rw [he]
  have Hsl := Lib.hid (split_len zs x h80)
  have HI := Lib.hid (And.intro hI4 hW)
  obtain ⟨s, hs, hs64, hjoin⟩ := whole_b he hx
  have Hs := Lib.hid (And.intro hs (And.intro hjoin (fun k => sums zs 0 (by omega) (by omega) he k)))
  clear hv0 hv1 hb4 hI4 hW hs hjoin hI3 hB3
  go_wp2_with fail
  go_loopw [13, 14] (RelA w4 zs) (fun _ i _ => zs.length - (intOf i).toNat)
  case atStart => exact ⟨0, by omega, rfl, by simp, Below.refl _ _⟩
  case round =>
    obtain ⟨k, hk, rfl, rfl, hu⟩ := hrel
    by_cases hlt : k < zs.length
    · obtain ⟨z, hz⟩ : ∃ z, zs[k]? = some z := ⟨zs[k], List.getElem?_eq_getElem hlt⟩
      obtain ⟨b, off, rfl, hbl, hc⟩ := (HI.out.1.below hu) k z hz
      have hk0 := Hs.out.2.2 k
      have hk1 := Hs.out.2.2 (k + 1)
      have htk : (zs.take (k + 1)).sum = (zs.take k).sum + z := by rw [List.take_add_one, hz]; simp
      have Htk := Lib.hid htk
      rw [htk] at hk1
      generalize (zs.take k).sum = S at *
      have hw1 : wrap64 (S + z) = S + z := by
        clear Hs HI Hsl Htk hs64 hx hd2 hk
        unfold wrap64
        omega
      have hkl : (k : Int) < zs.length := by omega
      clear hz htk hk0 hk1
      go_wp2
      go_roundw
      case rel => exact ⟨k + 1, by omega, by go_num, by rw [Htk.out, hw1], hu⟩
      case measure => simp [intOf]; omega
    · obtain rfl : k = zs.length := by omega
      have hI5 := (HI.out.1.below hu).mono hu.size
      have hW5 := (HI.out.2.below hu).mono hu.size
      have hB5 := hB4.trans (hu.mono hB4.size)
      have hsum : (zs.take zs.length).sum = s := by rw [List.take_length]; exact Hs.out.1
      rw [hsum]
      have Hj := Lib.hid Hs.out.2.1
      have Hl := Lib.hid (And.intro hI5 (And.intro hW5 hB5))
      clear hI5 hW5 hB5 hsum Hs
      go_wp2_with fail
      refine (join_any a _ cap zs rfl h80 av _ cv (splitL zs x) rfl wr Hl.out.1 Hl.out.2.1).mono ?_
      rintro e w6 ⟨rfl, hb6⟩
      have hB6 := Hl.out.2.2.trans (hb6.mono Hl.out.2.2.size)
      rw [Hj.out]
      clear Hl Hj hb6 HI Hsl
      generalize splitL zs x = ws at *
      by_cases h64 : s = 64
      · subst h64
        have hm : x % 2 ^ 64 = x := Nat.mod_eq_of_lt hx
        rw [hm]
        go_wp2_with fail
        refine (awake_any w6).mono ?_
        rintro e w7 ⟨rfl, hb7⟩
        have hB7 := hB6.trans (hb7.mono hB6.size)
        go_wp2
        go_ret
        exact ⟨rfl, hB7⟩
      · have hs63 : (s : Int) < 64 := by omega
        have hcs : IntKind.u64.wrap (s : Int) = s := wrap_nat (by omega)
        have hand := and_low (s := s) (by omega) hx
        generalize x % 2 ^ s = z at *
        go_wp2_with fail
        refine (awake_any w6).mono ?_
        rintro e w7 ⟨rfl, hb7⟩
        have hB7 := hB6.trans (hb7.mono hB6.size)
        go_wp2
        go_ret
        exact ⟨rfl, hB7⟩

theorem walk_ok (a : Option Addr) (cap : Nat) (zs : List Int) (a2 : Option Addr) (cap2 : Nat) (xs : List Nat) (x : Nat) (w : World) (hI : Ints w.heap.size w a zs) (hX : Words w.heap.size w a2 xs) (hx : W64 x) (h80 : zs.length ≤ 80) (hx80 : xs.length ≤ 80) : Calls Try.prog 10 #[.slice a zs.length cap, .slice a2 xs.length cap2, .int .u64 x] w (Ret (.bool true) w) := by
  by_cases he : rowE 0 zs = 0
  · by_cases hj : (joinE zs xs).2 = 0
    · exact walk_y a cap zs a2 cap2 xs x w hI hX hx h80 hx80 he hj
    · exact walk_n a cap zs a2 cap2 xs x w hI hX hx h80 hx80 he hj
  · exact walk_e a cap zs a2 cap2 xs x w hI hX hx h80 hx80 he

theorem walk (a : Option Addr) (len cap : Nat) (zs : List Int) (a2 : Option Addr) (len2 cap2 : Nat) (xs : List Nat) (x : Nat) (w : World) (hl : len = zs.length) (hl2 : len2 = xs.length) (hI : Ints w.heap.size w a zs) (hX : Words w.heap.size w a2 xs) (hx : W64 x) :
    Calls Try.prog 10 #[.slice a len cap, .slice a2 len2 cap2, .int .u64 x] w (Ret (.bool true) w) := by
  subst hl hl2
  by_cases h80 : zs.length ≤ 80
  · by_cases hx80 : xs.length ≤ 80
    · exact walk_ok a cap zs a2 cap2 xs x w hI hX hx h80 hx80
    · exact walk_b2 a cap zs a2 cap2 xs x w hI hX hx h80 (by omega)
  · exact walk_b1 a cap zs a2 cap2 xs x w hI hX hx (by omega)

set_option maxRecDepth 100000 in
theorem lifted (os : Os) (started : os.Started) (H : Type) (enc : TypeId × Value → H) :
    ReturnsInHanded {} Try.checked os 10 .any (Rows.bitsWholeSpec.pre6 enc Try.prog Try.f10 Rows.bitsWholeRow.domain false) (Rows.bitsWholeSpec.post enc Try.prog Try.f10 false true false false) := by
  refine returnsInHanded_of_change (C := Try.checked) own started (by kernel_rfl) Try.func10
    (ChangeSpec.witness6 (enc := enc) (C := Try.checked) false ⟨#[], #[.slice none 0 0, .slice none 0 0, .int .u64 0], []⟩ 8 (by kernel_rfl) (by kernel_rfl) (by kernel_rfl) (by kernel_rfl)) ?_
  intro W base args ds gs before hval0 hW _ _
  have hval : ∀ (j : Nat) t v, Try.f10.params[j]? = some t → args[j]? = some v → Value.okWide Try.prog W .any base t v := hval0
  have hW' := hW
  obtain ⟨p, q, hA0, hV, rfl, _, _⟩ := hW
  have hA : DataW.TrodAll enc Try.prog W 0 (fun _ => true) true Try.f10.params.toList args.toList ds p := hA0
  rw [Try.params10] at hA hval
  obtain ⟨v0, vs0, d0, ds0, p0, q0, hargs, rfl, rfl, h0, r0⟩ := trodAll_cons hA
  obtain ⟨v1, vs1, d1, ds1, p1, q1, rfl, rfl, rfl, h1, r1⟩ := trodAll_cons r0
  obtain ⟨v2, vs2, d2, ds2, p2, q2, rfl, rfl, rfl, h2, r2⟩ := trodAll_cons r1
  obtain ⟨rfl, rfl, rfl⟩ := trodAll_nil r2
  obtain rfl : args = #[v0, v1, v2] := by cases args; simp_all
  obtain ⟨rfl, rfl⟩ := trodVars_none hV
  have k0 := h0
  have lt0 : ∀ x ∈ p0, x.block < W.heap.size := by obtain ⟨m, hm⟩ := k0; exact DataW.trod_lt m _ _ _ hm
  obtain ⟨sa0, len0, cap0, rfl⟩ := okWide_slice Try.underlying48 (hval 0 48 v0 rfl rfl)
  obtain ⟨zs0, hl0, hi0⟩ := lens_of h0
  have k1 := h1
  have lt1 : ∀ x ∈ p1, x.block < W.heap.size := by obtain ⟨m, hm⟩ := k1; exact DataW.trod_lt m _ _ _ hm
  obtain ⟨sa1, len1, cap1, rfl⟩ := okWide_slice Try.underlying56 (hval 1 56 v1 rfl rfl)
  obtain ⟨xs1, hl1, hi1⟩ := words_of h1
  have k2 := h2
  have lt2 : ∀ x ∈ p2, x.block < W.heap.size := by obtain ⟨m, hm⟩ := k2; exact DataW.trod_lt m _ _ _ hm
  obtain ⟨b2, rfl, _, _, wf2⟩ := open_int Try.underlying24 (hval 2 24 v2 rfl rfl) h2
  obtain ⟨a2, rfl, u2⟩ := u64_nat wf2
  clear hA0 hval0
  refine (walk sa0 len0 cap0 zs0 sa1 len1 cap1 xs1 a2 W hl0 hl1 hi0 hi1 u2).mono fun e W' ⟨he, bel⟩ => ?_
  subst he
  exact ⟨_, rfl, _, _, _, [], _, [], hW', trodAll_mk1 (shut_bool Try.underlying4 _), (trodAll_cons_mk (Below.trod laidOut (by kernel_rfl) (of_decide_eq_true (by kernel_rfl)) k0 bel lt0) (trodAll_cons_mk (Below.trod laidOut (by kernel_rfl) (of_decide_eq_true (by kernel_rfl)) k1 bel lt1) (trodAll_cons_mk (Below.trod laidOut (by kernel_rfl) (of_decide_eq_true (by kernel_rfl)) k2 bel lt2) trodAll_mk0))), rfl, bel.frame _, fun h => by cases h⟩

theorem over : Rows.bitsWholeRow.holds Try.pinned (OpenSpec.ofChange Rows.bitsWholeSpec) :=
  OpenClaim.holds_of_wide 10 Try.f10 rfl rfl rfl rfl rfl rfl rfl ⟨rfl, rfl, rfl, rfl, rfl⟩ rfl rfl rfl rfl rfl (by kernel_rfl) Try.func10 (by kernel_rfl)
    (of_decide_eq_true (by kernel_rfl)) (by unfold Func.isWrapper; first | (rw [if_pos (by decide +kernel)]; kernel_rfl) | (rw [if_neg (by decide +kernel)]; exact ⟨rfl, rfl⟩))
    (fun os started H enc _ => lifted os started H enc)

theorem proved : Rows.BitsWholeSaid := over
#print axioms proved
end Go.Proofs.Ytknhbpifkpcpnaa.bitsWhole
