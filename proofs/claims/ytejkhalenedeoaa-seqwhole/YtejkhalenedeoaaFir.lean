/- First, and the document's Whole, Kept and First. -/
import Derived.Test.YtejkhalenedeoaaKep
namespace Go.Proofs.Ytejkhalenedeoaa
open Go.RowKit

theorem fi_no {s d : Int} (h : ¬ (2 ≤ d ∧ d ≤ 16)) : fi s d = 0 := if_neg h
theorem fi_ok {s d : Int} (hd : 2 ≤ d) (hd2 : d ≤ 16) : fi s d = if bg s < d then 0 else bg s - d + 1 := if_pos ⟨hd, hd2⟩
theorem fi_in {s d : Int} (hs : W64 s) : 0 ≤ fi s d ∧ fi s d ≤ s / 2 := by
  unfold W64 at hs
  unfold fi bg
  split
  · split <;> omega
  · omega
/-- Just those from First on are Kept. -/
theorem kp_fi {s g d : Int} (hd : 2 ≤ d) (hd2 : d ≤ 16) (hg : 0 ≤ g) (hgs : g ≤ s / 2) : kp s g d = decide (fi s d ≤ g) := by
  rw [fi_ok hd hd2]
  by_cases h : bg s - g < d
  · rw [kp_t ⟨hd, hd2, hgs, h⟩, eq_comm, decide_eq_true_eq]
    split <;> omega
  · rw [kp_f (fun c => h c.2.2.2), eq_comm, decide_eq_false_iff_not]
    split <;> omega

def RelF (w : World) (F m : Int) (v : Value) (W : World) : Prop := ∃ x : Int, v = .int .u64 x ∧ F ≤ x ∧ x ≤ m ∧ Below w.heap.size w W

set_option maxHeartbeats 1000000 in
theorem first_no (s d : Int) (h : ¬ (2 ≤ d ∧ d ≤ 16)) (w : World) : Calls Try.prog 20 #[.int .u64 s, .int .i64 d] w (Ret (.int .u64 0) w) := by
  have hm := fun w => may_any d w
  simp only [inB_f h] at hm
  have Hm := Lib.hid hm
  clear hm
  go_enter Try.func20, Try.ntmps20
  go_wp2_with fail
  refine (Hm.out _).mono ?_
  rintro e w' ⟨rfl, rfl⟩
  go_wp2
  go_ret
  exact ⟨rfl, Below.refl _ _⟩
set_option maxHeartbeats 1000000 in
theorem first_ok (s d : Int) (hs : W64 s) (hd : 2 ≤ d) (hd2 : d ≤ 16) (w : World) : Calls Try.prog 20 #[.int .u64 s, .int .i64 d] w (Ret (.int .u64 (fi s d)) w) := by
  have hm := fun w => may_any d w
  simp only [inB_t hd hd2] at hm
  have Hm := Lib.hid hm
  have Hs := Lib.hid hs
  have Hk := Lib.hid (fun g (h1 : 0 ≤ g) (h2 : g ≤ s / 2) => kp_fi (s := s) (d := d) hd hd2 h1 h2)
  obtain ⟨f0, f1⟩ := fi_in (d := d) hs
  have hh := (w64_half hs).2
  clear hm hs
  generalize fi s d = F at *
  go_enter Try.func20, Try.ntmps20
  go_wp2_with fail
  refine (Hm.out _).mono ?_
  rintro e w' ⟨rfl, rfl⟩
  go_wp2_with fail
  refine (gen_any s Hs.out _).mono ?_
  rintro e w' ⟨rfl, rfl⟩
  go_wp2_with fail
  go_loopw [5] (RelF w F (s / 2)) (fun i _ => (intOf i).toNat)
  case atStart => exact ⟨s / 2, rfl, f1, Int.le_refl _, Below.refl _ _⟩
  case round =>
    obtain ⟨x, rfl, hx1, hx2, hb⟩ := hrel
    have Hb := Lib.hid hb
    clear hb
    by_cases h0 : x = 0
    · subst h0
      have hF : F = 0 := by omega
      subst hF
      go_wp2
      go_ret
      exact ⟨rfl, Hb.out⟩
    have hp : 0 < x := by omega
    have mp : decide (0 < x) = true := decide_eq_true hp
    have hx3 : x < 18446744073709551616 := by omega
    by_cases hF : x = F
    · have hk := kept_any s (x - 1) d Hs.out ⟨by omega, by omega⟩ wr
      rw [Hk.out (x - 1) (by omega) (by omega), decide_eq_false (by omega)] at hk
      have HK := Lib.hid hk
      clear hk
      subst hF
      go_wp2_with fail
      refine HK.out.mono ?_
      rintro e w' ⟨rfl, hb⟩
      have Hb2 := Lib.hid (Hb.out.trans (hb.mono Hb.out.size))
      clear hb
      go_wp2
      go_ret
      exact ⟨rfl, Hb2.out⟩
    · have hk := kept_any s (x - 1) d Hs.out ⟨by omega, by omega⟩ wr
      rw [Hk.out (x - 1) (by omega) (by omega), decide_eq_true (by omega)] at hk
      have HK := Lib.hid hk
      clear hk
      go_wp2_with fail
      refine HK.out.mono ?_
      rintro e w' ⟨rfl, hb⟩
      have Hb2 := Lib.hid (Hb.out.trans (hb.mono Hb.out.size))
      clear hb
      go_wp2
      go_roundw
      case rel => exact ⟨x - 1, rfl, by omega, by omega, Hb2.out⟩
      case measure => simp [intOf]; omega
theorem first_any (s d : Int) (hs : W64 s) (w : World) : Calls Try.prog 20 #[.int .u64 s, .int .i64 d] w (Ret (.int .u64 (fi s d)) w) := by
  by_cases h : 2 ≤ d ∧ d ≤ 16
  · exact first_ok s d hs h.1 h.2 w
  · rw [fi_no h]
    exact first_no s d h w

set_option maxHeartbeats 1000000 in
theorem whole_any (s g d : Int) (hs : W64 s) (hg : W64 g) (hd : 2 ≤ d) (hd2 : d ≤ 16) (w : World) : Calls Try.prog 26 #[.int .u64 s, .int .u64 g, .int .i64 d] w (Ret (.bool (kp s g d)) w) := by
  have Hs := Lib.hid hs
  have hh := (w64_half hs).2
  obtain ⟨g0, g1⟩ := hg
  have d0 : 0 ≤ d := by omega
  have d1 : d < 18446744073709551616 := by omega
  by_cases h : s / 2 < g
  · rw [kp_f (by omega)]
    have m0 : decide (s / 2 < g) = true := decide_eq_true h
    clear hs
    go_enter Try.func26, Try.ntmps26
    go_wp2_with fail
    refine (rgen_any s Hs.out _).mono ?_
    rintro e w' ⟨rfl, rfl⟩
    go_wp2
    go_ret
    exact ⟨rfl, Below.refl _ _⟩
  have m0 : decide (s / 2 < g) = false := decide_eq_false h
  have hkp : kp s g d = kd (bg s) g d := by unfold kp kd; simp [hd, hd2, show g ≤ s / 2 by omega]
  rw [hkp]
  have k1 : 0 ≤ s / 2 - g := by omega
  have k2 : s / 2 - g < 9223372036854775808 := by omega
  rcases (show s % 2 = 0 ∨ s % 2 = 1 by omega) with h2 | h2
  · have hb : bg s = s / 2 := by unfold bg; omega
    have hc := rheld_any s hs
    rw [hl_f h2] at hc
    have Hc := Lib.hid hc
    rw [hb]
    clear hc hb hkp hs
    have hv : kd (s / 2) g d = decide (s / 2 - g < d) := rfl
    have Hv := Lib.hid hv
    clear hv
    go_enter Try.func26, Try.ntmps26
    go_wp2_with fail
    refine (rgen_any s Hs.out _).mono ?_
    rintro e w' ⟨rfl, rfl⟩
    go_wp2_with fail
    refine (Hc.out _).mono ?_
    rintro e w' ⟨rfl, rfl⟩
    go_wp2
    go_ret
    exact ⟨rfl, Below.refl _ _⟩
  · have hb : bg s = s / 2 + 1 := by unfold bg; omega
    have hc := rheld_any s hs
    rw [hl_t h2] at hc
    have Hc := Lib.hid hc
    rw [hb]
    clear hc hb hkp hs
    go_enter Try.func26, Try.ntmps26
    go_wp2_with fail
    refine (rgen_any s Hs.out _).mono ?_
    rintro e w' ⟨rfl, rfl⟩
    go_wp2_with fail
    refine (Hc.out _).mono ?_
    rintro e w' ⟨rfl, rfl⟩
    go_wp2
    go_ret
    refine ⟨?_, Below.refl _ _⟩
    have hv : kd (s / 2 + 1) g d = decide (s / 2 - g + 1 < d) := by unfold kd; rw [show s / 2 + 1 - g = s / 2 - g + 1 by omega]
    rw [hv]
    rfl
set_option maxHeartbeats 1000000 in
theorem rkept_any (s g d : Int) (hs : W64 s) (hg : W64 g) (w : World) : Calls Try.prog 19 #[.int .u64 s, .int .u64 g, .int .i64 d] w (Ret (.bool (kp s g d)) w) := by
  by_cases k : 2 ≤ d ∧ d ≤ 16
  · have hm := fun w => rmay_any d w
    simp only [inB_t k.1 k.2] at hm
    have Hm := Lib.hid hm
    have Hw := Lib.hid (whole_any s g d hs hg k.1 k.2)
    clear hm k hs hg
    go_enter Try.func19, Try.ntmps19
    go_wp2_with fail
    refine (Hm.out _).mono ?_
    rintro e w' ⟨rfl, rfl⟩
    go_wp2_with fail
    refine (Hw.out _).mono ?_
    rintro e w' ⟨rfl, hb⟩
    go_wp2
    go_ret
    exact ⟨rfl, hb⟩
  · rw [kp_f (fun c => k ⟨c.1, c.2.1⟩)]
    have hm := fun w => rmay_any d w
    simp only [inB_f k] at hm
    have Hm := Lib.hid hm
    clear hm k
    go_enter Try.func19, Try.ntmps19
    go_wp2_with fail
    refine (Hm.out _).mono ?_
    rintro e w' ⟨rfl, rfl⟩
    go_wp2
    go_ret
    exact ⟨rfl, Below.refl _ _⟩

set_option maxHeartbeats 1000000 in
theorem rfirst_no (s d : Int) (h : ¬ (2 ≤ d ∧ d ≤ 16)) (w : World) : Calls Try.prog 21 #[.int .u64 s, .int .i64 d] w (Ret (.int .u64 0) w) := by
  have hm := fun w => rmay_any d w
  simp only [inB_f h] at hm
  have Hm := Lib.hid hm
  clear hm
  go_enter Try.func21, Try.ntmps21
  go_wp2_with fail
  refine (Hm.out _).mono ?_
  rintro e w' ⟨rfl, rfl⟩
  go_wp2
  go_ret
  exact ⟨rfl, Below.refl _ _⟩
set_option maxHeartbeats 1000000 in
theorem rfirst_ok (s d : Int) (hs : W64 s) (hd : 2 ≤ d) (hd2 : d ≤ 16) (w : World) : Calls Try.prog 21 #[.int .u64 s, .int .i64 d] w (Ret (.int .u64 (fi s d)) w) := by
  have hm := fun w => rmay_any d w
  simp only [inB_t hd hd2] at hm
  have Hm := Lib.hid hm
  have Hs := Lib.hid hs
  have Hk := Lib.hid (fun g (h1 : 0 ≤ g) (h2 : g ≤ s / 2) => kp_fi (s := s) (d := d) hd hd2 h1 h2)
  obtain ⟨f0, f1⟩ := fi_in (d := d) hs
  have hh := (w64_half hs).2
  clear hm hs
  generalize fi s d = F at *
  go_enter Try.func21, Try.ntmps21
  go_wp2_with fail
  refine (Hm.out _).mono ?_
  rintro e w' ⟨rfl, rfl⟩
  go_wp2_with fail
  refine (rgen_any s Hs.out _).mono ?_
  rintro e w' ⟨rfl, rfl⟩
  go_wp2_with fail
  go_loopw [5] (RelF w F (s / 2)) (fun i _ => (intOf i).toNat)
  case atStart => exact ⟨s / 2, rfl, f1, Int.le_refl _, Below.refl _ _⟩
  case round =>
    obtain ⟨x, rfl, hx1, hx2, hb⟩ := hrel
    have Hb := Lib.hid hb
    clear hb
    by_cases h0 : x = 0
    · subst h0
      have hF : F = 0 := by omega
      subst hF
      go_wp2
      go_ret
      exact ⟨rfl, Hb.out⟩
    have hp : 0 < x := by omega
    have mp : decide (0 < x) = true := decide_eq_true hp
    have hx3 : x < 18446744073709551616 := by omega
    by_cases hF : x = F
    · have hk := whole_any s (x - 1) d Hs.out ⟨by omega, by omega⟩ hd hd2 wr
      rw [Hk.out (x - 1) (by omega) (by omega), decide_eq_false (by omega)] at hk
      have HK := Lib.hid hk
      clear hk
      subst hF
      go_wp2_with fail
      refine HK.out.mono ?_
      rintro e w' ⟨rfl, hb⟩
      have Hb2 := Lib.hid (Hb.out.trans (hb.mono Hb.out.size))
      clear hb
      go_wp2
      go_ret
      exact ⟨rfl, Hb2.out⟩
    · have hk := whole_any s (x - 1) d Hs.out ⟨by omega, by omega⟩ hd hd2 wr
      rw [Hk.out (x - 1) (by omega) (by omega), decide_eq_true (by omega)] at hk
      have HK := Lib.hid hk
      clear hk
      go_wp2_with fail
      refine HK.out.mono ?_
      rintro e w' ⟨rfl, hb⟩
      have Hb2 := Lib.hid (Hb.out.trans (hb.mono Hb.out.size))
      clear hb
      go_wp2
      go_roundw
      case rel => exact ⟨x - 1, rfl, by omega, by omega, Hb2.out⟩
      case measure => simp [intOf]; omega
theorem rfirst_any (s d : Int) (hs : W64 s) (w : World) : Calls Try.prog 21 #[.int .u64 s, .int .i64 d] w (Ret (.int .u64 (fi s d)) w) := by
  by_cases h : 2 ≤ d ∧ d ≤ 16
  · exact rfirst_ok s d hs h.1 h.2 w
  · rw [fi_no h]
    exact rfirst_no s d h w

end Go.Proofs.Ytejkhalenedeoaa
