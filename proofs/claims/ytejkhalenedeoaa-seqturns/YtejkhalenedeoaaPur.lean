/- What sequences tell: the contracts of functions without a loop. -/
import Derived.Test.YtejkhalenedeoaaMem
import Derived.Test.YtejkhalenedeoaaChecked
import Derived.BigQuiet
namespace Go.Proofs.Ytejkhalenedeoaa
open Go.RowKit

/-- Whether a number lies in a range. -/
def inB (n a b : Int) : Bool := decide (a ≤ n) && decide (n ≤ b)
theorem inB_t {n a b : Int} (h1 : a ≤ n) (h2 : n ≤ b) : inB n a b = true := by simp [inB, h1, h2]
theorem inB_1 {n a b : Int} (h1 : n < a) : inB n a b = false := by
  have : ¬ a ≤ n := by omega
  simp [inB, this]
theorem inB_2 {n a b : Int} (h1 : b < n) : inB n a b = false := by
  have : ¬ n ≤ b := by omega
  simp [inB, this]
theorem inB_f {n a b : Int} (h : ¬ (a ≤ n ∧ n ≤ b)) : inB n a b = false := by
  by_cases k : a ≤ n
  · exact inB_2 (by omega)
  · exact inB_1 (by omega)
/-- Held. -/
def hl (s : Int) : Bool := s % 2 == 1
theorem hl_t {s : Int} (h : s % 2 = 1) : hl s = true := by simp [hl, h]
theorem hl_f {s : Int} (h : s % 2 = 0) : hl s = false := by simp [hl, h]
/-- The last generation whose place was written into. -/
def bg (s : Int) : Int := s / 2 + s % 2
/-- How many came behind. -/
def sn (s g : Int) : Int := if s / 2 < g then 0 else s / 2 - g
/-- Kept. -/
def kp (s g d : Int) : Bool := decide (2 ≤ d ∧ d ≤ 16 ∧ g ≤ s / 2 ∧ bg s - g < d)
theorem kp_t {s g d : Int} (h : 2 ≤ d ∧ d ≤ 16 ∧ g ≤ s / 2 ∧ bg s - g < d) : kp s g d = true := decide_eq_true h
theorem kp_f {s g d : Int} (h : ¬ (2 ≤ d ∧ d ≤ 16 ∧ g ≤ s / 2 ∧ bg s - g < d)) : kp s g d = false := decide_eq_false h
/-- First. -/
def fi (s d : Int) : Int := if 2 ≤ d ∧ d ≤ 16 then (if bg s < d then 0 else bg s - d + 1) else 0
theorem w64_half {s : Int} (h : W64 s) : W64 (s / 2) ∧ s / 2 ≤ 9223372036854775807 := by
  unfold W64 at *
  omega

theorem gen_any (s : Int) (hs : W64 s) (w : World) : Calls Try.prog 9 #[.int .u64 s] w (Pur (.int .u64 (s / 2)) w) := by
  obtain ⟨h0, h1⟩ := hs
  go_enter Try.func9, Try.ntmps9
  go_wp2
  go_ret
  exact ⟨rfl, rfl⟩
theorem rgen_any (s : Int) (hs : W64 s) (w : World) : Calls Try.prog 10 #[.int .u64 s] w (Pur (.int .u64 (s / 2)) w) := by
  obtain ⟨h0, h1⟩ := hs
  go_enter Try.func10, Try.ntmps10
  go_wp2
  go_ret
  exact ⟨rfl, rfl⟩
theorem held_any (s : Int) (hs : W64 s) (w : World) : Calls Try.prog 11 #[.int .u64 s] w (Pur (.bool (hl s)) w) := by
  obtain ⟨h0, h1⟩ := hs
  go_enter Try.func11, Try.ntmps11
  go_wp2
  go_ret
  exact ⟨rfl, rfl⟩
theorem rheld_any (s : Int) (hs : W64 s) (w : World) : Calls Try.prog 12 #[.int .u64 s] w (Pur (.bool (hl s)) w) := by
  obtain ⟨h0, h1⟩ := hs
  go_enter Try.func12, Try.ntmps12
  go_wp2
  go_ret
  exact ⟨rfl, rfl⟩
theorem in_u64 (n a b : Int) (w : World) : Calls Try.prog 22 #[.int .u64 n, .int .u64 a, .int .u64 b] w (Pur (.bool (inB n a b)) w) := by
  go_enter Try.func22, Try.ntmps22
  go_wp2
  · go_ret
    exact ⟨by simp_all [inB], rfl⟩
  · go_ret
    exact ⟨by rw [inB_1 (by assumption)]; rfl, rfl⟩
theorem in_int (n a b : Int) (w : World) : Calls Try.prog 27 #[.int .i64 n, .int .i64 a, .int .i64 b] w (Pur (.bool (inB n a b)) w) := by
  go_enter Try.func27, Try.ntmps27
  go_wp2
  · go_ret
    exact ⟨by simp_all [inB], rfl⟩
  · go_ret
    exact ⟨by rw [inB_1 (by assumption)]; rfl, rfl⟩
theorem may_any (d : Int) (w : World) : Calls Try.prog 23 #[.int .i64 d] w (Pur (.bool (inB d 2 16)) w) := by
  go_enter Try.func23, Try.ntmps23
  go_wp2_with fail
  refine (in_int _ _ _ _).mono ?_
  rintro e w' ⟨rfl, rfl⟩
  go_wp2
  go_ret
  exact ⟨rfl, rfl⟩
theorem rmay_any (d : Int) (w : World) : Calls Try.prog 25 #[.int .i64 d] w (Pur (.bool (inB d 2 16)) w) := by
  go_enter Try.func25, Try.ntmps25
  go_wp2
  · go_ret
    exact ⟨by simp_all [inB], rfl⟩
  · go_ret
    exact ⟨by rw [inB_1 (by omega)]; rfl, rfl⟩
theorem begun_any (s : Int) (hs : W64 s) (w : World) : Calls Try.prog 24 #[.int .u64 s] w (Pur (.int .u64 (bg s)) w) := by
  have Hs := Lib.hid hs
  have hh := w64_half hs
  obtain ⟨h0, h1⟩ := hs
  rcases (show s % 2 = 0 ∨ s % 2 = 1 by omega) with h | h
  · have hb : bg s = s / 2 := by unfold bg; omega
    rw [hb]
    have hc := held_any s Hs.out
    rw [hl_f h] at hc
    have Hc := Lib.hid hc
    clear hc hb hh
    go_enter Try.func24, Try.ntmps24
    go_wp2_with fail
    refine (Hc.out _).mono ?_
    rintro e w' ⟨rfl, rfl⟩
    go_wp2_with fail
    refine (gen_any s Hs.out _).mono ?_
    rintro e w' ⟨rfl, rfl⟩
    go_wp2
    go_ret
    exact ⟨rfl, rfl⟩
  · have hb : bg s = s / 2 + 1 := by unfold bg; omega
    rw [hb]
    have hc := held_any s Hs.out
    rw [hl_t h] at hc
    have Hc := Lib.hid hc
    have Hh := Lib.hid hh
    clear hc hb hh
    go_enter Try.func24, Try.ntmps24
    go_wp2_with fail
    refine (Hc.out _).mono ?_
    rintro e w' ⟨rfl, rfl⟩
    go_wp2_with fail
    refine (gen_any s Hs.out _).mono ?_
    rintro e w' ⟨rfl, rfl⟩
    have h2 : s / 2 ≤ 9223372036854775807 := Hh.out.2
    go_wp2
    go_ret
    exact ⟨rfl, rfl⟩

theorem take_odd (s : Int) (hs : W64 s) (h : s % 2 = 1) (w : World) : Calls Try.prog 15 #[.int .u64 s] w (Pur (.tuple #[.int .u64 0, .int .i64 19]) w) := by
  have Hs := Lib.hid hs
  have hc := held_any s Hs.out
  rw [hl_t h] at hc
  have Hc := Lib.hid hc
  clear hc
  obtain ⟨h0, h1⟩ := hs
  go_enter Try.func15, Try.ntmps15
  go_wp2_with fail
  refine (Hc.out _).mono ?_
  rintro e w' ⟨rfl, rfl⟩
  go_wp2
  go_ret2
  exact ⟨rfl, rfl⟩
theorem take_even (s : Int) (hs : W64 s) (h : s % 2 = 0) (w : World) : Calls Try.prog 15 #[.int .u64 s] w (Pur (.tuple #[.int .u64 (s + 1), .int .i64 0]) w) := by
  have Hs := Lib.hid hs
  have hc := held_any s Hs.out
  rw [hl_f h] at hc
  have Hc := Lib.hid hc
  clear hc
  obtain ⟨h0, h1⟩ := hs
  have hlt : s + 1 < 18446744073709551616 := by omega
  go_enter Try.func15, Try.ntmps15
  go_wp2_with fail
  refine (Hc.out _).mono ?_
  rintro e w' ⟨rfl, rfl⟩
  go_wp2
  go_ret2
  exact ⟨rfl, rfl⟩
theorem give_even (s : Int) (hs : W64 s) (h : s % 2 = 0) (w : World) : Calls Try.prog 16 #[.int .u64 s] w (Pur (.tuple #[.int .u64 0, .int .i64 18]) w) := by
  have Hs := Lib.hid hs
  have hc := held_any s Hs.out
  rw [hl_f h] at hc
  have Hc := Lib.hid hc
  clear hc
  obtain ⟨h0, h1⟩ := hs
  go_enter Try.func16, Try.ntmps16
  go_wp2_with fail
  refine (Hc.out _).mono ?_
  rintro e w' ⟨rfl, rfl⟩
  go_wp2
  go_ret2
  exact ⟨rfl, rfl⟩
theorem give_odd (s : Int) (hs : W64 s) (h : s % 2 = 1) (hm : s ≠ 18446744073709551615) (w : World) : Calls Try.prog 16 #[.int .u64 s] w (Pur (.tuple #[.int .u64 (s + 1), .int .i64 0]) w) := by
  have Hs := Lib.hid hs
  have hc := held_any s Hs.out
  rw [hl_t h] at hc
  have Hc := Lib.hid hc
  clear hc
  obtain ⟨h0, h1⟩ := hs
  have hlt : s + 1 < 18446744073709551616 := by omega
  have hne : (s == 18446744073709551615) = false := by simpa using hm
  go_enter Try.func16, Try.ntmps16
  go_wp2_with fail
  refine (Hc.out _).mono ?_
  rintro e w' ⟨rfl, rfl⟩
  go_wp2
  go_ret2
  exact ⟨rfl, rfl⟩
theorem give_max (w : World) : Calls Try.prog 16 #[.int .u64 18446744073709551615] w (Pur (.tuple #[.int .u64 0, .int .i64 10]) w) := by
  have Hs := Lib.hid (show W64 18446744073709551615 from ⟨by decide, by decide⟩)
  have hc := held_any 18446744073709551615 Hs.out
  rw [hl_t (by decide)] at hc
  have Hc := Lib.hid hc
  clear hc
  go_enter Try.func16, Try.ntmps16
  go_wp2_with fail
  refine (Hc.out _).mono ?_
  rintro e w' ⟨rfl, rfl⟩
  go_wp2
  go_ret2
  exact ⟨rfl, rfl⟩
theorem since_any (s g : Int) (hs : W64 s) (hg : W64 g) (w : World) : Calls Try.prog 13 #[.int .u64 s, .int .u64 g] w (Pur (.int .u64 (sn s g)) w) := by
  have Hs := Lib.hid hs
  obtain ⟨g0, g1⟩ := hg
  obtain ⟨s0, s1⟩ := hs
  by_cases h : s / 2 < g
  · have hv : sn s g = 0 := if_pos h
    rw [hv]
    have hi := fun w => in_u64 g 0 (s / 2) w
    simp only [inB_2 h] at hi
    have Hi := Lib.hid hi
    clear hi hv
    go_enter Try.func13, Try.ntmps13
    go_wp2_with fail
    refine (gen_any s Hs.out _).mono ?_
    rintro e w' ⟨rfl, rfl⟩
    go_wp2_with fail
    refine (Hi.out _).mono ?_
    rintro e w' ⟨rfl, rfl⟩
    go_wp2
    go_ret
    exact ⟨rfl, rfl⟩
  · have hv : sn s g = s / 2 - g := if_neg h
    rw [hv]
    have hi := fun w => in_u64 g 0 (s / 2) w
    simp only [inB_t g0 (by omega : g ≤ s / 2)] at hi
    have Hi := Lib.hid hi
    have k1 : 0 ≤ s / 2 - g := by omega
    have k2 : s / 2 - g < 18446744073709551616 := by omega
    have kw : (s / 2 - g) % 18446744073709551616 = s / 2 - g := by omega
    clear hi hv
    go_enter Try.func13, Try.ntmps13
    go_wp2_with fail
    refine (gen_any s Hs.out _).mono ?_
    rintro e w' ⟨rfl, rfl⟩
    go_wp2_with fail
    refine (Hi.out _).mono ?_
    rintro e w' ⟨rfl, rfl⟩
    go_wp2_with fail
    refine (gen_any s Hs.out _).mono ?_
    rintro e w' ⟨rfl, rfl⟩
    go_wp2
    go_ret
    exact ⟨rfl, rfl⟩
theorem rsince_any (s g : Int) (hs : W64 s) (hg : W64 g) (w : World) : Calls Try.prog 14 #[.int .u64 s, .int .u64 g] w (Pur (.int .u64 (sn s g)) w) := by
  have Hs := Lib.hid hs
  obtain ⟨g0, g1⟩ := hg
  obtain ⟨s0, s1⟩ := hs
  by_cases h : s / 2 < g
  · have hv : sn s g = 0 := if_pos h
    rw [hv]
    have m0 : decide (s / 2 < g) = true := decide_eq_true h
    clear hv
    go_enter Try.func14, Try.ntmps14
    go_wp2_with fail
    refine (rgen_any s Hs.out _).mono ?_
    rintro e w' ⟨rfl, rfl⟩
    go_wp2
    go_ret
    exact ⟨rfl, rfl⟩
  · have hv : sn s g = s / 2 - g := if_neg h
    rw [hv]
    have m0 : decide (s / 2 < g) = false := decide_eq_false h
    have k1 : 0 ≤ s / 2 - g := by omega
    have k2 : s / 2 - g < 18446744073709551616 := by omega
    have kw : (s / 2 - g) % 18446744073709551616 = s / 2 - g := by omega
    clear hv
    go_enter Try.func14, Try.ntmps14
    go_wp2_with fail
    refine (rgen_any s Hs.out _).mono ?_
    rintro e w' ⟨rfl, rfl⟩
    go_wp2_with fail
    refine (rgen_any s Hs.out _).mono ?_
    rintro e w' ⟨rfl, rfl⟩
    go_wp2
    go_ret
    exact ⟨rfl, rfl⟩
end Go.Proofs.Ytejkhalenedeoaa
