/- What of sequences is used: Kept, Gen, and the document's Kept. -/
import Derived.Test.YtajibhhmcjcchaaMem2
import Derived.Test.YtajibhhmcjcchaaChecked
import Derived.BigQuiet
import Derived.ScopeJumps
import Derived.WalkMore
namespace Go.Proofs.Ytajibhhmcjcchaa.Sq
open Go.RowKit Go.Proofs.Ytajibhhmcjcchaa

/-- Whether a number lies in a range. -/
def inB (n a b : Int) : Bool := decide (a ≤ n) && decide (n ≤ b)
theorem inB_t {n a b : Int} (h1 : a ≤ n) (h2 : n ≤ b) : inB n a b = true := by simp [inB, h1, h2]
theorem inB_1 {n a b : Int} (h1 : n < a) : inB n a b = false := by
  have : ¬ a ≤ n := by omega
  simp [inB, this]
theorem inB_2 {n a b : Int} (h1 : b < n) : inB n a b = false := by
  have : ¬ n ≤ b := by omega
  simp [inB, this]
theorem inB_f {n a b : Int} (h : ¬ (a ≤ n ∧ n ≤ b)) : inB n a b = false := by
  by_cases k : a ≤ n
  · exact inB_2 (by omega)
  · exact inB_1 (by omega)
/-- Held. -/
def hl (s : Int) : Bool := s % 2 == 1
theorem hl_t {s : Int} (h : s % 2 = 1) : hl s = true := by simp [hl, h]
theorem hl_f {s : Int} (h : s % 2 = 0) : hl s = false := by simp [hl, h]
/-- The last generation whose place was written into. -/
def bg (s : Int) : Int := s / 2 + s % 2
/-- How many came behind. -/
def sn (s g : Int) : Int := if s / 2 < g then 0 else s / 2 - g
/-- Kept. -/
def kp (s g d : Int) : Bool := decide (2 ≤ d ∧ d ≤ 16 ∧ g ≤ s / 2 ∧ bg s - g < d)
theorem kp_t {s g d : Int} (h : 2 ≤ d ∧ d ≤ 16 ∧ g ≤ s / 2 ∧ bg s - g < d) : kp s g d = true := decide_eq_true h
theorem kp_f {s g d : Int} (h : ¬ (2 ≤ d ∧ d ≤ 16 ∧ g ≤ s / 2 ∧ bg s - g < d)) : kp s g d = false := decide_eq_false h
/-- First. -/
def fi (s d : Int) : Int := if 2 ≤ d ∧ d ≤ 16 then (if bg s < d then 0 else bg s - d + 1) else 0
theorem w64_half {s : Int} (h : W64 s) : W64 (s / 2) ∧ s / 2 ≤ 9223372036854775807 := by
  unfold W64 at *
  omega

theorem gen_any (s : Int) (hs : W64 s) (w : World) : Calls Try.prog 39 #[.int .u64 s] w (Pur (.int .u64 (s / 2)) w) := by
  obtain ⟨h0, h1⟩ := hs
  go_enter Try.func39, Try.ntmps39
  go_wp2
  go_ret
  exact ⟨rfl, rfl⟩
theorem rgen_any (s : Int) (hs : W64 s) (w : World) : Calls Try.prog 65 #[.int .u64 s] w (Pur (.int .u64 (s / 2)) w) := by
  obtain ⟨h0, h1⟩ := hs
  go_enter Try.func65, Try.ntmps65
  go_wp2
  go_ret
  exact ⟨rfl, rfl⟩
theorem held_any (s : Int) (hs : W64 s) (w : World) : Calls Try.prog 44 #[.int .u64 s] w (Pur (.bool (hl s)) w) := by
  obtain ⟨h0, h1⟩ := hs
  go_enter Try.func44, Try.ntmps44
  go_wp2
  go_ret
  exact ⟨rfl, rfl⟩
theorem rheld_any (s : Int) (hs : W64 s) (w : World) : Calls Try.prog 66 #[.int .u64 s] w (Pur (.bool (hl s)) w) := by
  obtain ⟨h0, h1⟩ := hs
  go_enter Try.func66, Try.ntmps66
  go_wp2
  go_ret
  exact ⟨rfl, rfl⟩
theorem in_u64 (n a b : Int) (w : World) : Calls Try.prog 57 #[.int .u64 n, .int .u64 a, .int .u64 b] w (Pur (.bool (inB n a b)) w) := by
  go_enter Try.func57, Try.ntmps57
  go_wp2
  · go_ret
    exact ⟨by simp_all [inB], rfl⟩
  · go_ret
    exact ⟨by rw [inB_1 (by assumption)]; rfl, rfl⟩
theorem in_int (n a b : Int) (w : World) : Calls Try.prog 67 #[.int .i64 n, .int .i64 a, .int .i64 b] w (Pur (.bool (inB n a b)) w) := by
  go_enter Try.func67, Try.ntmps67
  go_wp2
  · go_ret
    exact ⟨by simp_all [inB], rfl⟩
  · go_ret
    exact ⟨by rw [inB_1 (by assumption)]; rfl, rfl⟩
theorem may_any (d : Int) (w : World) : Calls Try.prog 56 #[.int .i64 d] w (Pur (.bool (inB d 2 16)) w) := by
  go_enter Try.func56, Try.ntmps56
  go_wp2_with fail
  refine (in_int _ _ _ _).mono ?_
  rintro e w' ⟨rfl, rfl⟩
  go_wp2
  go_ret
  exact ⟨rfl, rfl⟩
theorem rmay_any (d : Int) (w : World) : Calls Try.prog 54 #[.int .i64 d] w (Pur (.bool (inB d 2 16)) w) := by
  go_enter Try.func54, Try.ntmps54
  go_wp2
  · go_ret
    exact ⟨by simp_all [inB], rfl⟩
  · go_ret
    exact ⟨by rw [inB_1 (by omega)]; rfl, rfl⟩
theorem begun_any (s : Int) (hs : W64 s) (w : World) : Calls Try.prog 58 #[.int .u64 s] w (Pur (.int .u64 (bg s)) w) := by
  have Hs := Lib.hid hs
  have hh := w64_half hs
  obtain ⟨h0, h1⟩ := hs
  rcases (show s % 2 = 0 ∨ s % 2 = 1 by omega) with h | h
  · have hb : bg s = s / 2 := by unfold bg; omega
    rw [hb]
    have hc := held_any s Hs.out
    rw [hl_f h] at hc
    have Hc := Lib.hid hc
    clear hc hb hh
    go_enter Try.func58, Try.ntmps58
    go_wp2_with fail
    refine (Hc.out _).mono ?_
    rintro e w' ⟨rfl, rfl⟩
    go_wp2_with fail
    refine (gen_any s Hs.out _).mono ?_
    rintro e w' ⟨rfl, rfl⟩
    go_wp2
    go_ret
    exact ⟨rfl, rfl⟩
  · have hb : bg s = s / 2 + 1 := by unfold bg; omega
    rw [hb]
    have hc := held_any s Hs.out
    rw [hl_t h] at hc
    have Hc := Lib.hid hc
    have Hh := Lib.hid hh
    clear hc hb hh
    go_enter Try.func58, Try.ntmps58
    go_wp2_with fail
    refine (Hc.out _).mono ?_
    rintro e w' ⟨rfl, rfl⟩
    go_wp2_with fail
    refine (gen_any s Hs.out _).mono ?_
    rintro e w' ⟨rfl, rfl⟩
    have h2 : s / 2 ≤ 9223372036854775807 := Hh.out.2
    go_wp2
    go_ret
    exact ⟨rfl, rfl⟩

def intOf : Value → Int | .int _ q => q | _ => 0

/-- The frame at a jump. -/
def KJ (s g d b : Int) (w : World) (a' : Act) (w' : World) : Prop :=
  Below w.heap.size w w' ∧ ∃ (l : Int) (u9 u10 u11 u12 u13 u14 u15 u16 u17 u18 u19 u20 u21 u22 u23 u24 u25 u26 u27 u28 u29 u30 u31 u32 u33 u34 : Value), a' = { tmps := #[.int .u64 s, .int .u64 g, .int .i64 d, undef, undef, undef, .bool false, .int .u64 d, .int .u64 l, u9, u10, u11, u12, u13, u14, u15, u16, u17, u18, u19, u20, u21, u22, u23, u24, u25, u26, u27, u28, u29, u30, u31, u32, u33, u34], defers := [] } ∧ g ≤ l ∧ l ≤ b ∧ ((b - g < d) ↔ (l - g < d))
def KM (a' : Act) (_ : World) : Nat := (intOf (a'.tmps.getD 8 undef)).toNat

def kd (b g d : Int) : Bool := decide (b - g < d)
theorem far_next {l g d : Int} (h1 : g ≤ l) (h : ¬ l % d = g % d) : g ≤ l - 1 ∧ (l - g < d ↔ l - 1 - g < d) := by
  have hne : l ≠ g := fun e => h (by rw [e])
  refine ⟨by omega, by omega, fun h2 => ?_⟩
  have h3 : l ≠ g + d := fun e => h (by rw [e, Int.add_emod_right])
  omega
theorem near_same {l g d : Int} (hd : 2 ≤ d) (h1 : g ≤ l) (h : l % d = g % d) : (l = g ↔ l - g < d) := by
  constructor
  · intro e; omega
  · intro h2
    have e : (l - g) % d = 0 := Int.emod_eq_emod_iff_emod_sub_eq_zero.1 h
    rw [Int.emod_eq_of_lt (by omega) h2] at e
    omega

set_option maxRecDepth 100000 in
set_option maxHeartbeats 1000000 in
theorem kept_ok (s g d : Int) (hs : W64 s) (hg : W64 g) (hd : 2 ≤ d) (hd2 : d ≤ 16) (hgs : g ≤ s / 2) (w : World) : Calls Try.prog 40 #[.int .u64 s, .int .u64 g, .int .i64 d] w (Ret (.bool (kp s g d)) w) := by
  have hm := fun w => may_any d w
  simp only [inB_t hd hd2] at hm
  have hi := fun w => in_u64 g 0 (s / 2) w
  simp only [inB_t hg.1 hgs] at hi
  have Hm := Lib.hid hm
  have Hi := Lib.hid hi
  have Hs := Lib.hid hs
  have Hg := Lib.hid hg
  clear hm hi
  have hz : (d == 0) = false := by simp; omega
  obtain ⟨g0, g1⟩ := hg
  have hb1 : g ≤ bg s := by unfold bg; omega
  have hb2 : bg s < 18446744073709551616 := by obtain ⟨s0, s1⟩ := hs; unfold bg; omega
  have d0 : 0 ≤ d := by omega
  have d1 : d < 18446744073709551616 := by omega
  have hk : kp s g d = kd (bg s) g d := by unfold kp kd; simp [hd, hd2, hgs]
  rw [hk]
  clear hk
  have Hbg := Lib.hid (begun_any s hs)
  generalize bg s = b at *
  clear hs
  go_enter Try.func40, Try.ntmps40
  go_wp2
  refine wp_scope_jumps 0 (KJ s g d b w) KM rfl ?_ ?_
  · go_wp2_with fail
    refine (Hm.out _).mono ?_
    rintro e w' ⟨rfl, rfl⟩
    go_wp2_with fail
    refine (gen_any s Hs.out _).mono ?_
    rintro e w' ⟨rfl, rfl⟩
    go_wp2_with fail
    refine (Hi.out _).mono ?_
    rintro e w' ⟨rfl, rfl⟩
    go_wp2_with fail
    refine (Hbg.out _).mono ?_
    rintro e w' ⟨rfl, rfl⟩
    go_wp2
    go_step3
    generalize hB : b = B at *
    have Hb := Lib.hid (Below.refl w.heap.size w)
    by_cases k : B % d = g % d
    · have m0 : (B % d == g % d) = true := by simpa using k
      have Hv := Lib.hid (near_same hd hb1 k)
      clear k
      go_wp2_with fail
      go_quiet (fail)
      go_wp2
      simp only [Exit.jump]
      go_ret
      refine ⟨?_, belN Hb.out _⟩
      have hv : kd B g d = (B == g) := by
        have h1 := Hv.out
        have h2 : (B - g < d ↔ B - g < d) := Iff.rfl
        unfold kd
        by_cases q : B = g
        · rw [decide_eq_true (h2.2 (h1.1 q)), q]; simp
        · rw [decide_eq_false (fun c => q (h1.2 (h2.1 c)))]; simp [q]
      rw [hv]
      rfl
    · have m0 : (B % d == g % d) = false := by simpa using k
      have Hv := Lib.hid (far_next hb1 k)
      have hp : 1 ≤ B := by have := Hv.out.1; omega
      clear k
      go_wp2_with fail
      go_quiet (fail)
      go_wp2
      go_step3
      refine ⟨rfl, belN Hb.out _, B - 1, _, _, _, _, _, _, _, _, _, _, _, _, _, _, _, _, _, _, _, _, _, _, _, _, _, _, rfl, Hv.out.1, by omega, Hv.out.2⟩
  · rintro a' w' ⟨hb', l, u9, u10, u11, u12, u13, u14, u15, u16, u17, u18, u19, u20, u21, u22, u23, u24, u25, u26, u27, u28, u29, u30, u31, u32, u33, u34, rfl, hl1, hb2', hx⟩
    clear hb1
    have hb1 := hl1
    clear hl1
    have Hx := Lib.hid hx
    have Hb := Lib.hid hb'
    clear hx hb'
    have hlt : l < 18446744073709551616 := by omega
    generalize b = B at *
    by_cases k : l % d = g % d
    · have m0 : (l % d == g % d) = true := by simpa using k
      have Hv := Lib.hid (near_same hd hb1 k)
      clear k
      go_wp2_with fail
      go_quiet (fail)
      go_wp2
      simp only [Exit.jump]
      go_ret
      refine ⟨?_, belN Hb.out _⟩
      have hv : kd B g d = (l == g) := by
        have h1 := Hv.out
        have h2 := Hx.out
        unfold kd
        by_cases q : l = g
        · rw [decide_eq_true (h2.2 (h1.1 q)), q]; simp
        · rw [decide_eq_false (fun c => q (h1.2 (h2.1 c)))]; simp [q]
      rw [hv]
      rfl
    · have m0 : (l % d == g % d) = false := by simpa using k
      have Hv := Lib.hid (far_next hb1 k)
      have hp : 1 ≤ l := by have := Hv.out.1; omega
      clear k
      go_wp2_with fail
      go_quiet (fail)
      go_wp2
      go_step3
      refine ⟨rfl, ⟨(belN Hb.out _), l - 1, _, _, _, _, _, _, _, _, _, _, _, _, _, _, _, _, _, _, _, _, _, _, _, _, _, _, rfl, Hv.out.1, by omega, Hx.out.trans Hv.out.2⟩, ?_⟩
      show (l - 1).toNat < l.toNat
      omega

set_option maxHeartbeats 1000000 in
theorem kept_no (s g d : Int) (hs : W64 s) (h : ¬ (2 ≤ d ∧ d ≤ 16 ∧ g ≤ s / 2)) (w : World) : Calls Try.prog 40 #[.int .u64 s, .int .u64 g, .int .i64 d] w (Ret (.bool false) w) := by
  have Hs := Lib.hid hs
  by_cases k : 2 ≤ d ∧ d ≤ 16
  · have hm := fun w => may_any d w
    simp only [inB_t k.1 k.2] at hm
    have hi := fun w => in_u64 g 0 (s / 2) w
    simp only [inB_2 (show s / 2 < g by omega)] at hi
    have Hm := Lib.hid hm
    have Hi := Lib.hid hi
    clear hm hi
    go_enter Try.func40, Try.ntmps40
    go_wp2
    go_step3
    go_wp2_with fail
    refine (Hm.out _).mono ?_
    rintro e w' ⟨rfl, rfl⟩
    go_wp2_with fail
    refine (gen_any s Hs.out _).mono ?_
    rintro e w' ⟨rfl, rfl⟩
    go_wp2_with fail
    refine (Hi.out _).mono ?_
    rintro e w' ⟨rfl, rfl⟩
    go_wp2
    try rw [Exit.noGoto_ret]
    go_ret
    exact ⟨rfl, Below.refl _ _⟩
  · have hm := fun w => may_any d w
    simp only [inB_f k] at hm
    have Hm := Lib.hid hm
    clear hm
    go_enter Try.func40, Try.ntmps40
    go_wp2
    go_step3
    go_wp2_with fail
    refine (Hm.out _).mono ?_
    rintro e w' ⟨rfl, rfl⟩
    go_wp2
    try rw [Exit.noGoto_ret]
    go_ret
    exact ⟨rfl, Below.refl _ _⟩
theorem kept_any (s g d : Int) (hs : W64 s) (hg : W64 g) (w : World) : Calls Try.prog 40 #[.int .u64 s, .int .u64 g, .int .i64 d] w (Ret (.bool (kp s g d)) w) := by
  by_cases h : 2 ≤ d ∧ d ≤ 16 ∧ g ≤ s / 2
  · exact kept_ok s g d hs hg h.1 h.2.1 h.2.2 w
  · rw [kp_f (fun c => h ⟨c.1, c.2.1, c.2.2.1⟩)]
    exact kept_no s g d hs h w
set_option maxHeartbeats 1000000 in
theorem whole_any (s g d : Int) (hs : W64 s) (hg : W64 g) (hd : 2 ≤ d) (hd2 : d ≤ 16) (w : World) : Calls Try.prog 55 #[.int .u64 s, .int .u64 g, .int .i64 d] w (Ret (.bool (kp s g d)) w) := by
  have Hs := Lib.hid hs
  have hh := (w64_half hs).2
  obtain ⟨g0, g1⟩ := hg
  have d0 : 0 ≤ d := by omega
  have d1 : d < 18446744073709551616 := by omega
  by_cases h : s / 2 < g
  · rw [kp_f (by omega)]
    have m0 : decide (s / 2 < g) = true := decide_eq_true h
    clear hs
    go_enter Try.func55, Try.ntmps55
    go_wp2_with fail
    refine (rgen_any s Hs.out _).mono ?_
    rintro e w' ⟨rfl, rfl⟩
    go_wp2
    go_ret
    exact ⟨rfl, Below.refl _ _⟩
  have m0 : decide (s / 2 < g) = false := decide_eq_false h
  have hkp : kp s g d = kd (bg s) g d := by unfold kp kd; simp [hd, hd2, show g ≤ s / 2 by omega]
  rw [hkp]
  have k1 : 0 ≤ s / 2 - g := by omega
  have k2 : s / 2 - g < 9223372036854775808 := by omega
  rcases (show s % 2 = 0 ∨ s % 2 = 1 by omega) with h2 | h2
  · have hb : bg s = s / 2 := by unfold bg; omega
    have hc := rheld_any s hs
    rw [hl_f h2] at hc
    have Hc := Lib.hid hc
    rw [hb]
    clear hc hb hkp hs
    have hv : kd (s / 2) g d = decide (s / 2 - g < d) := rfl
    have Hv := Lib.hid hv
    clear hv
    go_enter Try.func55, Try.ntmps55
    go_wp2_with fail
    refine (rgen_any s Hs.out _).mono ?_
    rintro e w' ⟨rfl, rfl⟩
    go_wp2_with fail
    refine (Hc.out _).mono ?_
    rintro e w' ⟨rfl, rfl⟩
    go_wp2
    go_ret
    exact ⟨rfl, Below.refl _ _⟩
  · have hb : bg s = s / 2 + 1 := by unfold bg; omega
    have hc := rheld_any s hs
    rw [hl_t h2] at hc
    have Hc := Lib.hid hc
    rw [hb]
    clear hc hb hkp hs
    go_enter Try.func55, Try.ntmps55
    go_wp2_with fail
    refine (rgen_any s Hs.out _).mono ?_
    rintro e w' ⟨rfl, rfl⟩
    go_wp2_with fail
    refine (Hc.out _).mono ?_
    rintro e w' ⟨rfl, rfl⟩
    go_wp2
    go_ret
    refine ⟨?_, Below.refl _ _⟩
    have hv : kd (s / 2 + 1) g d = decide (s / 2 - g + 1 < d) := by unfold kd; rw [show s / 2 + 1 - g = s / 2 - g + 1 by omega]
    rw [hv]
    rfl
set_option maxHeartbeats 1000000 in
theorem rkept_any (s g d : Int) (hs : W64 s) (hg : W64 g) (w : World) : Calls Try.prog 36 #[.int .u64 s, .int .u64 g, .int .i64 d] w (Ret (.bool (kp s g d)) w) := by
  by_cases k : 2 ≤ d ∧ d ≤ 16
  · have hm := fun w => rmay_any d w
    simp only [inB_t k.1 k.2] at hm
    have Hm := Lib.hid hm
    have Hw := Lib.hid (whole_any s g d hs hg k.1 k.2)
    clear hm k hs hg
    go_enter Try.func36, Try.ntmps36
    go_wp2_with fail
    refine (Hm.out _).mono ?_
    rintro e w' ⟨rfl, rfl⟩
    go_wp2_with fail
    refine (Hw.out _).mono ?_
    rintro e w' ⟨rfl, hb⟩
    go_wp2
    go_ret
    exact ⟨rfl, hb⟩
  · rw [kp_f (fun c => k ⟨c.1, c.2.1⟩)]
    have hm := fun w => rmay_any d w
    simp only [inB_f k] at hm
    have Hm := Lib.hid hm
    clear hm k
    go_enter Try.func36, Try.ntmps36
    go_wp2_with fail
    refine (Hm.out _).mono ?_
    rintro e w' ⟨rfl, rfl⟩
    go_wp2
    go_ret
    exact ⟨rfl, Below.refl _ _⟩

end Go.Proofs.Ytajibhhmcjcchaa.Sq
