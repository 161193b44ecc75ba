/- Kept: it goes back by goto. -/
import Derived.Test.YtejkhalenedeoaaPur
import Derived.ScopeJumps
import Derived.WalkMore
namespace Go.Proofs.Ytejkhalenedeoaa
open Go.RowKit
def intOf : Value → Int | .int _ q => q | _ => 0

/-- The frame at a jump. -/
def KJ (s g d b : Int) (w : World) (a' : Act) (w' : World) : Prop :=
  Below w.heap.size w w' ∧ ∃ (l : Int) (u9 u10 u11 u12 u13 u14 u15 u16 u17 u18 u19 u20 u21 u22 u23 u24 u25 u26 u27 u28 u29 u30 u31 u32 u33 u34 : Value), a' = { tmps := #[.int .u64 s, .int .u64 g, .int .i64 d, undef, undef, undef, .bool false, .int .u64 d, .int .u64 l, u9, u10, u11, u12, u13, u14, u15, u16, u17, u18, u19, u20, u21, u22, u23, u24, u25, u26, u27, u28, u29, u30, u31, u32, u33, u34], defers := [] } ∧ g ≤ l ∧ l ≤ b ∧ ((b - g < d) ↔ (l - g < d))
def KM (a' : Act) (_ : World) : Nat := (intOf (a'.tmps.getD 8 undef)).toNat

def kd (b g d : Int) : Bool := decide (b - g < d)
theorem far_next {l g d : Int} (h1 : g ≤ l) (h : ¬ l % d = g % d) : g ≤ l - 1 ∧ (l - g < d ↔ l - 1 - g < d) := by
  have hne : l ≠ g := fun e => h (by rw [e])
  refine ⟨by omega, by omega, fun h2 => ?_⟩
  have h3 : l ≠ g + d := fun e => h (by rw [e, Int.add_emod_right])
  omega
theorem near_same {l g d : Int} (hd : 2 ≤ d) (h1 : g ≤ l) (h : l % d = g % d) : (l = g ↔ l - g < d) := by
  constructor
  · intro e; omega
  · intro h2
    have e : (l - g) % d = 0 := Int.emod_eq_emod_iff_emod_sub_eq_zero.1 h
    rw [Int.emod_eq_of_lt (by omega) h2] at e
    omega

set_option maxRecDepth 100000 in
set_option maxHeartbeats 1000000 in
theorem kept_ok (s g d : Int) (hs : W64 s) (hg : W64 g) (hd : 2 ≤ d) (hd2 : d ≤ 16) (hgs : g ≤ s / 2) (w : World) : Calls Try.prog 18 #[.int .u64 s, .int .u64 g, .int .i64 d] w (Ret (.bool (kp s g d)) w) := by
  have hm := fun w => may_any d w
  simp only [inB_t hd hd2] at hm
  have hi := fun w => in_u64 g 0 (s / 2) w
  simp only [inB_t hg.1 hgs] at hi
  have Hm := Lib.hid hm
  have Hi := Lib.hid hi
  have Hs := Lib.hid hs
  have Hg := Lib.hid hg
  clear hm hi
  have hz : (d == 0) = false := by simp; omega
  obtain ⟨g0, g1⟩ := hg
  have hb1 : g ≤ bg s := by unfold bg; omega
  have hb2 : bg s < 18446744073709551616 := by obtain ⟨s0, s1⟩ := hs; unfold bg; omega
  have d0 : 0 ≤ d := by omega
  have d1 : d < 18446744073709551616 := by omega
  have hk : kp s g d = kd (bg s) g d := by unfold kp kd; simp [hd, hd2, hgs]
  rw [hk]
  clear hk
  have Hbg := Lib.hid (begun_any s hs)
  generalize bg s = b at *
  clear hs
  go_enter Try.func18, Try.ntmps18
  go_wp2
  refine wp_scope_jumps 0 (KJ s g d b w) KM rfl ?_ ?_
  · go_wp2_with fail
    refine (Hm.out _).mono ?_
    rintro e w' ⟨rfl, rfl⟩
    go_wp2_with fail
    refine (gen_any s Hs.out _).mono ?_
    rintro e w' ⟨rfl, rfl⟩
    go_wp2_with fail
    refine (Hi.out _).mono ?_
    rintro e w' ⟨rfl, rfl⟩
    go_wp2_with fail
    refine (Hbg.out _).mono ?_
    rintro e w' ⟨rfl, rfl⟩
    go_wp2
    go_step3
    generalize hB : b = B at *
    have Hb := Lib.hid (Below.refl w.heap.size w)
    by_cases k : B % d = g % d
    · have m0 : (B % d == g % d) = true := by simpa using k
      have Hv := Lib.hid (near_same hd hb1 k)
      clear k
      go_wp2_with fail
      go_quiet (fail)
      go_wp2
      simp only [Exit.jump]
      go_ret
      refine ⟨?_, belN Hb.out _⟩
      have hv : kd B g d = (B == g) := by
        have h1 := Hv.out
        have h2 : (B - g < d ↔ B - g < d) := Iff.rfl
        unfold kd
        by_cases q : B = g
        · rw [decide_eq_true (h2.2 (h1.1 q)), q]; simp
        · rw [decide_eq_false (fun c => q (h1.2 (h2.1 c)))]; simp [q]
      rw [hv]
      rfl
    · have m0 : (B % d == g % d) = false := by simpa using k
      have Hv := Lib.hid (far_next hb1 k)
      have hp : 1 ≤ B := by have := Hv.out.1; omega
      clear k
      go_wp2_with fail
      go_quiet (fail)
      go_wp2
      go_step3
      refine ⟨rfl, belN Hb.out _, B - 1, _, _, _, _, _, _, _, _, _, _, _, _, _, _, _, _, _, _, _, _, _, _, _, _, _, _, rfl, Hv.out.1, by omega, Hv.out.2⟩
  · rintro a' w' ⟨hb', l, u9, u10, u11, u12, u13, u14, u15, u16, u17, u18, u19, u20, u21, u22, u23, u24, u25, u26, u27, u28, u29, u30, u31, u32, u33, u34, rfl, hl1, hb2', hx⟩
    clear hb1
    have hb1 := hl1
    clear hl1
    have Hx := Lib.hid hx
    have Hb := Lib.hid hb'
    clear hx hb'
    have hlt : l < 18446744073709551616 := by omega
    generalize b = B at *
    by_cases k : l % d = g % d
    · have m0 : (l % d == g % d) = true := by simpa using k
      have Hv := Lib.hid (near_same hd hb1 k)
      clear k
      go_wp2_with fail
      go_quiet (fail)
      go_wp2
      simp only [Exit.jump]
      go_ret
      refine ⟨?_, belN Hb.out _⟩
      have hv : kd B g d = (l == g) := by
        have h1 := Hv.out
        have h2 := Hx.out
        unfold kd
        by_cases q : l = g
        · rw [decide_eq_true (h2.2 (h1.1 q)), q]; simp
        · rw [decide_eq_false (fun c => q (h1.2 (h2.1 c)))]; simp [q]
      rw [hv]
      rfl
    · have m0 : (l % d == g % d) = false := by simpa using k
      have Hv := Lib.hid (far_next hb1 k)
      have hp : 1 ≤ l := by have := Hv.out.1; omega
      clear k
      go_wp2_with fail
      go_quiet (fail)
      go_wp2
      go_step3
      refine ⟨rfl, ⟨(belN Hb.out _), l - 1, _, _, _, _, _, _, _, _, _, _, _, _, _, _, _, _, _, _, _, _, _, _, _, _, _, _, rfl, Hv.out.1, by omega, Hx.out.trans Hv.out.2⟩, ?_⟩
      show (l - 1).toNat < l.toNat
      omega

set_option maxHeartbeats 1000000 in
theorem kept_no (s g d : Int) (hs : W64 s) (h : ¬ (2 ≤ d ∧ d ≤ 16 ∧ g ≤ s / 2)) (w : World) : Calls Try.prog 18 #[.int .u64 s, .int .u64 g, .int .i64 d] w (Ret (.bool false) w) := by
  have Hs := Lib.hid hs
  by_cases k : 2 ≤ d ∧ d ≤ 16
  · have hm := fun w => may_any d w
    simp only [inB_t k.1 k.2] at hm
    have hi := fun w => in_u64 g 0 (s / 2) w
    simp only [inB_2 (show s / 2 < g by omega)] at hi
    have Hm := Lib.hid hm
    have Hi := Lib.hid hi
    clear hm hi
    go_enter Try.func18, Try.ntmps18
    go_wp2
    go_step3
    go_wp2_with fail
    refine (Hm.out _).mono ?_
    rintro e w' ⟨rfl, rfl⟩
    go_wp2_with fail
    refine (gen_any s Hs.out _).mono ?_
    rintro e w' ⟨rfl, rfl⟩
    go_wp2_with fail
    refine (Hi.out _).mono ?_
    rintro e w' ⟨rfl, rfl⟩
    go_wp2
    try rw [Exit.noGoto_ret]
    go_ret
    exact ⟨rfl, Below.refl _ _⟩
  · have hm := fun w => may_any d w
    simp only [inB_f k] at hm
    have Hm := Lib.hid hm
    clear hm
    go_enter Try.func18, Try.ntmps18
    go_wp2
    go_step3
    go_wp2_with fail
    refine (Hm.out _).mono ?_
    rintro e w' ⟨rfl, rfl⟩
    go_wp2
    try rw [Exit.noGoto_ret]
    go_ret
    exact ⟨rfl, Below.refl _ _⟩
theorem kept_any (s g d : Int) (hs : W64 s) (hg : W64 g) (w : World) : Calls Try.prog 18 #[.int .u64 s, .int .u64 g, .int .i64 d] w (Ret (.bool (kp s g d)) w) := by
  by_cases h : 2 ≤ d ∧ d ≤ 16 ∧ g ≤ s / 2
  · exact kept_ok s g d hs hg h.1 h.2.1 h.2.2 w
  · rw [kp_f (fun c => h ⟨c.1, c.2.1, c.2.2.1⟩)]
    exact kept_no s g d hs h w
end Go.Proofs.Ytejkhalenedeoaa
