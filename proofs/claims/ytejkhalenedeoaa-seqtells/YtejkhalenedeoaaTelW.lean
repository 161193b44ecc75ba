/- The walk of the law SeqTells. -/
import Derived.Test.YtejkhalenedeoaaAwk
namespace Go.Proofs.Ytejkhalenedeoaa
open Go.RowKit

set_option maxRecDepth 100000 in
set_option maxHeartbeats 1000000 in
theorem tells_even (s g : Int) (hs : W64 s) (hg : W64 g) (h : s % 2 = 0) (w : World) : Calls Try.prog 3 #[.int .u64 s, .int .u64 g] w (Ret (.bool true) w) := by
  have m0 : (s % 2 == 0) = true := by simpa using h
  have hlt : s + 1 < 18446744073709551616 := by have := hs.2; omega
  have Hs := Lib.hid hs
  have Hg := Lib.hid hg
  have a1 := held_any s hs
  have a2 := rheld_any s hs
  rw [hl_f h] at a1 a2
  have A1 := Lib.hid a1
  have A2 := Lib.hid a2
  have T := Lib.hid (take_even s hs h)
  have G := Lib.hid (give_even s hs h)
  have C1 := Lib.hid (since_any s g hs hg)
  have C2 := Lib.hid (rsince_any s g hs hg)
  generalize sn s g = q at *
  have s0 := hs.1
  have s1 := hs.2
  clear a1 a2 hs hg
  go_enter Try.func3, Try.ntmps3
  go_wp2_with fail
  refine (gen_any s Hs.out _).mono ?_
  rintro e w' ⟨rfl, rfl⟩
  go_wp2_with fail
  refine (rgen_any s Hs.out _).mono ?_
  rintro e w' ⟨rfl, rfl⟩
  go_wp2_with fail
  refine (A1.out _).mono ?_
  rintro e w' ⟨rfl, rfl⟩
  go_wp2_with fail
  refine (A2.out _).mono ?_
  rintro e w' ⟨rfl, rfl⟩
  go_wp2_with fail
  refine (C1.out _).mono ?_
  rintro e w' ⟨rfl, rfl⟩
  go_wp2_with fail
  refine (C2.out _).mono ?_
  rintro e w' ⟨rfl, rfl⟩
  go_wp2_with fail
  refine (T.out _).mono ?_
  rintro e w' ⟨rfl, rfl⟩
  go_wp2_with fail
  refine (G.out _).mono ?_
  rintro e w' ⟨rfl, rfl⟩
  go_wp2_with fail
  refine (awake_any _).mono ?_
  rintro e w1 ⟨rfl, hb⟩
  go_wp2
  go_ret
  exact ⟨rfl, hb⟩
set_option maxRecDepth 100000 in
set_option maxHeartbeats 1000000 in
theorem tells_odd (s g : Int) (hs : W64 s) (hg : W64 g) (h : s % 2 = 1) (hm : s ≠ 18446744073709551615) (w : World) : Calls Try.prog 3 #[.int .u64 s, .int .u64 g] w (Ret (.bool true) w) := by
  have m0 : (s % 2 == 0) = false := by rw [h]; rfl
  have m1 : (s == 18446744073709551615) = false := by simpa using hm
  have hlt : s + 1 < 18446744073709551616 := by have := hs.2; omega
  have Hs := Lib.hid hs
  have Hg := Lib.hid hg
  have a1 := held_any s hs
  have a2 := rheld_any s hs
  rw [hl_t h] at a1 a2
  have A1 := Lib.hid a1
  have A2 := Lib.hid a2
  have T := Lib.hid (take_odd s hs h)
  have G := Lib.hid (give_odd s hs h hm)
  have C1 := Lib.hid (since_any s g hs hg)
  have C2 := Lib.hid (rsince_any s g hs hg)
  generalize sn s g = q at *
  have s0 := hs.1
  have s1 := hs.2
  clear a1 a2 hs hg
  go_enter Try.func3, Try.ntmps3
  go_wp2_with fail
  refine (gen_any s Hs.out _).mono ?_
  rintro e w' ⟨rfl, rfl⟩
  go_wp2_with fail
  refine (rgen_any s Hs.out _).mono ?_
  rintro e w' ⟨rfl, rfl⟩
  go_wp2_with fail
  refine (A1.out _).mono ?_
  rintro e w' ⟨rfl, rfl⟩
  go_wp2_with fail
  refine (A2.out _).mono ?_
  rintro e w' ⟨rfl, rfl⟩
  go_wp2_with fail
  refine (C1.out _).mono ?_
  rintro e w' ⟨rfl, rfl⟩
  go_wp2_with fail
  refine (C2.out _).mono ?_
  rintro e w' ⟨rfl, rfl⟩
  go_wp2_with fail
  refine (T.out _).mono ?_
  rintro e w' ⟨rfl, rfl⟩
  go_wp2_with fail
  refine (G.out _).mono ?_
  rintro e w' ⟨rfl, rfl⟩
  go_wp2_with fail
  refine (awake_any _).mono ?_
  rintro e w1 ⟨rfl, hb⟩
  go_wp2
  go_ret
  exact ⟨rfl, hb⟩
set_option maxRecDepth 100000 in
set_option maxHeartbeats 1000000 in
theorem tells_max (g : Int) (hg : W64 g)  (w : World) : Calls Try.prog 3 #[.int .u64 18446744073709551615, .int .u64 g] w (Ret (.bool true) w) := by
  have hs : W64 18446744073709551615 := w64_lit rfl
  have h : (18446744073709551615 : Int) % 2 = 1 := rfl
  have Hs := Lib.hid hs
  have Hg := Lib.hid hg
  have a1 := held_any 18446744073709551615 hs
  have a2 := rheld_any 18446744073709551615 hs
  rw [hl_t h] at a1 a2
  have A1 := Lib.hid a1
  have A2 := Lib.hid a2
  have T := Lib.hid (take_odd 18446744073709551615 hs h)
  have G := Lib.hid (give_max)
  have C1 := Lib.hid (since_any 18446744073709551615 g hs hg)
  have C2 := Lib.hid (rsince_any 18446744073709551615 g hs hg)
  generalize sn 18446744073709551615 g = q at *
  have s0 := hs.1
  have s1 := hs.2
  clear a1 a2 hs hg
  go_enter Try.func3, Try.ntmps3
  go_wp2_with fail
  refine (gen_any 18446744073709551615 Hs.out _).mono ?_
  rintro e w' ⟨rfl, rfl⟩
  go_wp2_with fail
  refine (rgen_any 18446744073709551615 Hs.out _).mono ?_
  rintro e w' ⟨rfl, rfl⟩
  go_wp2_with fail
  refine (A1.out _).mono ?_
  rintro e w' ⟨rfl, rfl⟩
  go_wp2_with fail
  refine (A2.out _).mono ?_
  rintro e w' ⟨rfl, rfl⟩
  go_wp2_with fail
  refine (C1.out _).mono ?_
  rintro e w' ⟨rfl, rfl⟩
  go_wp2_with fail
  refine (C2.out _).mono ?_
  rintro e w' ⟨rfl, rfl⟩
  go_wp2_with fail
  refine (T.out _).mono ?_
  rintro e w' ⟨rfl, rfl⟩
  go_wp2_with fail
  refine (G.out _).mono ?_
  rintro e w' ⟨rfl, rfl⟩
  go_wp2_with fail
  refine (awake_any _).mono ?_
  rintro e w1 ⟨rfl, hb⟩
  go_wp2
  go_ret
  exact ⟨rfl, hb⟩
theorem tells_law (s g : Int) (hs : W64 s) (hg : W64 g) (w : World) : Calls Try.prog 3 #[.int .u64 s, .int .u64 g] w (Ret (.bool true) w) := by
  rcases (show s % 2 = 0 ∨ s % 2 = 1 by omega) with h | h
  · exact tells_even s g hs hg h w
  · by_cases hm : s = 18446744073709551615
    · subst hm
      exact tells_max g hg w
    · exact tells_odd s g hs hg h hm w
end Go.Proofs.Ytejkhalenedeoaa
