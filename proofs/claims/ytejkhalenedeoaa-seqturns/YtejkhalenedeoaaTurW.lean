/- The walk of the law SeqTurns. -/
import Derived.Test.YtejkhalenedeoaaAwk
namespace Go.Proofs.Ytejkhalenedeoaa
open Go.RowKit

set_option maxRecDepth 100000 in
set_option maxHeartbeats 1000000 in
theorem turns_odd (s : Int) (hs : W64 s) (h : s % 2 = 1) (w : World) : Calls Try.prog 5 #[.int .u64 s] w (Ret (.bool true) w) := by
  have a1 := held_any s hs
  rw [hl_t h] at a1
  have A1 := Lib.hid a1
  have T := Lib.hid (take_odd s hs h)
  clear a1 hs h
  go_enter Try.func5, Try.ntmps5
  go_wp2_with fail
  refine (T.out _).mono ?_
  rintro e w' ⟨rfl, rfl⟩
  go_wp2_with fail
  refine (A1.out _).mono ?_
  rintro e w' ⟨rfl, rfl⟩
  go_wp2_with fail
  refine (awake_any _).mono ?_
  rintro e w1 ⟨rfl, hb⟩
  go_wp2
  go_ret
  exact ⟨rfl, hb⟩
set_option maxRecDepth 100000 in
set_option maxHeartbeats 1000000 in
theorem turns_even (s : Int) (hs : W64 s) (h : s % 2 = 0) (hm : s ≠ 18446744073709551614) (w : World) : Calls Try.prog 5 #[.int .u64 s] w (Ret (.bool true) w) := by
  have hs1 : W64 (s + 1) := ⟨by have := hs.1; omega, by have := hs.2; omega⟩
  have a1 := held_any s hs
  rw [hl_f h] at a1
  have a2 := held_any (s + 1) hs1
  rw [hl_t (by omega)] at a2
  have a3 := gen_any (s + 1) hs1
  rw [show (s + 1) / 2 = s / 2 by omega] at a3
  have A1 := Lib.hid a1
  have A2 := Lib.hid a2
  have A3 := Lib.hid a3
  have A4 := Lib.hid (gen_any s hs)
  have T := Lib.hid (take_even s hs h)
  have T2 := Lib.hid (take_odd (s + 1) hs1 (by omega))
  have hs2 : W64 (s + 2) := ⟨by have := hs.1; omega, by have := hs.2; omega⟩
  have g1 := give_odd (s + 1) hs1 (by omega) (by omega)
  rw [show s + 1 + 1 = s + 2 by omega] at g1
  have a5 := gen_any (s + 2) hs2
  rw [show (s + 2) / 2 = s / 2 + 1 by omega] at a5
  have a6 := held_any (s + 2) hs2
  rw [hl_f (by omega)] at a6
  have a7 := since_any (s + 2) (s / 2) hs2 (w64_half hs).1
  rw [show sn (s + 2) (s / 2) = 1 by unfold sn; rw [if_neg (by omega)]; omega] at a7
  have G := Lib.hid g1
  have A5 := Lib.hid a5
  have A6 := Lib.hid a6
  have A7 := Lib.hid a7
  have s0 := hs.1
  have k0 : s / 2 ≤ 9223372036854775807 := (w64_half hs).2
  clear a1 a2 a3 g1 a5 a6 a7 hs hs1 hs2 h hm
  go_enter Try.func5, Try.ntmps5
  go_wp2_with fail
  refine (T.out _).mono ?_
  rintro e w' ⟨rfl, rfl⟩
  go_wp2_with fail
  refine (T2.out _).mono ?_
  rintro e w' ⟨rfl, rfl⟩
  go_wp2_with fail
  refine (A1.out _).mono ?_
  rintro e w' ⟨rfl, rfl⟩
  go_wp2_with fail
  refine (A2.out _).mono ?_
  rintro e w' ⟨rfl, rfl⟩
  go_wp2_with fail
  refine (A3.out _).mono ?_
  rintro e w' ⟨rfl, rfl⟩
  go_wp2_with fail
  refine (A4.out _).mono ?_
  rintro e w' ⟨rfl, rfl⟩
  go_wp2_with fail
  refine (G.out _).mono ?_
  rintro e w' ⟨rfl, rfl⟩
  go_wp2_with fail
  refine (A5.out _).mono ?_
  rintro e w' ⟨rfl, rfl⟩
  go_wp2_with fail
  refine (A4.out _).mono ?_
  rintro e w' ⟨rfl, rfl⟩
  go_wp2_with fail
  refine (A6.out _).mono ?_
  rintro e w' ⟨rfl, rfl⟩
  go_wp2_with fail
  refine (A4.out _).mono ?_
  rintro e w' ⟨rfl, rfl⟩
  go_wp2_with fail
  refine (A7.out _).mono ?_
  rintro e w' ⟨rfl, rfl⟩
  go_wp2_with fail
  refine (awake_any _).mono ?_
  rintro e w1 ⟨rfl, hb⟩
  go_wp2
  go_ret
  exact ⟨rfl, hb⟩
set_option maxRecDepth 100000 in
set_option maxHeartbeats 1000000 in
theorem turns_max (w : World) : Calls Try.prog 5 #[.int .u64 18446744073709551614] w (Ret (.bool true) w) := by
  have hs : W64 18446744073709551614 := w64_lit rfl
  have hs1 : W64 18446744073709551615 := w64_lit rfl
  have a1 := held_any 18446744073709551614 hs
  rw [hl_f rfl] at a1
  have a2 := held_any 18446744073709551615 hs1
  rw [hl_t rfl] at a2
  have A1 := Lib.hid a1
  have A2 := Lib.hid a2
  have A3 := Lib.hid (gen_any 18446744073709551615 hs1)
  have A4 := Lib.hid (gen_any 18446744073709551614 hs)
  have T := Lib.hid (take_even 18446744073709551614 hs rfl)
  have T2 := Lib.hid (take_odd 18446744073709551615 hs1 rfl)
  have G := Lib.hid give_max
  clear a1 a2 hs hs1
  go_enter Try.func5, Try.ntmps5
  go_wp2_with fail
  refine (T.out _).mono ?_
  rintro e w' ⟨rfl, rfl⟩
  go_wp2_with fail
  refine (T2.out _).mono ?_
  rintro e w' ⟨rfl, rfl⟩
  go_wp2_with fail
  refine (A1.out _).mono ?_
  rintro e w' ⟨rfl, rfl⟩
  go_wp2_with fail
  refine (A2.out _).mono ?_
  rintro e w' ⟨rfl, rfl⟩
  go_wp2_with fail
  refine (A3.out _).mono ?_
  rintro e w' ⟨rfl, rfl⟩
  go_wp2_with fail
  refine (A4.out _).mono ?_
  rintro e w' ⟨rfl, rfl⟩
  go_wp2_with fail
  refine (G.out _).mono ?_
  rintro e w' ⟨rfl, rfl⟩
  go_wp2_with fail
  refine (awake_any _).mono ?_
  rintro e w1 ⟨rfl, hb⟩
  go_wp2
  go_ret
  exact ⟨rfl, hb⟩
theorem turns_law (s : Int) (hs : W64 s) (w : World) : Calls Try.prog 5 #[.int .u64 s] w (Ret (.bool true) w) := by
  rcases (show s % 2 = 0 ∨ s % 2 = 1 by omega) with h | h
  · by_cases hm : s = 18446744073709551614
    · subst hm
      exact turns_max w
    · exact turns_even s hs h hm w
  · exact turns_odd s hs h w
end Go.Proofs.Ytejkhalenedeoaa
