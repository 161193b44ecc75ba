/- The chapter's examples. -/
import Derived.Test.YtejkhalenedeoaaFir
namespace Go.Proofs.Ytejkhalenedeoaa
open Go.RowKit

theorem w64_lit {s : Int} (h : (decide (0 ≤ s) && decide (s < 18446744073709551616)) = true) : W64 s := by simpa [W64] using h
set_option maxHeartbeats 1000000 in
theorem awake_any (w0 : World) : Calls Try.prog 17 #[] w0 (Ret (.bool true) w0) := by
  have H0 := Lib.hid (Below.refl w0.heap.size w0)
  have hg := Lib.hid (fun w => gen_any 7 (w64_lit rfl) w)
  have hh := held_any 7 (w64_lit rfl)
  rw [show hl 7 = true from rfl] at hh
  have Hh := Lib.hid hh
  have a1 := first_any 7 3 (w64_lit rfl)
  rw [show fi 7 3 = 2 by decide +kernel] at a1
  have A1 := Lib.hid a1
  have a2 := kept_any 7 2 3 (w64_lit rfl) (w64_lit rfl)
  rw [show kp 7 2 3 = true by decide +kernel] at a2
  have A2 := Lib.hid a2
  have a3 := kept_any 7 3 3 (w64_lit rfl) (w64_lit rfl)
  rw [show kp 7 3 3 = true by decide +kernel] at a3
  have A3 := Lib.hid a3
  have a4 := kept_any 7 1 3 (w64_lit rfl) (w64_lit rfl)
  rw [show kp 7 1 3 = false by decide +kernel] at a4
  have A4 := Lib.hid a4
  have a5 := kept_any 7 4 3 (w64_lit rfl) (w64_lit rfl)
  rw [show kp 7 4 3 = false by decide +kernel] at a5
  have A5 := Lib.hid a5
  have a6 := first_any 8 3 (w64_lit rfl)
  rw [show fi 8 3 = 2 by decide +kernel] at a6
  have A6 := Lib.hid a6
  clear hh a1 a2 a3 a4 a5 a6
  go_enter Try.func17, Try.ntmps17
  go_wp2_with fail
  refine (hg.out _).mono ?_
  rintro e w' ⟨rfl, rfl⟩
  go_wp2_with fail
  refine (Hh.out _).mono ?_
  rintro e w' ⟨rfl, rfl⟩
  go_wp2_with fail
  refine (A1.out _).mono ?_
  rintro e w1 ⟨rfl, hb⟩
  have H1 := Lib.hid (H0.out.trans (hb.mono H0.out.size))
  clear hb H0
  go_wp2_with fail
  refine (A2.out _).mono ?_
  rintro e w2 ⟨rfl, hb⟩
  have H2 := Lib.hid (H1.out.trans (hb.mono H1.out.size))
  clear hb H1
  go_wp2_with fail
  refine (A3.out _).mono ?_
  rintro e w3 ⟨rfl, hb⟩
  have H3 := Lib.hid (H2.out.trans (hb.mono H2.out.size))
  clear hb H2
  go_wp2_with fail
  refine (A4.out _).mono ?_
  rintro e w4 ⟨rfl, hb⟩
  have H4 := Lib.hid (H3.out.trans (hb.mono H3.out.size))
  clear hb H3
  go_wp2_with fail
  refine (A5.out _).mono ?_
  rintro e w5 ⟨rfl, hb⟩
  have H5 := Lib.hid (H4.out.trans (hb.mono H4.out.size))
  clear hb H4
  go_wp2_with fail
  refine (A6.out _).mono ?_
  rintro e w6 ⟨rfl, hb⟩
  have H6 := Lib.hid (H5.out.trans (hb.mono H5.out.size))
  clear hb H5
  go_wp2
  go_ret
  exact ⟨rfl, H6.out⟩
end Go.Proofs.Ytejkhalenedeoaa
