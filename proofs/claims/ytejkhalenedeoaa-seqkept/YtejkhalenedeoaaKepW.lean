/- The walk of the law SeqKept. -/
import Derived.Test.YtejkhalenedeoaaAwk
namespace Go.Proofs.Ytejkhalenedeoaa
open Go.RowKit

set_option maxRecDepth 100000 in
set_option maxHeartbeats 1000000 in
theorem kept_law (s g d : Int) (hs : W64 s) (hg : W64 g) (w0 : World) : Calls Try.prog 4 #[.int .u64 s, .int .u64 g, .int .i64 d] w0 (Ret (.bool true) w0) := by
  have H0 := Lib.hid (Below.refl w0.heap.size w0)
  have K1 := Lib.hid (kept_any s g d hs hg)
  have K2 := Lib.hid (rkept_any s g d hs hg)
  have F1 := Lib.hid (first_any s d hs)
  have F2 := Lib.hid (rfirst_any s d hs)
  generalize kp s g d = k at *
  generalize fi s d = f at *
  clear hs hg
  go_enter Try.func4, Try.ntmps4
  go_wp2_with fail
  refine (K1.out _).mono ?_
  rintro e w1 ⟨rfl, hb⟩
  have H1 := Lib.hid (H0.out.trans (hb.mono H0.out.size))
  clear hb H0
  go_wp2_with fail
  refine (K2.out _).mono ?_
  rintro e w2 ⟨rfl, hb⟩
  have H2 := Lib.hid (H1.out.trans (hb.mono H1.out.size))
  clear hb H1
  go_wp2_with fail
  refine (F1.out _).mono ?_
  rintro e w3 ⟨rfl, hb⟩
  have H3 := Lib.hid (H2.out.trans (hb.mono H2.out.size))
  clear hb H2
  go_wp2_with fail
  refine (F2.out _).mono ?_
  rintro e w4 ⟨rfl, hb⟩
  have H4 := Lib.hid (H3.out.trans (hb.mono H3.out.size))
  clear hb H3
  go_wp2_with fail
  refine (awake_any _).mono ?_
  rintro e w5 ⟨rfl, hb⟩
  have H5 := Lib.hid (H4.out.trans (hb.mono H4.out.size))
  clear hb H4
  go_wp2
  go_ret
  exact ⟨rfl, H5.out⟩
end Go.Proofs.Ytejkhalenedeoaa
