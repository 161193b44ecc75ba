/- The walk of the law ConfigPrints. -/
import Derived.Test.YthdchoagdipplaaDoorAwk
import Derived.Test.YthdchoagdipplaaDoorRPrn
namespace Go.Proofs.YthdchoagdipplaaDoor
open Go.RowKit

set_option maxHeartbeats 1000000 in
theorem prints_law (T R L : Int) (a : Option Addr) (cap : Nat) (l : List Tp) (w : World) (hT : Tps w.heap.size w a l) (hM : ML w) : Calls Tryd.prog 6 #[cfg T a l.length cap R L] w (Ret (.bool true) w) := by
  have HX := Lib.hid (Bx.new w T R L a cap l hT hM)
  have c0 := HX.out.1.cell (i := 0) rfl
  have c1 := HX.out.1.cell (i := 1) rfl
  have c2 := HX.out.1.cell (i := 2) rfl
  have c3 := HX.out.1.cell (i := 3) rfl
  clear hT hM
  go_enter Tryd.func6, Tryd.ntmps6
  go_wp2_with fail
  generalize w.alloc (.cells #[.int .i64 T, .slice a l.length cap, .int .i64 R, .int .i64 L] 24) = W at *
  refine (few_any T R L a cap l W HX.out.2.1).mono ?_
  rintro e W1 ⟨rfl, hb1⟩
  have X1 := Lib.hid (HX.out.next hb1)
  clear HX hb1 c0 c1 c2 c3
  by_cases hf : few l = true
  · have hs := few_size hf
    rw [hf]
    have c0 := X1.out.1.cell (i := 0) rfl
    have c1 := X1.out.1.cell (i := 1) rfl
    have c2 := X1.out.1.cell (i := 2) rfl
    have c3 := X1.out.1.cell (i := 3) rfl
    go_wp2_with fail
    refine (print_any T R L a cap l W1 X1.out.2.1 X1.out.2.2.1 hs).mono ?_
    rintro e W2 ⟨rfl, hb2⟩
    have hr := Lib.hid (fun w (h : Tps w.heap.size w a l) (h2 : ML w) => rprint_any T R L a cap l w h h2 hs)
    generalize prT T l R L = tx at *
    generalize (chk T l R L).2 = ec at *
    have X2 := Lib.hid (X1.out.next hb2)
    clear X1 hb2 c0 c1 c2 c3
    have c0 := X2.out.1.cell (i := 0) rfl
    have c1 := X2.out.1.cell (i := 1) rfl
    have c2 := X2.out.1.cell (i := 2) rfl
    have c3 := X2.out.1.cell (i := 3) rfl
    go_wp2_with fail
    refine (hr.out W2 X2.out.2.1 X2.out.2.2.1).mono ?_
    rintro e W4 ⟨rfl, hb4⟩
    have X4 := Lib.hid (X2.out.next hb4)
    have hss : ((str tx).toList == (str tx).toList) = true := by rw [str_eq]; exact decide_eq_true rfl
    clear X2 hb4 c0 c1 c2 c3 hr
    generalize str tx = ts at *
    go_wp2_with fail
    refine (awake_any W4 X4.out.2.2.1).mono ?_
    rintro e W6 ⟨rfl, hb6⟩
    have hfin := Lib.hid (X4.out.next hb6).2.2.2
    clear X4 hb6
    go_wp2
    go_ret
    exact ⟨rfl, hfin.out⟩
  · have hf' : few l = false := by simpa using hf
    rw [hf']
    go_wp2_with fail
    refine (awake_any W1 X1.out.2.2.1).mono ?_
    rintro e W2 ⟨rfl, hb2⟩
    have hfin := Lib.hid (X1.out.next hb2).2.2.2
    go_wp2
    go_ret
    exact ⟨rfl, hfin.out⟩
end Go.Proofs.YthdchoagdipplaaDoor
