/- The walk of the law ConfigChecks. -/
import Derived.Test.YthdchoagdipplaaDoorAwk
import Derived.Test.YthdchoagdipplaaDoorRChk
namespace Go.Proofs.YthdchoagdipplaaDoor
open Go.RowKit

/-- A config in a block, its topics, and the rest that a law leans on. -/
def Bx (w : World) (c : Nat) (T R L : Int) (a : Option Addr) (cap : Nat) (l : List Tp) (W : World) : Prop :=
  Blk W c (cfl T a l.length cap R L) ∧ Tps W.heap.size W a l ∧ ML W ∧ Below w.heap.size w W
theorem Bx.next {w : World} {c : Nat} {T R L : Int} {a : Option Addr} {cap : Nat} {l : List Tp} {W W' : World} (h : Bx w c T R L a cap l W) (u : Below W.heap.size W W') : Bx w c T R L a cap l W' :=
  ⟨h.1.low u, h.2.1.next u, h.2.2.1.next u, h.2.2.2.trans (u.mono h.2.2.2.size)⟩
theorem Bx.alloc {w : World} {c : Nat} {T R L : Int} {a : Option Addr} {cap : Nat} {l : List Tp} {W : World} (h : Bx w c T R L a cap l W) (o : Obj) : Bx w c T R L a cap l (W.alloc o) :=
  h.next ((Below.refl _ _).alloc (Nat.le_refl _) o)
theorem Bx.new (w : World) (T R L : Int) (a : Option Addr) (cap : Nat) (l : List Tp) (hT : Tps w.heap.size w a l) (hM : ML w) : Bx w w.heap.size T R L a cap l (w.alloc (.cells #[.int .i64 T, .slice a l.length cap, .int .i64 R, .int .i64 L] 24)) := by
  have hb := (Below.refl w.heap.size w).alloc (Nat.le_refl _) (.cells #[.int .i64 T, .slice a l.length cap, .int .i64 R, .int .i64 L] 24)
  exact ⟨Blk.new w #[.int .i64 T, .slice a l.length cap, .int .i64 R, .int .i64 L] 24, hT.next hb, hM.next hb, hb⟩
theorem few_size {l : List Tp} (h : few l = true) : ∀ t ∈ l, t.1.size ≤ 100000 := fun t ht => Nat.le_trans ((few_spec h).2 t ht) (by decide)

set_option maxHeartbeats 1000000 in
theorem checks_law (T R L : Int) (a : Option Addr) (cap : Nat) (l : List Tp) (w : World) (hT : Tps w.heap.size w a l) (hM : ML w) : Calls Tryd.prog 3 #[cfg T a l.length cap R L] w (Ret (.bool true) w) := by
  have hX := Bx.new w T R L a cap l hT hM
  have c0 := hX.1.cell (i := 0) rfl
  have c1 := hX.1.cell (i := 1) rfl
  have c2 := hX.1.cell (i := 2) rfl
  have c3 := hX.1.cell (i := 3) rfl
  have HX := Lib.hid hX
  clear hX hT hM
  go_enter Tryd.func3, Tryd.ntmps3
  go_wp2_with fail
  generalize w.alloc (.cells #[.int .i64 T, .slice a l.length cap, .int .i64 R, .int .i64 L] 24) = W at *
  refine (few_any T R L a cap l W HX.out.2.1).mono ?_
  rintro e W1 ⟨rfl, hb1⟩
  have X1 := Lib.hid (HX.out.next hb1)
  clear HX hb1 c0 c1 c2 c3
  by_cases hf : few l = true
  · have hs := few_size hf
    rw [hf]
    have c0 := X1.out.1.cell (i := 0) rfl
    have c1 := X1.out.1.cell (i := 1) rfl
    have c2 := X1.out.1.cell (i := 2) rfl
    have c3 := X1.out.1.cell (i := 3) rfl
    go_wp2_with fail
    refine (check_any T R L a cap l W1 X1.out.2.1 hs).mono ?_
    rintro e W2 ⟨rfl, hb2⟩
    have hr := Lib.hid (fun w (h : Tps w.heap.size w a l) => rcheck_any T R L a cap l w h hs)
    generalize chk T l R L = xy at *
    obtain ⟨x, y⟩ := xy
    have X2 := Lib.hid ((X1.out.next hb2).alloc (.cells #[.int .i64 x, .int .i64 y] 29))
    have hF := Lib.hid (Blk.new W2 #[.int .i64 x, .int .i64 y] 29)
    clear X1 hb2 c0 c1 c2 c3
    have c0 := X2.out.1.cell (i := 0) rfl
    have c1 := X2.out.1.cell (i := 1) rfl
    have c2 := X2.out.1.cell (i := 2) rfl
    have c3 := X2.out.1.cell (i := 3) rfl
    go_wp2_with fail
    generalize hFE : W2.heap.size = F at *
    generalize W2.alloc (.cells #[.int .i64 x, .int .i64 y] 29) = W3 at *
    refine (hr.out W3 X2.out.2.1).mono ?_
    rintro e W4 ⟨rfl, hb4⟩
    have X4 := Lib.hid ((X2.out.next hb4).alloc (.cells #[.int .i64 x, .int .i64 y] 31))
    have hF4 := (hF.out.low hb4).alloc (.cells #[.int .i64 x, .int .i64 y] 31)
    have hG4 := Blk.new W4 #[.int .i64 x, .int .i64 y] 31
    have f0 := hF4.cell (i := 0) rfl
    have f1 := hF4.cell (i := 1) rfl
    have g0 := hG4.cell (i := 0) rfl
    have g1 := hG4.cell (i := 1) rfl
    clear X2 hF hb4 hF4 hG4 c0 c1 c2 c3 hFE hr
    go_wp2_with fail
    generalize W4.alloc (.cells #[.int .i64 x, .int .i64 y] 31) = W5 at *
    refine (awake_any W5 X4.out.2.2.1).mono ?_
    rintro e W6 ⟨rfl, hb6⟩
    have hfin := Lib.hid (X4.out.next hb6).2.2.2
    clear X4 hb6 f0 f1 g0 g1
    go_wp2
    go_ret
    exact ⟨rfl, hfin.out⟩
  · have hf' : few l = false := by simpa using hf
    rw [hf']
    go_wp2_with fail
    refine (awake_any W1 X1.out.2.2.1).mono ?_
    rintro e W2 ⟨rfl, hb2⟩
    have hfin := Lib.hid (X1.out.next hb2).2.2.2
    go_wp2
    go_ret
    exact ⟨rfl, hfin.out⟩
end Go.Proofs.YthdchoagdipplaaDoor
