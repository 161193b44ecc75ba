/- The walk of the law PlanWhose. -/
import Derived.Test.YtdnjoflahiffhaaBxW
import Derived.Test.YtdnjoflahiffhaaWhM
namespace Go.Proofs.Ytdnjoflahiffhaa
open Go.RowKit

set_option maxRecDepth 100000 in
set_option maxHeartbeats 4000000 in
theorem whose_law (T R L : Int) (a : Option Addr) (cap : Nat) (l : List Tp) (p : Int) (w : World) (hT : Tps w.heap.size w a l) : Calls Try.prog 5 #[cfg T a l.length cap R L, .int .i64 p] w (Ret (.bool true) w) := by
  have X0 := Lib.hid (Bx.new w T R L a cap l hT)
  have c0 := X0.out.1.cell (i := 0) rfl
  have c1 := X0.out.1.cell (i := 1) rfl
  have c2 := X0.out.1.cell (i := 2) rfl
  have c3 := X0.out.1.cell (i := 3) rfl
  clear hT
  go_enter Try.func5, Try.ntmps5
  go_wp2_with fail
  generalize w.alloc (.cells #[.int .i64 T, .slice a l.length cap, .int .i64 R, .int .i64 L] 24) = W0 at *
  refine (few_any T R L a cap l W0 X0.out.2.1).mono ?_
  rintro e W1 ⟨rfl, hb1⟩
  have X1 := Lib.hid (X0.out.next hb1)
  clear hb1 X0 c0 c1 c2 c3
  by_cases hf : few l = true
  case neg =>
    have hf' : few l = false := by simpa using hf
    rw [hf']
    clear hf hf'
    go_wp2_with fail
    refine (awake_any W1).mono ?_
    rintro e W2 ⟨rfl, hb2⟩
    have X2 := Lib.hid (X1.out.next hb2)
    clear hb2 X1
    go_wp2
    go_ret
    exact ⟨rfl, X2.out.2.2⟩
  rw [hf]
  have Hs := Lib.hid (few_size hf)
  clear hf
  have c0 := X1.out.1.cell (i := 0) rfl
  have c1 := X1.out.1.cell (i := 1) rfl
  have c2 := X1.out.1.cell (i := 2) rfl
  have c3 := X1.out.1.cell (i := 3) rfl
  by_cases hok : (chk T l R L).2 = 0
  case neg =>
    have Hno := Lib.hid hok
    have hy : ((chk T l R L).2 != 0) = true := by simpa using hok
    have Hof := Lib.hid (rof_bad T R L a cap l W1 X1.out.2.1 Hs.out hok)
    clear hok
    go_wp2_with fail
    refine Hof.out.mono ?_
    rintro e W2 ⟨rfl, hb2⟩
    have X2 := Lib.hid (X1.out.next hb2)
    clear hb2 X1 c0 c1 c2 c3 Hof
    have c0 := X2.out.1.cell (i := 0) rfl
    have c1 := X2.out.1.cell (i := 1) rfl
    have c2 := X2.out.1.cell (i := 2) rfl
    have c3 := X2.out.1.cell (i := 3) rfl
    go_wp2_with fail
    refine (of_bad T R L a cap l W2 X2.out.2.1 Hs.out Hno.out).mono ?_
    rintro e W4 ⟨rfl, hb4⟩
    have X4 := Lib.hid ((X2.out.next hb4).alloc (.cells #[.int .i64 0, .int .i64 0, .int .i64 0, .slice none 0 0, .int .i64 0] 29))
    clear hb4 X2 c0 c1 c2 c3 Hno
    generalize (chk T l R L).2 = y at *
    have qy : (y == y) = true := by simp
    go_wp2_with fail
    generalize W4.alloc (.cells #[.int .i64 0, .int .i64 0, .int .i64 0, .slice none 0 0, .int .i64 0] 29) = W6 at *
    refine (awake_any W6).mono ?_
    rintro e W5 ⟨rfl, hb5⟩
    have X5 := Lib.hid (X4.out.next hb5)
    clear hb5 X4
    go_wp2
    go_ret
    exact ⟨rfl, X5.out.2.2⟩
  obtain ⟨hl1, hl64, hL1, hL64, hall⟩ := chk_rng hok
  have Hof := Lib.hid (rof_ok T R L a cap l W1 X1.out.2.1 Hs.out hok)
  have Hok := Lib.hid (And.intro hok hall)
  clear hok hall
  go_wp2_with fail
  refine Hof.out.mono ?_
  rintro e W2 ⟨Q, aq, cq, am, cm, rfl, hQ, _, hIq, hb2⟩
  have X2 := Lib.hid (And.intro (X1.out.next hb2) (And.intro hQ hIq))
  clear hb2 X1 c0 c1 c2 c3 Hof hQ hIq
  have c0 := X2.out.1.1.cell (i := 0) rfl
  have c1 := X2.out.1.1.cell (i := 1) rfl
  have c2 := X2.out.1.1.cell (i := 2) rfl
  have c3 := X2.out.1.1.cell (i := 3) rfl
  go_wp2_with fail
  refine (of_ok T R L a cap l W2 X2.out.1.2.1 Hs.out Hok.out.1).mono ?_
  rintro e W3 ⟨aa, ca, rfl, hS3, hb3⟩
  have hP := Blk.new W3 #[.int .i64 0, .int .i64 1, .int .i64 L, .slice aa l.length ca, .int .i64 (tot (1 + L) l)] 29
  have hbn := (Below.refl W3.heap.size W3).alloc (Nat.le_refl _) (.cells #[.int .i64 0, .int .i64 1, .int .i64 L, .slice aa l.length ca, .int .i64 (tot (1 + L) l)] 29)
  have X3 := Lib.hid (And.intro ((X2.out.1.next hb3).next hbn) (And.intro hP (And.intro (hS3.next hbn) (And.intro ((X2.out.2.1.low hb3).low hbn) ((X2.out.2.2.next hb3).next hbn)))))
  clear hb3 X2 c0 c1 c2 c3 hP hS3 hbn
  have p0 := X3.out.2.1.cell (i := 0) rfl
  have p1 := X3.out.2.1.cell (i := 1) rfl
  have p2 := X3.out.2.1.cell (i := 2) rfl
  have p3 := X3.out.2.1.cell (i := 3) rfl
  have p4 := X3.out.2.1.cell (i := 4) rfl
  have q4 := X3.out.2.2.2.1.cell (i := 4) rfl
  obtain ⟨V, hV⟩ : ∃ V, W3.alloc (.cells #[.int .i64 0, .int .i64 1, .int .i64 L, .slice aa l.length ca, .int .i64 (tot (1 + L) l)] 29) = V := ⟨_, rfl⟩
  rw [hV] at X3 p0 p1 p2 p3 p4 q4
  have Hw := Lib.hid (fun V h => whose_of hL1 hL64 hl64 Hok.out.2 (tot (1 + L) l) p aa ca V h)
  by_cases hp : p < 0
  · have m0 : decide ((0 : Int) ≤ p) = false := decide_eq_false (by omega)
    go_wp2_with fail
    refine (Hw.out V X3.out.2.2.1).mono ?_
    rintro e V2 ⟨rfl, hb⟩
    rw [wv_neg hp]
    have X4 := Lib.hid (X3.out.1.next hb)
    clear hb X3 p0 p1 p2 p3 p4 q4 Hw hV
    go_wp2_with fail
    refine (awake_any V2).mono ?_
    rintro e V3 ⟨rfl, hb5⟩
    have X5 := Lib.hid (X4.out.next hb5)
    clear hb5 X4
    go_wp2
    go_ret
    exact ⟨rfl, X5.out.2.2⟩
  have m0 : decide ((0 : Int) ≤ p) = true := decide_eq_true (by omega)
  obtain ⟨k, rfl⟩ : ∃ k : Nat, p = k := ⟨p.toNat, by omega⟩
  by_cases hk : k < (wdl L l).length
  · have m1 : decide ((k : Int) < ((wdl L l).length : Int)) = true := decide_eq_true (by omega)
    have m2 : (k : Int) < ((wdl L l).length : Int) := by omega
    obtain ⟨x, hx⟩ : ∃ x, (wdl L l)[k]? = some x := ⟨_, List.getElem?_eq_getElem hk⟩
    obtain ⟨b, off, rfl, _, cx⟩ := X3.out.2.2.2.2 k x hx
    have Hx := Lib.hid (wv_at hx)
    have Hk := Lib.hid hk
    clear hx hk hp
    generalize (wdl L l).length = m at *
    go_wp2_with fail
    refine (Hw.out V X3.out.2.2.1).mono ?_
    rintro e V2 ⟨rfl, hb⟩
    rw [Hx.out]
    have X4 := Lib.hid (X3.out.1.next hb)
    clear hb X3 cx p0 p1 p2 p3 p4 q4 Hw hV
    have qx : (x == x) = true := by simp
    go_wp2_with fail
    refine (awake_any V2).mono ?_
    rintro e V3 ⟨rfl, hb5⟩
    have X5 := Lib.hid (X4.out.next hb5)
    clear hb5 X4
    go_wp2
    go_ret
    exact ⟨rfl, X5.out.2.2⟩
  · have m1 : decide ((k : Int) < ((wdl L l).length : Int)) = false := decide_eq_false (by omega)
    have m3 : decide (k < (wdl L l).length) = false := decide_eq_false hk
    have Hx := Lib.hid (wv_big (L := L) (l := l) (p := (k : Int)) (by omega))
    clear hp
    generalize (wdl L l).length = m at *
    go_wp2_with fail
    refine (Hw.out V X3.out.2.2.1).mono ?_
    rintro e V2 ⟨rfl, hb⟩
    rw [Hx.out]
    have X4 := Lib.hid (X3.out.1.next hb)
    clear hb X3 p0 p1 p2 p3 p4 q4 Hw hV
    go_wp2_with fail
    refine (awake_any V2).mono ?_
    rintro e V3 ⟨rfl, hb5⟩
    have X5 := Lib.hid (X4.out.next hb5)
    clear hb5 X4
    go_wp2
    go_ret
    exact ⟨rfl, X5.out.2.2⟩
end Go.Proofs.Ytdnjoflahiffhaa
