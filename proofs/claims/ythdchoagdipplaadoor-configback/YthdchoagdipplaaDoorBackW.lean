/- The walk of the law ConfigBack. -/
import Derived.Test.YthdchoagdipplaaDoorAwk
import Derived.Test.YthdchoagdipplaaDoorPrn
import Derived.Test.YthdchoagdipplaaDoorRt
import Derived.Test.YthdchoagdipplaaDoorSam
namespace Go.Proofs.YthdchoagdipplaaDoor
open Go.RowKit

theorem field29 (x y : Int) (w : World) : (Instr.field 29 (.agg #[.int .i64 x, .int .i64 y]) 1).run Tryd.prog w = .ok (.int .i64 y) w := by kernel_rfl
theorem smB_same (T R L : Int) (l : List Tp) : smB T R L T R L l l = true := by unfold smB; simp

set_option maxRecDepth 100000 in
set_option maxHeartbeats 4000000 in
theorem back_law (T R L : Int) (a : Option Addr) (cap : Nat) (l : List Tp) (s : ByteArray) (w : World) (hT : Tps w.heap.size w a l) (hM : ML w) : Calls Tryd.prog 8 #[cfg T a l.length cap R L, .string s] w (Ret (.bool true) w) := by
  have HX := Lib.hid (Bx.new w T R L a cap l hT hM)
  have c0 := HX.out.1.cell (i := 0) rfl
  have c1 := HX.out.1.cell (i := 1) rfl
  have c2 := HX.out.1.cell (i := 2) rfl
  have c3 := HX.out.1.cell (i := 3) rfl
  clear hT hM
  go_enter Tryd.func8, Tryd.ntmps8
  go_wp2_with fail
  generalize w.alloc (.cells #[.int .i64 T, .slice a l.length cap, .int .i64 R, .int .i64 L] 24) = W at *
  refine (few_any T R L a cap l W HX.out.2.1).mono ?_
  rintro e W1 ⟨rfl, hb1⟩
  have X1 := Lib.hid (HX.out.next hb1)
  clear HX hb1 c0 c1 c2 c3
  by_cases hf : few l = true
  · have hs := few_size hf
    have hlc : l.length ≤ 100000 := by have := (few_spec hf).1; omega
    rw [hf]
    clear hf
    by_cases h40 : 4000 < s.size
    · have hd : decide ((4000 : Int) < (s.size : Int)) = true := decide_eq_true (by omega)
      go_wp2_with fail
      refine (awake_any W1 X1.out.2.2.1).mono ?_
      rintro e W3 ⟨rfl, hb3⟩
      have hfin := Lib.hid (X1.out.next hb3).2.2.2
      go_wp2
      go_ret
      exact ⟨rfl, hfin.out⟩
    have hd : decide ((4000 : Int) < (s.size : Int)) = false := decide_eq_false (by omega)
    have c0 := X1.out.1.cell (i := 0) rfl
    have c1 := X1.out.1.cell (i := 1) rfl
    have c2 := X1.out.1.cell (i := 2) rfl
    have c3 := X1.out.1.cell (i := 3) rfl
    go_wp2_with fail
    refine (print_any T R L a cap l W1 X1.out.2.1 X1.out.2.2.1 hs).mono ?_
    rintro e W2 ⟨rfl, hb2⟩
    have X2 := Lib.hid (X1.out.next hb2)
    clear X1 hb2 c0 c1 c2 c3
    by_cases hy : (chk T l R L).2 = 0
    · obtain ⟨p1, p2, p3, p4, p5, p6, p7⟩ := parse_txt hy
      have hpt : prT T l R L = txt T l R L := by unfold prT; rw [if_pos hy]
      rw [hy, hpt]
      clear hpt hy
      have hps := parse_any (str (txt T l R L)) W2 X2.out.2.2.1 (by rw [str_size]; omega)
      unfold ParPost at hps
      rw [bs_str, p2, p3, p4, p5, p6, p7] at hps
      have Hps := Lib.hid hps
      clear hps p1 p2 p3 p4 p5 p6 p7
      generalize str (txt T l R L) = ts at *
      go_wp2_with fail
      refine Hps.out.mono ?_
      rintro e W3 ⟨a3, cap3, rfl, hb3, hT3⟩
      have hD := Blk.new W3 #[.int .i64 T, .slice a3 l.length cap3, .int .i64 R, .int .i64 L] 24
      have hT4 := hT3.next ((Below.refl W3.heap.size W3).alloc (Nat.le_refl _) (.cells #[.int .i64 T, .slice a3 l.length cap3, .int .i64 R, .int .i64 L] 24))
      have X4 := Lib.hid (And.intro ((X2.out.next hb3).alloc (.cells #[.int .i64 T, .slice a3 l.length cap3, .int .i64 R, .int .i64 L] 24)) hT4)
      have d0 := hD.cell (i := 0) rfl
      have d1 := hD.cell (i := 1) rfl
      have d2 := hD.cell (i := 2) rfl
      have d3 := hD.cell (i := 3) rfl
      have c0 := X4.out.1.1.cell (i := 0) rfl
      have c1 := X4.out.1.1.cell (i := 1) rfl
      have c2 := X4.out.1.1.cell (i := 2) rfl
      have c3 := X4.out.1.1.cell (i := 3) rfl
      clear X2 hb3 hT3 hT4 hD Hps
      go_wp2_with fail
      generalize W3.alloc (.cells #[.int .i64 T, .slice a3 l.length cap3, .int .i64 R, .int .i64 L] 24) = W4 at *
      refine (same_any T R L T R L a a3 cap cap3 l l W4 X4.out.1.2.1 X4.out.2 hlc).mono ?_
      rintro e W5 ⟨rfl, hb5⟩
      rw [smB_same]
      have X5 := Lib.hid (X4.out.1.next hb5)
      clear X4 hb5 c0 c1 c2 c3 d0 d1 d2 d3
      go_wp2_with fail
      refine (parse_any s W5 X5.out.2.2.1 (by omega)).mono ?_
      rintro e U1 ⟨b1, cap1, rfl, hv1, hP1⟩
      have Y1 := Lib.hid (X5.out.next hv1)
      clear X5 hv1
      by_cases hpe : paE (bs s) = 0
      · obtain ⟨q1, q2, q3, q4⟩ := txt_parse hpe
        have hsz : ∀ t ∈ paL (bs s), t.1.size ≤ 100000 := fun t ht => Nat.le_trans (q4 t ht) (by decide)
        have hpt : prT (paT (bs s)) (paL (bs s)) (paR (bs s)) (paG (bs s)) = bs s := by unfold prT; rw [if_pos q1, q2]
        have hprn := Lib.hid (fun w (h : Tps w.heap.size w b1 (paL (bs s))) (h2 : ML w) => print_any (paT (bs s)) (paR (bs s)) (paG (bs s)) b1 cap1 (paL (bs s)) w h h2 hsz)
        rw [hpt, q1, str_bs] at hprn
        rw [hpe, q3]
        clear q1 q2 q3 q4 hsz hpt hpe
        generalize paT (bs s) = T1 at *
        generalize paR (bs s) = R1 at *
        generalize paG (bs s) = L1 at *
        generalize paL (bs s) = l1 at *
        have hD := Blk.new U1 #[.int .i64 T1, .slice b1 l1.length cap1, .int .i64 R1, .int .i64 L1] 24
        have hP2 := hP1.next ((Below.refl U1.heap.size U1).alloc (Nat.le_refl _) (.cells #[.int .i64 T1, .slice b1 l1.length cap1, .int .i64 R1, .int .i64 L1] 24))
        have Y2 := Lib.hid (And.intro (Y1.out.alloc (.cells #[.int .i64 T1, .slice b1 l1.length cap1, .int .i64 R1, .int .i64 L1] 24)) hP2)
        have d0 := hD.cell (i := 0) rfl
        have d1 := hD.cell (i := 1) rfl
        have d2 := hD.cell (i := 2) rfl
        have d3 := hD.cell (i := 3) rfl
        clear Y1 hP1 hP2 hD
        go_wp2_with fail
        generalize U1.alloc (.cells #[.int .i64 T1, .slice b1 l1.length cap1, .int .i64 R1, .int .i64 L1] 24) = U2 at *
        refine (hprn.out U2 Y2.out.2 Y2.out.1.2.2.1).mono ?_
        rintro e U3 ⟨rfl, hv3⟩
        have Y3 := Lib.hid (Y2.out.1.next hv3)
        have hss : (s.toList == s.toList) = true := by rw [str_eq]; exact decide_eq_true rfl
        clear Y2 hv3 hprn d0 d1 d2 d3
        go_wp2_with fail
        refine (awake_any U3 Y3.out.2.2.1).mono ?_
        rintro e U4 ⟨rfl, hv4⟩
        have hfin := Lib.hid (Y3.out.next hv4).2.2.2
        clear Y3 hv4
        go_wp2
        go_ret
        exact ⟨rfl, hfin.out⟩
      · have hpl : paL (bs s) = [] := by unfold paL; rw [if_neg hpe]
        have hpe' : (paE (bs s) != 0) = true := by simpa using hpe
        rw [hpl]
        clear hpl hpe hP1
        generalize paT (bs s) = T1 at *
        generalize paR (bs s) = R1 at *
        generalize paG (bs s) = L1 at *
        generalize paN (bs s) = N1 at *
        generalize paE (bs s) = E1 at *
        have hD := Blk.new U1 #[.int .i64 T1, .slice b1 0 cap1, .int .i64 R1, .int .i64 L1] 24
        have Y2 := Lib.hid (Y1.out.alloc (.cells #[.int .i64 T1, .slice b1 0 cap1, .int .i64 R1, .int .i64 L1] 24))
        have d0 := hD.cell (i := 0) rfl
        have d1 := hD.cell (i := 1) rfl
        have d2 := hD.cell (i := 2) rfl
        have d3 := hD.cell (i := 3) rfl
        clear Y1 hD
        go_wp2_with fail
        generalize U1.alloc (.cells #[.int .i64 T1, .slice b1 0 cap1, .int .i64 R1, .int .i64 L1] 24) = U2 at *
        refine (awake_any _ Y2.out.2.2.1).mono ?_
        rintro e U4 ⟨rfl, hv4⟩
        have hfin := Lib.hid (Y2.out.next hv4).2.2.2
        clear Y2 hv4 d0 d1 d2 d3
        go_wp2
        go_ret
        exact ⟨rfl, hfin.out⟩
    · have hy' : ((chk T l R L).2 == 0) = false := by simpa using hy
      have c0 := X2.out.1.cell (i := 0) rfl
      have c1 := X2.out.1.cell (i := 1) rfl
      have c2 := X2.out.1.cell (i := 2) rfl
      have c3 := X2.out.1.cell (i := 3) rfl
      have hck := Lib.hid (check_any T R L a cap l W2 X2.out.2.1 hs)
      clear hy
      generalize chk T l R L = xy at *
      obtain ⟨x, y⟩ := xy
      generalize prT T l R L = tx at *
      have hyy : (y != y) = false := by simp
      have hfd : ∀ w, (Instr.field 29 (flt (x, y)) 1).run Tryd.prog w = .ok (.int .i64 y) w := field29 x y
      go_wp2_with fail
      refine hck.out.mono ?_
      rintro e W5 ⟨rfl, hb5⟩
      have X5 := Lib.hid (X2.out.next hb5)
      clear X2 hb5 c0 c1 c2 c3 hck
      go_wp2_with fail
      refine (parse_any s W5 X5.out.2.2.1 (by omega)).mono ?_
      rintro e U1 ⟨b1, cap1, rfl, hv1, hP1⟩
      have Y1 := Lib.hid (X5.out.next hv1)
      clear X5 hv1
      by_cases hpe : paE (bs s) = 0
      · obtain ⟨q1, q2, q3, q4⟩ := txt_parse hpe
        have hsz : ∀ t ∈ paL (bs s), t.1.size ≤ 100000 := fun t ht => Nat.le_trans (q4 t ht) (by decide)
        have hpt : prT (paT (bs s)) (paL (bs s)) (paR (bs s)) (paG (bs s)) = bs s := by unfold prT; rw [if_pos q1, q2]
        have hprn := Lib.hid (fun w (h : Tps w.heap.size w b1 (paL (bs s))) (h2 : ML w) => print_any (paT (bs s)) (paR (bs s)) (paG (bs s)) b1 cap1 (paL (bs s)) w h h2 hsz)
        rw [hpt, q1, str_bs] at hprn
        rw [hpe, q3]
        clear q1 q2 q3 q4 hsz hpt hpe
        generalize paT (bs s) = T1 at *
        generalize paR (bs s) = R1 at *
        generalize paG (bs s) = L1 at *
        generalize paL (bs s) = l1 at *
        have hD := Blk.new U1 #[.int .i64 T1, .slice b1 l1.length cap1, .int .i64 R1, .int .i64 L1] 24
        have hP2 := hP1.next ((Below.refl U1.heap.size U1).alloc (Nat.le_refl _) (.cells #[.int .i64 T1, .slice b1 l1.length cap1, .int .i64 R1, .int .i64 L1] 24))
        have Y2 := Lib.hid (And.intro (Y1.out.alloc (.cells #[.int .i64 T1, .slice b1 l1.length cap1, .int .i64 R1, .int .i64 L1] 24)) hP2)
        have d0 := hD.cell (i := 0) rfl
        have d1 := hD.cell (i := 1) rfl
        have d2 := hD.cell (i := 2) rfl
        have d3 := hD.cell (i := 3) rfl
        clear Y1 hP1 hP2 hD
        go_wp2_with fail
        generalize U1.alloc (.cells #[.int .i64 T1, .slice b1 l1.length cap1, .int .i64 R1, .int .i64 L1] 24) = U2 at *
        refine (hprn.out U2 Y2.out.2 Y2.out.1.2.2.1).mono ?_
        rintro e U3 ⟨rfl, hv3⟩
        have Y3 := Lib.hid (Y2.out.1.next hv3)
        have hss : (s.toList == s.toList) = true := by rw [str_eq]; exact decide_eq_true rfl
        clear Y2 hv3 hprn d0 d1 d2 d3
        go_wp2_with fail
        refine (awake_any U3 Y3.out.2.2.1).mono ?_
        rintro e U4 ⟨rfl, hv4⟩
        have hfin := Lib.hid (Y3.out.next hv4).2.2.2
        clear Y3 hv4
        go_wp2
        go_ret
        exact ⟨rfl, hfin.out⟩
      · have hpl : paL (bs s) = [] := by unfold paL; rw [if_neg hpe]
        have hpe' : (paE (bs s) != 0) = true := by simpa using hpe
        rw [hpl]
        clear hpl hpe hP1
        generalize paT (bs s) = T1 at *
        generalize paR (bs s) = R1 at *
        generalize paG (bs s) = L1 at *
        generalize paN (bs s) = N1 at *
        generalize paE (bs s) = E1 at *
        have hD := Blk.new U1 #[.int .i64 T1, .slice b1 0 cap1, .int .i64 R1, .int .i64 L1] 24
        have Y2 := Lib.hid (Y1.out.alloc (.cells #[.int .i64 T1, .slice b1 0 cap1, .int .i64 R1, .int .i64 L1] 24))
        have d0 := hD.cell (i := 0) rfl
        have d1 := hD.cell (i := 1) rfl
        have d2 := hD.cell (i := 2) rfl
        have d3 := hD.cell (i := 3) rfl
        clear Y1 hD
        go_wp2_with fail
        generalize U1.alloc (.cells #[.int .i64 T1, .slice b1 0 cap1, .int .i64 R1, .int .i64 L1] 24) = U2 at *
        refine (awake_any _ Y2.out.2.2.1).mono ?_
        rintro e U4 ⟨rfl, hv4⟩
        have hfin := Lib.hid (Y2.out.next hv4).2.2.2
        clear Y2 hv4 d0 d1 d2 d3
        go_wp2
        go_ret
        exact ⟨rfl, hfin.out⟩
  · have hf' : few l = false := by simpa using hf
    rw [hf']
    go_wp2_with fail
    refine (awake_any W1 X1.out.2.2.1).mono ?_
    rintro e W2 ⟨rfl, hb2⟩
    have hfin := Lib.hid (X1.out.next hb2).2.2.2
    go_wp2
    go_ret
    exact ⟨rfl, hfin.out⟩
end Go.Proofs.YthdchoagdipplaaDoor
