/- The walk of the law SeqSome. -/
import Derived.Test.YtejkhalenedeoaaAwk
namespace Go.Proofs.Ytejkhalenedeoaa
open Go.RowKit

set_option maxRecDepth 100000 in
set_option maxHeartbeats 1000000 in
theorem some_no (s d g : Int) (hs : W64 s) (hg : W64 g) (h : ¬ (2 ≤ d ∧ d ≤ 16)) (w0 : World) : Calls Try.prog 7 #[.int .u64 s, .int .i64 d, .int .u64 g] w0 (Ret (.bool true) w0) := by
  have H0 := Lib.hid (Below.refl w0.heap.size w0)
  have k := kept_any s g d hs hg
  rw [kp_f (fun c => h ⟨c.1, c.2.1⟩)] at k
  have f := first_any s d hs
  rw [fi_no h] at f
  have K := Lib.hid k
  have F := Lib.hid f
  clear k f hs hg
  by_cases h1 : d < 2
  · have m0 : decide (d < 2) = true := decide_eq_true h1
    clear h
    go_enter Try.func7, Try.ntmps7
    go_wp2_with fail
    refine (K.out _).mono ?_
    rintro e w1 ⟨rfl, hb⟩
    have H1 := Lib.hid (H0.out.trans (hb.mono H0.out.size))
    clear hb H0
    go_wp2_with fail
    refine (F.out _).mono ?_
    rintro e w2 ⟨rfl, hb⟩
    have H2 := Lib.hid (H1.out.trans (hb.mono H1.out.size))
    clear hb H1
    go_wp2_with fail
    refine (awake_any _).mono ?_
    rintro e w3 ⟨rfl, hb⟩
    have H3 := Lib.hid (H2.out.trans (hb.mono H2.out.size))
    clear hb H2
    go_wp2
    go_ret
    exact ⟨rfl, H3.out⟩
  · have m0 : decide (d < 2) = false := decide_eq_false h1
    have m1 : decide (16 < d) = true := decide_eq_true (by omega)
    clear h
    go_enter Try.func7, Try.ntmps7
    go_wp2_with fail
    refine (K.out _).mono ?_
    rintro e w1 ⟨rfl, hb⟩
    have H1 := Lib.hid (H0.out.trans (hb.mono H0.out.size))
    clear hb H0
    go_wp2_with fail
    refine (F.out _).mono ?_
    rintro e w2 ⟨rfl, hb⟩
    have H2 := Lib.hid (H1.out.trans (hb.mono H1.out.size))
    clear hb H1
    go_wp2_with fail
    refine (awake_any _).mono ?_
    rintro e w3 ⟨rfl, hb⟩
    have H3 := Lib.hid (H2.out.trans (hb.mono H2.out.size))
    clear hb H2
    go_wp2
    go_ret
    exact ⟨rfl, H3.out⟩
/-- What the law leans on, of a depth that may be. -/
theorem some_math {s d : Int} (hs : W64 s) (hd : 2 ≤ d) (hd2 : d ≤ 16) :
    s / 2 - fi s d < d - s % 2 ∧ (fi s d = 0 ∨ s / 2 - fi s d + 1 = d - s % 2) := by
  unfold W64 at hs
  rw [fi_ok hd hd2]
  unfold bg
  split <;> omega
set_option maxRecDepth 100000 in
set_option maxHeartbeats 1000000 in
theorem some_000 (s d g F n : Int) (hs : W64 s) (hg : W64 g) (hd : 2 ≤ d) (hd2 : d ≤ 16) (f0 : 0 ≤ F) (f1 : F ≤ n) (hn : n ≤ 9223372036854775807)
    (PG : Hid (∀ w, Calls Try.prog 9 #[.int .u64 s] w (Pur (.int .u64 n) w))) (F1 : Hid (∀ w, Calls Try.prog 20 #[.int .u64 s, .int .i64 d] w (Ret (.int .u64 F) w)))
    (K1 : Hid (∀ w, Calls Try.prog 18 #[.int .u64 s, .int .u64 n, .int .i64 d] w (Ret (.bool true) w)))
    (K2 : Hid (∀ w, Calls Try.prog 18 #[.int .u64 s, .int .u64 g, .int .i64 d] w (Ret (.bool false) w)))
    (PH : Hid (∀ w, Calls Try.prog 11 #[.int .u64 s] w (Pur (.bool false) w)))
    (hgg : g < F) (hlt : n - F < d - 0) (hz : F = 0) (w0 : World) :
    Calls Try.prog 7 #[.int .u64 s, .int .i64 d, .int .u64 g] w0 (Ret (.bool true) w0) := by
  have H0 := Lib.hid (Below.refl w0.heap.size w0)
  have m0 : decide (d < 2) = false := decide_eq_false (by omega)
  have m1 : decide (16 < d) = false := decide_eq_false (by omega)
  have m2 : decide (n < F) = false := decide_eq_false (by omega)
  have m3 : decide (F ≤ g) = false := decide_eq_false (by omega)
  have m4 : decide (g ≤ n) = true := decide_eq_true (by omega)
  have m5 : decide (n - F < d) = true := decide_eq_true (by omega)
  have d0 : 0 ≤ d := by omega
  have d1 : d < 18446744073709551616 := by omega
  have n0 : 0 ≤ n - F := by omega
  have n1 : n - F < 18446744073709551615 := by omega
  have m6 : (F == 0) = true := by simp; omega
  clear hgg hlt hz hs hg
  go_enter Try.func7, Try.ntmps7
  go_wp2_with fail
  refine (PG.out _).mono ?_
  rintro e w' ⟨rfl, rfl⟩
  go_wp2_with fail
  refine (F1.out _).mono ?_
  rintro e w1 ⟨rfl, hb⟩
  have H1 := Lib.hid (H0.out.trans (hb.mono H0.out.size))
  clear hb H0
  go_wp2_with fail
  refine (K1.out _).mono ?_
  rintro e w2 ⟨rfl, hb⟩
  have H2 := Lib.hid (H1.out.trans (hb.mono H1.out.size))
  clear hb H1
  go_wp2_with fail
  refine (K2.out _).mono ?_
  rintro e w3 ⟨rfl, hb⟩
  have H3 := Lib.hid (H2.out.trans (hb.mono H2.out.size))
  clear hb H2
  go_wp2_with fail
  refine (PH.out _).mono ?_
  rintro e w' ⟨rfl, rfl⟩
  go_wp2_with fail
  refine (awake_any _).mono ?_
  rintro e w4 ⟨rfl, hb⟩
  have H4 := Lib.hid (H3.out.trans (hb.mono H3.out.size))
  clear hb H3
  go_wp2
  go_ret
  exact ⟨rfl, H4.out⟩
set_option maxRecDepth 100000 in
set_option maxHeartbeats 1000000 in
theorem some_001 (s d g F n : Int) (hs : W64 s) (hg : W64 g) (hd : 2 ≤ d) (hd2 : d ≤ 16) (f0 : 0 ≤ F) (f1 : F ≤ n) (hn : n ≤ 9223372036854775807)
    (PG : Hid (∀ w, Calls Try.prog 9 #[.int .u64 s] w (Pur (.int .u64 n) w))) (F1 : Hid (∀ w, Calls Try.prog 20 #[.int .u64 s, .int .i64 d] w (Ret (.int .u64 F) w)))
    (K1 : Hid (∀ w, Calls Try.prog 18 #[.int .u64 s, .int .u64 n, .int .i64 d] w (Ret (.bool true) w)))
    (K2 : Hid (∀ w, Calls Try.prog 18 #[.int .u64 s, .int .u64 g, .int .i64 d] w (Ret (.bool false) w)))
    (PH : Hid (∀ w, Calls Try.prog 11 #[.int .u64 s] w (Pur (.bool false) w)))
    (hgg : g < F) (hlt : n - F < d - 0) (hz : F ≠ 0 ∧ n - F + 1 = d - 0) (w0 : World) :
    Calls Try.prog 7 #[.int .u64 s, .int .i64 d, .int .u64 g] w0 (Ret (.bool true) w0) := by
  have H0 := Lib.hid (Below.refl w0.heap.size w0)
  have m0 : decide (d < 2) = false := decide_eq_false (by omega)
  have m1 : decide (16 < d) = false := decide_eq_false (by omega)
  have m2 : decide (n < F) = false := decide_eq_false (by omega)
  have m3 : decide (F ≤ g) = false := decide_eq_false (by omega)
  have m4 : decide (g ≤ n) = true := decide_eq_true (by omega)
  have m5 : decide (n - F < d) = true := decide_eq_true (by omega)
  have d0 : 0 ≤ d := by omega
  have d1 : d < 18446744073709551616 := by omega
  have n0 : 0 ≤ n - F := by omega
  have n1 : n - F < 18446744073709551615 := by omega
  have m6 : (F == 0) = false := by simp; omega
  have m7 : (n - F + 1 == d) = true := by simp; omega
  clear hgg hlt hz hs hg
  go_enter Try.func7, Try.ntmps7
  go_wp2_with fail
  refine (PG.out _).mono ?_
  rintro e w' ⟨rfl, rfl⟩
  go_wp2_with fail
  refine (F1.out _).mono ?_
  rintro e w1 ⟨rfl, hb⟩
  have H1 := Lib.hid (H0.out.trans (hb.mono H0.out.size))
  clear hb H0
  go_wp2_with fail
  refine (K1.out _).mono ?_
  rintro e w2 ⟨rfl, hb⟩
  have H2 := Lib.hid (H1.out.trans (hb.mono H1.out.size))
  clear hb H1
  go_wp2_with fail
  refine (K2.out _).mono ?_
  rintro e w3 ⟨rfl, hb⟩
  have H3 := Lib.hid (H2.out.trans (hb.mono H2.out.size))
  clear hb H2
  go_wp2_with fail
  refine (PH.out _).mono ?_
  rintro e w' ⟨rfl, rfl⟩
  go_wp2_with fail
  refine (awake_any _).mono ?_
  rintro e w4 ⟨rfl, hb⟩
  have H4 := Lib.hid (H3.out.trans (hb.mono H3.out.size))
  clear hb H3
  go_wp2
  go_ret
  exact ⟨rfl, H4.out⟩
set_option maxRecDepth 100000 in
set_option maxHeartbeats 1000000 in
theorem some_010 (s d g F n : Int) (hs : W64 s) (hg : W64 g) (hd : 2 ≤ d) (hd2 : d ≤ 16) (f0 : 0 ≤ F) (f1 : F ≤ n) (hn : n ≤ 9223372036854775807)
    (PG : Hid (∀ w, Calls Try.prog 9 #[.int .u64 s] w (Pur (.int .u64 n) w))) (F1 : Hid (∀ w, Calls Try.prog 20 #[.int .u64 s, .int .i64 d] w (Ret (.int .u64 F) w)))
    (K1 : Hid (∀ w, Calls Try.prog 18 #[.int .u64 s, .int .u64 n, .int .i64 d] w (Ret (.bool true) w)))
    (K2 : Hid (∀ w, Calls Try.prog 18 #[.int .u64 s, .int .u64 g, .int .i64 d] w (Ret (.bool true) w)))
    (PH : Hid (∀ w, Calls Try.prog 11 #[.int .u64 s] w (Pur (.bool false) w)))
    (hgg : F ≤ g ∧ g ≤ n) (hlt : n - F < d - 0) (hz : F = 0) (w0 : World) :
    Calls Try.prog 7 #[.int .u64 s, .int .i64 d, .int .u64 g] w0 (Ret (.bool true) w0) := by
  have H0 := Lib.hid (Below.refl w0.heap.size w0)
  have m0 : decide (d < 2) = false := decide_eq_false (by omega)
  have m1 : decide (16 < d) = false := decide_eq_false (by omega)
  have m2 : decide (n < F) = false := decide_eq_false (by omega)
  have m3 : decide (F ≤ g) = true := decide_eq_true (by omega)
  have m4 : decide (g ≤ n) = true := decide_eq_true (by omega)
  have m5 : decide (n - F < d) = true := decide_eq_true (by omega)
  have d0 : 0 ≤ d := by omega
  have d1 : d < 18446744073709551616 := by omega
  have n0 : 0 ≤ n - F := by omega
  have n1 : n - F < 18446744073709551615 := by omega
  have m6 : (F == 0) = true := by simp; omega
  clear hgg hlt hz hs hg
  go_enter Try.func7, Try.ntmps7
  go_wp2_with fail
  refine (PG.out _).mono ?_
  rintro e w' ⟨rfl, rfl⟩
  go_wp2_with fail
  refine (F1.out _).mono ?_
  rintro e w1 ⟨rfl, hb⟩
  have H1 := Lib.hid (H0.out.trans (hb.mono H0.out.size))
  clear hb H0
  go_wp2_with fail
  refine (K1.out _).mono ?_
  rintro e w2 ⟨rfl, hb⟩
  have H2 := Lib.hid (H1.out.trans (hb.mono H1.out.size))
  clear hb H1
  go_wp2_with fail
  refine (K2.out _).mono ?_
  rintro e w3 ⟨rfl, hb⟩
  have H3 := Lib.hid (H2.out.trans (hb.mono H2.out.size))
  clear hb H2
  go_wp2_with fail
  refine (PH.out _).mono ?_
  rintro e w' ⟨rfl, rfl⟩
  go_wp2_with fail
  refine (awake_any _).mono ?_
  rintro e w4 ⟨rfl, hb⟩
  have H4 := Lib.hid (H3.out.trans (hb.mono H3.out.size))
  clear hb H3
  go_wp2
  go_ret
  exact ⟨rfl, H4.out⟩
set_option maxRecDepth 100000 in
set_option maxHeartbeats 1000000 in
theorem some_011 (s d g F n : Int) (hs : W64 s) (hg : W64 g) (hd : 2 ≤ d) (hd2 : d ≤ 16) (f0 : 0 ≤ F) (f1 : F ≤ n) (hn : n ≤ 9223372036854775807)
    (PG : Hid (∀ w, Calls Try.prog 9 #[.int .u64 s] w (Pur (.int .u64 n) w))) (F1 : Hid (∀ w, Calls Try.prog 20 #[.int .u64 s, .int .i64 d] w (Ret (.int .u64 F) w)))
    (K1 : Hid (∀ w, Calls Try.prog 18 #[.int .u64 s, .int .u64 n, .int .i64 d] w (Ret (.bool true) w)))
    (K2 : Hid (∀ w, Calls Try.prog 18 #[.int .u64 s, .int .u64 g, .int .i64 d] w (Ret (.bool true) w)))
    (PH : Hid (∀ w, Calls Try.prog 11 #[.int .u64 s] w (Pur (.bool false) w)))
    (hgg : F ≤ g ∧ g ≤ n) (hlt : n - F < d - 0) (hz : F ≠ 0 ∧ n - F + 1 = d - 0) (w0 : World) :
    Calls Try.prog 7 #[.int .u64 s, .int .i64 d, .int .u64 g] w0 (Ret (.bool true) w0) := by
  have H0 := Lib.hid (Below.refl w0.heap.size w0)
  have m0 : decide (d < 2) = false := decide_eq_false (by omega)
  have m1 : decide (16 < d) = false := decide_eq_false (by omega)
  have m2 : decide (n < F) = false := decide_eq_false (by omega)
  have m3 : decide (F ≤ g) = true := decide_eq_true (by omega)
  have m4 : decide (g ≤ n) = true := decide_eq_true (by omega)
  have m5 : decide (n - F < d) = true := decide_eq_true (by omega)
  have d0 : 0 ≤ d := by omega
  have d1 : d < 18446744073709551616 := by omega
  have n0 : 0 ≤ n - F := by omega
  have n1 : n - F < 18446744073709551615 := by omega
  have m6 : (F == 0) = false := by simp; omega
  have m7 : (n - F + 1 == d) = true := by simp; omega
  clear hgg hlt hz hs hg
  go_enter Try.func7, Try.ntmps7
  go_wp2_with fail
  refine (PG.out _).mono ?_
  rintro e w' ⟨rfl, rfl⟩
  go_wp2_with fail
  refine (F1.out _).mono ?_
  rintro e w1 ⟨rfl, hb⟩
  have H1 := Lib.hid (H0.out.trans (hb.mono H0.out.size))
  clear hb H0
  go_wp2_with fail
  refine (K1.out _).mono ?_
  rintro e w2 ⟨rfl, hb⟩
  have H2 := Lib.hid (H1.out.trans (hb.mono H1.out.size))
  clear hb H1
  go_wp2_with fail
  refine (K2.out _).mono ?_
  rintro e w3 ⟨rfl, hb⟩
  have H3 := Lib.hid (H2.out.trans (hb.mono H2.out.size))
  clear hb H2
  go_wp2_with fail
  refine (PH.out _).mono ?_
  rintro e w' ⟨rfl, rfl⟩
  go_wp2_with fail
  refine (awake_any _).mono ?_
  rintro e w4 ⟨rfl, hb⟩
  have H4 := Lib.hid (H3.out.trans (hb.mono H3.out.size))
  clear hb H3
  go_wp2
  go_ret
  exact ⟨rfl, H4.out⟩
set_option maxRecDepth 100000 in
set_option maxHeartbeats 1000000 in
theorem some_020 (s d g F n : Int) (hs : W64 s) (hg : W64 g) (hd : 2 ≤ d) (hd2 : d ≤ 16) (f0 : 0 ≤ F) (f1 : F ≤ n) (hn : n ≤ 9223372036854775807)
    (PG : Hid (∀ w, Calls Try.prog 9 #[.int .u64 s] w (Pur (.int .u64 n) w))) (F1 : Hid (∀ w, Calls Try.prog 20 #[.int .u64 s, .int .i64 d] w (Ret (.int .u64 F) w)))
    (K1 : Hid (∀ w, Calls Try.prog 18 #[.int .u64 s, .int .u64 n, .int .i64 d] w (Ret (.bool true) w)))
    (K2 : Hid (∀ w, Calls Try.prog 18 #[.int .u64 s, .int .u64 g, .int .i64 d] w (Ret (.bool false) w)))
    (PH : Hid (∀ w, Calls Try.prog 11 #[.int .u64 s] w (Pur (.bool false) w)))
    (hgg : n < g) (hlt : n - F < d - 0) (hz : F = 0) (w0 : World) :
    Calls Try.prog 7 #[.int .u64 s, .int .i64 d, .int .u64 g] w0 (Ret (.bool true) w0) := by
  have H0 := Lib.hid (Below.refl w0.heap.size w0)
  have m0 : decide (d < 2) = false := decide_eq_false (by omega)
  have m1 : decide (16 < d) = false := decide_eq_false (by omega)
  have m2 : decide (n < F) = false := decide_eq_false (by omega)
  have m3 : decide (F ≤ g) = true := decide_eq_true (by omega)
  have m4 : decide (g ≤ n) = false := decide_eq_false (by omega)
  have m5 : decide (n - F < d) = true := decide_eq_true (by omega)
  have d0 : 0 ≤ d := by omega
  have d1 : d < 18446744073709551616 := by omega
  have n0 : 0 ≤ n - F := by omega
  have n1 : n - F < 18446744073709551615 := by omega
  have m6 : (F == 0) = true := by simp; omega
  clear hgg hlt hz hs hg
  go_enter Try.func7, Try.ntmps7
  go_wp2_with fail
  refine (PG.out _).mono ?_
  rintro e w' ⟨rfl, rfl⟩
  go_wp2_with fail
  refine (F1.out _).mono ?_
  rintro e w1 ⟨rfl, hb⟩
  have H1 := Lib.hid (H0.out.trans (hb.mono H0.out.size))
  clear hb H0
  go_wp2_with fail
  refine (K1.out _).mono ?_
  rintro e w2 ⟨rfl, hb⟩
  have H2 := Lib.hid (H1.out.trans (hb.mono H1.out.size))
  clear hb H1
  go_wp2_with fail
  refine (K2.out _).mono ?_
  rintro e w3 ⟨rfl, hb⟩
  have H3 := Lib.hid (H2.out.trans (hb.mono H2.out.size))
  clear hb H2
  go_wp2_with fail
  refine (PH.out _).mono ?_
  rintro e w' ⟨rfl, rfl⟩
  go_wp2_with fail
  refine (awake_any _).mono ?_
  rintro e w4 ⟨rfl, hb⟩
  have H4 := Lib.hid (H3.out.trans (hb.mono H3.out.size))
  clear hb H3
  go_wp2
  go_ret
  exact ⟨rfl, H4.out⟩
set_option maxRecDepth 100000 in
set_option maxHeartbeats 1000000 in
theorem some_021 (s d g F n : Int) (hs : W64 s) (hg : W64 g) (hd : 2 ≤ d) (hd2 : d ≤ 16) (f0 : 0 ≤ F) (f1 : F ≤ n) (hn : n ≤ 9223372036854775807)
    (PG : Hid (∀ w, Calls Try.prog 9 #[.int .u64 s] w (Pur (.int .u64 n) w))) (F1 : Hid (∀ w, Calls Try.prog 20 #[.int .u64 s, .int .i64 d] w (Ret (.int .u64 F) w)))
    (K1 : Hid (∀ w, Calls Try.prog 18 #[.int .u64 s, .int .u64 n, .int .i64 d] w (Ret (.bool true) w)))
    (K2 : Hid (∀ w, Calls Try.prog 18 #[.int .u64 s, .int .u64 g, .int .i64 d] w (Ret (.bool false) w)))
    (PH : Hid (∀ w, Calls Try.prog 11 #[.int .u64 s] w (Pur (.bool false) w)))
    (hgg : n < g) (hlt : n - F < d - 0) (hz : F ≠ 0 ∧ n - F + 1 = d - 0) (w0 : World) :
    Calls Try.prog 7 #[.int .u64 s, .int .i64 d, .int .u64 g] w0 (Ret (.bool true) w0) := by
  have H0 := Lib.hid (Below.refl w0.heap.size w0)
  have m0 : decide (d < 2) = false := decide_eq_false (by omega)
  have m1 : decide (16 < d) = false := decide_eq_false (by omega)
  have m2 : decide (n < F) = false := decide_eq_false (by omega)
  have m3 : decide (F ≤ g) = true := decide_eq_true (by omega)
  have m4 : decide (g ≤ n) = false := decide_eq_false (by omega)
  have m5 : decide (n - F < d) = true := decide_eq_true (by omega)
  have d0 : 0 ≤ d := by omega
  have d1 : d < 18446744073709551616 := by omega
  have n0 : 0 ≤ n - F := by omega
  have n1 : n - F < 18446744073709551615 := by omega
  have m6 : (F == 0) = false := by simp; omega
  have m7 : (n - F + 1 == d) = true := by simp; omega
  clear hgg hlt hz hs hg
  go_enter Try.func7, Try.ntmps7
  go_wp2_with fail
  refine (PG.out _).mono ?_
  rintro e w' ⟨rfl, rfl⟩
  go_wp2_with fail
  refine (F1.out _).mono ?_
  rintro e w1 ⟨rfl, hb⟩
  have H1 := Lib.hid (H0.out.trans (hb.mono H0.out.size))
  clear hb H0
  go_wp2_with fail
  refine (K1.out _).mono ?_
  rintro e w2 ⟨rfl, hb⟩
  have H2 := Lib.hid (H1.out.trans (hb.mono H1.out.size))
  clear hb H1
  go_wp2_with fail
  refine (K2.out _).mono ?_
  rintro e w3 ⟨rfl, hb⟩
  have H3 := Lib.hid (H2.out.trans (hb.mono H2.out.size))
  clear hb H2
  go_wp2_with fail
  refine (PH.out _).mono ?_
  rintro e w' ⟨rfl, rfl⟩
  go_wp2_with fail
  refine (awake_any _).mono ?_
  rintro e w4 ⟨rfl, hb⟩
  have H4 := Lib.hid (H3.out.trans (hb.mono H3.out.size))
  clear hb H3
  go_wp2
  go_ret
  exact ⟨rfl, H4.out⟩
set_option maxRecDepth 100000 in
set_option maxHeartbeats 1000000 in
theorem some_100 (s d g F n : Int) (hs : W64 s) (hg : W64 g) (hd : 2 ≤ d) (hd2 : d ≤ 16) (f0 : 0 ≤ F) (f1 : F ≤ n) (hn : n ≤ 9223372036854775807)
    (PG : Hid (∀ w, Calls Try.prog 9 #[.int .u64 s] w (Pur (.int .u64 n) w))) (F1 : Hid (∀ w, Calls Try.prog 20 #[.int .u64 s, .int .i64 d] w (Ret (.int .u64 F) w)))
    (K1 : Hid (∀ w, Calls Try.prog 18 #[.int .u64 s, .int .u64 n, .int .i64 d] w (Ret (.bool true) w)))
    (K2 : Hid (∀ w, Calls Try.prog 18 #[.int .u64 s, .int .u64 g, .int .i64 d] w (Ret (.bool false) w)))
    (PH : Hid (∀ w, Calls Try.prog 11 #[.int .u64 s] w (Pur (.bool true) w)))
    (hgg : g < F) (hlt : n - F < d - 1) (hz : F = 0) (w0 : World) :
    Calls Try.prog 7 #[.int .u64 s, .int .i64 d, .int .u64 g] w0 (Ret (.bool true) w0) := by
  have H0 := Lib.hid (Below.refl w0.heap.size w0)
  have m0 : decide (d < 2) = false := decide_eq_false (by omega)
  have m1 : decide (16 < d) = false := decide_eq_false (by omega)
  have m2 : decide (n < F) = false := decide_eq_false (by omega)
  have m3 : decide (F ≤ g) = false := decide_eq_false (by omega)
  have m4 : decide (g ≤ n) = true := decide_eq_true (by omega)
  have m5 : decide (n - F < d - 1) = true := decide_eq_true (by omega)
  have d0 : 0 ≤ d - 1 := by omega
  have d1 : d < 18446744073709551616 := by omega
  have n0 : 0 ≤ n - F := by omega
  have n1 : n - F < 18446744073709551615 := by omega
  have m6 : (F == 0) = true := by simp; omega
  clear hgg hlt hz hs hg
  go_enter Try.func7, Try.ntmps7
  go_wp2_with fail
  refine (PG.out _).mono ?_
  rintro e w' ⟨rfl, rfl⟩
  go_wp2_with fail
  refine (F1.out _).mono ?_
  rintro e w1 ⟨rfl, hb⟩
  have H1 := Lib.hid (H0.out.trans (hb.mono H0.out.size))
  clear hb H0
  go_wp2_with fail
  refine (K1.out _).mono ?_
  rintro e w2 ⟨rfl, hb⟩
  have H2 := Lib.hid (H1.out.trans (hb.mono H1.out.size))
  clear hb H1
  go_wp2_with fail
  refine (K2.out _).mono ?_
  rintro e w3 ⟨rfl, hb⟩
  have H3 := Lib.hid (H2.out.trans (hb.mono H2.out.size))
  clear hb H2
  go_wp2_with fail
  refine (PH.out _).mono ?_
  rintro e w' ⟨rfl, rfl⟩
  go_wp2_with fail
  refine (awake_any _).mono ?_
  rintro e w4 ⟨rfl, hb⟩
  have H4 := Lib.hid (H3.out.trans (hb.mono H3.out.size))
  clear hb H3
  go_wp2
  go_ret
  exact ⟨rfl, H4.out⟩
set_option maxRecDepth 100000 in
set_option maxHeartbeats 1000000 in
theorem some_101 (s d g F n : Int) (hs : W64 s) (hg : W64 g) (hd : 2 ≤ d) (hd2 : d ≤ 16) (f0 : 0 ≤ F) (f1 : F ≤ n) (hn : n ≤ 9223372036854775807)
    (PG : Hid (∀ w, Calls Try.prog 9 #[.int .u64 s] w (Pur (.int .u64 n) w))) (F1 : Hid (∀ w, Calls Try.prog 20 #[.int .u64 s, .int .i64 d] w (Ret (.int .u64 F) w)))
    (K1 : Hid (∀ w, Calls Try.prog 18 #[.int .u64 s, .int .u64 n, .int .i64 d] w (Ret (.bool true) w)))
    (K2 : Hid (∀ w, Calls Try.prog 18 #[.int .u64 s, .int .u64 g, .int .i64 d] w (Ret (.bool false) w)))
    (PH : Hid (∀ w, Calls Try.prog 11 #[.int .u64 s] w (Pur (.bool true) w)))
    (hgg : g < F) (hlt : n - F < d - 1) (hz : F ≠ 0 ∧ n - F + 1 = d - 1) (w0 : World) :
    Calls Try.prog 7 #[.int .u64 s, .int .i64 d, .int .u64 g] w0 (Ret (.bool true) w0) := by
  have H0 := Lib.hid (Below.refl w0.heap.size w0)
  have m0 : decide (d < 2) = false := decide_eq_false (by omega)
  have m1 : decide (16 < d) = false := decide_eq_false (by omega)
  have m2 : decide (n < F) = false := decide_eq_false (by omega)
  have m3 : decide (F ≤ g) = false := decide_eq_false (by omega)
  have m4 : decide (g ≤ n) = true := decide_eq_true (by omega)
  have m5 : decide (n - F < d - 1) = true := decide_eq_true (by omega)
  have d0 : 0 ≤ d - 1 := by omega
  have d1 : d < 18446744073709551616 := by omega
  have n0 : 0 ≤ n - F := by omega
  have n1 : n - F < 18446744073709551615 := by omega
  have m6 : (F == 0) = false := by simp; omega
  have m7 : (n - F + 1 == d - 1) = true := by simp; omega
  clear hgg hlt hz hs hg
  go_enter Try.func7, Try.ntmps7
  go_wp2_with fail
  refine (PG.out _).mono ?_
  rintro e w' ⟨rfl, rfl⟩
  go_wp2_with fail
  refine (F1.out _).mono ?_
  rintro e w1 ⟨rfl, hb⟩
  have H1 := Lib.hid (H0.out.trans (hb.mono H0.out.size))
  clear hb H0
  go_wp2_with fail
  refine (K1.out _).mono ?_
  rintro e w2 ⟨rfl, hb⟩
  have H2 := Lib.hid (H1.out.trans (hb.mono H1.out.size))
  clear hb H1
  go_wp2_with fail
  refine (K2.out _).mono ?_
  rintro e w3 ⟨rfl, hb⟩
  have H3 := Lib.hid (H2.out.trans (hb.mono H2.out.size))
  clear hb H2
  go_wp2_with fail
  refine (PH.out _).mono ?_
  rintro e w' ⟨rfl, rfl⟩
  go_wp2_with fail
  refine (awake_any _).mono ?_
  rintro e w4 ⟨rfl, hb⟩
  have H4 := Lib.hid (H3.out.trans (hb.mono H3.out.size))
  clear hb H3
  go_wp2
  go_ret
  exact ⟨rfl, H4.out⟩
set_option maxRecDepth 100000 in
set_option maxHeartbeats 1000000 in
theorem some_110 (s d g F n : Int) (hs : W64 s) (hg : W64 g) (hd : 2 ≤ d) (hd2 : d ≤ 16) (f0 : 0 ≤ F) (f1 : F ≤ n) (hn : n ≤ 9223372036854775807)
    (PG : Hid (∀ w, Calls Try.prog 9 #[.int .u64 s] w (Pur (.int .u64 n) w))) (F1 : Hid (∀ w, Calls Try.prog 20 #[.int .u64 s, .int .i64 d] w (Ret (.int .u64 F) w)))
    (K1 : Hid (∀ w, Calls Try.prog 18 #[.int .u64 s, .int .u64 n, .int .i64 d] w (Ret (.bool true) w)))
    (K2 : Hid (∀ w, Calls Try.prog 18 #[.int .u64 s, .int .u64 g, .int .i64 d] w (Ret (.bool true) w)))
    (PH : Hid (∀ w, Calls Try.prog 11 #[.int .u64 s] w (Pur (.bool true) w)))
    (hgg : F ≤ g ∧ g ≤ n) (hlt : n - F < d - 1) (hz : F = 0) (w0 : World) :
    Calls Try.prog 7 #[.int .u64 s, .int .i64 d, .int .u64 g] w0 (Ret (.bool true) w0) := by
  have H0 := Lib.hid (Below.refl w0.heap.size w0)
  have m0 : decide (d < 2) = false := decide_eq_false (by omega)
  have m1 : decide (16 < d) = false := decide_eq_false (by omega)
  have m2 : decide (n < F) = false := decide_eq_false (by omega)
  have m3 : decide (F ≤ g) = true := decide_eq_true (by omega)
  have m4 : decide (g ≤ n) = true := decide_eq_true (by omega)
  have m5 : decide (n - F < d - 1) = true := decide_eq_true (by omega)
  have d0 : 0 ≤ d - 1 := by omega
  have d1 : d < 18446744073709551616 := by omega
  have n0 : 0 ≤ n - F := by omega
  have n1 : n - F < 18446744073709551615 := by omega
  have m6 : (F == 0) = true := by simp; omega
  clear hgg hlt hz hs hg
  go_enter Try.func7, Try.ntmps7
  go_wp2_with fail
  refine (PG.out _).mono ?_
  rintro e w' ⟨rfl, rfl⟩
  go_wp2_with fail
  refine (F1.out _).mono ?_
  rintro e w1 ⟨rfl, hb⟩
  have H1 := Lib.hid (H0.out.trans (hb.mono H0.out.size))
  clear hb H0
  go_wp2_with fail
  refine (K1.out _).mono ?_
  rintro e w2 ⟨rfl, hb⟩
  have H2 := Lib.hid (H1.out.trans (hb.mono H1.out.size))
  clear hb H1
  go_wp2_with fail
  refine (K2.out _).mono ?_
  rintro e w3 ⟨rfl, hb⟩
  have H3 := Lib.hid (H2.out.trans (hb.mono H2.out.size))
  clear hb H2
  go_wp2_with fail
  refine (PH.out _).mono ?_
  rintro e w' ⟨rfl, rfl⟩
  go_wp2_with fail
  refine (awake_any _).mono ?_
  rintro e w4 ⟨rfl, hb⟩
  have H4 := Lib.hid (H3.out.trans (hb.mono H3.out.size))
  clear hb H3
  go_wp2
  go_ret
  exact ⟨rfl, H4.out⟩
set_option maxRecDepth 100000 in
set_option maxHeartbeats 1000000 in
theorem some_111 (s d g F n : Int) (hs : W64 s) (hg : W64 g) (hd : 2 ≤ d) (hd2 : d ≤ 16) (f0 : 0 ≤ F) (f1 : F ≤ n) (hn : n ≤ 9223372036854775807)
    (PG : Hid (∀ w, Calls Try.prog 9 #[.int .u64 s] w (Pur (.int .u64 n) w))) (F1 : Hid (∀ w, Calls Try.prog 20 #[.int .u64 s, .int .i64 d] w (Ret (.int .u64 F) w)))
    (K1 : Hid (∀ w, Calls Try.prog 18 #[.int .u64 s, .int .u64 n, .int .i64 d] w (Ret (.bool true) w)))
    (K2 : Hid (∀ w, Calls Try.prog 18 #[.int .u64 s, .int .u64 g, .int .i64 d] w (Ret (.bool true) w)))
    (PH : Hid (∀ w, Calls Try.prog 11 #[.int .u64 s] w (Pur (.bool true) w)))
    (hgg : F ≤ g ∧ g ≤ n) (hlt : n - F < d - 1) (hz : F ≠ 0 ∧ n - F + 1 = d - 1) (w0 : World) :
    Calls Try.prog 7 #[.int .u64 s, .int .i64 d, .int .u64 g] w0 (Ret (.bool true) w0) := by
  have H0 := Lib.hid (Below.refl w0.heap.size w0)
  have m0 : decide (d < 2) = false := decide_eq_false (by omega)
  have m1 : decide (16 < d) = false := decide_eq_false (by omega)
  have m2 : decide (n < F) = false := decide_eq_false (by omega)
  have m3 : decide (F ≤ g) = true := decide_eq_true (by omega)
  have m4 : decide (g ≤ n) = true := decide_eq_true (by omega)
  have m5 : decide (n - F < d - 1) = true := decide_eq_true (by omega)
  have d0 : 0 ≤ d - 1 := by omega
  have d1 : d < 18446744073709551616 := by omega
  have n0 : 0 ≤ n - F := by omega
  have n1 : n - F < 18446744073709551615 := by omega
  have m6 : (F == 0) = false := by simp; omega
  have m7 : (n - F + 1 == d - 1) = true := by simp; omega
  clear hgg hlt hz hs hg
  go_enter Try.func7, Try.ntmps7
  go_wp2_with fail
  refine (PG.out _).mono ?_
  rintro e w' ⟨rfl, rfl⟩
  go_wp2_with fail
  refine (F1.out _).mono ?_
  rintro e w1 ⟨rfl, hb⟩
  have H1 := Lib.hid (H0.out.trans (hb.mono H0.out.size))
  clear hb H0
  go_wp2_with fail
  refine (K1.out _).mono ?_
  rintro e w2 ⟨rfl, hb⟩
  have H2 := Lib.hid (H1.out.trans (hb.mono H1.out.size))
  clear hb H1
  go_wp2_with fail
  refine (K2.out _).mono ?_
  rintro e w3 ⟨rfl, hb⟩
  have H3 := Lib.hid (H2.out.trans (hb.mono H2.out.size))
  clear hb H2
  go_wp2_with fail
  refine (PH.out _).mono ?_
  rintro e w' ⟨rfl, rfl⟩
  go_wp2_with fail
  refine (awake_any _).mono ?_
  rintro e w4 ⟨rfl, hb⟩
  have H4 := Lib.hid (H3.out.trans (hb.mono H3.out.size))
  clear hb H3
  go_wp2
  go_ret
  exact ⟨rfl, H4.out⟩
set_option maxRecDepth 100000 in
set_option maxHeartbeats 1000000 in
theorem some_120 (s d g F n : Int) (hs : W64 s) (hg : W64 g) (hd : 2 ≤ d) (hd2 : d ≤ 16) (f0 : 0 ≤ F) (f1 : F ≤ n) (hn : n ≤ 9223372036854775807)
    (PG : Hid (∀ w, Calls Try.prog 9 #[.int .u64 s] w (Pur (.int .u64 n) w))) (F1 : Hid (∀ w, Calls Try.prog 20 #[.int .u64 s, .int .i64 d] w (Ret (.int .u64 F) w)))
    (K1 : Hid (∀ w, Calls Try.prog 18 #[.int .u64 s, .int .u64 n, .int .i64 d] w (Ret (.bool true) w)))
    (K2 : Hid (∀ w, Calls Try.prog 18 #[.int .u64 s, .int .u64 g, .int .i64 d] w (Ret (.bool false) w)))
    (PH : Hid (∀ w, Calls Try.prog 11 #[.int .u64 s] w (Pur (.bool true) w)))
    (hgg : n < g) (hlt : n - F < d - 1) (hz : F = 0) (w0 : World) :
    Calls Try.prog 7 #[.int .u64 s, .int .i64 d, .int .u64 g] w0 (Ret (.bool true) w0) := by
  have H0 := Lib.hid (Below.refl w0.heap.size w0)
  have m0 : decide (d < 2) = false := decide_eq_false (by omega)
  have m1 : decide (16 < d) = false := decide_eq_false (by omega)
  have m2 : decide (n < F) = false := decide_eq_false (by omega)
  have m3 : decide (F ≤ g) = true := decide_eq_true (by omega)
  have m4 : decide (g ≤ n) = false := decide_eq_false (by omega)
  have m5 : decide (n - F < d - 1) = true := decide_eq_true (by omega)
  have d0 : 0 ≤ d - 1 := by omega
  have d1 : d < 18446744073709551616 := by omega
  have n0 : 0 ≤ n - F := by omega
  have n1 : n - F < 18446744073709551615 := by omega
  have m6 : (F == 0) = true := by simp; omega
  clear hgg hlt hz hs hg
  go_enter Try.func7, Try.ntmps7
  go_wp2_with fail
  refine (PG.out _).mono ?_
  rintro e w' ⟨rfl, rfl⟩
  go_wp2_with fail
  refine (F1.out _).mono ?_
  rintro e w1 ⟨rfl, hb⟩
  have H1 := Lib.hid (H0.out.trans (hb.mono H0.out.size))
  clear hb H0
  go_wp2_with fail
  refine (K1.out _).mono ?_
  rintro e w2 ⟨rfl, hb⟩
  have H2 := Lib.hid (H1.out.trans (hb.mono H1.out.size))
  clear hb H1
  go_wp2_with fail
  refine (K2.out _).mono ?_
  rintro e w3 ⟨rfl, hb⟩
  have H3 := Lib.hid (H2.out.trans (hb.mono H2.out.size))
  clear hb H2
  go_wp2_with fail
  refine (PH.out _).mono ?_
  rintro e w' ⟨rfl, rfl⟩
  go_wp2_with fail
  refine (awake_any _).mono ?_
  rintro e w4 ⟨rfl, hb⟩
  have H4 := Lib.hid (H3.out.trans (hb.mono H3.out.size))
  clear hb H3
  go_wp2
  go_ret
  exact ⟨rfl, H4.out⟩
set_option maxRecDepth 100000 in
set_option maxHeartbeats 1000000 in
theorem some_121 (s d g F n : Int) (hs : W64 s) (hg : W64 g) (hd : 2 ≤ d) (hd2 : d ≤ 16) (f0 : 0 ≤ F) (f1 : F ≤ n) (hn : n ≤ 9223372036854775807)
    (PG : Hid (∀ w, Calls Try.prog 9 #[.int .u64 s] w (Pur (.int .u64 n) w))) (F1 : Hid (∀ w, Calls Try.prog 20 #[.int .u64 s, .int .i64 d] w (Ret (.int .u64 F) w)))
    (K1 : Hid (∀ w, Calls Try.prog 18 #[.int .u64 s, .int .u64 n, .int .i64 d] w (Ret (.bool true) w)))
    (K2 : Hid (∀ w, Calls Try.prog 18 #[.int .u64 s, .int .u64 g, .int .i64 d] w (Ret (.bool false) w)))
    (PH : Hid (∀ w, Calls Try.prog 11 #[.int .u64 s] w (Pur (.bool true) w)))
    (hgg : n < g) (hlt : n - F < d - 1) (hz : F ≠ 0 ∧ n - F + 1 = d - 1) (w0 : World) :
    Calls Try.prog 7 #[.int .u64 s, .int .i64 d, .int .u64 g] w0 (Ret (.bool true) w0) := by
  have H0 := Lib.hid (Below.refl w0.heap.size w0)
  have m0 : decide (d < 2) = false := decide_eq_false (by omega)
  have m1 : decide (16 < d) = false := decide_eq_false (by omega)
  have m2 : decide (n < F) = false := decide_eq_false (by omega)
  have m3 : decide (F ≤ g) = true := decide_eq_true (by omega)
  have m4 : decide (g ≤ n) = false := decide_eq_false (by omega)
  have m5 : decide (n - F < d - 1) = true := decide_eq_true (by omega)
  have d0 : 0 ≤ d - 1 := by omega
  have d1 : d < 18446744073709551616 := by omega
  have n0 : 0 ≤ n - F := by omega
  have n1 : n - F < 18446744073709551615 := by omega
  have m6 : (F == 0) = false := by simp; omega
  have m7 : (n - F + 1 == d - 1) = true := by simp; omega
  clear hgg hlt hz hs hg
  go_enter Try.func7, Try.ntmps7
  go_wp2_with fail
  refine (PG.out _).mono ?_
  rintro e w' ⟨rfl, rfl⟩
  go_wp2_with fail
  refine (F1.out _).mono ?_
  rintro e w1 ⟨rfl, hb⟩
  have H1 := Lib.hid (H0.out.trans (hb.mono H0.out.size))
  clear hb H0
  go_wp2_with fail
  refine (K1.out _).mono ?_
  rintro e w2 ⟨rfl, hb⟩
  have H2 := Lib.hid (H1.out.trans (hb.mono H1.out.size))
  clear hb H1
  go_wp2_with fail
  refine (K2.out _).mono ?_
  rintro e w3 ⟨rfl, hb⟩
  have H3 := Lib.hid (H2.out.trans (hb.mono H2.out.size))
  clear hb H2
  go_wp2_with fail
  refine (PH.out _).mono ?_
  rintro e w' ⟨rfl, rfl⟩
  go_wp2_with fail
  refine (awake_any _).mono ?_
  rintro e w4 ⟨rfl, hb⟩
  have H4 := Lib.hid (H3.out.trans (hb.mono H3.out.size))
  clear hb H3
  go_wp2
  go_ret
  exact ⟨rfl, H4.out⟩
theorem some_law (s d g : Int) (hs : W64 s) (hg : W64 g) (w : World) : Calls Try.prog 7 #[.int .u64 s, .int .i64 d, .int .u64 g] w (Ret (.bool true) w) := by
  by_cases h : 2 ≤ d ∧ d ≤ 16
  · obtain ⟨hd, hd2⟩ := h
    obtain ⟨f0, f1⟩ := fi_in (d := d) hs
    obtain ⟨p1, p2⟩ := some_math hs hd hd2
    have k1 := kept_any s (s / 2) d hs (w64_half hs).1
    rw [kp_fi hd hd2 (w64_half hs).1.1 (Int.le_refl _), decide_eq_true f1] at k1
    have k2 := kept_any s g d hs hg
    have hh := held_any s hs
    have hk0 : g < fi s d → kp s g d = false := fun c => by rw [kp_fi hd hd2 hg.1 (by omega)]; exact decide_eq_false (by omega)
    have hk1 : fi s d ≤ g ∧ g ≤ s / 2 → kp s g d = true := fun c => by rw [kp_fi hd hd2 hg.1 c.2]; exact decide_eq_true c.1
    have hk2 : s / 2 < g → kp s g d = false := fun c => kp_f (by omega)
    rcases (show s % 2 = 0 ∨ s % 2 = 1 by omega) with h2 | h2 <;> rw [h2] at p1 p2
    · rw [hl_f h2] at hh
      rcases (show g < fi s d ∨ (fi s d ≤ g ∧ g ≤ s / 2) ∨ s / 2 < g by omega) with c | c | c
      · rw [hk0 c] at k2
        by_cases hz : fi s d = 0
        · exact some_000 s d g (fi s d) (s / 2) hs hg hd hd2 f0 f1 (w64_half hs).2 (Lib.hid (gen_any s hs)) (Lib.hid (first_any s d hs)) (Lib.hid k1) (Lib.hid k2) (Lib.hid hh) c (by omega) hz w
        · exact some_001 s d g (fi s d) (s / 2) hs hg hd hd2 f0 f1 (w64_half hs).2 (Lib.hid (gen_any s hs)) (Lib.hid (first_any s d hs)) (Lib.hid k1) (Lib.hid k2) (Lib.hid hh) c (by omega) ⟨hz, by omega⟩ w
      · rw [hk1 c] at k2
        by_cases hz : fi s d = 0
        · exact some_010 s d g (fi s d) (s / 2) hs hg hd hd2 f0 f1 (w64_half hs).2 (Lib.hid (gen_any s hs)) (Lib.hid (first_any s d hs)) (Lib.hid k1) (Lib.hid k2) (Lib.hid hh) c (by omega) hz w
        · exact some_011 s d g (fi s d) (s / 2) hs hg hd hd2 f0 f1 (w64_half hs).2 (Lib.hid (gen_any s hs)) (Lib.hid (first_any s d hs)) (Lib.hid k1) (Lib.hid k2) (Lib.hid hh) c (by omega) ⟨hz, by omega⟩ w
      · rw [hk2 c] at k2
        by_cases hz : fi s d = 0
        · exact some_020 s d g (fi s d) (s / 2) hs hg hd hd2 f0 f1 (w64_half hs).2 (Lib.hid (gen_any s hs)) (Lib.hid (first_any s d hs)) (Lib.hid k1) (Lib.hid k2) (Lib.hid hh) c (by omega) hz w
        · exact some_021 s d g (fi s d) (s / 2) hs hg hd hd2 f0 f1 (w64_half hs).2 (Lib.hid (gen_any s hs)) (Lib.hid (first_any s d hs)) (Lib.hid k1) (Lib.hid k2) (Lib.hid hh) c (by omega) ⟨hz, by omega⟩ w
    · rw [hl_t h2] at hh
      rcases (show g < fi s d ∨ (fi s d ≤ g ∧ g ≤ s / 2) ∨ s / 2 < g by omega) with c | c | c
      · rw [hk0 c] at k2
        by_cases hz : fi s d = 0
        · exact some_100 s d g (fi s d) (s / 2) hs hg hd hd2 f0 f1 (w64_half hs).2 (Lib.hid (gen_any s hs)) (Lib.hid (first_any s d hs)) (Lib.hid k1) (Lib.hid k2) (Lib.hid hh) c (by omega) hz w
        · exact some_101 s d g (fi s d) (s / 2) hs hg hd hd2 f0 f1 (w64_half hs).2 (Lib.hid (gen_any s hs)) (Lib.hid (first_any s d hs)) (Lib.hid k1) (Lib.hid k2) (Lib.hid hh) c (by omega) ⟨hz, by omega⟩ w
      · rw [hk1 c] at k2
        by_cases hz : fi s d = 0
        · exact some_110 s d g (fi s d) (s / 2) hs hg hd hd2 f0 f1 (w64_half hs).2 (Lib.hid (gen_any s hs)) (Lib.hid (first_any s d hs)) (Lib.hid k1) (Lib.hid k2) (Lib.hid hh) c (by omega) hz w
        · exact some_111 s d g (fi s d) (s / 2) hs hg hd hd2 f0 f1 (w64_half hs).2 (Lib.hid (gen_any s hs)) (Lib.hid (first_any s d hs)) (Lib.hid k1) (Lib.hid k2) (Lib.hid hh) c (by omega) ⟨hz, by omega⟩ w
      · rw [hk2 c] at k2
        by_cases hz : fi s d = 0
        · exact some_120 s d g (fi s d) (s / 2) hs hg hd hd2 f0 f1 (w64_half hs).2 (Lib.hid (gen_any s hs)) (Lib.hid (first_any s d hs)) (Lib.hid k1) (Lib.hid k2) (Lib.hid hh) c (by omega) hz w
        · exact some_121 s d g (fi s d) (s / 2) hs hg hd hd2 f0 f1 (w64_half hs).2 (Lib.hid (gen_any s hs)) (Lib.hid (first_any s d hs)) (Lib.hid k1) (Lib.hid k2) (Lib.hid hh) c (by omega) ⟨hz, by omega⟩ w
  · exact some_no s d g hs hg h w
end Go.Proofs.Ytejkhalenedeoaa
