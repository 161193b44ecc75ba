/- The walk of the law SeqNever. -/
import Derived.Test.YtejkhalenedeoaaAwk
namespace Go.Proofs.Ytejkhalenedeoaa
open Go.RowKit

theorem bg_le {s t : Int} (h : s ≤ t) : bg s ≤ bg t := by unfold bg; omega
theorem never_kp {s t g d : Int} (h : s ≤ t) (hg : g ≤ s / 2) (hk : kp s g d = false) : kp t g d = false := by
  have hb := bg_le h
  refine kp_f (fun c => ?_)
  rw [kp_t ⟨c.1, c.2.1, hg, by omega⟩] at hk
  cases hk
theorem never_fi {s t d : Int} (h : s ≤ t) : fi s d ≤ fi t d := by
  have hb := bg_le h
  unfold fi
  split
  · split <;> split <;> omega
  · omega
def NB (w : World) (s p : Int) (W : World) : Prop := Blk W w.heap.size [.int .u64 s, .int .u64 p] ∧ Below w.heap.size w W
theorem NB.next {w : World} {s p : Int} {W W' : World} (h : NB w s p W) (u : Below W.heap.size W W') : NB w s p W' :=
  ⟨h.1.low u, h.2.trans (u.mono h.2.size)⟩
theorem NB.new (w : World) (s p : Int) : NB w s p (w.alloc (.cells #[.int .u64 s, .int .u64 p] 36)) :=
  ⟨Blk.new w #[.int .u64 s, .int .u64 p] 36, (Below.refl w.heap.size w).alloc (Nat.le_refl _) _⟩

set_option maxRecDepth 100000 in
set_option maxHeartbeats 1000000 in
theorem never_big (s p d g : Int) (hs : W64 s) (h : 18446744073709551615 - s < p) (w : World) : Calls Try.prog 8 #[.agg #[.int .u64 s, .int .u64 p], .int .i64 d, .int .u64 g] w (Ret (.bool true) w) := by
  have H0 := Lib.hid (NB.new w s p)
  have c0 := H0.out.1.cell (i := 0) rfl
  have c1 := H0.out.1.cell (i := 1) rfl
  have s0 := hs.1
  have s1 := hs.2
  have m0 : decide (18446744073709551615 - s < p) = true := decide_eq_true h
  clear h hs
  go_enter Try.func8, Try.ntmps8
  go_wp2_with fail
  refine (awake_any _).mono ?_
  rintro e w1 ⟨rfl, hb⟩
  have H1 := Lib.hid (H0.out.next hb)
  have c0 := H1.out.1.cell (i := 0) rfl
  have c1 := H1.out.1.cell (i := 1) rfl
  clear hb H0
  go_wp2
  go_ret
  exact ⟨rfl, H1.out.2⟩
set_option maxRecDepth 100000 in
set_option maxHeartbeats 1000000 in
theorem never_new (s p d g : Int) (hs : W64 s) (h : ¬ 18446744073709551615 - s < p) (h2 : s / 2 < g) (w : World) : Calls Try.prog 8 #[.agg #[.int .u64 s, .int .u64 p], .int .i64 d, .int .u64 g] w (Ret (.bool true) w) := by
  have H0 := Lib.hid (NB.new w s p)
  have c0 := H0.out.1.cell (i := 0) rfl
  have c1 := H0.out.1.cell (i := 1) rfl
  have s0 := hs.1
  have s1 := hs.2
  have m0 : decide (18446744073709551615 - s < p) = false := decide_eq_false h
  have m1 : decide (s / 2 < g) = true := decide_eq_true h2
  have PG := Lib.hid (gen_any s hs)
  clear h hs h2
  go_enter Try.func8, Try.ntmps8
  go_wp2_with fail
  refine (PG.out _).mono ?_
  rintro e w' ⟨rfl, rfl⟩
  go_wp2_with fail
  refine (awake_any _).mono ?_
  rintro e w1 ⟨rfl, hb⟩
  have H1 := Lib.hid (H0.out.next hb)
  have c0 := H1.out.1.cell (i := 0) rfl
  have c1 := H1.out.1.cell (i := 1) rfl
  clear hb H0
  go_wp2
  go_ret
  exact ⟨rfl, H1.out.2⟩
set_option maxRecDepth 100000 in
set_option maxHeartbeats 1000000 in
theorem never_0 (s p d g : Int) (hs : W64 s) (hp : W64 p) (hg : W64 g) (h : ¬ 18446744073709551615 - s < p) (h2 : ¬ s / 2 < g) (hk : kp s g d = false) (w : World) : Calls Try.prog 8 #[.agg #[.int .u64 s, .int .u64 p], .int .i64 d, .int .u64 g] w (Ret (.bool true) w) := by
  have H0 := Lib.hid (NB.new w s p)
  have c0 := H0.out.1.cell (i := 0) rfl
  have c1 := H0.out.1.cell (i := 1) rfl
  have s0 := hs.1
  have s1 := hs.2
  have m0 : decide (18446744073709551615 - s < p) = false := decide_eq_false h
  have m1 : decide (s / 2 < g) = false := decide_eq_false h2
  have PG := Lib.hid (gen_any s hs)
  have p0 := hp.1
  have p1 : s + p < 18446744073709551616 := by omega
  have k1 := kept_any s g d hs hg
  rw [hk] at k1
  have k2 := kept_any (s + p) g d ⟨by omega, p1⟩ hg
  rw [never_kp (by omega) (by omega) hk] at k2
  have K2 := Lib.hid k2
  clear k2
  have K1 := Lib.hid k1
  have F1 := Lib.hid (first_any s d hs)
  have F2 := Lib.hid (first_any (s + p) d ⟨by omega, p1⟩)
  have m2 : decide (fi s d ≤ fi (s + p) d) = true := decide_eq_true (never_fi (by omega))
  generalize fi s d = f1 at *
  generalize fi (s + p) d = f2 at *
  clear h hs h2 k1 hk hp hg
  go_enter Try.func8, Try.ntmps8
  go_wp2_with fail
  refine (PG.out _).mono ?_
  rintro e w' ⟨rfl, rfl⟩
  go_wp2_with fail
  refine (K1.out _).mono ?_
  rintro e w1 ⟨rfl, hb⟩
  have H1 := Lib.hid (H0.out.next hb)
  have c0 := H1.out.1.cell (i := 0) rfl
  have c1 := H1.out.1.cell (i := 1) rfl
  clear hb H0
  go_wp2_with fail
  refine (K2.out _).mono ?_
  rintro e w2 ⟨rfl, hb⟩
  have H2 := Lib.hid (H1.out.next hb)
  have c0 := H2.out.1.cell (i := 0) rfl
  have c1 := H2.out.1.cell (i := 1) rfl
  clear hb H1
  go_wp2_with fail
  refine (F1.out _).mono ?_
  rintro e w3 ⟨rfl, hb⟩
  have H3 := Lib.hid (H2.out.next hb)
  have c0 := H3.out.1.cell (i := 0) rfl
  have c1 := H3.out.1.cell (i := 1) rfl
  clear hb H2
  go_wp2_with fail
  refine (F2.out _).mono ?_
  rintro e w4 ⟨rfl, hb⟩
  have H4 := Lib.hid (H3.out.next hb)
  have c0 := H4.out.1.cell (i := 0) rfl
  have c1 := H4.out.1.cell (i := 1) rfl
  clear hb H3
  go_wp2_with fail
  refine (awake_any _).mono ?_
  rintro e w5 ⟨rfl, hb⟩
  have H5 := Lib.hid (H4.out.next hb)
  have c0 := H5.out.1.cell (i := 0) rfl
  have c1 := H5.out.1.cell (i := 1) rfl
  clear hb H4
  go_wp2
  go_ret
  exact ⟨rfl, H5.out.2⟩
set_option maxRecDepth 100000 in
set_option maxHeartbeats 1000000 in
theorem never_1 (s p d g : Int) (hs : W64 s) (hp : W64 p) (hg : W64 g) (h : ¬ 18446744073709551615 - s < p) (h2 : ¬ s / 2 < g) (hk : kp s g d = true) (w : World) : Calls Try.prog 8 #[.agg #[.int .u64 s, .int .u64 p], .int .i64 d, .int .u64 g] w (Ret (.bool true) w) := by
  have H0 := Lib.hid (NB.new w s p)
  have c0 := H0.out.1.cell (i := 0) rfl
  have c1 := H0.out.1.cell (i := 1) rfl
  have s0 := hs.1
  have s1 := hs.2
  have m0 : decide (18446744073709551615 - s < p) = false := decide_eq_false h
  have m1 : decide (s / 2 < g) = false := decide_eq_false h2
  have PG := Lib.hid (gen_any s hs)
  have p0 := hp.1
  have p1 : s + p < 18446744073709551616 := by omega
  have k1 := kept_any s g d hs hg
  rw [hk] at k1
  have K1 := Lib.hid k1
  have F1 := Lib.hid (first_any s d hs)
  have F2 := Lib.hid (first_any (s + p) d ⟨by omega, p1⟩)
  have m2 : decide (fi s d ≤ fi (s + p) d) = true := decide_eq_true (never_fi (by omega))
  generalize fi s d = f1 at *
  generalize fi (s + p) d = f2 at *
  clear h hs h2 k1 hk hp hg
  go_enter Try.func8, Try.ntmps8
  go_wp2_with fail
  refine (PG.out _).mono ?_
  rintro e w' ⟨rfl, rfl⟩
  go_wp2_with fail
  refine (K1.out _).mono ?_
  rintro e w1 ⟨rfl, hb⟩
  have H1 := Lib.hid (H0.out.next hb)
  have c0 := H1.out.1.cell (i := 0) rfl
  have c1 := H1.out.1.cell (i := 1) rfl
  clear hb H0
  go_wp2_with fail
  refine (F1.out _).mono ?_
  rintro e w2 ⟨rfl, hb⟩
  have H2 := Lib.hid (H1.out.next hb)
  have c0 := H2.out.1.cell (i := 0) rfl
  have c1 := H2.out.1.cell (i := 1) rfl
  clear hb H1
  go_wp2_with fail
  refine (F2.out _).mono ?_
  rintro e w3 ⟨rfl, hb⟩
  have H3 := Lib.hid (H2.out.next hb)
  have c0 := H3.out.1.cell (i := 0) rfl
  have c1 := H3.out.1.cell (i := 1) rfl
  clear hb H2
  go_wp2_with fail
  refine (awake_any _).mono ?_
  rintro e w4 ⟨rfl, hb⟩
  have H4 := Lib.hid (H3.out.next hb)
  have c0 := H4.out.1.cell (i := 0) rfl
  have c1 := H4.out.1.cell (i := 1) rfl
  clear hb H3
  go_wp2
  go_ret
  exact ⟨rfl, H4.out.2⟩
theorem never_law (s p d g : Int) (hs : W64 s) (hp : W64 p) (hg : W64 g) (w : World) : Calls Try.prog 8 #[.agg #[.int .u64 s, .int .u64 p], .int .i64 d, .int .u64 g] w (Ret (.bool true) w) := by
  by_cases h : 18446744073709551615 - s < p
  · exact never_big s p d g hs h w
  by_cases h2 : s / 2 < g
  · exact never_new s p d g hs h h2 w
  cases hk : kp s g d
  · exact never_0 s p d g hs hp hg h h2 hk w
  · exact never_1 s p d g hs hp hg h h2 hk w
end Go.Proofs.Ytejkhalenedeoaa
