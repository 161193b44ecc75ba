/- The walk of the law ConfigParses. -/
import Derived.Test.YthdchoagdipplaaDoorAwk
import Derived.Test.YthdchoagdipplaaDoorRPar
import Derived.Test.YthdchoagdipplaaDoorSam
namespace Go.Proofs.YthdchoagdipplaaDoor
open Go.RowKit

theorem smB_self (T R L : Int) (l : List Tp) : smB T R L T R L l l = true := by unfold smB; simp
theorem paL_len (S : List UInt8) : (paL S).length ≤ 100000 := by
  unfold paL
  split
  · rename_i h
    by_cases hl : 65536 < S.length
    · unfold paE at h
      rw [if_pos hl] at h
      exact absurd h (by decide)
    · have h1 : ∀ (t : List UInt8), (spl 10 t).length ≤ t.length + 1 := fun t => by
        induction t with
        | nil => simp [spl]
        | cons c r ih =>
          unfold spl
          split
          · simp; omega
          · split
            · simp
            · rename_i h; rw [h] at ih; simp at ih ⊢; omega
      have h2 : ∀ r : List (List UInt8), (scL r).length ≤ r.length := fun r => by
        induction r with
        | nil => simp [scL]
        | cons x y ih => cases y with
          | nil => simp [scL]
          | cons q z => unfold scL; simp at ih ⊢; omega
      have h3 := h1 S
      cases hq : spl 10 S with
      | nil => simp [lnL]
      | cons x y =>
        have := h2 y
        rw [hq] at h3
        simp at h3
        show (scL y).length ≤ 100000
        omega
  · simp

set_option maxRecDepth 100000 in
set_option maxHeartbeats 2000000 in
theorem parses_some (s : ByteArray) (w : World) (hM : ML w) (h : s.size ≤ 4000 ∨ (65536 < s.size ∧ s.size ≤ 70000)) : Calls Tryd.prog 7 #[.string s] w (Ret (.bool true) w) := by
  have hp := Lib.hid (parse_any s w hM (by omega))
  have hr := Lib.hid (fun w => rparse_any s w (by omega))
  have hlc := paL_len (bs s)
  have hd1 : decide ((4000 : Int) < (s.size : Int)) = decide (4000 < s.size) := by
    by_cases q : 4000 < s.size
    · rw [decide_eq_true q, decide_eq_true (by omega)]
    · rw [decide_eq_false q, decide_eq_false (by omega)]
  have hd2 : 4000 < s.size → decide ((s.size : Int) ≤ 65536) = false := fun q => decide_eq_false (by omega)
  have hd3 : decide ((70000 : Int) < (s.size : Int)) = false := decide_eq_false (by omega)
  unfold ParPost at hp hr
  generalize paT (bs s) = T at *
  generalize paR (bs s) = R at *
  generalize paG (bs s) = L at *
  generalize paL (bs s) = l at *
  generalize paN (bs s) = n at *
  generalize paE (bs s) = er at *
  by_cases q : 4000 < s.size
  · rw [decide_eq_true q] at hd1
    replace hd2 := hd2 q
    clear q h
    go_enter Tryd.func7, Tryd.ntmps7
    go_wp2_with fail
    refine hp.out.mono ?_
    rintro e W1 ⟨a, cap, rfl, hb1, hT1⟩
    have hD := Blk.new W1 #[.int .i64 T, .slice a l.length cap, .int .i64 R, .int .i64 L] 24
    have hT2 := hT1.next ((Below.refl W1.heap.size W1).alloc (Nat.le_refl _) (.cells #[.int .i64 T, .slice a l.length cap, .int .i64 R, .int .i64 L] 24))
    have hB2 := hb1.alloc hb1.size (.cells #[.int .i64 T, .slice a l.length cap, .int .i64 R, .int .i64 L] 24)
    have H2 := Lib.hid (And.intro hD (And.intro hT2 hB2))
    clear hD hT1 hT2 hb1 hB2 hp
    go_wp2_with fail
    generalize hFE : W1.heap.size = F at *
    generalize W1.alloc (.cells #[.int .i64 T, .slice a l.length cap, .int .i64 R, .int .i64 L] 24) = W2 at *
    clear hFE
    refine (hr.out W2).mono ?_
    rintro e W3 ⟨a', cap', rfl, hb3, hT3⟩
    have hE := Blk.new W3 #[.int .i64 T, .slice a' l.length cap', .int .i64 R, .int .i64 L] 24
    have hu := (Below.refl W3.heap.size W3).alloc (Nat.le_refl _) (.cells #[.int .i64 T, .slice a' l.length cap', .int .i64 R, .int .i64 L] 24)
    have hT4 := hT3.next hu
    have hT5 := (H2.out.2.1.next hb3).next hu
    have hD4 := (H2.out.1.low hb3).alloc (.cells #[.int .i64 T, .slice a' l.length cap', .int .i64 R, .int .i64 L] 24)
    have hB3 := H2.out.2.2.trans (hb3.mono H2.out.2.2.size)
    have hB4 := hB3.alloc hB3.size (.cells #[.int .i64 T, .slice a' l.length cap', .int .i64 R, .int .i64 L] 24)
    have hM4 := hM.next hB4
    have H4 := Lib.hid (And.intro hT5 (And.intro hT4 (And.intro hB4 hM4)))
    have c0 := hD4.cell (i := 0) rfl
    have c1 := hD4.cell (i := 1) rfl
    have c2 := hD4.cell (i := 2) rfl
    have c3 := hD4.cell (i := 3) rfl
    have d0 := hE.cell (i := 0) rfl
    have d1 := hE.cell (i := 1) rfl
    have d2 := hE.cell (i := 2) rfl
    have d3 := hE.cell (i := 3) rfl
    clear hE hu hT3 hT4 hT5 hD4 hB3 hB4 hM4 H2 hb3 hr
    go_wp2_with fail
    generalize W3.alloc (.cells #[.int .i64 T, .slice a' l.length cap', .int .i64 R, .int .i64 L] 24) = W4 at *
    refine (rsame_any T R L T R L a a' cap cap' l l W4 H4.out.1 H4.out.2.1 hlc).mono ?_
    rintro e W5 ⟨rfl, hb5⟩
    rw [smB_self]
    have hM5 := H4.out.2.2.2.next hb5
    have hB5 := Lib.hid (H4.out.2.2.1.trans (hb5.mono H4.out.2.2.1.size))
    clear hb5 c0 c1 c2 c3 d0 d1 d2 d3 H4
    go_wp2_with fail
    refine (awake_any W5 hM5).mono ?_
    rintro e W6 ⟨rfl, hb6⟩
    have hfin := Lib.hid (hB5.out.trans (hb6.mono hB5.out.size))
    clear hb6
    go_wp2
    go_ret
    exact ⟨rfl, hfin.out⟩
  · rw [decide_eq_false q] at hd1
    clear q h hd2
    go_enter Tryd.func7, Tryd.ntmps7
    go_wp2_with fail
    refine hp.out.mono ?_
    rintro e W1 ⟨a, cap, rfl, hb1, hT1⟩
    have hD := Blk.new W1 #[.int .i64 T, .slice a l.length cap, .int .i64 R, .int .i64 L] 24
    have hT2 := hT1.next ((Below.refl W1.heap.size W1).alloc (Nat.le_refl _) (.cells #[.int .i64 T, .slice a l.length cap, .int .i64 R, .int .i64 L] 24))
    have hB2 := hb1.alloc hb1.size (.cells #[.int .i64 T, .slice a l.length cap, .int .i64 R, .int .i64 L] 24)
    have H2 := Lib.hid (And.intro hD (And.intro hT2 hB2))
    clear hD hT1 hT2 hb1 hB2 hp
    go_wp2_with fail
    generalize hFE : W1.heap.size = F at *
    generalize W1.alloc (.cells #[.int .i64 T, .slice a l.length cap, .int .i64 R, .int .i64 L] 24) = W2 at *
    clear hFE
    refine (hr.out W2).mono ?_
    rintro e W3 ⟨a', cap', rfl, hb3, hT3⟩
    have hE := Blk.new W3 #[.int .i64 T, .slice a' l.length cap', .int .i64 R, .int .i64 L] 24
    have hu := (Below.refl W3.heap.size W3).alloc (Nat.le_refl _) (.cells #[.int .i64 T, .slice a' l.length cap', .int .i64 R, .int .i64 L] 24)
    have hT4 := hT3.next hu
    have hT5 := (H2.out.2.1.next hb3).next hu
    have hD4 := (H2.out.1.low hb3).alloc (.cells #[.int .i64 T, .slice a' l.length cap', .int .i64 R, .int .i64 L] 24)
    have hB3 := H2.out.2.2.trans (hb3.mono H2.out.2.2.size)
    have hB4 := hB3.alloc hB3.size (.cells #[.int .i64 T, .slice a' l.length cap', .int .i64 R, .int .i64 L] 24)
    have hM4 := hM.next hB4
    have H4 := Lib.hid (And.intro hT5 (And.intro hT4 (And.intro hB4 hM4)))
    have c0 := hD4.cell (i := 0) rfl
    have c1 := hD4.cell (i := 1) rfl
    have c2 := hD4.cell (i := 2) rfl
    have c3 := hD4.cell (i := 3) rfl
    have d0 := hE.cell (i := 0) rfl
    have d1 := hE.cell (i := 1) rfl
    have d2 := hE.cell (i := 2) rfl
    have d3 := hE.cell (i := 3) rfl
    clear hE hu hT3 hT4 hT5 hD4 hB3 hB4 hM4 H2 hb3 hr
    go_wp2_with fail
    generalize W3.alloc (.cells #[.int .i64 T, .slice a' l.length cap', .int .i64 R, .int .i64 L] 24) = W4 at *
    refine (rsame_any T R L T R L a a' cap cap' l l W4 H4.out.1 H4.out.2.1 hlc).mono ?_
    rintro e W5 ⟨rfl, hb5⟩
    rw [smB_self]
    have hM5 := H4.out.2.2.2.next hb5
    have hB5 := Lib.hid (H4.out.2.2.1.trans (hb5.mono H4.out.2.2.1.size))
    clear hb5 c0 c1 c2 c3 d0 d1 d2 d3 H4
    go_wp2_with fail
    refine (awake_any W5 hM5).mono ?_
    rintro e W6 ⟨rfl, hb6⟩
    have hfin := Lib.hid (hB5.out.trans (hb6.mono hB5.out.size))
    clear hb6
    go_wp2
    go_ret
    exact ⟨rfl, hfin.out⟩
theorem parses_law (s : ByteArray) (w : World) (hM : ML w) : Calls Tryd.prog 7 #[.string s] w (Ret (.bool true) w) := by
  by_cases h1 : 4000 < s.size ∧ s.size ≤ 65536
  · have hd1 : decide ((4000 : Int) < (s.size : Int)) = true := decide_eq_true (by omega)
    have hd2 : decide ((s.size : Int) ≤ 65536) = true := decide_eq_true (by omega)
    go_enter Tryd.func7, Tryd.ntmps7
    go_wp2_with fail
    refine (awake_any w hM).mono ?_
    rintro e w1 ⟨rfl, hb1⟩
    go_wp2
    go_ret
    exact ⟨rfl, hb1⟩
  · by_cases h2 : 70000 < s.size
    · have hd1 : decide ((4000 : Int) < (s.size : Int)) = true := decide_eq_true (by omega)
      have hd2 : decide ((s.size : Int) ≤ 65536) = false := decide_eq_false (by omega)
      have hd3 : decide ((70000 : Int) < (s.size : Int)) = true := decide_eq_true (by omega)
      clear h1
      go_enter Tryd.func7, Tryd.ntmps7
      go_wp2_with fail
      refine (awake_any w hM).mono ?_
      rintro e w1 ⟨rfl, hb1⟩
      go_wp2
      go_ret
      exact ⟨rfl, hb1⟩
    · exact parses_some s w hM (by omega)
end Go.Proofs.YthdchoagdipplaaDoor
