/- The document's Right, Most and New of a reading. -/
import Derived.Test.YtajibhhmcjcchaaAwk
import Derived.Test.YtajibhhmcjcchaaWhM
namespace Go.Proofs.Ytajibhhmcjcchaa
open Go.RowKit
def rgB (S : Sp) : Bool := decide (Rt S)
abbrev sb2 (S : Sp) : Obj := .cells #[.int .i64 S.ow, .int .i64 S.sq, .int .i64 S.fs, .int .i64 S.wd, .int .i64 S.dp] 38
set_option maxRecDepth 100000 in
set_option maxHeartbeats 2000000 in
theorem right_any (S : Sp) (w : World) : Calls Try.prog 31 #[spV S] w (Ret (.bool (rgB S)) w) := by
  have Hb := Lib.hid ((Below.refl w.heap.size w).alloc (Nat.le_refl _) (sb2 S))
  have H0 : Hid (Rt S → rgB S = true) := Lib.hid (fun h => decide_eq_true h)
  have H1 : Hid (¬ Rt S → rgB S = false) := Lib.hid (fun h => decide_eq_false h)
  generalize rgB S = R at *
  by_cases q0 : 1 ≤ S.wd
  rotate_left
  · obtain rfl : R = false := H1.out (by unfold Rt; omega)
    have q0' : S.wd < 1 := by omega
    have q0d : decide (1 ≤ S.wd) = false := decide_eq_false q0
    clear q0
    go_enter Try.func31, Try.ntmps31
    go_wp2
    go_ret
    exact ⟨rfl, Hb.out⟩
  by_cases q1 : S.wd ≤ 64
  rotate_left
  · obtain rfl : R = false := H1.out (by unfold Rt; omega)
    have q1' : 64 < S.wd := by omega
    have q1d : decide (S.wd ≤ 64) = false := decide_eq_false q1
    clear q1
    go_enter Try.func31, Try.ntmps31
    go_wp2
    go_ret
    exact ⟨rfl, Hb.out⟩
  by_cases q2 : 2 ≤ S.dp
  rotate_left
  · obtain rfl : R = false := H1.out (by unfold Rt; omega)
    have q2' : S.dp < 2 := by omega
    have q2d : decide (2 ≤ S.dp) = false := decide_eq_false q2
    clear q2
    go_enter Try.func31, Try.ntmps31
    go_wp2
    go_ret
    exact ⟨rfl, Hb.out⟩
  by_cases q3 : S.dp ≤ 16
  rotate_left
  · obtain rfl : R = false := H1.out (by unfold Rt; omega)
    have q3' : 16 < S.dp := by omega
    have q3d : decide (S.dp ≤ 16) = false := decide_eq_false q3
    clear q3
    go_enter Try.func31, Try.ntmps31
    go_wp2
    go_ret
    exact ⟨rfl, Hb.out⟩
  by_cases q4 : 0 ≤ S.ow
  rotate_left
  · obtain rfl : R = false := H1.out (by unfold Rt; omega)
    have q4' : S.ow < 0 := by omega
    have q4d : decide (0 ≤ S.ow) = false := decide_eq_false q4
    clear q4
    go_enter Try.func31, Try.ntmps31
    go_wp2
    go_ret
    exact ⟨rfl, Hb.out⟩
  by_cases q5 : S.ow ≤ 1048576
  rotate_left
  · obtain rfl : R = false := H1.out (by unfold Rt; omega)
    have q5' : 1048576 < S.ow := by omega
    have q5d : decide (S.ow ≤ 1048576) = false := decide_eq_false q5
    clear q5
    go_enter Try.func31, Try.ntmps31
    go_wp2
    go_ret
    exact ⟨rfl, Hb.out⟩
  by_cases q6 : 0 ≤ S.sq
  rotate_left
  · obtain rfl : R = false := H1.out (by unfold Rt; omega)
    have q6' : S.sq < 0 := by omega
    have q6d : decide (0 ≤ S.sq) = false := decide_eq_false q6
    clear q6
    go_enter Try.func31, Try.ntmps31
    go_wp2
    go_ret
    exact ⟨rfl, Hb.out⟩
  by_cases q7 : S.sq ≤ 1048576
  rotate_left
  · obtain rfl : R = false := H1.out (by unfold Rt; omega)
    have q7' : 1048576 < S.sq := by omega
    have q7d : decide (S.sq ≤ 1048576) = false := decide_eq_false q7
    clear q7
    go_enter Try.func31, Try.ntmps31
    go_wp2
    go_ret
    exact ⟨rfl, Hb.out⟩
  by_cases q8 : 0 ≤ S.fs
  rotate_left
  · obtain rfl : R = false := H1.out (by unfold Rt; omega)
    have q8' : S.fs < 0 := by omega
    have q8d : decide (0 ≤ S.fs) = false := decide_eq_false q8
    clear q8
    go_enter Try.func31, Try.ntmps31
    go_wp2
    go_ret
    exact ⟨rfl, Hb.out⟩
  by_cases q9 : S.fs ≤ 1048576
  rotate_left
  · obtain rfl : R = false := H1.out (by unfold Rt; omega)
    have q9' : 1048576 < S.fs := by omega
    have q9d : decide (S.fs ≤ 1048576) = false := decide_eq_false q9
    clear q9
    go_enter Try.func31, Try.ntmps31
    go_wp2
    go_ret
    exact ⟨rfl, Hb.out⟩
  obtain rfl : R = true := H0.out (by unfold Rt; omega)
  have q9d : decide (S.fs ≤ 1048576) = true := decide_eq_true q9
  go_enter Try.func31, Try.ntmps31
  go_wp2
  go_ret
  exact ⟨rfl, Hb.out⟩
theorem rg_t {S : Sp} (h : Rt S) : rgB S = true := decide_eq_true h
theorem rg_f {S : Sp} (h : ¬ Rt S) : rgB S = false := decide_eq_false h

/-- The cells of the document's reading. -/
def rfr (S : Sp) (V : Value) (tr : Int) (x : RSt) : List Value :=
  [.int .i64 S.ow, .int .i64 S.sq, .int .i64 S.fs, .int .i64 S.wd, .int .i64 S.dp, .int .i64 tr, .int .i64 (x.line + 1), .int .i64 (tr - x.left), .int .u64 x.gen, V, .int .i64 x.bgn, .int .i64 x.how, .int .i64 x.steps]
/-- The document's reading at block o, that stands as x does. -/
structure RrAt (w : World) (o : Nat) (V : Value) (S : Sp) (tr : Int) (x : RSt) : Prop where
  cells : Blk w o (rfr S V tr x)
  words : w.ownsRow 0 43 1 V x.rw.length (x.rw.map (Value.int .u64))
  ne : V.ownBlock ≠ some o
def RrNew (S : Sp) (tr : Int) (w : World) (e : Ending) (w' : World) : Prop :=
  ∃ o : Nat, w.heap.size ≤ o ∧ e = .returned (.tuple #[.pointer (some ⟨o, 0, none⟩), .int .i64 0]) ∧ RrAt w' o (.slice none 0 0) S tr (rst0 tr) ∧ Below w.heap.size w w'
theorem Blk.to' {w : World} {g : Nat} {vs vs' : List Value} (h : Blk w g vs) (e : vs = vs') : Blk w g vs' := e ▸ h
set_option maxRecDepth 100000 in
set_option maxHeartbeats 2000000 in
theorem docmost_any (S : Sp) (tr : Int) (w : World) : Calls Try.prog 13 #[spV S, .int .i64 tr] w (Ret (.int .i64 (rmst S tr)) w) := by
  have Hr := Lib.hid (fun W => right_any S W)
  have HB := Lib.hid (And.intro ((Below.refl w.heap.size w).alloc (Nat.le_refl _) (sb2 S)) (Blk.new w #[.int .i64 S.ow, .int .i64 S.sq, .int .i64 S.fs, .int .i64 S.wd, .int .i64 S.dp] 38))
  by_cases k : Rt S ∧ 1 ≤ tr ∧ tr ≤ 16
  · obtain ⟨hr, k1, k2⟩ := k
    have e : rmst S tr = (S.wd + 2) * tr := by unfold rmst; rw [if_pos ((mb_iff _ _).2 ⟨hr, k1, k2⟩), Int.mul_comm]
    rw [e]
    rw [rg_t hr] at Hr
    obtain ⟨w1, w2, _⟩ := hr
    obtain ⟨m1, m2⟩ := mul_bd (m := 66) (n := 16) (by omega : 0 ≤ S.wd + 2) (by omega) (by omega : 0 ≤ tr) k2
    clear e
    go_enter Try.func13, Try.ntmps13
    go_wp2_with fail
    refine (Hr.out _).mono ?_
    rintro e w1 ⟨rfl, hb1⟩
    have Hb := Lib.hid (HB.out.1.trans (hb1.mono HB.out.1.size))
    have c3 := (HB.out.2.low hb1).cell (i := 3) rfl
    clear hb1
    go_wp2
    go_ret
    exact ⟨rfl, Hb.out⟩
  · have e : rmst S tr = 0 := by
      unfold rmst
      rw [if_neg (fun c => k ((mb_iff _ _).1 c))]
    rw [e]
    clear e
    by_cases hr : Rt S
    · rw [rg_t hr] at Hr
      rcases (show tr < 1 ∨ (1 ≤ tr ∧ 16 < tr) by have : ¬ (1 ≤ tr ∧ tr ≤ 16) := fun c => k ⟨hr, c.1, c.2⟩; omega) with c | ⟨c1, c2⟩
      all_goals
        clear k hr
        go_enter Try.func13, Try.ntmps13
        go_wp2_with fail
        refine (Hr.out _).mono ?_
        rintro e w1 ⟨rfl, hb1⟩
        have Hb := Lib.hid (HB.out.1.trans (hb1.mono HB.out.1.size))
        clear hb1
        go_wp2
        go_ret
        exact ⟨rfl, Hb.out⟩
    · rw [rg_f hr] at Hr
      clear k hr
      go_enter Try.func13, Try.ntmps13
      go_wp2_with fail
      refine (Hr.out _).mono ?_
      rintro e w1 ⟨rfl, hb1⟩
      have Hb := Lib.hid (HB.out.1.trans (hb1.mono HB.out.1.size))
      clear hb1
      go_wp2
      go_ret
      exact ⟨rfl, Hb.out⟩
set_option maxRecDepth 100000 in
set_option maxHeartbeats 2000000 in
theorem docnew_bad (S : Sp) (tr : Int) (w : World) (h : mb S tr = false) : Calls Try.prog 10 #[spV S, .int .i64 tr] w (Ret (.tuple #[.pointer none, .int .i64 10]) w) := by
  have Hr := Lib.hid (fun W => right_any S W)
  have HB := Lib.hid ((Below.refl w.heap.size w).alloc (Nat.le_refl _) (sb2 S))
  have k : ¬ (Rt S ∧ 1 ≤ tr ∧ tr ≤ 16) := fun c => by rw [(mb_iff _ _).2 c] at h; cases h
  clear h
  by_cases hr : Rt S
  · rw [rg_t hr] at Hr
    rcases (show tr < 1 ∨ (1 ≤ tr ∧ 16 < tr) by have : ¬ (1 ≤ tr ∧ tr ≤ 16) := fun c => k ⟨hr, c.1, c.2⟩; omega) with c | ⟨c1, c2⟩
    all_goals
      clear k hr
      go_enter Try.func10, Try.ntmps10
      go_wp2_with fail
      refine (Hr.out _).mono ?_
      rintro e w1 ⟨rfl, hb1⟩
      have Hb := Lib.hid (HB.out.trans (hb1.mono HB.out.size))
      clear hb1
      go_wp2
      go_ret2
      exact ⟨rfl, Hb.out⟩
  · rw [rg_f hr] at Hr
    clear k hr
    go_enter Try.func10, Try.ntmps10
    go_wp2_with fail
    refine (Hr.out _).mono ?_
    rintro e w1 ⟨rfl, hb1⟩
    have Hb := Lib.hid (HB.out.trans (hb1.mono HB.out.size))
    clear hb1
    go_wp2
    go_ret2
    exact ⟨rfl, Hb.out⟩
set_option maxRecDepth 100000 in
set_option maxHeartbeats 2000000 in
theorem docnew_ok (S : Sp) (tr : Int) (w : World) (h : mb S tr = true) : Calls Try.prog 10 #[spV S, .int .i64 tr] w (RrNew S tr w) := by
  have Hr := Lib.hid (fun W => right_any S W)
  have HB := Lib.hid (And.intro ((Below.refl w.heap.size w).alloc (Nat.le_refl _) (sb2 S)) (Blk.new w #[.int .i64 S.ow, .int .i64 S.sq, .int .i64 S.fs, .int .i64 S.wd, .int .i64 S.dp] 38))
  obtain ⟨hr, k1, k2⟩ := (mb_iff _ _).1 h
  rw [rg_t hr] at Hr
  clear h hr
  go_enter Try.func10, Try.ntmps10
  go_wp2_with fail
  refine (Hr.out _).mono ?_
  rintro e w1 ⟨rfl, hb1⟩
  have Hb := Lib.hid (HB.out.1.trans (hb1.mono HB.out.1.size))
  have hC := HB.out.2.low hb1
  have c0 := hC.cell (i := 0) rfl
  have c1 := hC.cell (i := 1) rfl
  have c2 := hC.cell (i := 2) rfl
  have c3 := hC.cell (i := 3) rfl
  have c4 := hC.cell (i := 4) rfl
  clear hb1 hC
  go_wp2
  go_ret2
  refine ⟨w1.heap.size, Hb.out.size, rfl, ⟨(Blk.new w1 _ 50).to' ?_, World.ownsRow_nil _ _ _ _, by simp [Value.ownBlock]⟩, Hb.out.alloc Hb.out.size _⟩
  simp [rfr, rst0]
end Go.Proofs.Ytajibhhmcjcchaa
