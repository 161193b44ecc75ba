/- The document's Right, Most, New, Gen. -/
import Derived.Test.YtbfelghfimcenaaRfB
namespace Go.Proofs.Ytbfelghfimcenaa
open Go.RowKit
def rgB (S : Sp) : Bool := decide (Rt S)
abbrev sb2 (S : Sp) : Obj := .cells #[.int .i64 S.ow, .int .i64 S.sq, .int .i64 S.fs, .int .i64 S.wd, .int .i64 S.dp] 45
set_option maxRecDepth 100000 in
set_option maxHeartbeats 2000000 in
theorem right_any (S : Sp) (w : World) : Calls Try.prog 30 #[spV S] w (Ret (.bool (rgB S)) w) := by
  have Hb := Lib.hid ((Below.refl w.heap.size w).alloc (Nat.le_refl _) (sb2 S))
  have H0 : Hid (Rt S → rgB S = true) := Lib.hid (fun h => decide_eq_true h)
  have H1 : Hid (¬ Rt S → rgB S = false) := Lib.hid (fun h => decide_eq_false h)
  generalize rgB S = R at *
  by_cases q0 : 1 ≤ S.wd
  rotate_left
  · obtain rfl : R = false := H1.out (by unfold Rt; omega)
    have q0' : S.wd < 1 := by omega
    have q0d : decide (1 ≤ S.wd) = false := decide_eq_false q0
    clear q0
    go_enter Try.func30, Try.ntmps30
    go_wp2
    go_ret
    exact ⟨rfl, Hb.out⟩
  by_cases q1 : S.wd ≤ 64
  rotate_left
  · obtain rfl : R = false := H1.out (by unfold Rt; omega)
    have q1' : 64 < S.wd := by omega
    have q1d : decide (S.wd ≤ 64) = false := decide_eq_false q1
    clear q1
    go_enter Try.func30, Try.ntmps30
    go_wp2
    go_ret
    exact ⟨rfl, Hb.out⟩
  by_cases q2 : 2 ≤ S.dp
  rotate_left
  · obtain rfl : R = false := H1.out (by unfold Rt; omega)
    have q2' : S.dp < 2 := by omega
    have q2d : decide (2 ≤ S.dp) = false := decide_eq_false q2
    clear q2
    go_enter Try.func30, Try.ntmps30
    go_wp2
    go_ret
    exact ⟨rfl, Hb.out⟩
  by_cases q3 : S.dp ≤ 16
  rotate_left
  · obtain rfl : R = false := H1.out (by unfold Rt; omega)
    have q3' : 16 < S.dp := by omega
    have q3d : decide (S.dp ≤ 16) = false := decide_eq_false q3
    clear q3
    go_enter Try.func30, Try.ntmps30
    go_wp2
    go_ret
    exact ⟨rfl, Hb.out⟩
  by_cases q4 : 0 ≤ S.ow
  rotate_left
  · obtain rfl : R = false := H1.out (by unfold Rt; omega)
    have q4' : S.ow < 0 := by omega
    have q4d : decide (0 ≤ S.ow) = false := decide_eq_false q4
    clear q4
    go_enter Try.func30, Try.ntmps30
    go_wp2
    go_ret
    exact ⟨rfl, Hb.out⟩
  by_cases q5 : S.ow ≤ 1048576
  rotate_left
  · obtain rfl : R = false := H1.out (by unfold Rt; omega)
    have q5' : 1048576 < S.ow := by omega
    have q5d : decide (S.ow ≤ 1048576) = false := decide_eq_false q5
    clear q5
    go_enter Try.func30, Try.ntmps30
    go_wp2
    go_ret
    exact ⟨rfl, Hb.out⟩
  by_cases q6 : 0 ≤ S.sq
  rotate_left
  · obtain rfl : R = false := H1.out (by unfold Rt; omega)
    have q6' : S.sq < 0 := by omega
    have q6d : decide (0 ≤ S.sq) = false := decide_eq_false q6
    clear q6
    go_enter Try.func30, Try.ntmps30
    go_wp2
    go_ret
    exact ⟨rfl, Hb.out⟩
  by_cases q7 : S.sq ≤ 1048576
  rotate_left
  · obtain rfl : R = false := H1.out (by unfold Rt; omega)
    have q7' : 1048576 < S.sq := by omega
    have q7d : decide (S.sq ≤ 1048576) = false := decide_eq_false q7
    clear q7
    go_enter Try.func30, Try.ntmps30
    go_wp2
    go_ret
    exact ⟨rfl, Hb.out⟩
  by_cases q8 : 0 ≤ S.fs
  rotate_left
  · obtain rfl : R = false := H1.out (by unfold Rt; omega)
    have q8' : S.fs < 0 := by omega
    have q8d : decide (0 ≤ S.fs) = false := decide_eq_false q8
    clear q8
    go_enter Try.func30, Try.ntmps30
    go_wp2
    go_ret
    exact ⟨rfl, Hb.out⟩
  by_cases q9 : S.fs ≤ 1048576
  rotate_left
  · obtain rfl : R = false := H1.out (by unfold Rt; omega)
    have q9' : 1048576 < S.fs := by omega
    have q9d : decide (S.fs ≤ 1048576) = false := decide_eq_false q9
    clear q9
    go_enter Try.func30, Try.ntmps30
    go_wp2
    go_ret
    exact ⟨rfl, Hb.out⟩
  obtain rfl : R = true := H0.out (by unfold Rt; omega)
  have q9d : decide (S.fs ≤ 1048576) = true := decide_eq_true q9
  go_enter Try.func30, Try.ntmps30
  go_wp2
  go_ret
  exact ⟨rfl, Hb.out⟩
theorem rg_t {S : Sp} (h : Rt S) : rgB S = true := decide_eq_true h
theorem rg_f {S : Sp} (h : ¬ Rt S) : rgB S = false := decide_eq_false h
set_option maxRecDepth 100000 in
set_option maxHeartbeats 2000000 in
theorem rmost_any (S : Sp) (tr : Int) (w : World) : Calls Try.prog 15 #[spV S, .int .i64 tr] w (Ret (.int .i64 (mst S tr)) w) := by
  have Hr := Lib.hid (fun W => right_any S W)
  have HB := Lib.hid (And.intro ((Below.refl w.heap.size w).alloc (Nat.le_refl _) (sb2 S)) (Blk.new w #[.int .i64 S.ow, .int .i64 S.sq, .int .i64 S.fs, .int .i64 S.wd, .int .i64 S.dp] 45))
  by_cases k : Rt S ∧ 1 ≤ tr ∧ tr ≤ 16
  · obtain ⟨hr, k1, k2⟩ := k
    have e : mst S tr = 2 * tr + S.wd + 1 := by unfold mst; rw [if_pos ((mb_iff _ _).2 ⟨hr, k1, k2⟩)]
    rw [e]
    rw [rg_t hr] at Hr
    obtain ⟨w1, w2, _⟩ := hr
    clear e
    go_enter Try.func15, Try.ntmps15
    go_wp2_with fail
    refine (Hr.out _).mono ?_
    rintro e w1 ⟨rfl, hb1⟩
    have Hb := Lib.hid (HB.out.1.trans (hb1.mono HB.out.1.size))
    have c3 := (HB.out.2.low hb1).cell (i := 3) rfl
    clear hb1
    go_wp2
    go_ret
    exact ⟨rfl, Hb.out⟩
  · have e : mst S tr = 0 := by
      unfold mst
      rw [if_neg (fun c => k ((mb_iff _ _).1 c))]
    rw [e]
    clear e
    by_cases hr : Rt S
    · rw [rg_t hr] at Hr
      rcases (show tr < 1 ∨ (1 ≤ tr ∧ 16 < tr) by have : ¬ (1 ≤ tr ∧ tr ≤ 16) := fun c => k ⟨hr, c.1, c.2⟩; omega) with c | ⟨c1, c2⟩
      all_goals
        clear k hr
        go_enter Try.func15, Try.ntmps15
        go_wp2_with fail
        refine (Hr.out _).mono ?_
        rintro e w1 ⟨rfl, hb1⟩
        have Hb := Lib.hid (HB.out.1.trans (hb1.mono HB.out.1.size))
        clear hb1
        go_wp2
        go_ret
        exact ⟨rfl, Hb.out⟩
    · rw [rg_f hr] at Hr
      clear k hr
      go_enter Try.func15, Try.ntmps15
      go_wp2_with fail
      refine (Hr.out _).mono ?_
      rintro e w1 ⟨rfl, hb1⟩
      have Hb := Lib.hid (HB.out.1.trans (hb1.mono HB.out.1.size))
      clear hb1
      go_wp2
      go_ret
      exact ⟨rfl, Hb.out⟩
set_option maxRecDepth 100000 in
set_option maxHeartbeats 2000000 in
theorem rnew_bad (S : Sp) (a : Option Addr) (n cap : Nat) (tr : Int) (w : World) (h : ¬ nwE S n tr = 0) : Calls Try.prog 12 #[spV S, .slice a n cap, .int .i64 tr] w (Ret (.tuple #[.pointer none, .int .i64 (nwE S n tr)]) w) := by
  have Hr := Lib.hid (fun W => right_any S W)
  have HB := Lib.hid (And.intro ((Below.refl w.heap.size w).alloc (Nat.le_refl _) (sb2 S)) (Blk.new w #[.int .i64 S.ow, .int .i64 S.sq, .int .i64 S.fs, .int .i64 S.wd, .int .i64 S.dp] 45))
  by_cases k : Rt S ∧ 1 ≤ tr ∧ tr ≤ 16
  · have e : nwE S n tr = 17 := by
      unfold nwE at h ⊢
      rw [if_pos ((mb_iff _ _).2 k)] at h ⊢
      split at h
      · omega
      · rw [if_neg (by assumption)]
    have hne : ¬ (n : Int) = S.wd := by
      intro c
      apply h
      unfold nwE
      rw [if_pos ((mb_iff _ _).2 k), if_pos c]
    obtain ⟨hr, k1, k2⟩ := k
    rw [e]
    rw [rg_t hr] at Hr
    clear e h hr
    have m0 : ((n : Int) != S.wd) = true := by simpa using hne
    go_enter Try.func12, Try.ntmps12
    go_wp2_with fail
    refine (Hr.out _).mono ?_
    rintro e w1 ⟨rfl, hb1⟩
    have Hb := Lib.hid (HB.out.1.trans (hb1.mono HB.out.1.size))
    have c3 := (HB.out.2.low hb1).cell (i := 3) rfl
    clear hb1
    go_wp2
    go_ret2
    exact ⟨rfl, Hb.out⟩
  · have e : nwE S n tr = 10 := by
      unfold nwE
      rw [if_neg (fun c => k ((mb_iff _ _).1 c))]
    rw [e]
    clear e h
    by_cases hr : Rt S
    · rw [rg_t hr] at Hr
      rcases (show tr < 1 ∨ (1 ≤ tr ∧ 16 < tr) by have : ¬ (1 ≤ tr ∧ tr ≤ 16) := fun c => k ⟨hr, c.1, c.2⟩; omega) with c | ⟨c1, c2⟩
      all_goals
        clear k hr
        go_enter Try.func12, Try.ntmps12
        go_wp2_with fail
        refine (Hr.out _).mono ?_
        rintro e w1 ⟨rfl, hb1⟩
        have Hb := Lib.hid (HB.out.1.trans (hb1.mono HB.out.1.size))
        clear hb1
        go_wp2
        go_ret2
        exact ⟨rfl, Hb.out⟩
    · rw [rg_f hr] at Hr
      clear k hr
      go_enter Try.func12, Try.ntmps12
      go_wp2_with fail
      refine (Hr.out _).mono ?_
      rintro e w1 ⟨rfl, hb1⟩
      have Hb := Lib.hid (HB.out.1.trans (hb1.mono HB.out.1.size))
      clear hb1
      go_wp2
      go_ret2
      exact ⟨rfl, Hb.out⟩
/-- A new one of the document's. -/
def NewRf (S : Sp) (a : Option Addr) (ws : List Int) (cap : Nat) (tr : Int) (w : World) (e : Ending) (w' : World) : Prop :=
  ∃ o : Nat, w.heap.size ≤ o ∧ e = .returned (.tuple #[.pointer (some ⟨o, 0, none⟩), .int .i64 0]) ∧ RfAt w' o S a ws cap tr (st0 tr) ∧ Below w.heap.size w w'
set_option maxRecDepth 100000 in
set_option maxHeartbeats 2000000 in
theorem rnew_ok (S : Sp) (a : Option Addr) (ws : List Int) (cap : Nat) (tr : Int) (w : World) (h : nwE S ws.length tr = 0) : Calls Try.prog 12 #[spV S, .slice a ws.length cap, .int .i64 tr] w (NewRf S a ws cap tr w) := by
  have Hr := Lib.hid (fun W => right_any S W)
  have HB := Lib.hid (And.intro ((Below.refl w.heap.size w).alloc (Nat.le_refl _) (sb2 S)) (Blk.new w #[.int .i64 S.ow, .int .i64 S.sq, .int .i64 S.fs, .int .i64 S.wd, .int .i64 S.dp] 45))
  have k : Rt S ∧ 1 ≤ tr ∧ tr ≤ 16 := by
    unfold nwE at h
    split at h
    · exact (mb_iff _ _).1 (by assumption)
    · omega
  have hq : (ws.length : Int) = S.wd := by
    unfold nwE at h
    rw [if_pos ((mb_iff _ _).2 k)] at h
    split at h
    · assumption
    · omega
  obtain ⟨hr, k1, k2⟩ := k
  rw [rg_t hr] at Hr
  have m0 : ((ws.length : Int) != S.wd) = false := by simpa using hq
  clear h hr hq
  go_enter Try.func12, Try.ntmps12
  go_wp2_with fail
  refine (Hr.out _).mono ?_
  rintro e w1 ⟨rfl, hb1⟩
  have hC := HB.out.2.low hb1
  have c0 := hC.cell (i := 0) rfl
  have c1 := hC.cell (i := 1) rfl
  have c2 := hC.cell (i := 2) rfl
  have c3 := hC.cell (i := 3) rfl
  have c4 := hC.cell (i := 4) rfl
  have Hb := Lib.hid (HB.out.1.trans (hb1.mono HB.out.1.size))
  clear hb1 hC
  go_wp2
  go_ret2
  refine ⟨w1.heap.size, Hb.out.size, rfl, ⟨0, ?_, fun _ => rfl⟩, Hb.out.alloc Hb.out.size _⟩
  refine (Blk.new w1 _ 56).to ?_
  show _ = rfx S _ tr (0 + 1) (tr - tr) 0 0 0 0
  rw [Int.sub_self]
  rfl
set_option maxRecDepth 100000 in
theorem rgen_any {w : World} {o : Nat} {S : Sp} {a : Option Addr} {ws : List Int} {cap : Nat} {tr : Int} {x : St} (h : RfAt w o S a ws cap tr x) (hs : U64 x.s) : Calls Try.prog 20 #[.pointer (some ⟨o, 0, none⟩)] w (Pur (.int .u64 (if x.how = 1 then x.s / 2 + 1 else 0)) w) := by
  obtain ⟨sq, hb, he⟩ := h
  have c11 := hb.cell (i := 11) rfl
  have c9 := hb.cell (i := 9) rfl
  have lo := hb.lt
  clear hb
  obtain ⟨s0, s1⟩ := hs
  by_cases k : x.how = 1
  · rw [if_pos k]
    obtain rfl := he (by omega)
    rw [k] at c11
    clear k he
    generalize x.s = s at *
    have h2 : s / 2 ≤ 9223372036854775807 := by omega
    have h3 : 0 ≤ s / 2 := by omega
    go_enter Try.func20, Try.ntmps20
    go_wp2
    go_ret
    exact ⟨rfl, rfl⟩
  · rw [if_neg k]
    generalize x.how = y at *
    clear he
    go_enter Try.func20, Try.ntmps20
    go_wp2
    go_ret
    exact ⟨rfl, rfl⟩
end Go.Proofs.Ytbfelghfimcenaa
