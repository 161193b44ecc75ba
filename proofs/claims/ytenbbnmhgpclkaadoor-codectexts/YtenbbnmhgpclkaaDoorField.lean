/- Contracts of package bits: fields. -/
import Derived.Test.YtenbbnmhgpclkaaDoorMem
import Derived.Test.YtenbbnmhgpclkaaDoorMath
import Derived.Test.YtenbbnmhgpclkaaDoorChecked
import Derived.Test.YtenbbnmhgpclkaaDoorRows
import Derived.BigQuiet
import Derived.Deep.RegionWith
import Derived.Deep.RegionHeld3
namespace Go.Proofs.YtenbbnmhgpclkaaDoor
open Go.RowKit

/-- The field may be. -/
def May (a n : Int) : Prop := 0 ≤ a ∧ a < 64 ∧ 1 ≤ n ∧ n ≤ 64 - a
instance (a n : Int) : Decidable (May a n) := by unfold May; infer_instance
theorem may_t {a n : Int} (h : May a n) : decide (May a n) = true := decide_eq_true h
theorem may_f {a n : Int} (h : ¬ May a n) : decide (May a n) = false := decide_eq_false h

set_option maxHeartbeats 400000 in
theorem may_in (a n : Int) (w : World) (h : May a n) : Calls Tryd.prog 40 #[fld a n] w (Ret (.bool true) w) := by
  obtain ⟨h1, h2, h3, h4⟩ := h
  have hw : wrap64 (64 - a) = 64 - a := by unfold wrap64; omega
  go_enter Tryd.func40, Tryd.ntmps40
  go_wp2
  go_ret
  exact ⟨rfl, (Below.refl _ _).alloc (Nat.le_refl _) _⟩
set_option maxHeartbeats 400000 in
theorem may_out (a n : Int) (w : World) (h : ¬ May a n) : Calls Tryd.prog 40 #[fld a n] w (Ret (.bool false) w) := by
  have hw : 0 ≤ a → a < 64 → wrap64 (64 - a) = 64 - a := by intro _ _; unfold wrap64; omega
  have H := Lib.hid h
  clear h
  have hb := (Below.refl w.heap.size w).alloc (Nat.le_refl _) (.cells #[.int .i64 a, .int .i64 n] 68)
  go_enter Tryd.func40, Tryd.ntmps40
  go_wp2
  all_goals go_ret
  all_goals try exact ⟨rfl, hb⟩
  all_goals
    refine ⟨?_, hb⟩
    have : ¬ n ≤ 64 - a := fun h => H.out ⟨by assumption, by assumption, by assumption, h⟩
    show Ending.returned (.bool (decide (n ≤ 64 - a))) = _
    rw [decide_eq_false this]

theorem may_nat {a n : Nat} (h1 : 1 ≤ n) (h2 : a + n ≤ 64) : May (a : Int) (n : Int) := ⟨by omega, by omega, by omega, by omega⟩

theorem hnot : ∀ (x : Bool) (w : World), (Op.unary .not (.bool x)).run Tryd.prog w = .ok (.bool (!x)) w := fun _ _ => rfl

/-- A field in a box at block b, and nothing else has turned. -/
structure FS (w : World) (b : Nat) (a n : Int) (w' : World) : Prop where
  blk : Blk w' b (fcells a n)
  bel : Below w.heap.size w w'
  c0 : w'.cell? ⟨b, 0, none⟩ = some (.int .i64 a)
  c1 : w'.cell? ⟨b, 1, none⟩ = some (.int .i64 n)
theorem FS.of {w w' : World} {b : Nat} {a n : Int} (h : Blk w' b (fcells a n)) (u : Below w.heap.size w w') : FS w b a n w' := ⟨h, u, h.cell (i := 0) rfl, h.cell (i := 1) rfl⟩
theorem FS.new (w : World) (a n : Int) (t : TypeId) : FS w w.heap.size a n (w.alloc (.cells #[.int .i64 a, .int .i64 n] t)) :=
  FS.of (Blk.new w _ t) ((Below.refl _ _).alloc (Nat.le_refl _) _)
theorem FS.next {w w' w'' : World} {b : Nat} {a n : Int} (h : FS w b a n w') (u : Below w'.heap.size w' w'') : FS w b a n w'' :=
  FS.of (h.blk.low u) (h.bel.trans (u.mono h.bel.size))
theorem FS.drew {w w' : World} {b : Nat} {a n : Int} (h : FS w b a n w') : FS w b a n w'.drew := FS.of h.blk.drew h.bel.drew

set_option maxHeartbeats 400000 in
theorem max_in (a n : Nat) (w : World) (h1 : 1 ≤ n) (h2 : a + n ≤ 64) : Calls Tryd.prog 25 #[fld a n] w (Ret (.int .u64 (mx n)) w) := by
  have hnot := hnot
  have hw : wrap64 (64 - (n : Int)) = 64 - n := by unfold wrap64; omega
  have hn : (0 : Int) ≤ 64 - n := by omega
  have hm := mx_shr (n := n) (by omega)
  go_enter Tryd.func25, Tryd.ntmps25
  go_wp2_with fail
  refine (may_in a n _ (may_nat h1 h2)).mono ?_
  rintro e w1 ⟨rfl, hb⟩
  have ⟨hk, hb0, _, c1⟩ := (FS.new w a n 68).next hb
  go_wp2
  go_ret
  exact ⟨rfl, hb0⟩

set_option maxHeartbeats 400000 in
theorem max_out (a n : Int) (w : World) (h : ¬ May a n) : Calls Tryd.prog 25 #[fld a n] w (Ret (.int .u64 0) w) := by
  have hnot := hnot
  go_enter Tryd.func25, Tryd.ntmps25
  go_wp2_with fail
  refine (may_out a n _ h).mono ?_
  rintro e w1 ⟨rfl, hb⟩
  have ⟨hk, hb0, _, c1⟩ := (FS.new w a n 68).next hb
  go_wp2
  go_ret
  exact ⟨rfl, hb0⟩

set_option maxHeartbeats 400000 in
theorem get_out (a n : Int) (x : Value) (w : World) (h : ¬ May a n) : Calls Tryd.prog 39 #[fld a n, x] w (Ret (.int .u64 0) w) := by
  have hnot := hnot
  go_enter Tryd.func39, Tryd.ntmps39
  go_wp2_with fail
  refine (may_out a n _ h).mono ?_
  rintro e w1 ⟨rfl, hb⟩
  have ⟨hk, hb0, _, c1⟩ := (FS.new w a n 68).next hb
  go_wp2
  go_ret
  exact ⟨rfl, hb0⟩

theorem and_get (a n x : Nat) (h2 : a + n ≤ 64) (hx : W64 x) : bits .and .u64 ((x : Int) / 2 ^ a) (mx n : Int) = (gt a n x : Int) := by
  have h := bits_and_u64_nat (x / 2 ^ a) (mx n) (div_w hx a) (mx_w (by omega))
  rw [and_mx] at h
  simpa [gt] using h

set_option maxHeartbeats 400000 in
theorem get_in (a n x : Nat) (w : World) (h1 : 1 ≤ n) (h2 : a + n ≤ 64) (hx : W64 x) : Calls Tryd.prog 39 #[fld a n, .int .u64 x] w (Ret (.int .u64 (gt a n x)) w) := by
  have hnot := hnot
  have hbit := and_get a n x h2 hx
  go_enter Tryd.func39, Tryd.ntmps39
  go_wp2_with fail
  refine (may_in a n _ (may_nat h1 h2)).mono ?_
  rintro e w1 ⟨rfl, hb⟩
  have hF := (FS.new w a n 68).next hb
  have ⟨hk, hb0, c0, c1⟩ := hF
  clear hb
  go_wp2_with fail
  go_region_held3 (fun w' => w'.cell? ⟨w.heap.size, 0, none⟩ = some (.int .i64 a) ∧ w'.cell? ⟨w.heap.size, 1, none⟩ = some (.int .i64 n) ∧ Blk w' w.heap.size (fcells a n) ∧ Below w.heap.size w w') (first | exact ⟨c0, c1, hk.drew, hb0.drew⟩ | exact ⟨d0, d1, hk2, hb2⟩) (first | (go_at_call 25; refine (max_in a n _ h1 h2).mono ?_; rintro e w2 ⟨rfl, hb⟩; have ⟨hk2, hb2, d0, d1⟩ := FS.next (FS.drew hF) hb))
  go_wp2
  go_ret
  exact ⟨rfl, hb2⟩

set_option maxHeartbeats 400000 in
theorem put_out (a n : Int) (x : Value) (y : Int) (w : World) (h : ¬ May a n) : Calls Tryd.prog 55 #[fld a n, x, .int .u64 y] w (Ret (.tuple #[.int .u64 0, .int .i64 10]) w) := by
  have hnot := hnot
  go_enter Tryd.func55, Tryd.ntmps55
  go_wp2_with fail
  refine (may_out a n _ h).mono ?_
  rintro e w1 ⟨rfl, hb⟩
  have ⟨hk, hb0, _, c1⟩ := (FS.new w a n 68).next hb
  go_wp2
  go_ret2
  exact ⟨rfl, hb0⟩

set_option maxHeartbeats 400000 in
theorem put_big (a n y : Nat) (x : Value) (w : World) (h1 : 1 ≤ n) (h2 : a + n ≤ 64) (hy : mx n < y) : Calls Tryd.prog 55 #[fld a n, x, .int .u64 y] w (Ret (.tuple #[.int .u64 0, .int .i64 10]) w) := by
  have hnot := hnot
  have hd : decide ((mx n : Int) < (y : Int)) = true := by simp; omega
  go_enter Tryd.func55, Tryd.ntmps55
  go_wp2_with fail
  refine (may_in a n _ (may_nat h1 h2)).mono ?_
  rintro e w1 ⟨rfl, hb⟩
  have hF := (FS.new w a n 68).next hb
  have ⟨hk, hb0, c0, c1⟩ := hF
  clear hb
  go_wp2_with fail
  refine (max_in a n _ h1 h2).mono ?_
  rintro e w2 ⟨rfl, hb⟩
  have ⟨hk2, hb2, d0, d1⟩ := hF.next hb
  go_wp2
  go_ret2
  exact ⟨rfl, hb2⟩

theorem wrap_nat {x : Nat} (h : x < 18446744073709551616) : IntKind.u64.wrap (x : Int) = x := by
  rw [IntKind.wrap_u64]; omega
theorem shl_nat {x a : Nat} (h : x * 2 ^ a < 18446744073709551616) : IntKind.u64.wrap ((x : Int) * 2 ^ a) = ((x * 2 ^ a : Nat) : Int) := by
  have := wrap_nat h
  simpa using this
theorem or_put (a n x y : Nat) (h2 : a + n ≤ 64) (hx : W64 x) (hy : y ≤ mx n) :
    bits .or .u64 (bits .andNot .u64 (x : Int) (IntKind.u64.wrap ((mx n : Int) * 2 ^ a))) (IntKind.u64.wrap ((y : Int) * 2 ^ a)) = (pt a n x y : Int) := by
  rw [shl_nat (mxa_lt h2), shl_nat (xa_lt h2 hy), u64_andNot_nat _ _ hx (mxa_lt h2), bits_or_u64_nat _ _ (Nat.lt_of_le_of_lt Nat.and_le_left hx) (xa_lt h2 hy)]
  rfl

set_option maxHeartbeats 400000 in
theorem put_in (a n x y : Nat) (w : World) (h1 : 1 ≤ n) (h2 : a + n ≤ 64) (hx : W64 x) (hy : y ≤ mx n) : Calls Tryd.prog 55 #[fld a n, .int .u64 x, .int .u64 y] w (Ret (.tuple #[.int .u64 (pt a n x y), .int .i64 0]) w) := by
  have hnot := hnot
  have hd : decide ((mx n : Int) < (y : Int)) = false := by simp; omega
  have hpt := or_put a n x y h2 hx hy
  go_enter Tryd.func55, Tryd.ntmps55
  go_wp2_with fail
  refine (may_in a n _ (may_nat h1 h2)).mono ?_
  rintro e w1 ⟨rfl, hb⟩
  have hF1 := (FS.new w a n 68).next hb
  have ⟨hk, hb0, c0, c1⟩ := hF1
  clear hb
  go_wp2_with fail
  refine (max_in a n _ h1 h2).mono ?_
  rintro e w2 ⟨rfl, hb⟩
  have hF := hF1.next hb
  clear hb hk hb0 c0 c1 hF1
  have ⟨hk, hb0, c0, c1⟩ := hF
  go_wp2_with fail
  go_region_held3 (fun w' => w'.cell? ⟨w.heap.size, 0, none⟩ = some (.int .i64 a) ∧ w'.cell? ⟨w.heap.size, 1, none⟩ = some (.int .i64 n) ∧ Blk w' w.heap.size (fcells a n) ∧ Below w.heap.size w w') (first | exact ⟨c0, c1, hk.drew, hb0.drew⟩ | exact ⟨d0, d1, hk2, hb2⟩) (first | (go_at_call 25; refine (max_in a n _ h1 h2).mono ?_; rintro e w3 ⟨rfl, hb⟩; have ⟨hk2, hb2, d0, d1⟩ := FS.next (FS.drew hF) hb))
  go_wp2
  go_ret2
  exact ⟨rfl, hb2⟩

set_option maxHeartbeats 400000 in
theorem signed_out (a n : Int) (x : Value) (w : World) (h : ¬ May a n) : Calls Tryd.prog 38 #[fld a n, x] w (Ret (.int .i64 0) w) := by
  have hnot := hnot
  go_enter Tryd.func38, Tryd.ntmps38
  go_wp2_with fail
  refine (may_out a n _ h).mono ?_
  rintro e w1 ⟨rfl, hb⟩
  have ⟨hk, hb0, _, c1⟩ := (FS.new w a n 68).next hb
  go_wp2
  go_ret
  exact ⟨rfl, hb0⟩

theorem wrap64_toI {u : Nat} (h : W64 u) : wrap64 (u : Int) = toI u := by
  unfold wrap64 toI W64 at *
  split <;> omega
theorem signed_shift (n g : Nat) (h1 : 1 ≤ n) (h2 : n ≤ 64) (hg : g < 2 ^ n) : wrap64 (IntKind.u64.wrap ((g : Int) * 2 ^ (64 - n))) / 2 ^ (64 - n) = sg n g := by
  obtain ⟨ha, hb⟩ := sg_shift h1 h2 hg
  rw [shl_nat ha, wrap64_toI ha, ← hb]
  simp

set_option maxHeartbeats 400000 in
theorem signed_in (a n x : Nat) (w : World) (h1 : 1 ≤ n) (h2 : a + n ≤ 64) (hx : W64 x) : Calls Tryd.prog 38 #[fld a n, .int .u64 x] w (Ret (.int .i64 (sg n (gt a n x))) w) := by
  have hnot := hnot
  have hw : wrap64 (64 - (n : Int)) = 64 - n := by unfold wrap64; omega
  have hn : (0 : Int) ≤ 64 - n := by omega
  have hsg := signed_shift n (gt a n x) h1 (by omega) (gt_lt a n x)
  go_enter Tryd.func38, Tryd.ntmps38
  go_wp2_with fail
  refine (may_in a n _ (may_nat h1 h2)).mono ?_
  rintro e w1 ⟨rfl, hb⟩
  have hF1 := (FS.new w a n 68).next hb
  have ⟨hk, hb0, c0, c1⟩ := hF1
  clear hb
  go_wp2_with fail
  refine (get_in a n x _ h1 h2 hx).mono ?_
  rintro e w2 ⟨rfl, hb⟩
  have hF := hF1.next hb
  clear hb hk hb0 c0 c1 hF1
  have ⟨hk, hb0, c0, c1⟩ := hF
  go_wp2
  go_ret
  exact ⟨rfl, hb0⟩

set_option maxHeartbeats 400000 in
theorem putS_out (a n : Int) (x : Value) (y : Int) (w : World) (h : ¬ May a n) : Calls Tryd.prog 54 #[fld a n, x, .int .i64 y] w (Ret (.tuple #[.int .u64 0, .int .i64 10]) w) := by
  have hnot := hnot
  go_enter Tryd.func54, Tryd.ntmps54
  go_wp2_with fail
  refine (max_out a n _ h).mono ?_
  rintro e w1 ⟨rfl, hb⟩
  have hF1 := (FS.new w a n 68).next hb
  have ⟨hk, hb0, c0, c1⟩ := hF1
  clear hb
  go_wp2_with fail
  refine (may_out a n _ h).mono ?_
  rintro e w2 ⟨rfl, hb⟩
  have ⟨hk, hb0, _, c1⟩ := hF1.next hb
  go_wp2
  go_ret2
  exact ⟨rfl, hb0⟩

theorem half (n : Nat) (h1 : 1 ≤ n) (h2 : n ≤ 64) : ∃ G : Int, 0 ≤ G ∧ G < 9223372036854775808 ∧ ((2 ^ (n - 1) : Nat) : Int) = G + 1 ∧ wrap64 ((mx n : Int) / 2) = G ∧ wrap64 (-G) = -G ∧ wrap64 (-G - 1) = -G - 1 := by
  have e2 := pow_split h1
  have hp := pow_pos' (n - 1)
  have hq : 2 ^ (n - 1) ≤ 9223372036854775808 := Nat.pow_le_pow_right (n := 2) (i := n - 1) (j := 63) (by decide) (by omega)
  refine ⟨((2 ^ (n - 1) : Nat) : Int) - 1, by omega, by omega, by omega, ?_, ?_, ?_⟩
  · unfold mx wrap64; rw [e2]; omega
  · unfold wrap64; omega
  · unfold wrap64; omega

set_option maxHeartbeats 400000 in
theorem putS_big (a n : Nat) (x : Value) (y : Int) (w : World) (h1 : 1 ≤ n) (h2 : a + n ≤ 64) (hy : ¬ (-(2 ^ (n - 1) : Nat) ≤ y ∧ y < (2 ^ (n - 1) : Nat))) : Calls Tryd.prog 54 #[fld a n, x, .int .i64 y] w (Ret (.tuple #[.int .u64 0, .int .i64 10]) w) := by
  have hnot := hnot
  obtain ⟨G, g1, g2, g3, g4, g5, g6⟩ := half n h1 (by omega)
  rw [g3] at hy
  have H3 := Lib.hid g3
  clear g3
  by_cases hd : y ≤ G
  · have hd' : y < -G - 1 := by omega
    clear hy
    go_enter Tryd.func54, Tryd.ntmps54
    go_wp2_with fail
    refine (max_in a n _ h1 h2).mono ?_
    rintro e w1 ⟨rfl, hb⟩
    have hF1 := (FS.new w a n 68).next hb
    have ⟨hk, hb0, c0, c1⟩ := hF1
    clear hb
    go_wp2_with fail
    refine (may_in a n _ (may_nat h1 h2)).mono ?_
    rintro e w2 ⟨rfl, hb⟩
    have ⟨hk, hb0, _, c1⟩ := hF1.next hb
    go_wp2
    go_ret2
    exact ⟨rfl, hb0⟩
  · have hd' : G < y := by omega
    clear hy hd
    go_enter Tryd.func54, Tryd.ntmps54
    go_wp2_with fail
    refine (max_in a n _ h1 h2).mono ?_
    rintro e w1 ⟨rfl, hb⟩
    have hF1 := (FS.new w a n 68).next hb
    have ⟨hk, hb0, c0, c1⟩ := hF1
    clear hb
    go_wp2_with fail
    refine (may_in a n _ (may_nat h1 h2)).mono ?_
    rintro e w2 ⟨rfl, hb⟩
    have ⟨hk, hb0, _, c1⟩ := hF1.next hb
    go_wp2
    go_ret2
    exact ⟨rfl, hb0⟩

theorem and_lo (n : Nat) (y : Int) (h2 : n ≤ 64) : bits .and .u64 (IntKind.u64.wrap y) (mx n : Int) = (lo n y : Int) := by
  have e : IntKind.u64.wrap y = (toU y : Int) := by rw [toU_cast, IntKind.wrap_u64]
  rw [e, bits_and_u64_nat _ _ (toU_w y) (mx_w h2), toU_and]

set_option maxHeartbeats 400000 in
theorem putS_in (a n x : Nat) (y : Int) (w : World) (h1 : 1 ≤ n) (h2 : a + n ≤ 64) (hx : W64 x) (hy : -(2 ^ (n - 1) : Nat) ≤ y ∧ y < (2 ^ (n - 1) : Nat)) : Calls Tryd.prog 54 #[fld a n, .int .u64 x, .int .i64 y] w (Ret (.tuple #[.int .u64 (pt a n x (lo n y)), .int .i64 0]) w) := by
  have hnot := hnot
  obtain ⟨G, g1, g2, g3, g4, g5, g6⟩ := half n h1 (by omega)
  rw [g3] at hy
  have H3 := Lib.hid g3
  clear g3
  have hy1 : -G - 1 ≤ y := by omega
  have hy2 : y ≤ G := by omega
  have hlo := and_lo n y (by omega)
  clear hy
  go_enter Tryd.func54, Tryd.ntmps54
  go_wp2_with fail
  refine (max_in a n _ h1 h2).mono ?_
  rintro e w1 ⟨rfl, hb⟩
  have hF1 := (FS.new w a n 68).next hb
  have ⟨hk, hb0, c0, c1⟩ := hF1
  clear hb
  go_wp2_with fail
  refine (may_in a n _ (may_nat h1 h2)).mono ?_
  rintro e w2 ⟨rfl, hb⟩
  have hF := hF1.next hb
  clear hb hk hb0 c0 c1 hF1
  have ⟨hk, hb0, c0, c1⟩ := hF
  go_wp2_with fail
  go_region_held3 (fun w' => w'.cell? ⟨w.heap.size, 0, none⟩ = some (.int .i64 a) ∧ w'.cell? ⟨w.heap.size, 1, none⟩ = some (.int .i64 n) ∧ Blk w' w.heap.size (fcells a n) ∧ Below w.heap.size w w') (first | exact ⟨c0, c1, hk.drew, hb0.drew⟩ | exact ⟨e0, e1, hk3, hb3⟩ | exact ⟨d0, d1, hk2, hb2⟩) (first | (go_at_call 25; refine (max_in a n _ h1 h2).mono ?_; rintro e w3 ⟨rfl, hb⟩; have ⟨hk2, hb2, d0, d1⟩ := FS.next (FS.drew hF) hb) | (go_at_call 55; refine (put_in a n x _ _ h1 h2 hx (le_mx.2 (lo_lt n y))).mono ?_; rintro e w4 ⟨rfl, hb'⟩; have ⟨hk3, hb3, e0, e1⟩ := FS.next (FS.of hk2 hb2) hb'))
  go_wp2
  go_ret2
  exact ⟨rfl, hb3⟩
end Go.Proofs.YtenbbnmhgpclkaaDoor
