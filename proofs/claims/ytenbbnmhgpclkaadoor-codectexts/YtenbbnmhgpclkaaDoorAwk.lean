/- The chapter's example (awake) holds. -/
import Derived.Test.YtenbbnmhgpclkaaDoorPrn
namespace Go.Proofs.YtenbbnmhgpclkaaDoor
open Go.RowKit

theorem eq33 (a b c d : Int) (w : World) : (Op.equalIn 10000 33 (.agg #[.int .i64 a, .int .i64 b]) (.agg #[.int .i64 c, .int .i64 d])).run Tryd.prog w = .ok (a == c && b == d) w := by
  have u3 := Tryd.underlying3
  have a3 := Tryd.isAgg3
  have z3 := Tryd.sizeOf3
  rw [show (10000 : Nat) = 9999 + 1 from rfl, Op.equalIn]
  simp only [Sem.run_bind, run_underlying Tryd.underlying33, Result.andThen_ok]
  simp only [Std.Legacy.Range.forIn_eq_forIn_range', Std.Legacy.Range.size, Nat.sub_zero, Nat.add_sub_cancel, Nat.div_one, List.range'_succ, List.range'_zero, List.forIn_cons, List.forIn_nil]
  go_simp
  by_cases h1 : a = c <;> by_cases h2 : b = d <;> simp [h1, h2]
theorem eq33_same (a b : Int) (w : World) : (Op.equalIn 10000 33 (.agg #[.int .i64 a, .int .i64 b]) (.agg #[.int .i64 a, .int .i64 b])).run Tryd.prog w = .ok true w := by
  rw [eq33]
  simp
theorem str_toList (l : List UInt8) : (str l).toList = l := by
  simp [str]
/-- Words as cells. -/
def us (xs : List Nat) : List Value := xs.map fun (x : Nat) => Value.int .u64 (x : Int)
def RelW (w : World) (n : Nat) (s5 : Value) (wr : World) : Prop := ∃ k : Nat, k ≤ n ∧ s5 = .int .i64 k ∧ ∃ m, wr = w.drewN m

set_option maxHeartbeats 1000000 in
theorem words_eq (g g2 cap cap2 : Nat) (xs : List Nat) (w : World) (h1 : Blk w g (us xs)) (h2 : Blk w g2 (us xs)) (hl : xs.length ≤ 1000) :
    Calls Tryd.prog 21 #[.slice (some ⟨g, 0, none⟩) xs.length cap, .slice (some ⟨g2, 0, none⟩) xs.length cap2] w (Ret (.bool true) w) := by
  go_enter Tryd.func21, Tryd.ntmps21
  go_wp2
  go_loopw [5] (RelW w xs.length) (fun i _ => xs.length - (intOf i).toNat)
  case atStart => exact ⟨0, by omega, rfl, 0, rfl⟩
  case round =>
    obtain ⟨k, hk, rfl, m, rfl⟩ := hrel
    by_cases hlt : k < xs.length
    · obtain ⟨x, hx⟩ : ∃ x, xs[k]? = some x := ⟨xs[k], List.getElem?_eq_getElem hlt⟩
      have hx' : (us xs)[k]? = some (.int .u64 (x : Int)) := by simp [us, hx]
      have c1 := (blkN h1 m).cell hx'
      have c2 := (blkN h2 m).cell hx'
      clear hx hx'
      have hkl : (k : Int) < xs.length := by omega
      generalize hW : w.drewN m = W at *
      have HW := Lib.hid hW
      clear hW
      go_wp2_with fail
      go_quiet (fail)
      go_wp2
      go_roundw
      case rel => exact ⟨k + 1, by omega, by go_num, m + nq, by rw [← HW.out, World.drewN_drewN]⟩
      case measure => simp [intOf]; omega
    · obtain rfl : k = xs.length := by omega
      go_wp2
      go_ret
      exact ⟨rfl, belN (Below.refl _ _) _⟩

theorem ex_txt : prT exP = [102, 108, 97, 103, 32, 99, 111, 117, 110, 116, 55, 32, 112, 111, 105, 110, 116] := by decide +kernel
theorem ex_us : exW 3 = us [11, exX] := rfl

set_option maxRecDepth 100000 in
set_option maxHeartbeats 4000000 in
theorem awake_any (w : World) (hK : KD w) : Calls Tryd.prog 9 #[] w (Ret (.bool true) w) := by
  have q1 := eq33_same 0 0
  have q2 := eq33_same 0 1
  have q3 := eq33_same 1 0
  have Hq := Lib.hid (And.intro q1 (And.intro q2 q3))
  clear q1 q2 q3
  go_enter Tryd.func9, Tryd.ntmps9
  go_wp2_with fail
  have hN := Blk.new w #[.int .i64 0, .int .i64 1, .int .i64 1, .int .i64 7, .int .i64 3, .int .i64 64] 47
  have hB := (Below.refl w.heap.size w).alloc (Nat.le_refl _) (.cells #[.int .i64 0, .int .i64 1, .int .i64 1, .int .i64 7, .int .i64 3, .int .i64 64] 47)
  have hP0 : Prs (w.alloc (.cells #[.int .i64 0, .int .i64 1, .int .i64 1, .int .i64 7, .int .i64 3, .int .i64 64] 47)).heap.size (w.alloc (.cells #[.int .i64 0, .int .i64 1, .int .i64 1, .int .i64 7, .int .i64 3, .int .i64 64] 47)) (some ⟨w.heap.size, 0, none⟩) exP := Prs.of_blk hN
  have hK0 := hK.next hB
  clear hN hK
  generalize w.alloc (.cells #[.int .i64 0, .int .i64 1, .int .i64 1, .int .i64 7, .int .i64 3, .int .i64 64] 47) = w0 at *
  refine (places_any (some ⟨w.heap.size, 0, none⟩) 3 3 exP w0 rfl hP0 hK0).mono ?_
  rintro e w1 ⟨a1, c1, rfl, hb1, hA⟩
  obtain ⟨e1, e2, e3⟩ := ex_places
  rw [e2] at hA
  rw [e1, e2, e3, show exA.length = 3 from rfl]
  have hP1 := hP0.next hb1
  have hK1 := hK0.next hb1
  have hB1 := hB.trans (hb1.mono hB.size)
  clear e1 e2 e3 hP0 hK0 hB hb1
  go_wp2_with fail
  have hV := Blk.new w1 #[.int .i64 1, .complex .f64 0 0, .int .i64 5, .complex .f64 0 0, .int .i64 0, .complex .f64 4613937818241073152 13835058055282163712] 43
  have hB2 := (Below.refl w1.heap.size w1).alloc (Nat.le_refl _) (.cells #[.int .i64 1, .complex .f64 0 0, .int .i64 5, .complex .f64 0 0, .int .i64 0, .complex .f64 4613937818241073152 13835058055282163712] 43)
  generalize w1.alloc (.cells #[.int .i64 1, .complex .f64 0 0, .int .i64 5, .complex .f64 0 0, .int .i64 0, .complex .f64 4613937818241073152 13835058055282163712] 43) = w2 at *
  have hP2 := hP1.next hB2
  have hK2 := hK1.next hB2
  have hA2 := hA.next hB2
  have hBw := hB1.trans (hB2.mono hB1.size)
  clear hP1 hK1 hA hB1 hB2
  generalize w1.heap.size = vb at *
  refine (encode_ex (some ⟨w.heap.size, 0, none⟩) 3 vb 3 w2 hP2 hV hK2).mono ?_
  rintro e w3 ⟨g, c3, rfl, hb3, hG⟩
  have hP3 := hP2.next hb3
  have hK3 := hK2.next hb3
  have hA3 := hA2.next hb3
  have hBw3 := hBw.trans (hb3.mono hBw.size)
  clear hP2 hK2 hA2 hBw hV hb3
  go_wp2_with fail
  refine (print_any (some ⟨w.heap.size, 0, none⟩) 3 3 exP w3 rfl hP3 hK3).mono ?_
  rintro e w4 ⟨rfl, hb4⟩
  rw [ex_places.1, ex_txt]
  have hA4 := hA3.next hb4
  have hG4 := hG.low hb4
  have hBw4 := hBw3.trans (hb4.mono hBw3.size)
  clear hP3 hK3 hA3 hG hBw3 hb4
  obtain ⟨ab, ao, rfl, hal, x0, x1⟩ := hA4 0 _ rfl
  obtain ⟨ab', ao', ha, _, y0, y1⟩ := hA4 1 _ rfl
  cases ha
  obtain ⟨ab', ao', ha, _, z0', z1'⟩ := hA4 2 _ rfl
  cases ha
  simp only [Nat.zero_mul, Nat.one_mul, Nat.add_zero, Nat.reduceMul] at x0 x1 y0 y1 z0' z1'
  have HG := Lib.hid (And.intro hG4 hBw4)
  clear hA4 hG4 hBw4
  obtain ⟨q1, q2, q3⟩ := Hq.out
  go_wp2_with fail
  clear q1 q2 q3 Hq
  have hG5 := HG.out.1.alloc (.cells #[.int .u64 11, .int .u64 18446744065119617027] 61)
  have hN5 := Blk.new w4 #[.int .u64 11, .int .u64 18446744065119617027] 61
  have hB5 := HG.out.2.alloc HG.out.2.size (.cells #[.int .u64 11, .int .u64 18446744065119617027] 61)
  refine (words_eq g w4.heap.size c3 2 [11, exX] _ hG5 hN5 (by simp)).mono ?_
  rintro e w5 ⟨rfl, hb5⟩
  have hB6 := hB5.trans (hb5.mono hB5.size)
  clear hG5 hN5 hB5 hb5 HG x0 x1 y0 y1 z0' z1'
  go_wp2
  go_ret
  exact ⟨congrArg (fun b => Ending.returned (.bool b)) (by rw [str_toList]; rfl), hB6⟩
end Go.Proofs.YtenbbnmhgpclkaaDoor
