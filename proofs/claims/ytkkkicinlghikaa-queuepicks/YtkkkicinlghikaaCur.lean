/- Cursors: the contracts of the calls of one, in numbers; two of them compared. -/
import Derived.Test.YtkkkicinlghikaaMem2
import Derived.Test.YtkkkicinlghikaaChecked
import Derived.BigQuiet
import Derived.Deep.RegionHeld3
import Derived.Laws.StructEq
namespace Go.Proofs.Ytkkkicinlghikaa
open Go.RowKit

/-- A cursor's value. -/
abbrev cu (n c g l : Int) : Value := .agg #[.int .u64 n, .int .i64 c, .int .u64 g, .int .u64 l]
abbrev cuL (n c g l : Int) : List Value := [.int .u64 n, .int .i64 c, .int .u64 g, .int .u64 l]
abbrev cuO (n c g l : Int) : Obj := .cells #[.int .u64 n, .int .i64 c, .int .u64 g, .int .u64 l] 27
/-- Two cursors are the same. -/
def same4 (n c g l n' c' g' l' : Int) : Bool := n == n' && (c == c' && (g == g' && l == l'))
theorem same4_iff {n c g l n' c' g' l' : Int} : same4 n c g l n' c' g' l' = true ↔ n = n' ∧ c = c' ∧ g = g' ∧ l = l' := by
  simp [same4]
theorem same4_self (n c g l : Int) : same4 n c g l n c g l = true := by simp [same4]
theorem pt0 (a b c d : Value) (w : World) : (part 22 #[a, b, c, d] 0).run Try.prog w = .ok a w := by kernel_rfl
theorem pt1 (a b c d : Value) (w : World) : (part 3 #[a, b, c, d] 1).run Try.prog w = .ok b w := by kernel_rfl
theorem pt2 (a b c d : Value) (w : World) : (part 22 #[a, b, c, d] 2).run Try.prog w = .ok c w := by kernel_rfl
theorem pt3 (a b c d : Value) (w : World) : (part 22 #[a, b, c, d] 3).run Try.prog w = .ok d w := by kernel_rfl
theorem equal27 (n c g l n' c' g' l' : Int) (w : World) : (Op.equalIn 10000 27 (.agg #[.int .u64 n, .int .i64 c, .int .u64 g, .int .u64 l]) (.agg #[.int .u64 n', .int .i64 c', .int .u64 g', .int .u64 l'])).run Try.prog w = .ok (same4 n c g l n' c' g' l') w := by
  have ht : Try.prog.underlying 27 = some (.struct (Try.prog.fieldsOf 27)) := by kernel_rfl
  rw [run_equalIn_struct w 9999 27 _ _ ht (by kernel_rfl)]
  simp only [Program.fieldsOf, Try.underlying27, Op.eqFields]
  simp only [ne_eq, String.reduceEq, not_false_eq_true, if_true, Sem.run_bind, pt0, pt1, pt2, pt3, Result.andThen_ok, run_equalIn_int w 9998 22 .u64 .u64 _ _ Try.underlying22, run_equalIn_int w 9998 3 .i64 .i64 _ _ Try.underlying3, Sem.run_ite, Sem.run_pure]
  by_cases h1 : n = n' <;> by_cases h2 : c = c' <;> by_cases h3 : g = g' <;> by_cases h4 : l = l' <;> simp [same4, h1, h2, h3, h4]
theorem guard27 : Try.prog.eqGuardType Try.prog.depth 27 = false := by kernel_rfl
theorem eql27 (n c g l n' c' g' l' : Int) (w : World) : (binOp .eql 27 (.agg #[.int .u64 n, .int .i64 c, .int .u64 g, .int .u64 l]) (.agg #[.int .u64 n', .int .i64 c', .int .u64 g', .int .u64 l'])).run Try.prog w = .ok (.bool (same4 n c g l n' c' g' l')) w := by
  rw [run_eql_struct, equal27]
  rfl
theorem neq27 (n c g l n' c' g' l' : Int) (w : World) : (binOp .neq 27 (.agg #[.int .u64 n, .int .i64 c, .int .u64 g, .int .u64 l]) (.agg #[.int .u64 n', .int .i64 c', .int .u64 g', .int .u64 l'])).run Try.prog w = .ok (.bool (!same4 n c g l n' c' g' l')) w := by
  rw [run_neq_struct, equal27]
  rfl

/-- Room that may be. -/
def mh (r : Int) : Bool := decide (1 ≤ r ∧ r < 16)
theorem mh_t {r : Int} (h1 : 1 ≤ r) (h2 : r < 16) : mh r = true := decide_eq_true ⟨h1, h2⟩
theorem mh_f {r : Int} (h : ¬ (1 ≤ r ∧ r < 16)) : mh r = false := decide_eq_false h
/-- A generation. -/
def Gen (x : Int) : Prop := 0 ≤ x ∧ x ≤ 9223372036854775807
/-- A cursor that is right. -/
def Rgt (n c : Int) : Prop := 0 ≤ n ∧ n ≤ 9223372036854775808 ∧ 1 ≤ c ∧ c < 16
/-- Whether a cursor is right. -/
def rt (n c : Int) : Bool := decide (1 ≤ c ∧ c < 16 ∧ n ≤ 9223372036854775808)
theorem rt_t {n c : Int} (h : Rgt n c) : rt n c = true := decide_eq_true ⟨h.2.2.1, h.2.2.2, h.2.1⟩
theorem rt_f {n c : Int} (hn : 0 ≤ n) (h : ¬ Rgt n c) : rt n c = false := decide_eq_false (fun k => h ⟨hn, k.2.2, k.1, k.2.1⟩)
/-- How many wait. -/
def wt (n x : Int) : Int := if x < n then 0 else x - n + 1
/-- How many are lost, once it is seen. -/
def lo (n c x : Int) : Int := if c < wt n x then wt n x - c else 0
/-- How many are queued. -/
def qd (n c x : Int) : Int := if c < wt n x then c else wt n x
/-- Of 64 bits. -/
def u6 (x : Int) : Int := IntKind.u64.wrap x
theorem u6_mod (x : Int) : u6 x = x % 18446744073709551616 := by
  simp [u6, IntKind.wrap, IntKind.bits, IntKind.signed]
theorem u6_small {x : Int} (h1 : 0 ≤ x) (h2 : x < 18446744073709551616) : u6 x = x := by
  rw [u6_mod]
  omega
theorem u6_w64 (x : Int) : W64 (u6 x) := by
  rw [u6_mod]
  unfold W64
  omega

theorem none_any (x : Int) (w : World) : Calls Try.prog 24 #[.int .u64 x] w (Pur (.bool (decide (9223372036854775807 < x))) w) := by
  go_enter Try.func24, Try.ntmps24
  go_wp2
  go_ret
  exact ⟨rfl, rfl⟩
theorem mh_any (r : Int) (w : World) : Calls Try.prog 25 #[.int .i64 r] w (Pur (.bool (mh r)) w) := by
  by_cases h : 1 ≤ r
  · by_cases h2 : r < 16
    · rw [mh_t h h2]
      go_enter Try.func25, Try.ntmps25
      go_wp2
      go_ret
      exact ⟨by simp, rfl⟩
    · rw [mh_f (by omega)]
      go_enter Try.func25, Try.ntmps25
      go_wp2
      go_ret
      exact ⟨by simp, rfl⟩
  · rw [mh_f (by omega)]
    go_enter Try.func25, Try.ntmps25
    go_wp2
    go_ret
    exact ⟨rfl, rfl⟩
/-- A cursor in a new block, behind a world. -/
theorem cuN (w : World) (n c g l : Int) : Blk (w.alloc (cuO n c g l)) w.heap.size (cuL n c g l) ∧ Below w.heap.size w (w.alloc (cuO n c g l)) :=
  ⟨Blk.new w _ 27, (Below.refl w.heap.size w).alloc (Nat.le_refl _) _⟩
theorem right_any (n c g l : Int) (w : World) : Calls Try.prog 27 #[cu n c g l] w (Ret (.bool (rt n c)) w) := by
  have hN := cuN w n c g l
  have c0 := hN.1.cell (i := 0) rfl
  have c1 := hN.1.cell (i := 1) rfl
  have HN := Lib.hid hN.2
  clear hN
  by_cases h : 1 ≤ c ∧ c < 16
  · have hm := Lib.hid (fun w => mh_t h.1 h.2 ▸ mh_any c w)
    by_cases h2 : n ≤ 9223372036854775808
    · rw [show rt n c = true from decide_eq_true ⟨h.1, h.2, h2⟩]
      go_enter Try.func27, Try.ntmps27
      go_wp2_with fail
      refine (hm.out _).mono ?_
      rintro e w' ⟨rfl, rfl⟩
      go_wp2
      go_ret
      exact ⟨by simp, HN.out⟩
    · rw [show rt n c = false from decide_eq_false (fun k => h2 k.2.2)]
      go_enter Try.func27, Try.ntmps27
      go_wp2_with fail
      refine (hm.out _).mono ?_
      rintro e w' ⟨rfl, rfl⟩
      go_wp2
      go_ret
      exact ⟨by simp; omega, HN.out⟩
  · have hm := Lib.hid (fun w => mh_f h ▸ mh_any c w)
    rw [show rt n c = false from decide_eq_false (fun k => h ⟨k.1, k.2.1⟩)]
    go_enter Try.func27, Try.ntmps27
    go_wp2_with fail
    refine (hm.out _).mono ?_
    rintro e w' ⟨rfl, rfl⟩
    go_wp2
    go_ret
    exact ⟨rfl, HN.out⟩
theorem waiting_any (n c g l x : Int) (hn : 0 ≤ n) (hx : Gen x) (w : World) : Calls Try.prog 26 #[cu n c g l, .int .u64 x] w (Ret (.int .u64 (wt n x)) w) := by
  have hN := cuN w n c g l
  have c0 := hN.1.cell (i := 0) rfl
  have HN := Lib.hid hN.2
  obtain ⟨hx0, hx1⟩ := hx
  clear hN
  by_cases h : x < n
  · rw [show wt n x = 0 from if_pos h]
    go_enter Try.func26, Try.ntmps26
    go_wp2
    go_ret
    exact ⟨rfl, HN.out⟩
  · rw [show wt n x = x - n + 1 from if_neg h]
    go_enter Try.func26, Try.ntmps26
    go_wp2
    go_ret
    exact ⟨rfl, HN.out⟩
end Go.Proofs.Ytkkkicinlghikaa
