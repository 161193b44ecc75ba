/- codec.Encode at the chapter's example: its parts' contracts. -/
import Derived.Test.YtenbbnmhgpclkaaDoorPlain
import Derived.Test.YtenbbnmhgpclkaaDoorField
import Derived.Laws.Externs
namespace Go.Proofs.YtenbbnmhgpclkaaDoor
open Go.RowKit

theorem arch_any (args : Array Value) (w : World) : (callFunc 79 args).run Tryd.prog w = ((Extern.MathFloor.toIntegral "math.archTrunc" .zero args).run Tryd.prog w).andThen fun v w' => .ok (.value v) w' :=
  run_callFunc_extern Tryd.func79 (by kernel_rfl) (by kernel_rfl) (by kernel_rfl) (e := Extern.MathFloor.toIntegral "math.archTrunc" .zero) (by kernel_rfl) args w
theorem arch_ex (x : Nat) (w : World) (hx : x = 4613937818241073152 ∨ x = 13835058055282163712) : (callFunc 79 #[.float .f64 x]).run Tryd.prog w = .ok (.value (.float .f64 x)) w := by
  rw [arch_any]
  rcases hx with rfl | rfl <;> rfl
set_option maxHeartbeats 400000 in
theorem trunc_ex (x : Nat) (w : World) (hx : x = 4613937818241073152 ∨ x = 13835058055282163712) : Calls Tryd.prog 71 #[.float .f64 x] w (fun e w' => e = .returned (.float .f64 x) ∧ w = w') := by
  have ha := arch_ex x w hx
  clear hx
  go_enter Tryd.func71, Tryd.ntmps71
  go_wp2
  go_ret
  exact ⟨rfl, rfl⟩

theorem ord_ex (x : Nat) (hx : x = 4613937818241073152 ∨ x = 13835058055282163712) : FloatKind.f64.format.order x 13970166044103278592 = some .gt ∧ FloatKind.f64.format.order x 4746794007244308480 = some .lt ∧ FloatKind.f64.format.order x x = some .eq := by
  rcases hx with rfl | rfl
  · exact ⟨by kernel_rfl, by kernel_rfl, by kernel_rfl⟩
  · exact ⟨by kernel_rfl, by kernel_rfl, by kernel_rfl⟩
theorem conv_ex (x : Nat) (y : Int) (hx : x = 4613937818241073152 ∧ y = 3 ∨ x = 13835058055282163712 ∧ y = -2) (w : World) : Sem.run Tryd.prog (convert 74 2 (.float .f64 x)) w = .ok (.int .i64 y) w := by
  rcases hx with ⟨rfl, rfl⟩ | ⟨rfl, rfl⟩
  · kernel_rfl
  · kernel_rfl
set_option maxRecDepth 100000 in
set_option maxHeartbeats 400000 in
theorem putW_ex (a x0 x : Nat) (y : Int) (w : World) (ha : a = 0 ∨ a = 32) (hx0 : W64 x0) (hx : x = 4613937818241073152 ∧ y = 3 ∨ x = 13835058055282163712 ∧ y = -2) :
    Calls Tryd.prog 60 #[.int .u64 x0, fld a 32, .float .f64 x] w (Ret (.tuple #[.int .u64 (pt a 32 x0 (lo 32 y)), .int .i64 0]) w) := by
  have hx' : x = 4613937818241073152 ∨ x = 13835058055282163712 := by omega
  have hy : -(2 ^ (32 - 1) : Nat) ≤ y ∧ y < (2 ^ (32 - 1) : Nat) := by
    rcases hx with ⟨_, rfl⟩ | ⟨_, rfl⟩ <;> decide
  have ha2 : a + 32 ≤ 64 := by omega
  have Hy := Lib.hid (And.intro hy (And.intro hx hx'))
  obtain ⟨o1, o2, o3⟩ := ord_ex x hx'
  have hcv := conv_ex x y hx
  clear hy hx hx' ha
  go_enter Tryd.func60, Tryd.ntmps60
  go_wp2_with fail
  refine (trunc_ex x _ Hy.out.2.2).mono ?_
  rintro e w' ⟨rfl, rfl⟩
  go_wp2_with fail
  refine (putS_in a 32 x0 y _ (by omega) ha2 hx0 Hy.out.1).mono ?_
  rintro e w2 ⟨rfl, hb⟩
  have hb0 := ((Below.refl w.heap.size w).alloc (Nat.le_refl _) (.cells #[.int .i64 (a : Int), .int .i64 32] 68))
  have hb2 := hb0.trans (hb.mono hb0.size)
  clear hb0 hb
  go_wp2
  go_ret2
  exact ⟨rfl, hb2⟩

theorem halves_any (w : World) : Calls Tryd.prog 37 #[] w (Ret (.tuple #[fld 0 32, fld 32 32]) w) := by
  go_enter Tryd.func37, Tryd.ntmps37
  go_wp2
  exact bodyPost_ret (v := .tuple #[fld 0 32, fld 32 32]) (by simp [results, Tryd.results37, go_sem]) rfl ⟨rfl, ((Below.refl _ _).alloc (Nat.le_refl _) _).alloc (by simp) _⟩
theorem field_any (k n x y : Int) (w : World) : Calls Tryd.prog 23 #[fld k n, fld x y] w (Ret (fld y n) w) := by
  go_enter Tryd.func23, Tryd.ntmps23
  go_wp2
  exact bodyPost_ret (v := fld y n) (by simp [results, Tryd.results23, go_sem]) rfl ⟨rfl, (((Below.refl _ _).alloc (Nat.le_refl _) _).alloc (by simp) _).alloc (by simp; omega) _⟩
theorem pt_ex : pt 32 32 (pt 0 32 0 (lo 32 3)) (lo 32 (-2)) = 18446744065119617027 ∧ W64 (pt 0 32 0 (lo 32 3)) := by decide +kernel
def zex : Value := .complex .f64 4613937818241073152 13835058055282163712
set_option maxRecDepth 100000 in
set_option maxHeartbeats 400000 in
theorem pointWord_ex (w : World) : Calls Tryd.prog 53 #[zex] w (Ret (.tuple #[.int .u64 18446744065119617027, .int .i64 0]) w) := by
  obtain ⟨e1, e2⟩ := pt_ex
  rw [show (18446744065119617027 : Int) = ((pt 32 32 (pt 0 32 0 (lo 32 3)) (lo 32 (-2)) : Nat) : Int) by rw [e1]; rfl]
  have He := Lib.hid e2
  clear e1 e2
  unfold zex
  go_enter Tryd.func53, Tryd.ntmps53
  go_wp2_with fail
  refine (halves_any w).mono ?_
  rintro e w1 ⟨rfl, hb1⟩
  go_wp2_with fail
  have hB := hb1.alloc hb1.size (.cells #[.int .i64 0, .int .i64 32] 68)
  have hB2 := hB.alloc hB.size (.cells #[.int .i64 32, .int .i64 32] 68)
  have hK := Blk.new (w1.alloc (.cells #[.int .i64 0, .int .i64 32] 68)) #[.int .i64 32, .int .i64 32] 68
  simp only [World.size_alloc] at hK
  have HB := Lib.hid (And.intro hB2 hK)
  clear hB hB2 hK hb1
  generalize (w1.alloc (.cells #[.int .i64 0, .int .i64 32] 68)).alloc (.cells #[.int .i64 32, .int .i64 32] 68) = w2 at *
  generalize w1.heap.size + 1 = b at *
  refine (putW_ex 0 0 4613937818241073152 3 w2 (Or.inl rfl) (by decide) (Or.inl ⟨rfl, rfl⟩)).mono ?_
  rintro e w3 ⟨rfl, hb3⟩
  have hk3 := HB.out.2.low hb3
  have c0 := hk3.cell (i := 0) rfl
  have c1 := hk3.cell (i := 1) rfl
  have hB3 := HB.out.1.trans (hb3.mono HB.out.1.size)
  clear HB hb3 hk3
  generalize pt 0 32 0 (lo 32 3) = x0 at *
  go_wp2_with fail
  refine (putW_ex 32 x0 13835058055282163712 (-2) w3 (Or.inr rfl) He.out (Or.inr ⟨rfl, rfl⟩)).mono ?_
  rintro e w4 ⟨rfl, hb4⟩
  have hB4 := hB3.trans (hb4.mono hB3.size)
  go_wp2
  go_ret2
  exact ⟨rfl, hB4⟩

/-- put at a Flag or a Count, and at the example's Point. -/
def val (n : Int) (z : Value) : Value := .agg #[.int .i64 n, z]
def z0 : Value := .complex .f64 0 0
theorem c0_eq : FloatKind.f64.format.order 0 0 = some .eq := by kernel_rfl
set_option maxRecDepth 100000 in
set_option maxHeartbeats 400000 in
theorem put_cnt (x k a n y : Nat) (w : World) (hk : k < 2) (h1 : 1 ≤ n) (h2 : a + n ≤ 64) (hx : W64 x) (hy : y ≤ mx n) (hy2 : y < 9223372036854775808) :
    Calls Tryd.prog 36 #[.int .u64 x, .int .i64 k, fld a n, val y z0] w (Ret (.tuple #[.int .u64 (pt a n x y), .int .i64 0]) w) := by
  have hk3 : ((k : Int) == 3) = false := by rw [beq_eq_false_iff_ne]; omega
  have hk3' : ((k : Int) != 3) = true := by simp; omega
  have hk2 : ((k : Int) == 2) = false := by rw [beq_eq_false_iff_ne]; omega
  have c0 := c0_eq
  unfold val z0
  go_enter Tryd.func36, Tryd.ntmps36
  go_wp2_with fail
  refine (put_in a n x y _ h1 h2 hx hy).mono ?_
  rintro e w2 ⟨rfl, hb⟩
  have hb0 := ((Below.refl w.heap.size w).alloc (Nat.le_refl _) (.cells #[.int .i64 (a : Int), .int .i64 n] 68)).alloc (by simp) (.cells #[.int .i64 (y : Int), .complex .f64 0 0] 43)
  have hb2 := hb0.trans (hb.mono hb0.size)
  clear hb0 hb
  go_wp2
  go_ret2
  exact ⟨rfl, hb2⟩
set_option maxRecDepth 100000 in
set_option maxHeartbeats 400000 in
theorem put_pnt (x : Nat) (f : Value) (a n : Int) (w : World) (hf : f = fld a n) :
    Calls Tryd.prog 36 #[.int .u64 x, .int .i64 3, f, val 0 zex] w (Ret (.tuple #[.int .u64 18446744065119617027, .int .i64 0]) w) := by
  subst hf
  unfold val zex
  go_enter Tryd.func36, Tryd.ntmps36
  go_wp2_with fail
  have hp := pointWord_ex ((w.alloc (.cells #[.int .i64 a, .int .i64 n] 68)).alloc (.cells #[.int .i64 0, zex] 43))
  unfold zex at hp
  refine hp.mono ?_
  rintro e w2 ⟨rfl, hb⟩
  have hb0 := ((Below.refl w.heap.size w).alloc (Nat.le_refl _) (.cells #[.int .i64 a, .int .i64 n] 68)).alloc (by simp) (.cells #[.int .i64 0, .complex .f64 4613937818241073152 13835058055282163712] 43)
  have hb2 := hb0.trans (hb.mono hb0.size)
  clear hb0 hb
  generalize (18446744065119617027 : Int) = X at *
  go_wp2
  go_ret2
  exact ⟨rfl, hb2⟩
end Go.Proofs.YtenbbnmhgpclkaaDoor
