/- The law BitsApart returns true, whatever it is given. No condition. -/
import Derived.Test.YtknhbpifkpcpnaaAny
import Derived.Test.YtknhbpifkpcpnaaArgs
import Derived.ProofKit
import Derived.OpenShut
import Derived.ChangeOld
namespace Go.Proofs.Ytknhbpifkpcpnaa.bitsApart
open Go.ChangeShapes Go.WideShapes Go.ChangeAt Go.RowKit Go.Deep

theorem own : ownKnob Try.prog.godebug = none := by kernel_rfl
theorem laidOut : laidOutB Try.prog = true := by kernel_rfl

theorem wsum {a n : Nat} (h : a + n ≤ 64) : wrap64 ((a : Int) + n) = (a : Int) + n := by unfold wrap64; omega
/-- Two fields and two numbers in two boxes. -/
structure Ap (w : World) (b b2 : Nat) (a n a' n' : Int) (x x' : Nat) (w' : World) : Prop where
  blk : Blk w' b [.int .i64 a, .int .i64 n, .int .i64 a', .int .i64 n']
  blk2 : Blk w' b2 [.int .u64 (x : Int), .int .u64 (x' : Int)]
  bel : Below w.heap.size w w'
theorem Ap.next {w w' w'' : World} {b b2 : Nat} {a n a' n' : Int} {x x' : Nat} (h : Ap w b b2 a n a' n' x x' w') (u : Below w'.heap.size w' w'') : Ap w b b2 a n a' n' x x' w'' :=
  ⟨h.blk.low u, h.blk2.low u, h.bel.trans (u.mono h.bel.size)⟩
theorem Ap.drew {w w' : World} {b b2 : Nat} {a n a' n' : Int} {x x' : Nat} (h : Ap w b b2 a n a' n' x x' w') : Ap w b b2 a n a' n' x x' w'.drew := ⟨h.blk.drew, h.blk2.drew, h.bel.drew⟩
theorem Ap.cells {w w' : World} {b b2 : Nat} {a n a' n' : Int} {x x' : Nat} (h : Ap w b b2 a n a' n' x x' w') :
    w'.cell? ⟨b, 0, none⟩ = some (.int .i64 a) ∧ w'.cell? ⟨b, 1, none⟩ = some (.int .i64 n) ∧ w'.cell? ⟨b, 2, none⟩ = some (.int .i64 a') ∧ w'.cell? ⟨b, 3, none⟩ = some (.int .i64 n') ∧
    w'.cell? ⟨b2, 0, none⟩ = some (.int .u64 (x : Int)) ∧ w'.cell? ⟨b2, 1, none⟩ = some (.int .u64 (x' : Int)) :=
  ⟨h.blk.cell (i := 0) rfl, h.blk.cell (i := 1) rfl, h.blk.cell (i := 2) rfl, h.blk.cell (i := 3) rfl, h.blk2.cell (i := 0) rfl, h.blk2.cell (i := 1) rfl⟩

theorem fld2_of {H : Type} {enc : TypeId × Value → H} {W : World} {base b0 : Nat} {r : Reach} {spare : Nat → Bool} {held : Bool} {v : Value} {d : DataW H} {p : List MemPlace}
    (hv : Value.okWide Try.prog W r b0 45 v) (h : DataW.Trod enc Try.prog W base spare held 45 v d p) :
    ∃ a n a' n' : Int, v = .agg #[.int .i64 a, .int .i64 n, .int .i64 a', .int .i64 n'] := by
  simp only [Value.okWide, Try.underlying45] at hv
  obtain ⟨cs, rfl, hsz, _⟩ := hv
  obtain ⟨fuel, hf⟩ := h
  rw [show Try.prog.cellsOf 45 = 4 from by kernel_rfl] at hsz
  obtain ⟨xs, m, _, _, _, hxl, hg⟩ := DataW.trod_array Try.underlying45 hf
  rw [show Try.prog.cellsOf 23 = 2 from by kernel_rfl] at hg
  obtain ⟨l⟩ := cs
  match l, hsz with
  | [c0, c1, c2, c3], _ =>
    have g0 := hg 0 (by omega)
    have g1 := hg 1 (by omega)
    rw [List.getElem?_eq_getElem (by omega)] at g0 g1
    have k0 : DataW.trod enc Try.prog W base spare held m 23 [c0, c1] = some (xs[0]'(by omega)) := g0
    have k1 : DataW.trod enc Try.prog W base spare held m 23 [c2, c3] = some (xs[1]'(by omega)) := g1
    obtain ⟨_, f00⟩ := row_fields Try.underlying23 (by kernel_rfl) k0 (j := 0) rfl
    obtain ⟨_, f01⟩ := row_fields Try.underlying23 (by kernel_rfl) k0 (j := 1) rfl
    obtain ⟨_, f10⟩ := row_fields Try.underlying23 (by kernel_rfl) k1 (j := 0) rfl
    obtain ⟨_, f11⟩ := row_fields Try.underlying23 (by kernel_rfl) k1 (j := 1) rfl
    obtain ⟨_, _, e0⟩ := f00 c0 rfl
    obtain ⟨_, _, e1⟩ := f01 c1 rfl
    obtain ⟨_, _, e2⟩ := f10 c2 rfl
    obtain ⟨_, _, e3⟩ := f11 c3 rfl
    obtain ⟨x0, e0, _, _⟩ := DataW.trod_int Try.underlying3 e0
    obtain ⟨x1, e1, _, _⟩ := DataW.trod_int Try.underlying3 e1
    obtain ⟨x2, e2, _, _⟩ := DataW.trod_int Try.underlying3 e2
    obtain ⟨x3, e3, _, _⟩ := DataW.trod_int Try.underlying3 e3
    simp only [List.cons.injEq, and_true] at e0 e1 e2 e3
    exact ⟨x0, x1, x2, x3, by rw [e0, e1, e2, e3]⟩
theorem u2_of {H : Type} {enc : TypeId × Value → H} {W : World} {base b0 : Nat} {r : Reach} {spare : Nat → Bool} {held : Bool} {v : Value} {d : DataW H} {p : List MemPlace}
    (hv : Value.okWide Try.prog W r b0 46 v) (h : DataW.Trod enc Try.prog W base spare held 46 v d p) :
    ∃ x x' : Nat, v = .agg #[.int .u64 (x : Int), .int .u64 (x' : Int)] ∧ W64 x ∧ W64 x' := by
  simp only [Value.okWide, Try.underlying46] at hv
  obtain ⟨cs, rfl, hsz, _⟩ := hv
  obtain ⟨fuel, hf⟩ := h
  rw [show Try.prog.cellsOf 46 = 2 from by kernel_rfl] at hsz
  obtain ⟨xs, m, _, _, _, hxl, hg⟩ := DataW.trod_array Try.underlying46 hf
  rw [show Try.prog.cellsOf 24 = 1 from by kernel_rfl] at hg
  obtain ⟨l⟩ := cs
  match l, hsz with
  | [c0, c1], _ =>
    have g0 := hg 0 (by omega)
    have g1 := hg 1 (by omega)
    rw [List.getElem?_eq_getElem (by omega)] at g0 g1
    obtain ⟨x0, e0, _, w0⟩ := DataW.trod_int Try.underlying24 (by simpa [Value.cells] using g0)
    obtain ⟨x1, e1, _, w1⟩ := DataW.trod_int Try.underlying24 (by simpa [Value.cells] using g1)
    simp only [List.cons.injEq, and_true] at e0 e1
    obtain ⟨y0, rfl, h0⟩ := u64_nat w0
    obtain ⟨y1, rfl, h1⟩ := u64_nat w1
    exact ⟨y0, y1, by rw [e0, e1], h0, h1⟩

/-- What a Put that is no error says. -/
theorem putR_ok {a n : Int} {x y : Nat} (h : (putR a n x y).2 = 0) : ∃ p q : Nat, a = p ∧ n = q ∧ 1 ≤ q ∧ p + q ≤ 64 ∧ y ≤ mx q ∧ putR a n x y = (pt p q x y, 0) := by
  unfold putR at h ⊢
  split at h
  · rename_i hc
    obtain ⟨p, q, rfl, rfl, h1, h2⟩ := may_split hc.1
    refine ⟨p, q, rfl, rfl, h1, h2, by simpa using hc.2, ?_⟩
    rw [if_pos hc]
    simp
  · exact absurd h (by decide)

set_option maxRecDepth 100000 in
set_option maxHeartbeats 4000000 in
theorem walk_no (a n a' n' : Int) (w0 x x' : Nat) (w : World) (hw : W64 w0) (h : ¬ ((putR a n w0 x).2 = 0 ∧ (putR a' n' w0 x').2 = 0)) : Calls Try.prog 7 #[.agg #[.int .i64 a, .int .i64 n, .int .i64 a', .int .i64 n'], .int .u64 w0, .agg #[.int .u64 (x : Int), .int .u64 (x' : Int)]] w (Ret (.bool true) w) := by
  go_enter Try.func7, Try.ntmps7
  go_wp2_with fail
  have hA : Ap w w.heap.size (w.heap.size + 1) a n a' n' x x' ((w.alloc (.cells #[.int .i64 a, .int .i64 n, .int .i64 a', .int .i64 n'] 45)).alloc (.cells #[.int .u64 (x : Int), .int .u64 (x' : Int)] 46)) :=
    ⟨(Blk.new w _ 45).alloc _, by have := Blk.new (w.alloc (.cells #[.int .i64 a, .int .i64 n, .int .i64 a', .int .i64 n'] 45)) #[.int .u64 (x : Int), .int .u64 (x' : Int)] 46; rw [World.size_alloc] at this; exact this, ((Below.refl _ _).alloc (Nat.le_refl _) _).alloc (by simp) _⟩
  generalize (w.alloc (.cells #[.int .i64 a, .int .i64 n, .int .i64 a', .int .i64 n'] 45)).alloc (.cells #[.int .u64 (x : Int), .int .u64 (x' : Int)] 46) = w1 at *
  have ⟨c0, c1, c2, c3, d0, d1⟩ := hA.cells
  refine (put_any a n w0 x w1 hw).mono ?_
  rintro e w2 ⟨rfl, hb⟩
  have hAw2 := hA.next hb
  clear hb hA c0 c1 c2 c3 d0 d1
  have ⟨c0, c1, c2, c3, d0, d1⟩ := hAw2.cells
  go_wp2_with fail
  refine (put_any a' n' w0 x' w2 hw).mono ?_
  rintro e w3 ⟨rfl, hb⟩
  have hAw3 := hAw2.next hb
  clear hb hAw2 c0 c1 c2 c3 d0 d1
  have ⟨c0, c1, c2, c3, d0, d1⟩ := hAw3.cells
  generalize putR a n w0 x = r at *
  generalize putR a' n' w0 x' = r' at *
  obtain ⟨r1, r2⟩ := r
  obtain ⟨r1', r2'⟩ := r'
  by_cases h2 : r2 = 0
  · have h2' : ¬ r2' = 0 := fun e => h ⟨h2, e⟩
    subst h2
    clear h
    have hd : (r2' != 0) = true := by simp [h2']
    go_wp2_with fail
    refine (awake_any w3).mono ?_
    rintro e w4 ⟨rfl, hb⟩
    have hA4 := hAw3.next hb
    go_wp2
    go_ret
    exact ⟨rfl, hA4.bel⟩
  · have hd : (r2 != 0) = true := by simp [h2]
    clear h
    go_wp2_with fail
    refine (awake_any w3).mono ?_
    rintro e w4 ⟨rfl, hb⟩
    have hA4 := hAw3.next hb
    go_wp2
    go_ret
    exact ⟨rfl, hA4.bel⟩

set_option maxRecDepth 100000 in
set_option maxHeartbeats 4000000 in
theorem walk_m1 (a n a' n' w0 x x' : Nat) (w : World) (hw : W64 w0) (h1 : 1 ≤ n) (h2 : a + n ≤ 64) (hx : x ≤ mx n) (h1' : 1 ≤ n') (h2' : a' + n' ≤ 64) (hx' : x' ≤ mx n') (hm1 : a < a') (hm2 : a' < a + n) : Calls Try.prog 7 #[.agg #[.int .i64 (a : Int), .int .i64 (n : Int), .int .i64 (a' : Int), .int .i64 (n' : Int)], .int .u64 w0, .agg #[.int .u64 (x : Int), .int .u64 (x' : Int)]] w (Ret (.bool true) w) := by
  have k1 : (a : Int) < a' := by omega
  have k2 : (a' : Int) < (a : Int) + n := by omega
  clear hm1 hm2
  go_enter Try.func7, Try.ntmps7
  go_wp2_with fail
  have hA : Ap w w.heap.size (w.heap.size + 1) a n a' n' x x' ((w.alloc (.cells #[.int .i64 a, .int .i64 n, .int .i64 a', .int .i64 n'] 45)).alloc (.cells #[.int .u64 (x : Int), .int .u64 (x' : Int)] 46)) :=
    ⟨(Blk.new w _ 45).alloc _, by have := Blk.new (w.alloc (.cells #[.int .i64 a, .int .i64 n, .int .i64 a', .int .i64 n'] 45)) #[.int .u64 (x : Int), .int .u64 (x' : Int)] 46; rw [World.size_alloc] at this; exact this, ((Below.refl _ _).alloc (Nat.le_refl _) _).alloc (by simp) _⟩
  generalize (w.alloc (.cells #[.int .i64 a, .int .i64 n, .int .i64 a', .int .i64 n'] 45)).alloc (.cells #[.int .u64 (x : Int), .int .u64 (x' : Int)] 46) = w1 at *
  have ⟨c0, c1, c2, c3, d0, d1⟩ := hA.cells
  refine (put_in a n w0 x w1 h1 h2 hw hx).mono ?_
  rintro e w2 ⟨rfl, hb⟩
  have hAw2 := hA.next hb
  clear hb hA c0 c1 c2 c3 d0 d1
  have ⟨c0, c1, c2, c3, d0, d1⟩ := hAw2.cells
  go_wp2_with fail
  refine (put_in a' n' w0 x' w2 h1' h2' hw hx').mono ?_
  rintro e w3 ⟨rfl, hb⟩
  have hAw3 := hAw2.next hb
  clear hb hAw2 c0 c1 c2 c3 d0 d1
  have ⟨c0, c1, c2, c3, d0, d1⟩ := hAw3.cells
  generalize pt a n w0 x = y1
  generalize pt a' n' w0 x' = y2
  go_wp2_with fail
  refine (awake_any w3).mono ?_
  rintro e w4 ⟨rfl, hb⟩
  have hAw4 := hAw3.next hb
  clear hb hAw3 c0 c1 c2 c3 d0 d1
  have ⟨c0, c1, c2, c3, d0, d1⟩ := hAw4.cells
  go_wp2
  go_ret
  exact ⟨rfl, hAw4.bel⟩

set_option maxRecDepth 100000 in
set_option maxHeartbeats 4000000 in
theorem walk_m2 (a n a' n' w0 x x' : Nat) (w : World) (hw : W64 w0) (h1 : 1 ≤ n) (h2 : a + n ≤ 64) (hx : x ≤ mx n) (h1' : 1 ≤ n') (h2' : a' + n' ≤ 64) (hx' : x' ≤ mx n') (hm1 : a' ≤ a) (hm2 : a < a' + n') : Calls Try.prog 7 #[.agg #[.int .i64 (a : Int), .int .i64 (n : Int), .int .i64 (a' : Int), .int .i64 (n' : Int)], .int .u64 w0, .agg #[.int .u64 (x : Int), .int .u64 (x' : Int)]] w (Ret (.bool true) w) := by
  have k0 : decide (a < a') = false := decide_eq_false (by omega)
  have k1 : decide (a' ≤ a) = true := decide_eq_true (by omega)
  have k2 : decide ((a : Int) < (a' : Int) + n') = true := decide_eq_true (by omega)
  clear hm1 hm2
  go_enter Try.func7, Try.ntmps7
  go_wp2_with fail
  have hA : Ap w w.heap.size (w.heap.size + 1) a n a' n' x x' ((w.alloc (.cells #[.int .i64 a, .int .i64 n, .int .i64 a', .int .i64 n'] 45)).alloc (.cells #[.int .u64 (x : Int), .int .u64 (x' : Int)] 46)) :=
    ⟨(Blk.new w _ 45).alloc _, by have := Blk.new (w.alloc (.cells #[.int .i64 a, .int .i64 n, .int .i64 a', .int .i64 n'] 45)) #[.int .u64 (x : Int), .int .u64 (x' : Int)] 46; rw [World.size_alloc] at this; exact this, ((Below.refl _ _).alloc (Nat.le_refl _) _).alloc (by simp) _⟩
  generalize (w.alloc (.cells #[.int .i64 a, .int .i64 n, .int .i64 a', .int .i64 n'] 45)).alloc (.cells #[.int .u64 (x : Int), .int .u64 (x' : Int)] 46) = w1 at *
  have ⟨c0, c1, c2, c3, d0, d1⟩ := hA.cells
  refine (put_in a n w0 x w1 h1 h2 hw hx).mono ?_
  rintro e w2 ⟨rfl, hb⟩
  have hAw2 := hA.next hb
  clear hb hA c0 c1 c2 c3 d0 d1
  have ⟨c0, c1, c2, c3, d0, d1⟩ := hAw2.cells
  go_wp2_with fail
  refine (put_in a' n' w0 x' w2 h1' h2' hw hx').mono ?_
  rintro e w3 ⟨rfl, hb⟩
  have hAw3 := hAw2.next hb
  clear hb hAw2 c0 c1 c2 c3 d0 d1
  have ⟨c0, c1, c2, c3, d0, d1⟩ := hAw3.cells
  generalize pt a n w0 x = y1
  generalize pt a' n' w0 x' = y2
  go_wp2_with fail
  refine (awake_any w3).mono ?_
  rintro e w4 ⟨rfl, hb⟩
  have hAw4 := hAw3.next hb
  clear hb hAw3 c0 c1 c2 c3 d0 d1
  have ⟨c0, c1, c2, c3, d0, d1⟩ := hAw4.cells
  go_wp2
  go_ret
  exact ⟨rfl, hAw4.bel⟩

set_option maxRecDepth 100000 in
set_option maxHeartbeats 4000000 in
theorem walk_a1 (a n a' n' w0 x x' : Nat) (w : World) (hw : W64 w0) (h1 : 1 ≤ n) (h2 : a + n ≤ 64) (hx : x ≤ mx n) (h1' : 1 ≤ n') (h2' : a' + n' ≤ 64) (hx' : x' ≤ mx n') (hm1 : a < a') (hm2 : a + n ≤ a') : Calls Try.prog 7 #[.agg #[.int .i64 (a : Int), .int .i64 (n : Int), .int .i64 (a' : Int), .int .i64 (n' : Int)], .int .u64 w0, .agg #[.int .u64 (x : Int), .int .u64 (x' : Int)]] w (Ret (.bool true) w) := by
  have hdis : a + n ≤ a' ∨ a' + n' ≤ a := by omega
  obtain ⟨y1, hy1⟩ : ∃ y, y = pt a n w0 x := ⟨_, rfl⟩
  obtain ⟨y2, hy2⟩ : ∃ y, y = pt a' n' w0 x' := ⟨_, rfl⟩
  have hy1w : W64 y1 := by rw [hy1]; exact pt_w h2 hx w0
  have hy2w : W64 y2 := by rw [hy2]; exact pt_w h2' hx' w0
  obtain ⟨C, hC⟩ : ∃ C, C = pt a' n' y1 x' := ⟨_, rfl⟩
  have hD : pt a n y2 x = C := by rw [hC, hy1, hy2]; exact (pt_comm h2 h2' (le_mx.1 hx) (le_mx.1 hx') hw hdis).symm
  have hC3 : W64 C := by rw [hC]; exact pt_w h2' hx' y1
  have hC2 : gt a' n' C = x' := by rw [hC]; exact gt_pt h2' (le_mx.1 hx') hy1w
  have hC1 : gt a n C = x := by rw [← hD]; exact gt_pt h2 (le_mx.1 hx) hy2w
  have HC := Lib.hid (And.intro hy1 (And.intro hy2 (And.intro hC hD)))
  clear hy1 hy2 hC hD hdis
  have k1 : (a : Int) < a' := by omega
  have k2 : (a : Int) + n ≤ a' := by omega
  clear hm1 hm2
  go_enter Try.func7, Try.ntmps7
  go_wp2_with fail
  have hA : Ap w w.heap.size (w.heap.size + 1) a n a' n' x x' ((w.alloc (.cells #[.int .i64 a, .int .i64 n, .int .i64 a', .int .i64 n'] 45)).alloc (.cells #[.int .u64 (x : Int), .int .u64 (x' : Int)] 46)) :=
    ⟨(Blk.new w _ 45).alloc _, by have := Blk.new (w.alloc (.cells #[.int .i64 a, .int .i64 n, .int .i64 a', .int .i64 n'] 45)) #[.int .u64 (x : Int), .int .u64 (x' : Int)] 46; rw [World.size_alloc] at this; exact this, ((Below.refl _ _).alloc (Nat.le_refl _) _).alloc (by simp) _⟩
  generalize (w.alloc (.cells #[.int .i64 a, .int .i64 n, .int .i64 a', .int .i64 n'] 45)).alloc (.cells #[.int .u64 (x : Int), .int .u64 (x' : Int)] 46) = w1 at *
  have ⟨c0, c1, c2, c3, d0, d1⟩ := hA.cells
  refine (put_in a n w0 x w1 h1 h2 hw hx).mono ?_
  rintro e w2 ⟨rfl, hb⟩
  rw [← HC.out.1]
  have hAw2 := hA.next hb
  clear hb hA c0 c1 c2 c3 d0 d1
  have ⟨c0, c1, c2, c3, d0, d1⟩ := hAw2.cells
  go_wp2_with fail
  refine (put_in a' n' w0 x' w2 h1' h2' hw hx').mono ?_
  rintro e w3 ⟨rfl, hb⟩
  rw [← HC.out.2.1]
  have hAw3 := hAw2.next hb
  clear hb hAw2 c0 c1 c2 c3 d0 d1
  have ⟨c0, c1, c2, c3, d0, d1⟩ := hAw3.cells
  go_wp2_with fail
  refine (put_in a' n' y1 x' w3 h1' h2' hy1w hx').mono ?_
  rintro e w4 ⟨rfl, hb⟩
  rw [← HC.out.2.2.1]
  have hAw4 := hAw3.next hb
  clear hb hAw3 c0 c1 c2 c3 d0 d1
  have ⟨c0, c1, c2, c3, d0, d1⟩ := hAw4.cells
  go_wp2_with fail
  refine (put_in a n y2 x w4 h1 h2 hy2w hx).mono ?_
  rintro e w5 ⟨rfl, hb⟩
  rw [HC.out.2.2.2]
  have hAw5 := hAw4.next hb
  clear hb hAw4 c0 c1 c2 c3 d0 d1
  have ⟨c0, c1, c2, c3, d0, d1⟩ := hAw5.cells
  go_wp2_with fail
  refine wp_region_held_drew (S := Ap w w.heap.size (w.heap.size + 1) a n a' n' x x') (by kernel_rfl) (hAw5.drew) (fun hHeld => ?_)
  refine wpAnyH_take (i := 0) (v := ?v1) rfl (by kernel_rfl) (by kernel_rfl) (by kernel_rfl) (fun _ _ _ h => h) (Or.inl ⟨by rfl, ?y1⟩) hHeld ?r1
  case y1 => (intro w hSw; obtain ⟨s0, s1, s2, s3, t0, t1⟩ := hSw.cells; go_simp; try with_reducible rfl)
  simp only [List.getElem_toArray, List.getElem_cons_zero, List.getElem_cons_succ, Act.put, List.setIfInBounds_toArray, List.set_cons_zero, List.set_cons_succ]
  refine wpAnyH_take (i := 1) (v := ?v2) rfl (by kernel_rfl) (by kernel_rfl) (by kernel_rfl) (fun _ _ _ h => h) (Or.inl ⟨by rfl, ?y2⟩) hHeld ?r2
  case y2 => (intro w hSw; obtain ⟨s0, s1, s2, s3, t0, t1⟩ := hSw.cells; go_simp; try with_reducible rfl)
  simp only [List.getElem_toArray, List.getElem_cons_zero, List.getElem_cons_succ, Act.put, List.setIfInBounds_toArray, List.set_cons_zero, List.set_cons_succ]
  refine wpAnyH_take (i := 2) (v := ?v3) rfl (by kernel_rfl) (by kernel_rfl) (by kernel_rfl) (fun _ _ _ h => h) (Or.inl ⟨by rfl, ?y3⟩) hHeld ?r3
  case y3 => (intro w hSw; obtain ⟨s0, s1, s2, s3, t0, t1⟩ := hSw.cells; go_simp; try with_reducible rfl)
  simp only [List.getElem_toArray, List.getElem_cons_zero, List.getElem_cons_succ, Act.put, List.setIfInBounds_toArray, List.set_cons_zero, List.set_cons_succ]
  refine wpAnyH_take (i := 3) (v := ?v4) rfl (by kernel_rfl) (by kernel_rfl) (by kernel_rfl) (fun _ _ _ h => h) (Or.inl ⟨by rfl, ?y4⟩) hHeld ?r4
  case y4 => (intro w hSw; obtain ⟨s0, s1, s2, s3, t0, t1⟩ := hSw.cells; go_simp; try with_reducible rfl)
  simp only [List.getElem_toArray, List.getElem_cons_zero, List.getElem_cons_succ, Act.put, List.setIfInBounds_toArray, List.set_cons_zero, List.set_cons_succ]
  refine wpAnyH_take (i := 4) (v := ?v5) rfl (by kernel_rfl) (by kernel_rfl) (by kernel_rfl) (fun _ _ _ h => h) (Or.inl ⟨by rfl, ?y5⟩) hHeld ?r5
  case y5 => (intro w hSw; obtain ⟨s0, s1, s2, s3, t0, t1⟩ := hSw.cells; go_simp; try with_reducible rfl)
  simp only [List.getElem_toArray, List.getElem_cons_zero, List.getElem_cons_succ, Act.put, List.setIfInBounds_toArray, List.set_cons_zero, List.set_cons_succ]
  refine wpAnyH_take (i := 5) (v := ?v6) rfl (by kernel_rfl) (by kernel_rfl) (by kernel_rfl) (fun _ _ _ h => h) (Or.inl ⟨by rfl, ?y6⟩) hHeld ?r6
  case y6 => (intro w hSw; obtain ⟨s0, s1, s2, s3, t0, t1⟩ := hSw.cells; go_simp; try with_reducible rfl)
  simp only [List.getElem_toArray, List.getElem_cons_zero, List.getElem_cons_succ, Act.put, List.setIfInBounds_toArray, List.set_cons_zero, List.set_cons_succ]
  refine wpAnyH_take (i := 6) (v := ?v7) rfl (by kernel_rfl) (by kernel_rfl) (by kernel_rfl) (fun _ _ _ h => h) (Or.inl ⟨by rfl, ?y7⟩) hHeld ?r7
  case y7 => (intro w hSw; obtain ⟨s0, s1, s2, s3, t0, t1⟩ := hSw.cells; go_simp; try with_reducible rfl)
  simp only [List.getElem_toArray, List.getElem_cons_zero, List.getElem_cons_succ, Act.put, List.setIfInBounds_toArray, List.set_cons_zero, List.set_cons_succ]
  refine wpAnyH_take (i := 7) (v := ?v8) rfl (by kernel_rfl) (by kernel_rfl) (by kernel_rfl) (fun _ _ _ h => h) (Or.inl ⟨by rfl, ?y8⟩) hHeld ?r8
  case y8 => (intro w hSw; obtain ⟨s0, s1, s2, s3, t0, t1⟩ := hSw.cells; go_simp; try with_reducible rfl)
  simp only [List.getElem_toArray, List.getElem_cons_zero, List.getElem_cons_succ, Act.put, List.setIfInBounds_toArray, List.set_cons_zero, List.set_cons_succ]
  refine wpAnyH_take (i := 8) (v := ?v9) rfl (by kernel_rfl) (by kernel_rfl) (by kernel_rfl) (fun _ _ _ h => h) (Or.inl ⟨by rfl, ?y9⟩) hHeld ?r9
  case y9 => (intro w hSw; obtain ⟨s0, s1, s2, s3, t0, t1⟩ := hSw.cells; go_simp; try with_reducible rfl)
  simp only [List.getElem_toArray, List.getElem_cons_zero, List.getElem_cons_succ, Act.put, List.setIfInBounds_toArray, List.set_cons_zero, List.set_cons_succ]
  refine wpAnyH_take (i := 9) (v := ?v10) rfl (by kernel_rfl) (by kernel_rfl) (by kernel_rfl) (fun _ _ _ h => h) (Or.inl ⟨by rfl, ?y10⟩) hHeld ?r10
  case y10 => (intro w hSw; obtain ⟨s0, s1, s2, s3, t0, t1⟩ := hSw.cells; go_simp; try with_reducible rfl)
  simp only [List.getElem_toArray, List.getElem_cons_zero, List.getElem_cons_succ, Act.put, List.setIfInBounds_toArray, List.set_cons_zero, List.set_cons_succ]
  refine wpAnyH_take (i := 10) (v := ?v11) rfl (by kernel_rfl) (by kernel_rfl) (by kernel_rfl) (fun _ _ _ h => h) (Or.inl ⟨by rfl, ?y11⟩) hHeld ?r11
  case y11 => (intro w hSw; obtain ⟨s0, s1, s2, s3, t0, t1⟩ := hSw.cells; go_simp; try with_reducible rfl)
  simp only [List.getElem_toArray, List.getElem_cons_zero, List.getElem_cons_succ, Act.put, List.setIfInBounds_toArray, List.set_cons_zero, List.set_cons_succ]
  refine wpAnyH_take (i := 11) (v := ?v12) rfl (by kernel_rfl) (by kernel_rfl) (by kernel_rfl) (fun _ _ _ h => h) (Or.inl ⟨by rfl, ?y12⟩) hHeld ?r12
  case y12 => (intro w hSw; obtain ⟨s0, s1, s2, s3, t0, t1⟩ := hSw.cells; go_simp; try with_reducible rfl)
  simp only [List.getElem_toArray, List.getElem_cons_zero, List.getElem_cons_succ, Act.put, List.setIfInBounds_toArray, List.set_cons_zero, List.set_cons_succ]
  refine wpAnyH_take (i := 12) (v := ?v13) rfl (by kernel_rfl) (by kernel_rfl) (by kernel_rfl) (fun _ _ _ h => h) (Or.inl ⟨by rfl, ?y13⟩) hHeld ?r13
  case y13 => (intro w hSw; obtain ⟨s0, s1, s2, s3, t0, t1⟩ := hSw.cells; go_simp; try with_reducible rfl)
  simp only [List.getElem_toArray, List.getElem_cons_zero, List.getElem_cons_succ, Act.put, List.setIfInBounds_toArray, List.set_cons_zero, List.set_cons_succ]
  refine wpAnyH_take (i := 13) (v := ?v14) rfl (by kernel_rfl) (by kernel_rfl) (by kernel_rfl) (fun _ _ _ h => h) (Or.inl ⟨by rfl, ?y14⟩) hHeld ?r14
  case y14 => (intro w hSw; obtain ⟨s0, s1, s2, s3, t0, t1⟩ := hSw.cells; go_simp; try with_reducible rfl)
  simp only [List.getElem_toArray, List.getElem_cons_zero, List.getElem_cons_succ, Act.put, List.setIfInBounds_toArray, List.set_cons_zero, List.set_cons_succ]
  refine wpAnyH_take (i := 14) (v := ?v15) rfl (by kernel_rfl) (by kernel_rfl) (by kernel_rfl) (fun _ _ _ h => h) (Or.inl ⟨by rfl, ?y15⟩) hHeld ?r15
  case y15 => (intro w hSw; obtain ⟨s0, s1, s2, s3, t0, t1⟩ := hSw.cells; go_simp; try with_reducible rfl)
  simp only [List.getElem_toArray, List.getElem_cons_zero, List.getElem_cons_succ, Act.put, List.setIfInBounds_toArray, List.set_cons_zero, List.set_cons_succ]
  refine wpAnyH_take (i := 16) (v := ?v16) rfl (by kernel_rfl) (by kernel_rfl) (by kernel_rfl) (fun _ _ _ h => h) (Or.inl ⟨by rfl, ?y16⟩) hHeld ?r16
  case y16 => (intro w hSw; obtain ⟨s0, s1, s2, s3, t0, t1⟩ := hSw.cells; go_simp; try with_reducible rfl)
  simp only [List.getElem_toArray, List.getElem_cons_zero, List.getElem_cons_succ, Act.put, List.setIfInBounds_toArray, List.set_cons_zero, List.set_cons_succ]
  refine wpAnyH_take (i := 17) (v := ?v17) rfl (by kernel_rfl) (by kernel_rfl) (by kernel_rfl) (fun _ _ _ h => h) (Or.inl ⟨by rfl, ?y17⟩) hHeld ?r17
  case y17 => (intro w hSw; obtain ⟨s0, s1, s2, s3, t0, t1⟩ := hSw.cells; go_simp; try with_reducible rfl)
  simp only [List.getElem_toArray, List.getElem_cons_zero, List.getElem_cons_succ, Act.put, List.setIfInBounds_toArray, List.set_cons_zero, List.set_cons_succ]
  refine wpAnyH_ready (rs := [15]) (by kernel_rfl) (by simp) (AllReadyH.cons rfl (fun K hK => ?_) AllReadyH.nil)
  go_simp
  refine (get_in a n C _ h1 h2 hC3).mono ?_
  rintro e w9 ⟨rfl, hbX⟩
  rw [hC1]
  go_wp2_with fail
  refine hK.out _ _ (hHeld.next hbX) (fun hHeld => ?_)
  clear hK K
  refine wpAnyH_take (i := 18) (v := ?v19) rfl (by kernel_rfl) (by kernel_rfl) (by kernel_rfl) (fun _ _ _ h => h) (Or.inl ⟨by rfl, ?y19⟩) hHeld ?r19
  case y19 => (intro w hSw; obtain ⟨s0, s1, s2, s3, t0, t1⟩ := hSw.cells; go_simp; try with_reducible rfl)
  simp only [List.getElem_toArray, List.getElem_cons_zero, List.getElem_cons_succ, Act.put, List.setIfInBounds_toArray, List.set_cons_zero, List.set_cons_succ]
  refine wpAnyH_take (i := 19) (v := ?v20) rfl (by kernel_rfl) (by kernel_rfl) (by kernel_rfl) (fun _ _ _ h => h) (Or.inl ⟨by rfl, ?y20⟩) hHeld ?r20
  case y20 => (intro w hSw; obtain ⟨s0, s1, s2, s3, t0, t1⟩ := hSw.cells; go_simp; try with_reducible rfl)
  simp only [List.getElem_toArray, List.getElem_cons_zero, List.getElem_cons_succ, Act.put, List.setIfInBounds_toArray, List.set_cons_zero, List.set_cons_succ]
  refine wpAnyH_take (i := 20) (v := ?v21) rfl (by kernel_rfl) (by kernel_rfl) (by kernel_rfl) (fun _ _ _ h => h) (Or.inl ⟨by rfl, ?y21⟩) hHeld ?r21
  case y21 => (intro w hSw; obtain ⟨s0, s1, s2, s3, t0, t1⟩ := hSw.cells; go_simp; try with_reducible rfl)
  simp only [List.getElem_toArray, List.getElem_cons_zero, List.getElem_cons_succ, Act.put, List.setIfInBounds_toArray, List.set_cons_zero, List.set_cons_succ]
  refine wpAnyH_take (i := 21) (v := ?v22) rfl (by kernel_rfl) (by kernel_rfl) (by kernel_rfl) (fun _ _ _ h => h) (Or.inl ⟨by rfl, ?y22⟩) hHeld ?r22
  case y22 => (intro w hSw; obtain ⟨s0, s1, s2, s3, t0, t1⟩ := hSw.cells; go_simp; try with_reducible rfl)
  simp only [List.getElem_toArray, List.getElem_cons_zero, List.getElem_cons_succ, Act.put, List.setIfInBounds_toArray, List.set_cons_zero, List.set_cons_succ]
  refine wpAnyH_take (i := 22) (v := ?v23) rfl (by kernel_rfl) (by kernel_rfl) (by kernel_rfl) (fun _ _ _ h => h) (Or.inl ⟨by rfl, ?y23⟩) hHeld ?r23
  case y23 => (intro w hSw; obtain ⟨s0, s1, s2, s3, t0, t1⟩ := hSw.cells; go_simp; try with_reducible rfl)
  simp only [List.getElem_toArray, List.getElem_cons_zero, List.getElem_cons_succ, Act.put, List.setIfInBounds_toArray, List.set_cons_zero, List.set_cons_succ]
  refine wpAnyH_take (i := 23) (v := ?v24) rfl (by kernel_rfl) (by kernel_rfl) (by kernel_rfl) (fun _ _ _ h => h) (Or.inl ⟨by rfl, ?y24⟩) hHeld ?r24
  case y24 => (intro w hSw; obtain ⟨s0, s1, s2, s3, t0, t1⟩ := hSw.cells; go_simp; try with_reducible rfl)
  simp only [List.getElem_toArray, List.getElem_cons_zero, List.getElem_cons_succ, Act.put, List.setIfInBounds_toArray, List.set_cons_zero, List.set_cons_succ]
  refine wpAnyH_take (i := 25) (v := ?v25) rfl (by kernel_rfl) (by kernel_rfl) (by kernel_rfl) (fun _ _ _ h => h) (Or.inl ⟨by rfl, ?y25⟩) hHeld ?r25
  case y25 => (intro w hSw; obtain ⟨s0, s1, s2, s3, t0, t1⟩ := hSw.cells; go_simp; try with_reducible rfl)
  simp only [List.getElem_toArray, List.getElem_cons_zero, List.getElem_cons_succ, Act.put, List.setIfInBounds_toArray, List.set_cons_zero, List.set_cons_succ]
  refine wpAnyH_take (i := 26) (v := ?v26) rfl (by kernel_rfl) (by kernel_rfl) (by kernel_rfl) (fun _ _ _ h => h) (Or.inl ⟨by rfl, ?y26⟩) hHeld ?r26
  case y26 => (intro w hSw; obtain ⟨s0, s1, s2, s3, t0, t1⟩ := hSw.cells; go_simp; try with_reducible rfl)
  simp only [List.getElem_toArray, List.getElem_cons_zero, List.getElem_cons_succ, Act.put, List.setIfInBounds_toArray, List.set_cons_zero, List.set_cons_succ]
  refine wpAnyH_ready (rs := [24]) (by kernel_rfl) (by simp) (AllReadyH.cons rfl (fun K hK => ?_) AllReadyH.nil)
  go_simp
  refine (get_in a' n' C _ h1' h2' hC3).mono ?_
  rintro e w9 ⟨rfl, hbX⟩
  rw [hC2]
  go_wp2_with fail
  refine hK.out _ _ (hHeld.next hbX) (fun hHeld => ?_)
  clear hK K
  refine wpAnyH_take (i := 27) (v := ?v28) rfl (by kernel_rfl) (by kernel_rfl) (by kernel_rfl) (fun _ _ _ h => h) (Or.inl ⟨by rfl, ?y28⟩) hHeld ?r28
  case y28 => (intro w hSw; obtain ⟨s0, s1, s2, s3, t0, t1⟩ := hSw.cells; go_simp; try with_reducible rfl)
  simp only [List.getElem_toArray, List.getElem_cons_zero, List.getElem_cons_succ, Act.put, List.setIfInBounds_toArray, List.set_cons_zero, List.set_cons_succ]
  refine wpAnyH_take (i := 28) (v := ?v29) rfl (by kernel_rfl) (by kernel_rfl) (by kernel_rfl) (fun _ _ _ h => h) (Or.inl ⟨by rfl, ?y29⟩) hHeld ?r29
  case y29 => (intro w hSw; obtain ⟨s0, s1, s2, s3, t0, t1⟩ := hSw.cells; go_simp; try with_reducible rfl)
  simp only [List.getElem_toArray, List.getElem_cons_zero, List.getElem_cons_succ, Act.put, List.setIfInBounds_toArray, List.set_cons_zero, List.set_cons_succ]
  refine wpAnyH_take (i := 29) (v := ?v30) rfl (by kernel_rfl) (by kernel_rfl) (by kernel_rfl) (fun _ _ _ h => h) (Or.inl ⟨by rfl, ?y30⟩) hHeld ?r30
  case y30 => (intro w hSw; obtain ⟨s0, s1, s2, s3, t0, t1⟩ := hSw.cells; go_simp; try with_reducible rfl)
  simp only [List.getElem_toArray, List.getElem_cons_zero, List.getElem_cons_succ, Act.put, List.setIfInBounds_toArray, List.set_cons_zero, List.set_cons_succ]
  refine wpAnyH_ready (rs := [30]) (by kernel_rfl) (by simp) (AllReadyH.cons rfl (fun K hK => ?_) AllReadyH.nil)
  go_simp
  refine (awake_any _).mono ?_
  rintro e w9 ⟨rfl, hbX⟩
  go_wp2_with fail
  refine hK.out _ _ (hHeld.next hbX) (fun hHeld => ?_)
  clear hK K
  refine wpAnyH_take (i := 31) (v := ?v32) rfl (by kernel_rfl) (by kernel_rfl) (by kernel_rfl) (fun _ _ _ h => h) (Or.inl ⟨by rfl, ?y32⟩) hHeld ?r32
  case y32 => (intro w hSw; obtain ⟨s0, s1, s2, s3, t0, t1⟩ := hSw.cells; go_simp; try with_reducible rfl)
  simp only [List.getElem_toArray, List.getElem_cons_zero, List.getElem_cons_succ, Act.put, List.setIfInBounds_toArray, List.set_cons_zero, List.set_cons_succ]
  refine wpAnyH_take (i := 32) (v := ?v33) rfl (by kernel_rfl) (by kernel_rfl) (by kernel_rfl) (fun _ _ _ h => h) (Or.inl ⟨by rfl, ?y33⟩) hHeld ?r33
  case y33 => (intro w hSw; obtain ⟨s0, s1, s2, s3, t0, t1⟩ := hSw.cells; go_simp; try with_reducible rfl)
  simp only [List.getElem_toArray, List.getElem_cons_zero, List.getElem_cons_succ, Act.put, List.setIfInBounds_toArray, List.set_cons_zero, List.set_cons_succ]
  refine wpAnyH_done (by kernel_rfl) ?_ _
  go_wp2
  go_ret
  exact ⟨rfl, hHeld.bel⟩

set_option maxRecDepth 100000 in
set_option maxHeartbeats 4000000 in
theorem walk_a2 (a n a' n' w0 x x' : Nat) (w : World) (hw : W64 w0) (h1 : 1 ≤ n) (h2 : a + n ≤ 64) (hx : x ≤ mx n) (h1' : 1 ≤ n') (h2' : a' + n' ≤ 64) (hx' : x' ≤ mx n') (hm1 : a' ≤ a) (hm2 : a' + n' ≤ a) : Calls Try.prog 7 #[.agg #[.int .i64 (a : Int), .int .i64 (n : Int), .int .i64 (a' : Int), .int .i64 (n' : Int)], .int .u64 w0, .agg #[.int .u64 (x : Int), .int .u64 (x' : Int)]] w (Ret (.bool true) w) := by
  have hdis : a + n ≤ a' ∨ a' + n' ≤ a := by omega
  obtain ⟨y1, hy1⟩ : ∃ y, y = pt a n w0 x := ⟨_, rfl⟩
  obtain ⟨y2, hy2⟩ : ∃ y, y = pt a' n' w0 x' := ⟨_, rfl⟩
  have hy1w : W64 y1 := by rw [hy1]; exact pt_w h2 hx w0
  have hy2w : W64 y2 := by rw [hy2]; exact pt_w h2' hx' w0
  obtain ⟨C, hC⟩ : ∃ C, C = pt a' n' y1 x' := ⟨_, rfl⟩
  have hD : pt a n y2 x = C := by rw [hC, hy1, hy2]; exact (pt_comm h2 h2' (le_mx.1 hx) (le_mx.1 hx') hw hdis).symm
  have hC3 : W64 C := by rw [hC]; exact pt_w h2' hx' y1
  have hC2 : gt a' n' C = x' := by rw [hC]; exact gt_pt h2' (le_mx.1 hx') hy1w
  have hC1 : gt a n C = x := by rw [← hD]; exact gt_pt h2 (le_mx.1 hx) hy2w
  have HC := Lib.hid (And.intro hy1 (And.intro hy2 (And.intro hC hD)))
  clear hy1 hy2 hC hD hdis
  have k0 : decide (a < a') = false := decide_eq_false (by omega)
  have k1 : decide (a' ≤ a) = true := decide_eq_true (by omega)
  have k2 : decide ((a : Int) < (a' : Int) + n') = false := decide_eq_false (by omega)
  clear hm1 hm2
  go_enter Try.func7, Try.ntmps7
  go_wp2_with fail
  have hA : Ap w w.heap.size (w.heap.size + 1) a n a' n' x x' ((w.alloc (.cells #[.int .i64 a, .int .i64 n, .int .i64 a', .int .i64 n'] 45)).alloc (.cells #[.int .u64 (x : Int), .int .u64 (x' : Int)] 46)) :=
    ⟨(Blk.new w _ 45).alloc _, by have := Blk.new (w.alloc (.cells #[.int .i64 a, .int .i64 n, .int .i64 a', .int .i64 n'] 45)) #[.int .u64 (x : Int), .int .u64 (x' : Int)] 46; rw [World.size_alloc] at this; exact this, ((Below.refl _ _).alloc (Nat.le_refl _) _).alloc (by simp) _⟩
  generalize (w.alloc (.cells #[.int .i64 a, .int .i64 n, .int .i64 a', .int .i64 n'] 45)).alloc (.cells #[.int .u64 (x : Int), .int .u64 (x' : Int)] 46) = w1 at *
  have ⟨c0, c1, c2, c3, d0, d1⟩ := hA.cells
  refine (put_in a n w0 x w1 h1 h2 hw hx).mono ?_
  rintro e w2 ⟨rfl, hb⟩
  rw [← HC.out.1]
  have hAw2 := hA.next hb
  clear hb hA c0 c1 c2 c3 d0 d1
  have ⟨c0, c1, c2, c3, d0, d1⟩ := hAw2.cells
  go_wp2_with fail
  refine (put_in a' n' w0 x' w2 h1' h2' hw hx').mono ?_
  rintro e w3 ⟨rfl, hb⟩
  rw [← HC.out.2.1]
  have hAw3 := hAw2.next hb
  clear hb hAw2 c0 c1 c2 c3 d0 d1
  have ⟨c0, c1, c2, c3, d0, d1⟩ := hAw3.cells
  go_wp2_with fail
  refine (put_in a' n' y1 x' w3 h1' h2' hy1w hx').mono ?_
  rintro e w4 ⟨rfl, hb⟩
  rw [← HC.out.2.2.1]
  have hAw4 := hAw3.next hb
  clear hb hAw3 c0 c1 c2 c3 d0 d1
  have ⟨c0, c1, c2, c3, d0, d1⟩ := hAw4.cells
  go_wp2_with fail
  refine (put_in a n y2 x w4 h1 h2 hy2w hx).mono ?_
  rintro e w5 ⟨rfl, hb⟩
  rw [HC.out.2.2.2]
  have hAw5 := hAw4.next hb
  clear hb hAw4 c0 c1 c2 c3 d0 d1
  have ⟨c0, c1, c2, c3, d0, d1⟩ := hAw5.cells
  go_wp2_with fail
  refine wp_region_held_drew (S := Ap w w.heap.size (w.heap.size + 1) a n a' n' x x') (by kernel_rfl) (hAw5.drew) (fun hHeld => ?_)
  refine wpAnyH_take (i := 0) (v := ?v34) rfl (by kernel_rfl) (by kernel_rfl) (by kernel_rfl) (fun _ _ _ h => h) (Or.inl ⟨by rfl, ?y34⟩) hHeld ?r34
  case y34 => (intro w hSw; obtain ⟨s0, s1, s2, s3, t0, t1⟩ := hSw.cells; go_simp; try with_reducible rfl)
  simp only [List.getElem_toArray, List.getElem_cons_zero, List.getElem_cons_succ, Act.put, List.setIfInBounds_toArray, List.set_cons_zero, List.set_cons_succ]
  refine wpAnyH_take (i := 1) (v := ?v35) rfl (by kernel_rfl) (by kernel_rfl) (by kernel_rfl) (fun _ _ _ h => h) (Or.inl ⟨by rfl, ?y35⟩) hHeld ?r35
  case y35 => (intro w hSw; obtain ⟨s0, s1, s2, s3, t0, t1⟩ := hSw.cells; go_simp; try with_reducible rfl)
  simp only [List.getElem_toArray, List.getElem_cons_zero, List.getElem_cons_succ, Act.put, List.setIfInBounds_toArray, List.set_cons_zero, List.set_cons_succ]
  refine wpAnyH_take (i := 2) (v := ?v36) rfl (by kernel_rfl) (by kernel_rfl) (by kernel_rfl) (fun _ _ _ h => h) (Or.inl ⟨by rfl, ?y36⟩) hHeld ?r36
  case y36 => (intro w hSw; obtain ⟨s0, s1, s2, s3, t0, t1⟩ := hSw.cells; go_simp; try with_reducible rfl)
  simp only [List.getElem_toArray, List.getElem_cons_zero, List.getElem_cons_succ, Act.put, List.setIfInBounds_toArray, List.set_cons_zero, List.set_cons_succ]
  refine wpAnyH_take (i := 3) (v := ?v37) rfl (by kernel_rfl) (by kernel_rfl) (by kernel_rfl) (fun _ _ _ h => h) (Or.inl ⟨by rfl, ?y37⟩) hHeld ?r37
  case y37 => (intro w hSw; obtain ⟨s0, s1, s2, s3, t0, t1⟩ := hSw.cells; go_simp; try with_reducible rfl)
  simp only [List.getElem_toArray, List.getElem_cons_zero, List.getElem_cons_succ, Act.put, List.setIfInBounds_toArray, List.set_cons_zero, List.set_cons_succ]
  refine wpAnyH_take (i := 4) (v := ?v38) rfl (by kernel_rfl) (by kernel_rfl) (by kernel_rfl) (fun _ _ _ h => h) (Or.inl ⟨by rfl, ?y38⟩) hHeld ?r38
  case y38 => (intro w hSw; obtain ⟨s0, s1, s2, s3, t0, t1⟩ := hSw.cells; go_simp; try with_reducible rfl)
  simp only [List.getElem_toArray, List.getElem_cons_zero, List.getElem_cons_succ, Act.put, List.setIfInBounds_toArray, List.set_cons_zero, List.set_cons_succ]
  refine wpAnyH_take (i := 5) (v := ?v39) rfl (by kernel_rfl) (by kernel_rfl) (by kernel_rfl) (fun _ _ _ h => h) (Or.inl ⟨by rfl, ?y39⟩) hHeld ?r39
  case y39 => (intro w hSw; obtain ⟨s0, s1, s2, s3, t0, t1⟩ := hSw.cells; go_simp; try with_reducible rfl)
  simp only [List.getElem_toArray, List.getElem_cons_zero, List.getElem_cons_succ, Act.put, List.setIfInBounds_toArray, List.set_cons_zero, List.set_cons_succ]
  refine wpAnyH_take (i := 6) (v := ?v40) rfl (by kernel_rfl) (by kernel_rfl) (by kernel_rfl) (fun _ _ _ h => h) (Or.inl ⟨by rfl, ?y40⟩) hHeld ?r40
  case y40 => (intro w hSw; obtain ⟨s0, s1, s2, s3, t0, t1⟩ := hSw.cells; go_simp; try with_reducible rfl)
  simp only [List.getElem_toArray, List.getElem_cons_zero, List.getElem_cons_succ, Act.put, List.setIfInBounds_toArray, List.set_cons_zero, List.set_cons_succ]
  refine wpAnyH_take (i := 7) (v := ?v41) rfl (by kernel_rfl) (by kernel_rfl) (by kernel_rfl) (fun _ _ _ h => h) (Or.inl ⟨by rfl, ?y41⟩) hHeld ?r41
  case y41 => (intro w hSw; obtain ⟨s0, s1, s2, s3, t0, t1⟩ := hSw.cells; go_simp; try with_reducible rfl)
  simp only [List.getElem_toArray, List.getElem_cons_zero, List.getElem_cons_succ, Act.put, List.setIfInBounds_toArray, List.set_cons_zero, List.set_cons_succ]
  refine wpAnyH_take (i := 8) (v := ?v42) rfl (by kernel_rfl) (by kernel_rfl) (by kernel_rfl) (fun _ _ _ h => h) (Or.inl ⟨by rfl, ?y42⟩) hHeld ?r42
  case y42 => (intro w hSw; obtain ⟨s0, s1, s2, s3, t0, t1⟩ := hSw.cells; go_simp; try with_reducible rfl)
  simp only [List.getElem_toArray, List.getElem_cons_zero, List.getElem_cons_succ, Act.put, List.setIfInBounds_toArray, List.set_cons_zero, List.set_cons_succ]
  refine wpAnyH_take (i := 9) (v := ?v43) rfl (by kernel_rfl) (by kernel_rfl) (by kernel_rfl) (fun _ _ _ h => h) (Or.inl ⟨by rfl, ?y43⟩) hHeld ?r43
  case y43 => (intro w hSw; obtain ⟨s0, s1, s2, s3, t0, t1⟩ := hSw.cells; go_simp; try with_reducible rfl)
  simp only [List.getElem_toArray, List.getElem_cons_zero, List.getElem_cons_succ, Act.put, List.setIfInBounds_toArray, List.set_cons_zero, List.set_cons_succ]
  refine wpAnyH_take (i := 10) (v := ?v44) rfl (by kernel_rfl) (by kernel_rfl) (by kernel_rfl) (fun _ _ _ h => h) (Or.inl ⟨by rfl, ?y44⟩) hHeld ?r44
  case y44 => (intro w hSw; obtain ⟨s0, s1, s2, s3, t0, t1⟩ := hSw.cells; go_simp; try with_reducible rfl)
  simp only [List.getElem_toArray, List.getElem_cons_zero, List.getElem_cons_succ, Act.put, List.setIfInBounds_toArray, List.set_cons_zero, List.set_cons_succ]
  refine wpAnyH_take (i := 11) (v := ?v45) rfl (by kernel_rfl) (by kernel_rfl) (by kernel_rfl) (fun _ _ _ h => h) (Or.inl ⟨by rfl, ?y45⟩) hHeld ?r45
  case y45 => (intro w hSw; obtain ⟨s0, s1, s2, s3, t0, t1⟩ := hSw.cells; go_simp; try with_reducible rfl)
  simp only [List.getElem_toArray, List.getElem_cons_zero, List.getElem_cons_succ, Act.put, List.setIfInBounds_toArray, List.set_cons_zero, List.set_cons_succ]
  refine wpAnyH_take (i := 12) (v := ?v46) rfl (by kernel_rfl) (by kernel_rfl) (by kernel_rfl) (fun _ _ _ h => h) (Or.inl ⟨by rfl, ?y46⟩) hHeld ?r46
  case y46 => (intro w hSw; obtain ⟨s0, s1, s2, s3, t0, t1⟩ := hSw.cells; go_simp; try with_reducible rfl)
  simp only [List.getElem_toArray, List.getElem_cons_zero, List.getElem_cons_succ, Act.put, List.setIfInBounds_toArray, List.set_cons_zero, List.set_cons_succ]
  refine wpAnyH_take (i := 13) (v := ?v47) rfl (by kernel_rfl) (by kernel_rfl) (by kernel_rfl) (fun _ _ _ h => h) (Or.inl ⟨by rfl, ?y47⟩) hHeld ?r47
  case y47 => (intro w hSw; obtain ⟨s0, s1, s2, s3, t0, t1⟩ := hSw.cells; go_simp; try with_reducible rfl)
  simp only [List.getElem_toArray, List.getElem_cons_zero, List.getElem_cons_succ, Act.put, List.setIfInBounds_toArray, List.set_cons_zero, List.set_cons_succ]
  refine wpAnyH_take (i := 14) (v := ?v48) rfl (by kernel_rfl) (by kernel_rfl) (by kernel_rfl) (fun _ _ _ h => h) (Or.inl ⟨by rfl, ?y48⟩) hHeld ?r48
  case y48 => (intro w hSw; obtain ⟨s0, s1, s2, s3, t0, t1⟩ := hSw.cells; go_simp; try with_reducible rfl)
  simp only [List.getElem_toArray, List.getElem_cons_zero, List.getElem_cons_succ, Act.put, List.setIfInBounds_toArray, List.set_cons_zero, List.set_cons_succ]
  refine wpAnyH_take (i := 16) (v := ?v49) rfl (by kernel_rfl) (by kernel_rfl) (by kernel_rfl) (fun _ _ _ h => h) (Or.inl ⟨by rfl, ?y49⟩) hHeld ?r49
  case y49 => (intro w hSw; obtain ⟨s0, s1, s2, s3, t0, t1⟩ := hSw.cells; go_simp; try with_reducible rfl)
  simp only [List.getElem_toArray, List.getElem_cons_zero, List.getElem_cons_succ, Act.put, List.setIfInBounds_toArray, List.set_cons_zero, List.set_cons_succ]
  refine wpAnyH_take (i := 17) (v := ?v50) rfl (by kernel_rfl) (by kernel_rfl) (by kernel_rfl) (fun _ _ _ h => h) (Or.inl ⟨by rfl, ?y50⟩) hHeld ?r50
  case y50 => (intro w hSw; obtain ⟨s0, s1, s2, s3, t0, t1⟩ := hSw.cells; go_simp; try with_reducible rfl)
  simp only [List.getElem_toArray, List.getElem_cons_zero, List.getElem_cons_succ, Act.put, List.setIfInBounds_toArray, List.set_cons_zero, List.set_cons_succ]
  refine wpAnyH_ready (rs := [15]) (by kernel_rfl) (by simp) (AllReadyH.cons rfl (fun K hK => ?_) AllReadyH.nil)
  go_simp
  refine (get_in a n C _ h1 h2 hC3).mono ?_
  rintro e w9 ⟨rfl, hbX⟩
  rw [hC1]
  go_wp2_with fail
  refine hK.out _ _ (hHeld.next hbX) (fun hHeld => ?_)
  clear hK K
  refine wpAnyH_take (i := 18) (v := ?v52) rfl (by kernel_rfl) (by kernel_rfl) (by kernel_rfl) (fun _ _ _ h => h) (Or.inl ⟨by rfl, ?y52⟩) hHeld ?r52
  case y52 => (intro w hSw; obtain ⟨s0, s1, s2, s3, t0, t1⟩ := hSw.cells; go_simp; try with_reducible rfl)
  simp only [List.getElem_toArray, List.getElem_cons_zero, List.getElem_cons_succ, Act.put, List.setIfInBounds_toArray, List.set_cons_zero, List.set_cons_succ]
  refine wpAnyH_take (i := 19) (v := ?v53) rfl (by kernel_rfl) (by kernel_rfl) (by kernel_rfl) (fun _ _ _ h => h) (Or.inl ⟨by rfl, ?y53⟩) hHeld ?r53
  case y53 => (intro w hSw; obtain ⟨s0, s1, s2, s3, t0, t1⟩ := hSw.cells; go_simp; try with_reducible rfl)
  simp only [List.getElem_toArray, List.getElem_cons_zero, List.getElem_cons_succ, Act.put, List.setIfInBounds_toArray, List.set_cons_zero, List.set_cons_succ]
  refine wpAnyH_take (i := 20) (v := ?v54) rfl (by kernel_rfl) (by kernel_rfl) (by kernel_rfl) (fun _ _ _ h => h) (Or.inl ⟨by rfl, ?y54⟩) hHeld ?r54
  case y54 => (intro w hSw; obtain ⟨s0, s1, s2, s3, t0, t1⟩ := hSw.cells; go_simp; try with_reducible rfl)
  simp only [List.getElem_toArray, List.getElem_cons_zero, List.getElem_cons_succ, Act.put, List.setIfInBounds_toArray, List.set_cons_zero, List.set_cons_succ]
  refine wpAnyH_take (i := 21) (v := ?v55) rfl (by kernel_rfl) (by kernel_rfl) (by kernel_rfl) (fun _ _ _ h => h) (Or.inl ⟨by rfl, ?y55⟩) hHeld ?r55
  case y55 => (intro w hSw; obtain ⟨s0, s1, s2, s3, t0, t1⟩ := hSw.cells; go_simp; try with_reducible rfl)
  simp only [List.getElem_toArray, List.getElem_cons_zero, List.getElem_cons_succ, Act.put, List.setIfInBounds_toArray, List.set_cons_zero, List.set_cons_succ]
  refine wpAnyH_take (i := 22) (v := ?v56) rfl (by kernel_rfl) (by kernel_rfl) (by kernel_rfl) (fun _ _ _ h => h) (Or.inl ⟨by rfl, ?y56⟩) hHeld ?r56
  case y56 => (intro w hSw; obtain ⟨s0, s1, s2, s3, t0, t1⟩ := hSw.cells; go_simp; try with_reducible rfl)
  simp only [List.getElem_toArray, List.getElem_cons_zero, List.getElem_cons_succ, Act.put, List.setIfInBounds_toArray, List.set_cons_zero, List.set_cons_succ]
  refine wpAnyH_take (i := 23) (v := ?v57) rfl (by kernel_rfl) (by kernel_rfl) (by kernel_rfl) (fun _ _ _ h => h) (Or.inl ⟨by rfl, ?y57⟩) hHeld ?r57
  case y57 => (intro w hSw; obtain ⟨s0, s1, s2, s3, t0, t1⟩ := hSw.cells; go_simp; try with_reducible rfl)
  simp only [List.getElem_toArray, List.getElem_cons_zero, List.getElem_cons_succ, Act.put, List.setIfInBounds_toArray, List.set_cons_zero, List.set_cons_succ]
  refine wpAnyH_take (i := 25) (v := ?v58) rfl (by kernel_rfl) (by kernel_rfl) (by kernel_rfl) (fun _ _ _ h => h) (Or.inl ⟨by rfl, ?y58⟩) hHeld ?r58
  case y58 => (intro w hSw; obtain ⟨s0, s1, s2, s3, t0, t1⟩ := hSw.cells; go_simp; try with_reducible rfl)
  simp only [List.getElem_toArray, List.getElem_cons_zero, List.getElem_cons_succ, Act.put, List.setIfInBounds_toArray, List.set_cons_zero, List.set_cons_succ]
  refine wpAnyH_take (i := 26) (v := ?v59) rfl (by kernel_rfl) (by kernel_rfl) (by kernel_rfl) (fun _ _ _ h => h) (Or.inl ⟨by rfl, ?y59⟩) hHeld ?r59
  case y59 => (intro w hSw; obtain ⟨s0, s1, s2, s3, t0, t1⟩ := hSw.cells; go_simp; try with_reducible rfl)
  simp only [List.getElem_toArray, List.getElem_cons_zero, List.getElem_cons_succ, Act.put, List.setIfInBounds_toArray, List.set_cons_zero, List.set_cons_succ]
  refine wpAnyH_ready (rs := [24]) (by kernel_rfl) (by simp) (AllReadyH.cons rfl (fun K hK => ?_) AllReadyH.nil)
  go_simp
  refine (get_in a' n' C _ h1' h2' hC3).mono ?_
  rintro e w9 ⟨rfl, hbX⟩
  rw [hC2]
  go_wp2_with fail
  refine hK.out _ _ (hHeld.next hbX) (fun hHeld => ?_)
  clear hK K
  refine wpAnyH_take (i := 27) (v := ?v61) rfl (by kernel_rfl) (by kernel_rfl) (by kernel_rfl) (fun _ _ _ h => h) (Or.inl ⟨by rfl, ?y61⟩) hHeld ?r61
  case y61 => (intro w hSw; obtain ⟨s0, s1, s2, s3, t0, t1⟩ := hSw.cells; go_simp; try with_reducible rfl)
  simp only [List.getElem_toArray, List.getElem_cons_zero, List.getElem_cons_succ, Act.put, List.setIfInBounds_toArray, List.set_cons_zero, List.set_cons_succ]
  refine wpAnyH_take (i := 28) (v := ?v62) rfl (by kernel_rfl) (by kernel_rfl) (by kernel_rfl) (fun _ _ _ h => h) (Or.inl ⟨by rfl, ?y62⟩) hHeld ?r62
  case y62 => (intro w hSw; obtain ⟨s0, s1, s2, s3, t0, t1⟩ := hSw.cells; go_simp; try with_reducible rfl)
  simp only [List.getElem_toArray, List.getElem_cons_zero, List.getElem_cons_succ, Act.put, List.setIfInBounds_toArray, List.set_cons_zero, List.set_cons_succ]
  refine wpAnyH_take (i := 29) (v := ?v63) rfl (by kernel_rfl) (by kernel_rfl) (by kernel_rfl) (fun _ _ _ h => h) (Or.inl ⟨by rfl, ?y63⟩) hHeld ?r63
  case y63 => (intro w hSw; obtain ⟨s0, s1, s2, s3, t0, t1⟩ := hSw.cells; go_simp; try with_reducible rfl)
  simp only [List.getElem_toArray, List.getElem_cons_zero, List.getElem_cons_succ, Act.put, List.setIfInBounds_toArray, List.set_cons_zero, List.set_cons_succ]
  refine wpAnyH_ready (rs := [30]) (by kernel_rfl) (by simp) (AllReadyH.cons rfl (fun K hK => ?_) AllReadyH.nil)
  go_simp
  refine (awake_any _).mono ?_
  rintro e w9 ⟨rfl, hbX⟩
  go_wp2_with fail
  refine hK.out _ _ (hHeld.next hbX) (fun hHeld => ?_)
  clear hK K
  refine wpAnyH_take (i := 31) (v := ?v65) rfl (by kernel_rfl) (by kernel_rfl) (by kernel_rfl) (fun _ _ _ h => h) (Or.inl ⟨by rfl, ?y65⟩) hHeld ?r65
  case y65 => (intro w hSw; obtain ⟨s0, s1, s2, s3, t0, t1⟩ := hSw.cells; go_simp; try with_reducible rfl)
  simp only [List.getElem_toArray, List.getElem_cons_zero, List.getElem_cons_succ, Act.put, List.setIfInBounds_toArray, List.set_cons_zero, List.set_cons_succ]
  refine wpAnyH_take (i := 32) (v := ?v66) rfl (by kernel_rfl) (by kernel_rfl) (by kernel_rfl) (fun _ _ _ h => h) (Or.inl ⟨by rfl, ?y66⟩) hHeld ?r66
  case y66 => (intro w hSw; obtain ⟨s0, s1, s2, s3, t0, t1⟩ := hSw.cells; go_simp; try with_reducible rfl)
  simp only [List.getElem_toArray, List.getElem_cons_zero, List.getElem_cons_succ, Act.put, List.setIfInBounds_toArray, List.set_cons_zero, List.set_cons_succ]
  refine wpAnyH_done (by kernel_rfl) ?_ _
  go_wp2
  go_ret
  exact ⟨rfl, hHeld.bel⟩

theorem walk (a n a' n' : Int) (w0 x x' : Nat) (w : World) (hw : W64 w0) : Calls Try.prog 7 #[.agg #[.int .i64 a, .int .i64 n, .int .i64 a', .int .i64 n'], .int .u64 w0, .agg #[.int .u64 (x : Int), .int .u64 (x' : Int)]] w (Ret (.bool true) w) := by
  by_cases h : (putR a n w0 x).2 = 0 ∧ (putR a' n' w0 x').2 = 0
  · obtain ⟨p, q, rfl, rfl, h1, h2, hx, _⟩ := putR_ok h.1
    obtain ⟨p', q', rfl, rfl, h1', h2', hx', _⟩ := putR_ok h.2
    by_cases hl : p < p'
    · by_cases hm : p' < p + q
      · exact walk_m1 p q p' q' w0 x x' w hw h1 h2 hx h1' h2' hx' hl hm
      · exact walk_a1 p q p' q' w0 x x' w hw h1 h2 hx h1' h2' hx' hl (by omega)
    · by_cases hm : p < p' + q'
      · exact walk_m2 p q p' q' w0 x x' w hw h1 h2 hx h1' h2' hx' (by omega) hm
      · exact walk_a2 p q p' q' w0 x x' w hw h1 h2 hx h1' h2' hx' (by omega) (by omega)
  · exact walk_no a n a' n' w0 x x' w hw h

set_option maxRecDepth 100000 in
theorem lifted (os : Os) (started : os.Started) (H : Type) (enc : TypeId × Value → H) :
    ReturnsInHanded {} Try.checked os 7 .any (Rows.bitsApartSpec.pre6 enc Try.prog Try.f7 Rows.bitsApartRow.domain false) (Rows.bitsApartSpec.post enc Try.prog Try.f7 false true false false) := by
  refine returnsInHanded_of_change (C := Try.checked) own started (by kernel_rfl) Try.func7
    (ChangeSpec.witness6 (enc := enc) (C := Try.checked) false ⟨#[], #[.agg #[.int .i64 0, .int .i64 0, .int .i64 0, .int .i64 0], .int .u64 0, .agg #[.int .u64 0, .int .u64 0]], []⟩ 8 (by kernel_rfl) (by kernel_rfl) (by kernel_rfl) (by kernel_rfl)) ?_
  intro W base args ds gs before hval0 hW _ _
  have hval : ∀ (j : Nat) t v, Try.f7.params[j]? = some t → args[j]? = some v → Value.okWide Try.prog W .any base t v := hval0
  have hW' := hW
  obtain ⟨p, q, hA0, hV, rfl, _, _⟩ := hW
  have hA : DataW.TrodAll enc Try.prog W 0 (fun _ => true) true Try.f7.params.toList args.toList ds p := hA0
  rw [Try.params7] at hA hval
  obtain ⟨v0, vs0, d0, ds0, p0, q0, hargs, rfl, rfl, h0, r0⟩ := trodAll_cons hA
  obtain ⟨v1, vs1, d1, ds1, p1, q1, rfl, rfl, rfl, h1, r1⟩ := trodAll_cons r0
  obtain ⟨v2, vs2, d2, ds2, p2, q2, rfl, rfl, rfl, h2, r2⟩ := trodAll_cons r1
  obtain ⟨rfl, rfl, rfl⟩ := trodAll_nil r2
  obtain rfl : args = #[v0, v1, v2] := by cases args; simp_all
  obtain ⟨rfl, rfl⟩ := trodVars_none hV
  have k0 := h0
  have lt0 : ∀ x ∈ p0, x.block < W.heap.size := by obtain ⟨m, hm⟩ := k0; exact DataW.trod_lt m _ _ _ hm
  obtain ⟨c0, d0, e0, g0, rfl⟩ := fld2_of (hval 0 45 v0 rfl rfl) h0
  have k1 := h1
  have lt1 : ∀ x ∈ p1, x.block < W.heap.size := by obtain ⟨m, hm⟩ := k1; exact DataW.trod_lt m _ _ _ hm
  obtain ⟨b1, rfl, _, _, wf1⟩ := open_int Try.underlying24 (hval 1 24 v1 rfl rfl) h1
  obtain ⟨a1, rfl, u1⟩ := u64_nat wf1
  have k2 := h2
  have lt2 : ∀ x ∈ p2, x.block < W.heap.size := by obtain ⟨m, hm⟩ := k2; exact DataW.trod_lt m _ _ _ hm
  obtain ⟨c2, d2, rfl, uc2, ud2⟩ := u2_of (hval 2 46 v2 rfl rfl) h2
  clear hA0 hval0
  refine (walk c0 d0 e0 g0 a1 c2 d2 W u1).mono fun e W' ⟨he, bel⟩ => ?_
  subst he
  exact ⟨_, rfl, _, _, _, [], _, [], hW', trodAll_mk1 (shut_bool Try.underlying4 _), (trodAll_cons_mk (Below.trod laidOut (by kernel_rfl) (of_decide_eq_true (by kernel_rfl)) k0 bel lt0) (trodAll_cons_mk (Below.trod laidOut (by kernel_rfl) (of_decide_eq_true (by kernel_rfl)) k1 bel lt1) (trodAll_cons_mk (Below.trod laidOut (by kernel_rfl) (of_decide_eq_true (by kernel_rfl)) k2 bel lt2) trodAll_mk0))), rfl, bel.frame _, fun h => by cases h⟩

theorem over : Rows.bitsApartRow.holds Try.pinned (OpenSpec.ofChange Rows.bitsApartSpec) :=
  OpenClaim.holds_of_wide 7 Try.f7 rfl rfl rfl rfl rfl rfl rfl ⟨rfl, rfl, rfl, rfl, rfl⟩ rfl rfl rfl rfl rfl (by kernel_rfl) Try.func7 (by kernel_rfl)
    (of_decide_eq_true (by kernel_rfl)) (by unfold Func.isWrapper; first | (rw [if_pos (by decide +kernel)]; kernel_rfl) | (rw [if_neg (by decide +kernel)]; exact ⟨rfl, rfl⟩))
    (fun os started H enc _ => lifted os started H enc)

theorem proved : Rows.BitsApartSaid := over
#print axioms proved
end Go.Proofs.Ytknhbpifkpcpnaa.bitsApart
