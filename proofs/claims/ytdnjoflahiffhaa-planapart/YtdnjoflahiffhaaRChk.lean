/- The document's Check: its contract. -/
import Derived.Test.YtdnjoflahiffhaaChk
import Derived.Test.YtdnjoflahiffhaaFin
import Derived.Test.YtdnjoflahiffhaaRNam
namespace Go.Proofs.Ytdnjoflahiffhaa
open Go.RowKit

theorem dup_find {l : List Tp} {k : Nat} {t : Tp} (h : l[k]? = some t) : decide (fdR l t.1 < (k : Int)) = dup (l.take k) t.1 := by
  have hk : k < l.length := (List.getElem?_eq_some_iff.1 h).1
  have he : l[k] = t := (List.getElem?_eq_some_iff.1 h).2
  have hle : fnd l t.1 ≤ k := by
    unfold fnd
    by_cases h2 : l.findIdx (fun u => decide (u.1 = t.1)) ≤ k
    · exact h2
    · have := List.not_of_lt_findIdx (p := fun u : Tp => decide (u.1 = t.1)) (xs := l) (i := k) (by omega)
      rw [he] at this
      simp at this
  have hR : fdR l t.1 = (fnd l t.1 : Int) := by unfold fdR; rw [if_pos (by omega)]
  rw [hR]
  by_cases hlt : fnd l t.1 < k
  · rw [decide_eq_true (by omega)]
    symm
    unfold dup
    rw [List.any_eq_true]
    have hf : fnd l t.1 < l.length := by omega
    have hp := List.findIdx_getElem (p := fun u : Tp => decide (u.1 = t.1)) (xs := l) (w := hf)
    refine ⟨l[fnd l t.1], ?_, hp⟩
    rw [List.mem_take_iff_getElem]
    exact ⟨fnd l t.1, by omega, rfl⟩
  · rw [decide_eq_false (by omega)]
    symm
    unfold dup
    rw [List.any_eq_false]
    intro u hu
    obtain ⟨j, hj, e⟩ := List.mem_take_iff_getElem.1 hu
    have := List.not_of_lt_findIdx (p := fun u : Tp => decide (u.1 = t.1)) (xs := l) (i := j) (by unfold fnd at hlt; omega)
    rw [e] at this
    simpa using this

/-- At the head of its loop. -/
def RelRc (w : World) (T R L : Int) (a : Option Addr) (cap : Nat) (l : List Tp) (i : Value) (wr : World) : Prop :=
  ∃ k : Nat, k ≤ l.length ∧ i = .int .i64 k ∧ Blk wr w.heap.size (cfl T a l.length cap R L) ∧ Blk wr (w.heap.size + 1) zz ∧ Below w.heap.size w wr ∧ chk T l R L = tps (l.take k) (l.drop k)

set_option maxRecDepth 100000 in
set_option maxHeartbeats 1000000 in
theorem rchk_t1 (T R L : Int) (a : Option Addr) (cap : Nat) (l : List Tp) (w : World) (h : T < 1) : Calls Try.prog 21 #[cfg T a l.length cap R L] w (Ret (flt (chk T l R L)) w) := by
  have HC : Hid (chk T l R L = (-1, 10)) := Lib.hid (by
    have he : hdE T l.length R L = 10 := by
      unfold hdE
      rw [rng_lo h]; rfl
    unfold chk
    rw [he]
    rfl)
  have hC := (Blk.new w #[.int .i64 T, .slice a l.length cap, .int .i64 R, .int .i64 L] 24).alloc (.cells #[.int .i64 0, .int .i64 0] 63)
  have hR := Blk.new (w.alloc (.cells #[.int .i64 T, .slice a l.length cap, .int .i64 R, .int .i64 L] 24)) #[.int .i64 0, .int .i64 0] 63
  simp only [World.size_alloc] at hR
  have hB := ((Below.refl w.heap.size w).alloc (Nat.le_refl _) (.cells #[.int .i64 T, .slice a l.length cap, .int .i64 R, .int .i64 L] 24)).alloc (by simp) (.cells #[.int .i64 0, .int .i64 0] 63)
  have c0 := hC.cell (i := 0) rfl
  have c1 := hC.cell (i := 1) rfl
  have c2 := hC.cell (i := 2) rfl
  have c3 := hC.cell (i := 3) rfl
  have t1 : decide (T < 1) = true := decide_eq_true (by omega)
  have y0 := hR.cell (i := 0) rfl
  have y1 := hR.cell (i := 1) rfl
  have HB := Lib.hid (And.intro hC (And.intro hR hB))
  clear hC hR hB
  go_enter Try.func21, Try.ntmps21
  go_wp2
  have hX := Blk.new (w.alloc (.cells #[.int .i64 T, .slice a l.length cap, .int .i64 R, .int .i64 L] 24)) #[.int .i64 (-1), .int .i64 10] 63
  simp only [World.size_alloc] at hX
  have e0 := hX.cell (i := 0) rfl
  have e1 := hX.cell (i := 1) rfl
  rw [HC.out]
  exact bodyPost_ret (v := .agg #[.int .i64 (-1), .int .i64 10]) (by simp [results, Try.results21, go_sem, e0, e1]) rfl ⟨rfl, ((Below.refl w.heap.size w).alloc (Nat.le_refl _) _).alloc (by simp) _⟩
set_option maxRecDepth 100000 in
set_option maxHeartbeats 1000000 in
theorem rchk_t2 (T R L : Int) (a : Option Addr) (cap : Nat) (l : List Tp) (w : World) (h : 8 < T) : Calls Try.prog 21 #[cfg T a l.length cap R L] w (Ret (flt (chk T l R L)) w) := by
  have HC : Hid (chk T l R L = (-1, 10)) := Lib.hid (by
    have he : hdE T l.length R L = 10 := by
      unfold hdE
      rw [rng_hi (a := 1) h]; rfl
    unfold chk
    rw [he]
    rfl)
  have hC := (Blk.new w #[.int .i64 T, .slice a l.length cap, .int .i64 R, .int .i64 L] 24).alloc (.cells #[.int .i64 0, .int .i64 0] 63)
  have hR := Blk.new (w.alloc (.cells #[.int .i64 T, .slice a l.length cap, .int .i64 R, .int .i64 L] 24)) #[.int .i64 0, .int .i64 0] 63
  simp only [World.size_alloc] at hR
  have hB := ((Below.refl w.heap.size w).alloc (Nat.le_refl _) (.cells #[.int .i64 T, .slice a l.length cap, .int .i64 R, .int .i64 L] 24)).alloc (by simp) (.cells #[.int .i64 0, .int .i64 0] 63)
  have c0 := hC.cell (i := 0) rfl
  have c1 := hC.cell (i := 1) rfl
  have c2 := hC.cell (i := 2) rfl
  have c3 := hC.cell (i := 3) rfl
  have t1 : decide (T < 1) = false := decide_eq_false (by omega)
  have t2 : decide (8 < T) = true := decide_eq_true (by omega)
  have y0 := hR.cell (i := 0) rfl
  have y1 := hR.cell (i := 1) rfl
  have HB := Lib.hid (And.intro hC (And.intro hR hB))
  clear hC hR hB
  go_enter Try.func21, Try.ntmps21
  go_wp2
  have hX := Blk.new (w.alloc (.cells #[.int .i64 T, .slice a l.length cap, .int .i64 R, .int .i64 L] 24)) #[.int .i64 (-1), .int .i64 10] 63
  simp only [World.size_alloc] at hX
  have e0 := hX.cell (i := 0) rfl
  have e1 := hX.cell (i := 1) rfl
  rw [HC.out]
  exact bodyPost_ret (v := .agg #[.int .i64 (-1), .int .i64 10]) (by simp [results, Try.results21, go_sem, e0, e1]) rfl ⟨rfl, ((Below.refl w.heap.size w).alloc (Nat.le_refl _) _).alloc (by simp) _⟩
set_option maxRecDepth 100000 in
set_option maxHeartbeats 1000000 in
theorem rchk_n1 (T R L : Int) (a : Option Addr) (cap : Nat) (l : List Tp) (w : World) (h1 : 1 ≤ T) (h2 : T ≤ 8) (h : l.length < 1) : Calls Try.prog 21 #[cfg T a l.length cap R L] w (Ret (flt (chk T l R L)) w) := by
  have HC : Hid (chk T l R L = (-1, 12)) := Lib.hid (by
    have he : hdE T l.length R L = 12 := by
      unfold hdE
      rw [rng_in (n := T) h1 h2, rng_lo (n := (l.length : Int)) (by omega)]; rfl
    unfold chk
    rw [he]
    rfl)
  have hC := (Blk.new w #[.int .i64 T, .slice a l.length cap, .int .i64 R, .int .i64 L] 24).alloc (.cells #[.int .i64 0, .int .i64 0] 63)
  have hR := Blk.new (w.alloc (.cells #[.int .i64 T, .slice a l.length cap, .int .i64 R, .int .i64 L] 24)) #[.int .i64 0, .int .i64 0] 63
  simp only [World.size_alloc] at hR
  have hB := ((Below.refl w.heap.size w).alloc (Nat.le_refl _) (.cells #[.int .i64 T, .slice a l.length cap, .int .i64 R, .int .i64 L] 24)).alloc (by simp) (.cells #[.int .i64 0, .int .i64 0] 63)
  have c0 := hC.cell (i := 0) rfl
  have c1 := hC.cell (i := 1) rfl
  have c2 := hC.cell (i := 2) rfl
  have c3 := hC.cell (i := 3) rfl
  have t1 : decide (T < 1) = false := decide_eq_false (by omega)
  have t2 : decide (8 < T) = false := decide_eq_false (by omega)
  have n1 : decide ((l.length : Int) < 1) = true := decide_eq_true (by omega)
  have y0 := hR.cell (i := 0) rfl
  have y1 := hR.cell (i := 1) rfl
  have HB := Lib.hid (And.intro hC (And.intro hR hB))
  clear hC hR hB
  go_enter Try.func21, Try.ntmps21
  go_wp2
  have hX := Blk.new (w.alloc (.cells #[.int .i64 T, .slice a l.length cap, .int .i64 R, .int .i64 L] 24)) #[.int .i64 (-1), .int .i64 12] 63
  simp only [World.size_alloc] at hX
  have e0 := hX.cell (i := 0) rfl
  have e1 := hX.cell (i := 1) rfl
  rw [HC.out]
  exact bodyPost_ret (v := .agg #[.int .i64 (-1), .int .i64 12]) (by simp [results, Try.results21, go_sem, e0, e1]) rfl ⟨rfl, ((Below.refl w.heap.size w).alloc (Nat.le_refl _) _).alloc (by simp) _⟩
set_option maxRecDepth 100000 in
set_option maxHeartbeats 1000000 in
theorem rchk_n2 (T R L : Int) (a : Option Addr) (cap : Nat) (l : List Tp) (w : World) (h1 : 1 ≤ T) (h2 : T ≤ 8) (h : 64 < l.length) : Calls Try.prog 21 #[cfg T a l.length cap R L] w (Ret (flt (chk T l R L)) w) := by
  have HC : Hid (chk T l R L = (-1, 12)) := Lib.hid (by
    have he : hdE T l.length R L = 12 := by
      unfold hdE
      rw [rng_in (n := T) h1 h2, rng_hi (n := (l.length : Int)) (a := 1) (by omega)]; rfl
    unfold chk
    rw [he]
    rfl)
  have hC := (Blk.new w #[.int .i64 T, .slice a l.length cap, .int .i64 R, .int .i64 L] 24).alloc (.cells #[.int .i64 0, .int .i64 0] 63)
  have hR := Blk.new (w.alloc (.cells #[.int .i64 T, .slice a l.length cap, .int .i64 R, .int .i64 L] 24)) #[.int .i64 0, .int .i64 0] 63
  simp only [World.size_alloc] at hR
  have hB := ((Below.refl w.heap.size w).alloc (Nat.le_refl _) (.cells #[.int .i64 T, .slice a l.length cap, .int .i64 R, .int .i64 L] 24)).alloc (by simp) (.cells #[.int .i64 0, .int .i64 0] 63)
  have c0 := hC.cell (i := 0) rfl
  have c1 := hC.cell (i := 1) rfl
  have c2 := hC.cell (i := 2) rfl
  have c3 := hC.cell (i := 3) rfl
  have t1 : decide (T < 1) = false := decide_eq_false (by omega)
  have t2 : decide (8 < T) = false := decide_eq_false (by omega)
  have n1 : decide ((l.length : Int) < 1) = false := decide_eq_false (by omega)
  have n2 : decide ((64 : Int) < (l.length : Int)) = true := decide_eq_true (by omega)
  have y0 := hR.cell (i := 0) rfl
  have y1 := hR.cell (i := 1) rfl
  have HB := Lib.hid (And.intro hC (And.intro hR hB))
  clear hC hR hB
  go_enter Try.func21, Try.ntmps21
  go_wp2
  have hX := Blk.new (w.alloc (.cells #[.int .i64 T, .slice a l.length cap, .int .i64 R, .int .i64 L] 24)) #[.int .i64 (-1), .int .i64 12] 63
  simp only [World.size_alloc] at hX
  have e0 := hX.cell (i := 0) rfl
  have e1 := hX.cell (i := 1) rfl
  rw [HC.out]
  exact bodyPost_ret (v := .agg #[.int .i64 (-1), .int .i64 12]) (by simp [results, Try.results21, go_sem, e0, e1]) rfl ⟨rfl, ((Below.refl w.heap.size w).alloc (Nat.le_refl _) _).alloc (by simp) _⟩
set_option maxRecDepth 100000 in
set_option maxHeartbeats 1000000 in
theorem rchk_r1 (T R L : Int) (a : Option Addr) (cap : Nat) (l : List Tp) (w : World) (h1 : 1 ≤ T) (h2 : T ≤ 8) (h3 : 1 ≤ l.length) (h4 : l.length ≤ 64) (h : R < 1) : Calls Try.prog 21 #[cfg T a l.length cap R L] w (Ret (flt (chk T l R L)) w) := by
  have HC : Hid (chk T l R L = (-1, 10)) := Lib.hid (by
    have he : hdE T l.length R L = 10 := by
      unfold hdE
      rw [rng_in (n := T) h1 h2, rng_in (n := (l.length : Int)) (by omega) (by omega), rng_lo (n := R) h]; rfl
    unfold chk
    rw [he]
    rfl)
  have hC := (Blk.new w #[.int .i64 T, .slice a l.length cap, .int .i64 R, .int .i64 L] 24).alloc (.cells #[.int .i64 0, .int .i64 0] 63)
  have hR := Blk.new (w.alloc (.cells #[.int .i64 T, .slice a l.length cap, .int .i64 R, .int .i64 L] 24)) #[.int .i64 0, .int .i64 0] 63
  simp only [World.size_alloc] at hR
  have hB := ((Below.refl w.heap.size w).alloc (Nat.le_refl _) (.cells #[.int .i64 T, .slice a l.length cap, .int .i64 R, .int .i64 L] 24)).alloc (by simp) (.cells #[.int .i64 0, .int .i64 0] 63)
  have c0 := hC.cell (i := 0) rfl
  have c1 := hC.cell (i := 1) rfl
  have c2 := hC.cell (i := 2) rfl
  have c3 := hC.cell (i := 3) rfl
  have t1 : decide (T < 1) = false := decide_eq_false (by omega)
  have t2 : decide (8 < T) = false := decide_eq_false (by omega)
  have n1 : decide ((l.length : Int) < 1) = false := decide_eq_false (by omega)
  have n2 : decide ((64 : Int) < (l.length : Int)) = false := decide_eq_false (by omega)
  have r1 : decide (R < 1) = true := decide_eq_true (by omega)
  have y0 := hR.cell (i := 0) rfl
  have y1 := hR.cell (i := 1) rfl
  have HB := Lib.hid (And.intro hC (And.intro hR hB))
  clear hC hR hB
  go_enter Try.func21, Try.ntmps21
  go_wp2
  have hX := Blk.new (w.alloc (.cells #[.int .i64 T, .slice a l.length cap, .int .i64 R, .int .i64 L] 24)) #[.int .i64 (-1), .int .i64 10] 63
  simp only [World.size_alloc] at hX
  have e0 := hX.cell (i := 0) rfl
  have e1 := hX.cell (i := 1) rfl
  rw [HC.out]
  exact bodyPost_ret (v := .agg #[.int .i64 (-1), .int .i64 10]) (by simp [results, Try.results21, go_sem, e0, e1]) rfl ⟨rfl, ((Below.refl w.heap.size w).alloc (Nat.le_refl _) _).alloc (by simp) _⟩
set_option maxRecDepth 100000 in
set_option maxHeartbeats 1000000 in
theorem rchk_r2 (T R L : Int) (a : Option Addr) (cap : Nat) (l : List Tp) (w : World) (h1 : 1 ≤ T) (h2 : T ≤ 8) (h3 : 1 ≤ l.length) (h4 : l.length ≤ 64) (h : 16 < R) : Calls Try.prog 21 #[cfg T a l.length cap R L] w (Ret (flt (chk T l R L)) w) := by
  have HC : Hid (chk T l R L = (-1, 10)) := Lib.hid (by
    have he : hdE T l.length R L = 10 := by
      unfold hdE
      rw [rng_in (n := T) h1 h2, rng_in (n := (l.length : Int)) (by omega) (by omega), rng_hi (n := R) (a := 1) h]; rfl
    unfold chk
    rw [he]
    rfl)
  have hC := (Blk.new w #[.int .i64 T, .slice a l.length cap, .int .i64 R, .int .i64 L] 24).alloc (.cells #[.int .i64 0, .int .i64 0] 63)
  have hR := Blk.new (w.alloc (.cells #[.int .i64 T, .slice a l.length cap, .int .i64 R, .int .i64 L] 24)) #[.int .i64 0, .int .i64 0] 63
  simp only [World.size_alloc] at hR
  have hB := ((Below.refl w.heap.size w).alloc (Nat.le_refl _) (.cells #[.int .i64 T, .slice a l.length cap, .int .i64 R, .int .i64 L] 24)).alloc (by simp) (.cells #[.int .i64 0, .int .i64 0] 63)
  have c0 := hC.cell (i := 0) rfl
  have c1 := hC.cell (i := 1) rfl
  have c2 := hC.cell (i := 2) rfl
  have c3 := hC.cell (i := 3) rfl
  have t1 : decide (T < 1) = false := decide_eq_false (by omega)
  have t2 : decide (8 < T) = false := decide_eq_false (by omega)
  have n1 : decide ((l.length : Int) < 1) = false := decide_eq_false (by omega)
  have n2 : decide ((64 : Int) < (l.length : Int)) = false := decide_eq_false (by omega)
  have r1 : decide (R < 1) = false := decide_eq_false (by omega)
  have r2 : decide (16 < R) = true := decide_eq_true (by omega)
  have y0 := hR.cell (i := 0) rfl
  have y1 := hR.cell (i := 1) rfl
  have HB := Lib.hid (And.intro hC (And.intro hR hB))
  clear hC hR hB
  go_enter Try.func21, Try.ntmps21
  go_wp2
  have hX := Blk.new (w.alloc (.cells #[.int .i64 T, .slice a l.length cap, .int .i64 R, .int .i64 L] 24)) #[.int .i64 (-1), .int .i64 10] 63
  simp only [World.size_alloc] at hX
  have e0 := hX.cell (i := 0) rfl
  have e1 := hX.cell (i := 1) rfl
  rw [HC.out]
  exact bodyPost_ret (v := .agg #[.int .i64 (-1), .int .i64 10]) (by simp [results, Try.results21, go_sem, e0, e1]) rfl ⟨rfl, ((Below.refl w.heap.size w).alloc (Nat.le_refl _) _).alloc (by simp) _⟩
set_option maxRecDepth 100000 in
set_option maxHeartbeats 1000000 in
theorem rchk_g1 (T R L : Int) (a : Option Addr) (cap : Nat) (l : List Tp) (w : World) (h1 : 1 ≤ T) (h2 : T ≤ 8) (h3 : 1 ≤ l.length) (h4 : l.length ≤ 64) (h5 : 1 ≤ R) (h6 : R ≤ 16) (h : L < 1) : Calls Try.prog 21 #[cfg T a l.length cap R L] w (Ret (flt (chk T l R L)) w) := by
  have HC : Hid (chk T l R L = (-1, 10)) := Lib.hid (by
    have he : hdE T l.length R L = 10 := by
      unfold hdE
      rw [rng_in (n := T) h1 h2, rng_in (n := (l.length : Int)) (by omega) (by omega), rng_in (n := R) h5 h6, rng_lo (n := L) h]; rfl
    unfold chk
    rw [he]
    rfl)
  have hC := (Blk.new w #[.int .i64 T, .slice a l.length cap, .int .i64 R, .int .i64 L] 24).alloc (.cells #[.int .i64 0, .int .i64 0] 63)
  have hR := Blk.new (w.alloc (.cells #[.int .i64 T, .slice a l.length cap, .int .i64 R, .int .i64 L] 24)) #[.int .i64 0, .int .i64 0] 63
  simp only [World.size_alloc] at hR
  have hB := ((Below.refl w.heap.size w).alloc (Nat.le_refl _) (.cells #[.int .i64 T, .slice a l.length cap, .int .i64 R, .int .i64 L] 24)).alloc (by simp) (.cells #[.int .i64 0, .int .i64 0] 63)
  have c0 := hC.cell (i := 0) rfl
  have c1 := hC.cell (i := 1) rfl
  have c2 := hC.cell (i := 2) rfl
  have c3 := hC.cell (i := 3) rfl
  have t1 : decide (T < 1) = false := decide_eq_false (by omega)
  have t2 : decide (8 < T) = false := decide_eq_false (by omega)
  have n1 : decide ((l.length : Int) < 1) = false := decide_eq_false (by omega)
  have n2 : decide ((64 : Int) < (l.length : Int)) = false := decide_eq_false (by omega)
  have r1 : decide (R < 1) = false := decide_eq_false (by omega)
  have r2 : decide (16 < R) = false := decide_eq_false (by omega)
  have g1 : decide (L < 1) = true := decide_eq_true (by omega)
  have y0 := hR.cell (i := 0) rfl
  have y1 := hR.cell (i := 1) rfl
  have HB := Lib.hid (And.intro hC (And.intro hR hB))
  clear hC hR hB
  go_enter Try.func21, Try.ntmps21
  go_wp2
  have hX := Blk.new (w.alloc (.cells #[.int .i64 T, .slice a l.length cap, .int .i64 R, .int .i64 L] 24)) #[.int .i64 (-1), .int .i64 10] 63
  simp only [World.size_alloc] at hX
  have e0 := hX.cell (i := 0) rfl
  have e1 := hX.cell (i := 1) rfl
  rw [HC.out]
  exact bodyPost_ret (v := .agg #[.int .i64 (-1), .int .i64 10]) (by simp [results, Try.results21, go_sem, e0, e1]) rfl ⟨rfl, ((Below.refl w.heap.size w).alloc (Nat.le_refl _) _).alloc (by simp) _⟩
set_option maxRecDepth 100000 in
set_option maxHeartbeats 1000000 in
theorem rchk_g2 (T R L : Int) (a : Option Addr) (cap : Nat) (l : List Tp) (w : World) (h1 : 1 ≤ T) (h2 : T ≤ 8) (h3 : 1 ≤ l.length) (h4 : l.length ≤ 64) (h5 : 1 ≤ R) (h6 : R ≤ 16) (h : 64 < L) : Calls Try.prog 21 #[cfg T a l.length cap R L] w (Ret (flt (chk T l R L)) w) := by
  have HC : Hid (chk T l R L = (-1, 10)) := Lib.hid (by
    have he : hdE T l.length R L = 10 := by
      unfold hdE
      rw [rng_in (n := T) h1 h2, rng_in (n := (l.length : Int)) (by omega) (by omega), rng_in (n := R) h5 h6, rng_hi (n := L) (a := 1) h]; rfl
    unfold chk
    rw [he]
    rfl)
  have hC := (Blk.new w #[.int .i64 T, .slice a l.length cap, .int .i64 R, .int .i64 L] 24).alloc (.cells #[.int .i64 0, .int .i64 0] 63)
  have hR := Blk.new (w.alloc (.cells #[.int .i64 T, .slice a l.length cap, .int .i64 R, .int .i64 L] 24)) #[.int .i64 0, .int .i64 0] 63
  simp only [World.size_alloc] at hR
  have hB := ((Below.refl w.heap.size w).alloc (Nat.le_refl _) (.cells #[.int .i64 T, .slice a l.length cap, .int .i64 R, .int .i64 L] 24)).alloc (by simp) (.cells #[.int .i64 0, .int .i64 0] 63)
  have c0 := hC.cell (i := 0) rfl
  have c1 := hC.cell (i := 1) rfl
  have c2 := hC.cell (i := 2) rfl
  have c3 := hC.cell (i := 3) rfl
  have t1 : decide (T < 1) = false := decide_eq_false (by omega)
  have t2 : decide (8 < T) = false := decide_eq_false (by omega)
  have n1 : decide ((l.length : Int) < 1) = false := decide_eq_false (by omega)
  have n2 : decide ((64 : Int) < (l.length : Int)) = false := decide_eq_false (by omega)
  have r1 : decide (R < 1) = false := decide_eq_false (by omega)
  have r2 : decide (16 < R) = false := decide_eq_false (by omega)
  have g1 : decide (L < 1) = false := decide_eq_false (by omega)
  have g2 : decide (64 < L) = true := decide_eq_true (by omega)
  have y0 := hR.cell (i := 0) rfl
  have y1 := hR.cell (i := 1) rfl
  have HB := Lib.hid (And.intro hC (And.intro hR hB))
  clear hC hR hB
  go_enter Try.func21, Try.ntmps21
  go_wp2
  have hX := Blk.new (w.alloc (.cells #[.int .i64 T, .slice a l.length cap, .int .i64 R, .int .i64 L] 24)) #[.int .i64 (-1), .int .i64 10] 63
  simp only [World.size_alloc] at hX
  have e0 := hX.cell (i := 0) rfl
  have e1 := hX.cell (i := 1) rfl
  rw [HC.out]
  exact bodyPost_ret (v := .agg #[.int .i64 (-1), .int .i64 10]) (by simp [results, Try.results21, go_sem, e0, e1]) rfl ⟨rfl, ((Below.refl w.heap.size w).alloc (Nat.le_refl _) _).alloc (by simp) _⟩
set_option maxRecDepth 100000 in
set_option maxHeartbeats 2000000 in
theorem rchk_in (T R L : Int) (a : Option Addr) (cap : Nat) (l : List Tp) (w : World) (hT : Tps w.heap.size w a l) (hs : ∀ t ∈ l, t.1.size ≤ 100000) (h1 : 1 ≤ T) (h2 : T ≤ 8) (h3 : 1 ≤ l.length) (h4 : l.length ≤ 64) (h5 : 1 ≤ R) (h6 : R ≤ 16) (h7 : 1 ≤ L) (h8 : L ≤ 64) : Calls Try.prog 21 #[cfg T a l.length cap R L] w (Ret (flt (chk T l R L)) w) := by
  have hck : chk T l R L = tps (l.take 0) (l.drop 0) := by
    have he : hdE T l.length R L = 0 := by
      unfold hdE
      rw [rng_in (n := T) h1 h2, rng_in (n := (l.length : Int)) (by omega) (by omega), rng_in (n := R) h5 h6, rng_in (n := L) h7 h8]
      rfl
    unfold chk
    rw [he]
    rfl
  have hC := (Blk.new w #[.int .i64 T, .slice a l.length cap, .int .i64 R, .int .i64 L] 24).alloc (.cells #[.int .i64 0, .int .i64 0] 63)
  have hR := Blk.new (w.alloc (.cells #[.int .i64 T, .slice a l.length cap, .int .i64 R, .int .i64 L] 24)) #[.int .i64 0, .int .i64 0] 63
  simp only [World.size_alloc] at hR
  have hB := ((Below.refl w.heap.size w).alloc (Nat.le_refl _) (.cells #[.int .i64 T, .slice a l.length cap, .int .i64 R, .int .i64 L] 24)).alloc (by simp) (.cells #[.int .i64 0, .int .i64 0] 63)
  have c0 := hC.cell (i := 0) rfl
  have c1 := hC.cell (i := 1) rfl
  have c2 := hC.cell (i := 2) rfl
  have c3 := hC.cell (i := 3) rfl
  have t1 : decide (T < 1) = false := decide_eq_false (by omega)
  have t2 : decide (8 < T) = false := decide_eq_false (by omega)
  have n1 : decide ((l.length : Int) < 1) = false := decide_eq_false (by omega)
  have n2 : decide ((64 : Int) < (l.length : Int)) = false := decide_eq_false (by omega)
  have r1 : decide (R < 1) = false := decide_eq_false (by omega)
  have r2 : decide (16 < R) = false := decide_eq_false (by omega)
  have g1 : decide (L < 1) = false := decide_eq_false (by omega)
  have g2 : decide (64 < L) = false := decide_eq_false (by omega)
  have HB := Lib.hid (And.intro hC (And.intro hR (And.intro hB hck)))
  have HT := Lib.hid (And.intro hT hs)
  clear hC hR hB hT hs hck
  go_enter Try.func21, Try.ntmps21
  go_wp2_with fail
  go_loopw [3] (RelRc w T R L a cap l) (fun i _ => l.length - (intOf i).toNat)
  case atStart => exact ⟨0, by omega, rfl, HB.out.1, HB.out.2.1, HB.out.2.2.1, HB.out.2.2.2⟩
  case round =>
    clear HB c0 c1 c2 c3 t1 t2 n1 n2 r1 r2 g1 g2 h1 h2 h5 h6 h7 h8
    obtain ⟨k, hk, rfl, hC, hR, hB, hst⟩ := hrel
    have c0 := hC.cell (i := 0) rfl
    have c1 := hC.cell (i := 1) rfl
    have c2 := hC.cell (i := 2) rfl
    have c3 := hC.cell (i := 3) rfl
    by_cases hkl : k < l.length
    · obtain ⟨t, ht⟩ : ∃ t, l[k]? = some t := ⟨l[k], List.getElem?_eq_getElem hkl⟩
      have hts : t.1.size ≤ 100000 := HT.out.2 t (List.mem_of_getElem? ht)
      have k0 : (k : Int) < l.length := by omega
      have hTr := HT.out.1.below hB
      obtain ⟨b, off, rfl, hbl, u0, u1, u2⟩ := hTr k t ht
      have hdup := dup_find ht
      have hok : tpE (l.take k) t = 0 → chk T l R L = tps (l.take (k + 1)) (l.drop (k + 1)) := fun h => by rw [hst, tps_at_ok ht h]
      have hbad : ∀ y, tpE (l.take k) t = y → y ≠ 0 → chk T l R L = ((k : Int), y) := fun y h h' => by rw [hst, tps_at_bad ht (by rw [h]; exact h'), h]
      have hC1 := hC.alloc (.cells #[.string t.1, .int .i64 t.2.1, .int .i64 t.2.2] 58)
      have hR1 := hR.alloc (.cells #[.string t.1, .int .i64 t.2.1, .int .i64 t.2.2] 58)
      have hD1 := Blk.new wr #[.string t.1, .int .i64 t.2.1, .int .i64 t.2.2] 58
      have hB1 := hB.alloc hB.size (.cells #[.string t.1, .int .i64 t.2.1, .int .i64 t.2.2] 58)
      have hdr : w.heap.size + 1 < wr.heap.size := hR.lt
      obtain ⟨nm, wd, dp⟩ := t
      simp only at *
      have HX := Lib.hid (And.intro hok (And.intro hbad (And.intro hdup (And.intro hC1 (And.intro hR1 (And.intro hD1 hB1))))))
      have d0 := hD1.cell (i := 0) rfl
      have d1 := hD1.cell (i := 1) rfl
      have d2 := hD1.cell (i := 2) rfl
      have e0 := hC1.cell (i := 0) rfl
      have e1 := hC1.cell (i := 1) rfl
      have e2 := hC1.cell (i := 2) rfl
      have e3 := hC1.cell (i := 3) rfl
      clear hok hbad hdup hC1 hR1 hD1 hB1 hTr hC hR hB hst ht
      go_wp2_with fail
      refine (rname_any nm _ hts).mono ?_
      rintro e w' ⟨rfl, rfl⟩
      generalize wr.alloc (.cells #[.string nm, .int .i64 wd, .int .i64 dp] 58) = W at *
      clear c0 c1 c2 c3 u0 u1 u2
      by_cases hn : nmB (bs nm) = true
      · rw [hn]
        go_wp2_with fail
        have hTW := HT.out.1.below HX.out.2.2.2.2.2.2
        refine (rfind_any T R L (some ⟨b, off, none⟩) cap l nm W (hTW.mono HX.out.2.2.2.2.2.2.size) (by omega)).mono ?_
        rintro e w2 ⟨rfl, hb2⟩
        have hC2 := HX.out.2.2.2.1.low hb2
        have hR2 := HX.out.2.2.2.2.1.low hb2
        have hD2 := HX.out.2.2.2.2.2.1.low hb2
        have hB2 := HX.out.2.2.2.2.2.2.trans (hb2.mono HX.out.2.2.2.2.2.2.size)
        have hdup := HX.out.2.2.1
        clear hb2 d0 d1 d2 e0 e1 e2 e3 hTW
        by_cases hdp : dup (l.take k) nm = true
        · rw [hdp] at hdup
          have HC : Hid (chk T l R L = ((k : Int), 15)) := Lib.hid (HX.out.2.1 15 (by unfold tpE; simp [hn, hdp]) (by decide))
          generalize fdR l nm = fr at *
          clear HX hC2 hD2 hn hdp
          have z0 := hR2.frozen 0
          have z1 := hR2.frozen 1
          have y0 := hR2.cell (i := 0) rfl
          have y1 := hR2.cell (i := 1) rfl
          have hG2 := (hR2.put 0 (.int .i64 k)).put 1 (.int .i64 15)
          have hBf := (hB2.setCell (p := ⟨w.heap.size + 1, 0, none⟩) (by show w.heap.size ≤ w.heap.size + 1; omega) (.int .i64 k)).setCell (p := ⟨w.heap.size + 1, 1, none⟩) (by show w.heap.size ≤ w.heap.size + 1; omega) (.int .i64 15)
          have H9 := Lib.hid (And.intro hG2 hBf)
          clear hG2 hBf hR2 hB2
          go_wp2
          have e0 := H9.out.1.cell (i := 0) rfl
          have e1 := H9.out.1.cell (i := 1) rfl
          rw [HC.out]
          exact bodyPost_ret (v := .agg #[.int .i64 k, .int .i64 15]) (by simp [results, Try.results21, go_sem, e0, e1]) rfl ⟨rfl, H9.out.2⟩
        · have hdp' : dup (l.take k) nm = false := by simpa using hdp
          rw [hdp'] at hdup
          generalize fdR l nm = fr at *
          have d1 := hD2.cell (i := 1) rfl
          have d2 := hD2.cell (i := 2) rfl
          by_cases hr : rng wd 1 64 = 0 ∧ rng dp 2 16 = 0
          · obtain ⟨a1, a2⟩ := rng_zero hr.1
            obtain ⟨a3, a4⟩ := rng_zero hr.2
            have hst := HX.out.1 (by unfold tpE; simp [hn, hdp', hr.1, hr.2])
            have q1 : decide (wd < 1) = false := decide_eq_false (by omega)
            have q2 : decide (64 < wd) = false := decide_eq_false (by omega)
            have q3 : decide (dp < 2) = false := decide_eq_false (by omega)
            have q4 : decide (16 < dp) = false := decide_eq_false (by omega)
            have HS := Lib.hid (And.intro hC2 (And.intro hR2 (And.intro hB2 hst)))
            clear hC2 hR2 hB2 hst HX hD2 hn hdp hdp' hr a1 a2 a3 a4
            go_wp2
            go_roundw
            case rel => exact ⟨k + 1, by omega, by go_num, HS.out.1, HS.out.2.1, HS.out.2.2.1, HS.out.2.2.2⟩
            case measure => simp [intOf]; omega
          · have hE : tpE (l.take k) (nm, wd, dp) = 10 := by
              unfold tpE
              by_cases q : rng wd 1 64 = 0
              · have q2 : rng dp 2 16 ≠ 0 := fun h => hr ⟨q, h⟩
                simp [hn, hdp', q, rng_ne q2]
              · simp [hn, hdp', q]
            have HC : Hid (chk T l R L = ((k : Int), 10)) := Lib.hid (HX.out.2.1 10 hE (by decide))
            have hcs : wd < 1 ∨ 64 < wd ∨ (¬ wd < 1 ∧ ¬ 64 < wd ∧ (dp < 2 ∨ 16 < dp)) := by
              by_cases b1 : wd < 1
              · exact Or.inl b1
              · by_cases b2 : 64 < wd
                · exact Or.inr (Or.inl b2)
                · refine Or.inr (Or.inr ⟨b1, b2, ?_⟩)
                  by_cases b3 : dp < 2
                  · exact Or.inl b3
                  · by_cases b4 : 16 < dp
                    · exact Or.inr b4
                    · exact absurd ⟨rng_in (by omega) (by omega), rng_in (by omega) (by omega)⟩ hr
            clear HX hC2 hD2 hn hdp hdp' hr hE
            rcases hcs with b1 | b2 | ⟨b1, b2, b3 | b4⟩
            · have q1 : decide (wd < 1) = true := decide_eq_true b1
              have z0 := hR2.frozen 0
              have z1 := hR2.frozen 1
              have y0 := hR2.cell (i := 0) rfl
              have y1 := hR2.cell (i := 1) rfl
              have hG2 := (hR2.put 0 (.int .i64 k)).put 1 (.int .i64 10)
              have hBf := (hB2.setCell (p := ⟨w.heap.size + 1, 0, none⟩) (by show w.heap.size ≤ w.heap.size + 1; omega) (.int .i64 k)).setCell (p := ⟨w.heap.size + 1, 1, none⟩) (by show w.heap.size ≤ w.heap.size + 1; omega) (.int .i64 10)
              have H9 := Lib.hid (And.intro hG2 hBf)
              clear hG2 hBf hR2 hB2
              go_wp2
              have e0 := H9.out.1.cell (i := 0) rfl
              have e1 := H9.out.1.cell (i := 1) rfl
              rw [HC.out]
              exact bodyPost_ret (v := .agg #[.int .i64 k, .int .i64 10]) (by simp [results, Try.results21, go_sem, e0, e1]) rfl ⟨rfl, H9.out.2⟩
            · have q1 : decide (wd < 1) = false := decide_eq_false (by omega)
              have q2 : decide (64 < wd) = true := decide_eq_true b2
              have z0 := hR2.frozen 0
              have z1 := hR2.frozen 1
              have y0 := hR2.cell (i := 0) rfl
              have y1 := hR2.cell (i := 1) rfl
              have hG2 := (hR2.put 0 (.int .i64 k)).put 1 (.int .i64 10)
              have hBf := (hB2.setCell (p := ⟨w.heap.size + 1, 0, none⟩) (by show w.heap.size ≤ w.heap.size + 1; omega) (.int .i64 k)).setCell (p := ⟨w.heap.size + 1, 1, none⟩) (by show w.heap.size ≤ w.heap.size + 1; omega) (.int .i64 10)
              have H9 := Lib.hid (And.intro hG2 hBf)
              clear hG2 hBf hR2 hB2
              go_wp2
              have e0 := H9.out.1.cell (i := 0) rfl
              have e1 := H9.out.1.cell (i := 1) rfl
              rw [HC.out]
              exact bodyPost_ret (v := .agg #[.int .i64 k, .int .i64 10]) (by simp [results, Try.results21, go_sem, e0, e1]) rfl ⟨rfl, H9.out.2⟩
            · have q1 : decide (wd < 1) = false := decide_eq_false b1
              have q2 : decide (64 < wd) = false := decide_eq_false b2
              have q3 : decide (dp < 2) = true := decide_eq_true b3
              have z0 := hR2.frozen 0
              have z1 := hR2.frozen 1
              have y0 := hR2.cell (i := 0) rfl
              have y1 := hR2.cell (i := 1) rfl
              have hG2 := (hR2.put 0 (.int .i64 k)).put 1 (.int .i64 10)
              have hBf := (hB2.setCell (p := ⟨w.heap.size + 1, 0, none⟩) (by show w.heap.size ≤ w.heap.size + 1; omega) (.int .i64 k)).setCell (p := ⟨w.heap.size + 1, 1, none⟩) (by show w.heap.size ≤ w.heap.size + 1; omega) (.int .i64 10)
              have H9 := Lib.hid (And.intro hG2 hBf)
              clear hG2 hBf hR2 hB2
              go_wp2
              have e0 := H9.out.1.cell (i := 0) rfl
              have e1 := H9.out.1.cell (i := 1) rfl
              rw [HC.out]
              exact bodyPost_ret (v := .agg #[.int .i64 k, .int .i64 10]) (by simp [results, Try.results21, go_sem, e0, e1]) rfl ⟨rfl, H9.out.2⟩
            · have q1 : decide (wd < 1) = false := decide_eq_false b1
              have q2 : decide (64 < wd) = false := decide_eq_false b2
              have q3 : decide (dp < 2) = false := decide_eq_false (by omega)
              have q4 : decide (16 < dp) = true := decide_eq_true b4
              have z0 := hR2.frozen 0
              have z1 := hR2.frozen 1
              have y0 := hR2.cell (i := 0) rfl
              have y1 := hR2.cell (i := 1) rfl
              have hG2 := (hR2.put 0 (.int .i64 k)).put 1 (.int .i64 10)
              have hBf := (hB2.setCell (p := ⟨w.heap.size + 1, 0, none⟩) (by show w.heap.size ≤ w.heap.size + 1; omega) (.int .i64 k)).setCell (p := ⟨w.heap.size + 1, 1, none⟩) (by show w.heap.size ≤ w.heap.size + 1; omega) (.int .i64 10)
              have H9 := Lib.hid (And.intro hG2 hBf)
              clear hG2 hBf hR2 hB2
              go_wp2
              have e0 := H9.out.1.cell (i := 0) rfl
              have e1 := H9.out.1.cell (i := 1) rfl
              rw [HC.out]
              exact bodyPost_ret (v := .agg #[.int .i64 k, .int .i64 10]) (by simp [results, Try.results21, go_sem, e0, e1]) rfl ⟨rfl, H9.out.2⟩
      · have hn' : nmB (bs nm) = false := by simpa using hn
        rw [hn']
        have HC : Hid (chk T l R L = ((k : Int), 13)) := Lib.hid (HX.out.2.1 13 (by unfold tpE; simp [hn']) (by decide))
        have hR2 := HX.out.2.2.2.2.1
        have hB2 := HX.out.2.2.2.2.2.2
        clear HX hn hn' d0 d1 d2 e0 e1 e2 e3
        have z0 := hR2.frozen 0
        have z1 := hR2.frozen 1
        have y0 := hR2.cell (i := 0) rfl
        have y1 := hR2.cell (i := 1) rfl
        have hG2 := (hR2.put 0 (.int .i64 k)).put 1 (.int .i64 13)
        have hBf := (hB2.setCell (p := ⟨w.heap.size + 1, 0, none⟩) (by show w.heap.size ≤ w.heap.size + 1; omega) (.int .i64 k)).setCell (p := ⟨w.heap.size + 1, 1, none⟩) (by show w.heap.size ≤ w.heap.size + 1; omega) (.int .i64 13)
        have H9 := Lib.hid (And.intro hG2 hBf)
        clear hG2 hBf hR2 hB2
        go_wp2
        have e0 := H9.out.1.cell (i := 0) rfl
        have e1 := H9.out.1.cell (i := 1) rfl
        rw [HC.out]
        exact bodyPost_ret (v := .agg #[.int .i64 k, .int .i64 13]) (by simp [results, Try.results21, go_sem, e0, e1]) rfl ⟨rfl, H9.out.2⟩
    · have k0 : decide ((k : Int) < (l.length : Int)) = false := decide_eq_false (by omega)
      have HC : Hid (chk T l R L = (0, 0)) := Lib.hid (by
        rw [hst, show k = l.length by omega, tps_end])
      clear hst hC c0 c2 c3
      have z0 := hR.frozen 0
      have z1 := hR.frozen 1
      have y0 := hR.cell (i := 0) rfl
      have y1 := hR.cell (i := 1) rfl
      have hG2 := (hR.put 0 (.int .i64 0)).put 1 (.int .i64 0)
      have hBf := (hB.setCell (p := ⟨w.heap.size + 1, 0, none⟩) (by show w.heap.size ≤ w.heap.size + 1; omega) (.int .i64 0)).setCell (p := ⟨w.heap.size + 1, 1, none⟩) (by show w.heap.size ≤ w.heap.size + 1; omega) (.int .i64 0)
      have H9 := Lib.hid (And.intro hG2 hBf)
      clear hG2 hBf hR hB
      go_wp2
      have e0 := H9.out.1.cell (i := 0) rfl
      have e1 := H9.out.1.cell (i := 1) rfl
      rw [HC.out]
      exact bodyPost_ret (v := .agg #[.int .i64 0, .int .i64 0]) (by simp [results, Try.results21, go_sem, e0, e1]) rfl ⟨rfl, H9.out.2⟩

theorem rcheck_any (T R L : Int) (a : Option Addr) (cap : Nat) (l : List Tp) (w : World) (hT : Tps w.heap.size w a l) (hs : ∀ t ∈ l, t.1.size ≤ 100000) : Calls Try.prog 21 #[cfg T a l.length cap R L] w (Ret (flt (chk T l R L)) w) := by
  by_cases t1 : T < 1
  · exact rchk_t1 T R L a cap l w t1
  by_cases t2 : 8 < T
  · exact rchk_t2 T R L a cap l w t2
  by_cases n1 : l.length < 1
  · exact rchk_n1 T R L a cap l w (by omega) (by omega) n1
  by_cases n2 : 64 < l.length
  · exact rchk_n2 T R L a cap l w (by omega) (by omega) n2
  by_cases r1 : R < 1
  · exact rchk_r1 T R L a cap l w (by omega) (by omega) (by omega) (by omega) r1
  by_cases r2 : 16 < R
  · exact rchk_r2 T R L a cap l w (by omega) (by omega) (by omega) (by omega) r2
  by_cases g1 : L < 1
  · exact rchk_g1 T R L a cap l w (by omega) (by omega) (by omega) (by omega) (by omega) (by omega) g1
  by_cases g2 : 64 < L
  · exact rchk_g2 T R L a cap l w (by omega) (by omega) (by omega) (by omega) (by omega) (by omega) g2
  exact rchk_in T R L a cap l w hT hs (by omega) (by omega) (by omega) (by omega) (by omega) (by omega) (by omega) (by omega)
end Go.Proofs.Ytdnjoflahiffhaa
