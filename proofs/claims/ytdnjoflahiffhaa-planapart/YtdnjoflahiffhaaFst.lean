/- config's first: its contract, at the looks it is given. -/
import Derived.Test.YtdnjoflahiffhaaLok
import Derived.LoopN
namespace Go.Proofs.Ytdnjoflahiffhaa
open Go.RowKit

def four (e0 e1 e2 e3 : Int) : Int := if e0 ≠ 0 then e0 else if e1 ≠ 0 then e1 else if e2 ≠ 0 then e2 else e3
def fl (x e : Int) : Value := if e ≠ 0 then .agg #[.int .i64 x, .int .i64 e] else .agg #[.int .i64 0, .int .i64 0]
/-- At the head of first's loop. -/
def RelF (w : World) (e0 e1 e2 e3 : Int) (i : Value) (wr : World) : Prop :=
  ∃ k : Nat, k ≤ 4 ∧ i = .int .i64 k ∧ (0 < k → e0 = 0) ∧ (1 < k → e1 = 0) ∧ (2 < k → e2 = 0) ∧ (3 < k → e3 = 0) ∧ ∃ m, wr = (w.alloc (.cells #[.int .i64 0, .int .i64 0] 61)).drewN m
set_option maxRecDepth 100000 in
set_option maxHeartbeats 2000000 in
theorem first_a (w : World) (g q : Nat) (vs : List Value) (x e0 e1 e2 e3 : Int) (hG : Blk w g vs) (hx : vs[4]? = some (.int .i64 x))
    (hQ : Blk w q [.func (.func 28) #[.pointer (some ⟨g, 0, none⟩)] #[], .func (.func 29) #[.pointer (some ⟨g, 0, none⟩)] #[], .func (.func 30) #[.pointer (some ⟨g, 0, none⟩)] #[], .func (.func 31) #[.pointer (some ⟨g, 0, none⟩)] #[]])
    (H0 : ∀ n, Calls Try.prog 28 #[.pointer (some ⟨g, 0, none⟩)] ((w.alloc (.cells #[.int .i64 0, .int .i64 0] 61)).drewN n) (fun e w' => e = .returned (.int .i64 e0) ∧ ∃ m, w' = ((w.alloc (.cells #[.int .i64 0, .int .i64 0] 61)).drewN n).drewN m))
    (H1 : ∀ n, Calls Try.prog 29 #[.pointer (some ⟨g, 0, none⟩)] ((w.alloc (.cells #[.int .i64 0, .int .i64 0] 61)).drewN n) (fun e w' => e = .returned (.int .i64 e1) ∧ ∃ m, w' = ((w.alloc (.cells #[.int .i64 0, .int .i64 0] 61)).drewN n).drewN m))
    (H2 : ∀ n, Calls Try.prog 30 #[.pointer (some ⟨g, 0, none⟩)] ((w.alloc (.cells #[.int .i64 0, .int .i64 0] 61)).drewN n) (fun e w' => e = .returned (.int .i64 e2) ∧ ∃ m, w' = ((w.alloc (.cells #[.int .i64 0, .int .i64 0] 61)).drewN n).drewN m))
    (H3 : ∀ n, Calls Try.prog 31 #[.pointer (some ⟨g, 0, none⟩)] ((w.alloc (.cells #[.int .i64 0, .int .i64 0] 61)).drewN n) (fun e w' => e = .returned (.int .i64 e3) ∧ ∃ m, w' = ((w.alloc (.cells #[.int .i64 0, .int .i64 0] 61)).drewN n).drewN m))
    : Calls Try.prog 27 #[.pointer (some ⟨g, 0, none⟩), .slice (some ⟨q, 0, none⟩) 4 4] w (Ret (fl x (four e0 e1 e2 e3)) w) := by
  have G0 := Lib.hid H0
  have G1 := Lib.hid H1
  have G2 := Lib.hid H2
  have G3 := Lib.hid H3
  clear H0 H1 H2 H3
  have hx0 := (hG.alloc (.cells #[.int .i64 0, .int .i64 0] 61)).cell hx
  have hq0 := (hQ.alloc (.cells #[.int .i64 0, .int .i64 0] 61)).cell (i := 0) rfl
  have hq1 := (hQ.alloc (.cells #[.int .i64 0, .int .i64 0] 61)).cell (i := 1) rfl
  have hq2 := (hQ.alloc (.cells #[.int .i64 0, .int .i64 0] 61)).cell (i := 2) rfl
  have hq3 := (hQ.alloc (.cells #[.int .i64 0, .int .i64 0] 61)).cell (i := 3) rfl
  have hB := (Below.refl w.heap.size w).alloc (Nat.le_refl _) (.cells #[.int .i64 0, .int .i64 0] 61)
  have hN := Blk.new w #[.int .i64 0, .int .i64 0] 61
  have HB := Lib.hid (And.intro hB hN)
  clear hB hN hG hQ hx
  go_enter Try.func27, Try.ntmps27
  go_wp2
  go_loopw [10] (RelF w e0 e1 e2 e3) (fun i _ => 4 - (intOf i).toNat)
  case atStart => exact ⟨0, by omega, rfl, fun h => by omega, fun h => by omega, fun h => by omega, fun h => by omega, 0, rfl⟩
  case round =>
    obtain ⟨k, hk, rfl, p0, p1, p2, p3, m, rfl⟩ := hrel
    have P := Lib.hid (And.intro p0 (And.intro p1 (And.intro p2 p3)))
    clear p0 p1 p2 p3
    have hx0' : ((w.alloc (.cells #[.int .i64 0, .int .i64 0] 61)).drewN m).cell? ⟨g, 4, none⟩ = some (.int .i64 x) := hx0
    have hq0' : ((w.alloc (.cells #[.int .i64 0, .int .i64 0] 61)).drewN m).cell? ⟨q, 0, none⟩ = some (.func (.func 28) #[.pointer (some ⟨g, 0, none⟩)] #[]) := hq0
    have hq1' : ((w.alloc (.cells #[.int .i64 0, .int .i64 0] 61)).drewN m).cell? ⟨q, 1, none⟩ = some (.func (.func 29) #[.pointer (some ⟨g, 0, none⟩)] #[]) := hq1
    have hq2' : ((w.alloc (.cells #[.int .i64 0, .int .i64 0] 61)).drewN m).cell? ⟨q, 2, none⟩ = some (.func (.func 30) #[.pointer (some ⟨g, 0, none⟩)] #[]) := hq2
    have hq3' : ((w.alloc (.cells #[.int .i64 0, .int .i64 0] 61)).drewN m).cell? ⟨q, 3, none⟩ = some (.func (.func 31) #[.pointer (some ⟨g, 0, none⟩)] #[]) := hq3
    clear hx0 hq0 hq1 hq2 hq3
    match k, hk with
    | 0, hk =>
      clear hq1' hq2' hq3'
      have hc := G0.out m
      by_cases he : e0 = 0
      · rw [he] at hc
        have He := Lib.hid he
        clear he hx0'
        go_wp2_with fail
        refine hc.mono ?_
        rintro e w' ⟨rfl, n, rfl⟩
        clear hc
        go_wp2
        go_roundw
        case rel => exact ⟨1, by omega, by go_num, fun _ => He.out, fun h => by omega, fun h => by omega, fun h => by omega, m + n, rfl⟩
        case measure => simp [intOf]
      · have he' : (e0 != 0) = true := by simpa using he
        have hf : fl x (four e0 e1 e2 e3) = .agg #[.int .i64 x, .int .i64 e0] := by
          unfold fl four
          simp [he]
        have Hf := Lib.hid hf
        clear he hf
        have z0 : (((w.alloc (.cells #[.int .i64 0, .int .i64 0] 61)).drewN m)).frozen? ⟨w.heap.size, 0, none⟩ = false := HB.out.2.frozen 0
        go_wp2_with fail
        refine hc.mono ?_
        rintro e w' ⟨rfl, n, rfl⟩
        clear hc
        rw [World.drewN_drewN]
        have hxx : ((w.alloc (.cells #[.int .i64 0, .int .i64 0] 61)).drewN (m + n)).cell? ⟨g, 4, none⟩ = some (.int .i64 x) := hx0'
        have hNN : Blk ((w.alloc (.cells #[.int .i64 0, .int .i64 0] 61)).drewN (m + n)) w.heap.size [.int .i64 0, .int .i64 0] := HB.out.2
        have hBB : Below w.heap.size w ((w.alloc (.cells #[.int .i64 0, .int .i64 0] 61)).drewN (m + n)) := belN HB.out.1 _
        clear hx0' z0 HB
        generalize (w.alloc (.cells #[.int .i64 0, .int .i64 0] 61)).drewN (m + n) = W at *
        have z0 := hNN.frozen 0
        have z1 := hNN.frozen 1
        have y0 := hNN.cell (i := 0) rfl
        have y1 := hNN.cell (i := 1) rfl
        have hNB := Lib.hid (And.intro hNN hBB)
        clear hNN hBB
        go_wp2
        have hG2 := (hNB.out.1.put 0 (.int .i64 x)).put 1 (.int .i64 e0)
        have d0 := hG2.cell (i := 0) rfl
        have d1 := hG2.cell (i := 1) rfl
        rw [Hf.out]
        exact bodyPost_ret (v := .agg #[.int .i64 x, .int .i64 e0]) (by simp [results, Try.results27, go_sem, d0, d1]) rfl ⟨rfl, (hNB.out.2.setCell (p := ⟨w.heap.size, 0, none⟩) (Nat.le_refl _) (.int .i64 x)).setCell (p := ⟨w.heap.size, 1, none⟩) (Nat.le_refl _) (.int .i64 e0)⟩
    | 1, hk =>
      clear hq0' hq2' hq3'
      have hc := G1.out m
      by_cases he : e1 = 0
      · rw [he] at hc
        have He := Lib.hid he
        clear he hx0'
        go_wp2_with fail
        refine hc.mono ?_
        rintro e w' ⟨rfl, n, rfl⟩
        clear hc
        go_wp2
        go_roundw
        case rel => exact ⟨2, by omega, by go_num, fun _ => P.out.1 (by omega), fun _ => He.out, fun h => by omega, fun h => by omega, m + n, rfl⟩
        case measure => simp [intOf]
      · have he' : (e1 != 0) = true := by simpa using he
        have hf : fl x (four e0 e1 e2 e3) = .agg #[.int .i64 x, .int .i64 e1] := by
          unfold fl four
          simp [P.out.1 (by omega), he]
        have Hf := Lib.hid hf
        clear he hf
        have z0 : (((w.alloc (.cells #[.int .i64 0, .int .i64 0] 61)).drewN m)).frozen? ⟨w.heap.size, 0, none⟩ = false := HB.out.2.frozen 0
        go_wp2_with fail
        refine hc.mono ?_
        rintro e w' ⟨rfl, n, rfl⟩
        clear hc
        rw [World.drewN_drewN]
        have hxx : ((w.alloc (.cells #[.int .i64 0, .int .i64 0] 61)).drewN (m + n)).cell? ⟨g, 4, none⟩ = some (.int .i64 x) := hx0'
        have hNN : Blk ((w.alloc (.cells #[.int .i64 0, .int .i64 0] 61)).drewN (m + n)) w.heap.size [.int .i64 0, .int .i64 0] := HB.out.2
        have hBB : Below w.heap.size w ((w.alloc (.cells #[.int .i64 0, .int .i64 0] 61)).drewN (m + n)) := belN HB.out.1 _
        clear hx0' z0 HB
        generalize (w.alloc (.cells #[.int .i64 0, .int .i64 0] 61)).drewN (m + n) = W at *
        have z0 := hNN.frozen 0
        have z1 := hNN.frozen 1
        have y0 := hNN.cell (i := 0) rfl
        have y1 := hNN.cell (i := 1) rfl
        have hNB := Lib.hid (And.intro hNN hBB)
        clear hNN hBB
        go_wp2
        have hG2 := (hNB.out.1.put 0 (.int .i64 x)).put 1 (.int .i64 e1)
        have d0 := hG2.cell (i := 0) rfl
        have d1 := hG2.cell (i := 1) rfl
        rw [Hf.out]
        exact bodyPost_ret (v := .agg #[.int .i64 x, .int .i64 e1]) (by simp [results, Try.results27, go_sem, d0, d1]) rfl ⟨rfl, (hNB.out.2.setCell (p := ⟨w.heap.size, 0, none⟩) (Nat.le_refl _) (.int .i64 x)).setCell (p := ⟨w.heap.size, 1, none⟩) (Nat.le_refl _) (.int .i64 e1)⟩
    | 2, hk =>
      clear hq0' hq1' hq3'
      have hc := G2.out m
      by_cases he : e2 = 0
      · rw [he] at hc
        have He := Lib.hid he
        clear he hx0'
        go_wp2_with fail
        refine hc.mono ?_
        rintro e w' ⟨rfl, n, rfl⟩
        clear hc
        go_wp2
        go_roundw
        case rel => exact ⟨3, by omega, by go_num, fun _ => P.out.1 (by omega), fun _ => P.out.2.1 (by omega), fun _ => He.out, fun h => by omega, m + n, rfl⟩
        case measure => simp [intOf]
      · have he' : (e2 != 0) = true := by simpa using he
        have hf : fl x (four e0 e1 e2 e3) = .agg #[.int .i64 x, .int .i64 e2] := by
          unfold fl four
          simp [P.out.1 (by omega), P.out.2.1 (by omega), he]
        have Hf := Lib.hid hf
        clear he hf
        have z0 : (((w.alloc (.cells #[.int .i64 0, .int .i64 0] 61)).drewN m)).frozen? ⟨w.heap.size, 0, none⟩ = false := HB.out.2.frozen 0
        go_wp2_with fail
        refine hc.mono ?_
        rintro e w' ⟨rfl, n, rfl⟩
        clear hc
        rw [World.drewN_drewN]
        have hxx : ((w.alloc (.cells #[.int .i64 0, .int .i64 0] 61)).drewN (m + n)).cell? ⟨g, 4, none⟩ = some (.int .i64 x) := hx0'
        have hNN : Blk ((w.alloc (.cells #[.int .i64 0, .int .i64 0] 61)).drewN (m + n)) w.heap.size [.int .i64 0, .int .i64 0] := HB.out.2
        have hBB : Below w.heap.size w ((w.alloc (.cells #[.int .i64 0, .int .i64 0] 61)).drewN (m + n)) := belN HB.out.1 _
        clear hx0' z0 HB
        generalize (w.alloc (.cells #[.int .i64 0, .int .i64 0] 61)).drewN (m + n) = W at *
        have z0 := hNN.frozen 0
        have z1 := hNN.frozen 1
        have y0 := hNN.cell (i := 0) rfl
        have y1 := hNN.cell (i := 1) rfl
        have hNB := Lib.hid (And.intro hNN hBB)
        clear hNN hBB
        go_wp2
        have hG2 := (hNB.out.1.put 0 (.int .i64 x)).put 1 (.int .i64 e2)
        have d0 := hG2.cell (i := 0) rfl
        have d1 := hG2.cell (i := 1) rfl
        rw [Hf.out]
        exact bodyPost_ret (v := .agg #[.int .i64 x, .int .i64 e2]) (by simp [results, Try.results27, go_sem, d0, d1]) rfl ⟨rfl, (hNB.out.2.setCell (p := ⟨w.heap.size, 0, none⟩) (Nat.le_refl _) (.int .i64 x)).setCell (p := ⟨w.heap.size, 1, none⟩) (Nat.le_refl _) (.int .i64 e2)⟩
    | 3, hk =>
      clear hq0' hq1' hq2'
      have hc := G3.out m
      by_cases he : e3 = 0
      · rw [he] at hc
        have He := Lib.hid he
        clear he hx0'
        go_wp2_with fail
        refine hc.mono ?_
        rintro e w' ⟨rfl, n, rfl⟩
        clear hc
        go_wp2
        go_roundw
        case rel => exact ⟨4, by omega, by go_num, fun _ => P.out.1 (by omega), fun _ => P.out.2.1 (by omega), fun _ => P.out.2.2.1 (by omega), fun _ => He.out, m + n, rfl⟩
        case measure => simp [intOf]
      · have he' : (e3 != 0) = true := by simpa using he
        have hf : fl x (four e0 e1 e2 e3) = .agg #[.int .i64 x, .int .i64 e3] := by
          unfold fl four
          simp [P.out.1 (by omega), P.out.2.1 (by omega), P.out.2.2.1 (by omega), he]
        have Hf := Lib.hid hf
        clear he hf
        have z0 : (((w.alloc (.cells #[.int .i64 0, .int .i64 0] 61)).drewN m)).frozen? ⟨w.heap.size, 0, none⟩ = false := HB.out.2.frozen 0
        go_wp2_with fail
        refine hc.mono ?_
        rintro e w' ⟨rfl, n, rfl⟩
        clear hc
        rw [World.drewN_drewN]
        have hxx : ((w.alloc (.cells #[.int .i64 0, .int .i64 0] 61)).drewN (m + n)).cell? ⟨g, 4, none⟩ = some (.int .i64 x) := hx0'
        have hNN : Blk ((w.alloc (.cells #[.int .i64 0, .int .i64 0] 61)).drewN (m + n)) w.heap.size [.int .i64 0, .int .i64 0] := HB.out.2
        have hBB : Below w.heap.size w ((w.alloc (.cells #[.int .i64 0, .int .i64 0] 61)).drewN (m + n)) := belN HB.out.1 _
        clear hx0' z0 HB
        generalize (w.alloc (.cells #[.int .i64 0, .int .i64 0] 61)).drewN (m + n) = W at *
        have z0 := hNN.frozen 0
        have z1 := hNN.frozen 1
        have y0 := hNN.cell (i := 0) rfl
        have y1 := hNN.cell (i := 1) rfl
        have hNB := Lib.hid (And.intro hNN hBB)
        clear hNN hBB
        go_wp2
        have hG2 := (hNB.out.1.put 0 (.int .i64 x)).put 1 (.int .i64 e3)
        have d0 := hG2.cell (i := 0) rfl
        have d1 := hG2.cell (i := 1) rfl
        rw [Hf.out]
        exact bodyPost_ret (v := .agg #[.int .i64 x, .int .i64 e3]) (by simp [results, Try.results27, go_sem, d0, d1]) rfl ⟨rfl, (hNB.out.2.setCell (p := ⟨w.heap.size, 0, none⟩) (Nat.le_refl _) (.int .i64 x)).setCell (p := ⟨w.heap.size, 1, none⟩) (Nat.le_refl _) (.int .i64 e3)⟩
    | 4, hk =>
      have hf : fl x (four e0 e1 e2 e3) = .agg #[.int .i64 0, .int .i64 0] := by
        unfold fl four
        simp [P.out.1 (by omega), P.out.2.1 (by omega), P.out.2.2.1 (by omega), P.out.2.2.2 (by omega)]
      have Hf := Lib.hid hf
      clear hf hq0' hq1' hq2' hq3' hx0'
      have hNN : Blk ((w.alloc (.cells #[.int .i64 0, .int .i64 0] 61)).drewN m) w.heap.size [.int .i64 0, .int .i64 0] := HB.out.2
      have hBB : Below w.heap.size w ((w.alloc (.cells #[.int .i64 0, .int .i64 0] 61)).drewN m) := belN HB.out.1 _
      clear HB
      have z0 := hNN.frozen 0
      have z1 := hNN.frozen 1
      have y0 := hNN.cell (i := 0) rfl
      have y1 := hNN.cell (i := 1) rfl
      have hNB := Lib.hid (And.intro hNN hBB)
      clear hNN hBB
      generalize (w.alloc (.cells #[.int .i64 0, .int .i64 0] 61)).drewN m = W at *
      go_wp2
      have hG2 := (hNB.out.1.put 0 (.int .i64 0)).put 1 (.int .i64 0)
      have d0 := hG2.cell (i := 0) rfl
      have d1 := hG2.cell (i := 1) rfl
      rw [Hf.out]
      exact bodyPost_ret (v := .agg #[.int .i64 0, .int .i64 0]) (by simp [results, Try.results27, go_sem, d0, d1]) rfl ⟨rfl, (hNB.out.2.setCell (p := ⟨w.heap.size, 0, none⟩) (Nat.le_refl _) (.int .i64 0)).setCell (p := ⟨w.heap.size, 1, none⟩) (Nat.le_refl _) (.int .i64 0)⟩
set_option maxRecDepth 100000 in
set_option maxHeartbeats 2000000 in
theorem first_b (w : World) (g q : Nat) (vs : List Value) (x e0 e1 e2 e3 : Int) (hG : Blk w g vs) (hx : vs[4]? = some (.int .i64 x))
    (hQ : Blk w q [.func (.func 32) #[.pointer (some ⟨g, 0, none⟩)] #[], .func (.func 33) #[.pointer (some ⟨g, 0, none⟩)] #[], .func (.func 34) #[.pointer (some ⟨g, 0, none⟩)] #[], .func (.func 35) #[.pointer (some ⟨g, 0, none⟩)] #[]])
    (H0 : ∀ n, Calls Try.prog 32 #[.pointer (some ⟨g, 0, none⟩)] ((w.alloc (.cells #[.int .i64 0, .int .i64 0] 61)).drewN n) (fun e w' => e = .returned (.int .i64 e0) ∧ ∃ m, w' = ((w.alloc (.cells #[.int .i64 0, .int .i64 0] 61)).drewN n).drewN m))
    (H1 : ∀ n, Calls Try.prog 33 #[.pointer (some ⟨g, 0, none⟩)] ((w.alloc (.cells #[.int .i64 0, .int .i64 0] 61)).drewN n) (fun e w' => e = .returned (.int .i64 e1) ∧ ∃ m, w' = ((w.alloc (.cells #[.int .i64 0, .int .i64 0] 61)).drewN n).drewN m))
    (H2 : ∀ n, Calls Try.prog 34 #[.pointer (some ⟨g, 0, none⟩)] ((w.alloc (.cells #[.int .i64 0, .int .i64 0] 61)).drewN n) (fun e w' => e = .returned (.int .i64 e2) ∧ ∃ m, w' = ((w.alloc (.cells #[.int .i64 0, .int .i64 0] 61)).drewN n).drewN m))
    (H3 : ∀ n, Calls Try.prog 35 #[.pointer (some ⟨g, 0, none⟩)] ((w.alloc (.cells #[.int .i64 0, .int .i64 0] 61)).drewN n) (fun e w' => e = .returned (.int .i64 e3) ∧ ∃ m, w' = ((w.alloc (.cells #[.int .i64 0, .int .i64 0] 61)).drewN n).drewN m))
    : Calls Try.prog 27 #[.pointer (some ⟨g, 0, none⟩), .slice (some ⟨q, 0, none⟩) 4 4] w (Ret (fl x (four e0 e1 e2 e3)) w) := by
  have G0 := Lib.hid H0
  have G1 := Lib.hid H1
  have G2 := Lib.hid H2
  have G3 := Lib.hid H3
  clear H0 H1 H2 H3
  have hx0 := (hG.alloc (.cells #[.int .i64 0, .int .i64 0] 61)).cell hx
  have hq0 := (hQ.alloc (.cells #[.int .i64 0, .int .i64 0] 61)).cell (i := 0) rfl
  have hq1 := (hQ.alloc (.cells #[.int .i64 0, .int .i64 0] 61)).cell (i := 1) rfl
  have hq2 := (hQ.alloc (.cells #[.int .i64 0, .int .i64 0] 61)).cell (i := 2) rfl
  have hq3 := (hQ.alloc (.cells #[.int .i64 0, .int .i64 0] 61)).cell (i := 3) rfl
  have hB := (Below.refl w.heap.size w).alloc (Nat.le_refl _) (.cells #[.int .i64 0, .int .i64 0] 61)
  have hN := Blk.new w #[.int .i64 0, .int .i64 0] 61
  have HB := Lib.hid (And.intro hB hN)
  clear hB hN hG hQ hx
  go_enter Try.func27, Try.ntmps27
  go_wp2
  go_loopw [10] (RelF w e0 e1 e2 e3) (fun i _ => 4 - (intOf i).toNat)
  case atStart => exact ⟨0, by omega, rfl, fun h => by omega, fun h => by omega, fun h => by omega, fun h => by omega, 0, rfl⟩
  case round =>
    obtain ⟨k, hk, rfl, p0, p1, p2, p3, m, rfl⟩ := hrel
    have P := Lib.hid (And.intro p0 (And.intro p1 (And.intro p2 p3)))
    clear p0 p1 p2 p3
    have hx0' : ((w.alloc (.cells #[.int .i64 0, .int .i64 0] 61)).drewN m).cell? ⟨g, 4, none⟩ = some (.int .i64 x) := hx0
    have hq0' : ((w.alloc (.cells #[.int .i64 0, .int .i64 0] 61)).drewN m).cell? ⟨q, 0, none⟩ = some (.func (.func 32) #[.pointer (some ⟨g, 0, none⟩)] #[]) := hq0
    have hq1' : ((w.alloc (.cells #[.int .i64 0, .int .i64 0] 61)).drewN m).cell? ⟨q, 1, none⟩ = some (.func (.func 33) #[.pointer (some ⟨g, 0, none⟩)] #[]) := hq1
    have hq2' : ((w.alloc (.cells #[.int .i64 0, .int .i64 0] 61)).drewN m).cell? ⟨q, 2, none⟩ = some (.func (.func 34) #[.pointer (some ⟨g, 0, none⟩)] #[]) := hq2
    have hq3' : ((w.alloc (.cells #[.int .i64 0, .int .i64 0] 61)).drewN m).cell? ⟨q, 3, none⟩ = some (.func (.func 35) #[.pointer (some ⟨g, 0, none⟩)] #[]) := hq3
    clear hx0 hq0 hq1 hq2 hq3
    match k, hk with
    | 0, hk =>
      clear hq1' hq2' hq3'
      have hc := G0.out m
      by_cases he : e0 = 0
      · rw [he] at hc
        have He := Lib.hid he
        clear he hx0'
        go_wp2_with fail
        refine hc.mono ?_
        rintro e w' ⟨rfl, n, rfl⟩
        clear hc
        go_wp2
        go_roundw
        case rel => exact ⟨1, by omega, by go_num, fun _ => He.out, fun h => by omega, fun h => by omega, fun h => by omega, m + n, rfl⟩
        case measure => simp [intOf]
      · have he' : (e0 != 0) = true := by simpa using he
        have hf : fl x (four e0 e1 e2 e3) = .agg #[.int .i64 x, .int .i64 e0] := by
          unfold fl four
          simp [he]
        have Hf := Lib.hid hf
        clear he hf
        have z0 : (((w.alloc (.cells #[.int .i64 0, .int .i64 0] 61)).drewN m)).frozen? ⟨w.heap.size, 0, none⟩ = false := HB.out.2.frozen 0
        go_wp2_with fail
        refine hc.mono ?_
        rintro e w' ⟨rfl, n, rfl⟩
        clear hc
        rw [World.drewN_drewN]
        have hxx : ((w.alloc (.cells #[.int .i64 0, .int .i64 0] 61)).drewN (m + n)).cell? ⟨g, 4, none⟩ = some (.int .i64 x) := hx0'
        have hNN : Blk ((w.alloc (.cells #[.int .i64 0, .int .i64 0] 61)).drewN (m + n)) w.heap.size [.int .i64 0, .int .i64 0] := HB.out.2
        have hBB : Below w.heap.size w ((w.alloc (.cells #[.int .i64 0, .int .i64 0] 61)).drewN (m + n)) := belN HB.out.1 _
        clear hx0' z0 HB
        generalize (w.alloc (.cells #[.int .i64 0, .int .i64 0] 61)).drewN (m + n) = W at *
        have z0 := hNN.frozen 0
        have z1 := hNN.frozen 1
        have y0 := hNN.cell (i := 0) rfl
        have y1 := hNN.cell (i := 1) rfl
        have hNB := Lib.hid (And.intro hNN hBB)
        clear hNN hBB
        go_wp2
        have hG2 := (hNB.out.1.put 0 (.int .i64 x)).put 1 (.int .i64 e0)
        have d0 := hG2.cell (i := 0) rfl
        have d1 := hG2.cell (i := 1) rfl
        rw [Hf.out]
        exact bodyPost_ret (v := .agg #[.int .i64 x, .int .i64 e0]) (by simp [results, Try.results27, go_sem, d0, d1]) rfl ⟨rfl, (hNB.out.2.setCell (p := ⟨w.heap.size, 0, none⟩) (Nat.le_refl _) (.int .i64 x)).setCell (p := ⟨w.heap.size, 1, none⟩) (Nat.le_refl _) (.int .i64 e0)⟩
    | 1, hk =>
      clear hq0' hq2' hq3'
      have hc := G1.out m
      by_cases he : e1 = 0
      · rw [he] at hc
        have He := Lib.hid he
        clear he hx0'
        go_wp2_with fail
        refine hc.mono ?_
        rintro e w' ⟨rfl, n, rfl⟩
        clear hc
        go_wp2
        go_roundw
        case rel => exact ⟨2, by omega, by go_num, fun _ => P.out.1 (by omega), fun _ => He.out, fun h => by omega, fun h => by omega, m + n, rfl⟩
        case measure => simp [intOf]
      · have he' : (e1 != 0) = true := by simpa using he
        have hf : fl x (four e0 e1 e2 e3) = .agg #[.int .i64 x, .int .i64 e1] := by
          unfold fl four
          simp [P.out.1 (by omega), he]
        have Hf := Lib.hid hf
        clear he hf
        have z0 : (((w.alloc (.cells #[.int .i64 0, .int .i64 0] 61)).drewN m)).frozen? ⟨w.heap.size, 0, none⟩ = false := HB.out.2.frozen 0
        go_wp2_with fail
        refine hc.mono ?_
        rintro e w' ⟨rfl, n, rfl⟩
        clear hc
        rw [World.drewN_drewN]
        have hxx : ((w.alloc (.cells #[.int .i64 0, .int .i64 0] 61)).drewN (m + n)).cell? ⟨g, 4, none⟩ = some (.int .i64 x) := hx0'
        have hNN : Blk ((w.alloc (.cells #[.int .i64 0, .int .i64 0] 61)).drewN (m + n)) w.heap.size [.int .i64 0, .int .i64 0] := HB.out.2
        have hBB : Below w.heap.size w ((w.alloc (.cells #[.int .i64 0, .int .i64 0] 61)).drewN (m + n)) := belN HB.out.1 _
        clear hx0' z0 HB
        generalize (w.alloc (.cells #[.int .i64 0, .int .i64 0] 61)).drewN (m + n) = W at *
        have z0 := hNN.frozen 0
        have z1 := hNN.frozen 1
        have y0 := hNN.cell (i := 0) rfl
        have y1 := hNN.cell (i := 1) rfl
        have hNB := Lib.hid (And.intro hNN hBB)
        clear hNN hBB
        go_wp2
        have hG2 := (hNB.out.1.put 0 (.int .i64 x)).put 1 (.int .i64 e1)
        have d0 := hG2.cell (i := 0) rfl
        have d1 := hG2.cell (i := 1) rfl
        rw [Hf.out]
        exact bodyPost_ret (v := .agg #[.int .i64 x, .int .i64 e1]) (by simp [results, Try.results27, go_sem, d0, d1]) rfl ⟨rfl, (hNB.out.2.setCell (p := ⟨w.heap.size, 0, none⟩) (Nat.le_refl _) (.int .i64 x)).setCell (p := ⟨w.heap.size, 1, none⟩) (Nat.le_refl _) (.int .i64 e1)⟩
    | 2, hk =>
      clear hq0' hq1' hq3'
      have hc := G2.out m
      by_cases he : e2 = 0
      · rw [he] at hc
        have He := Lib.hid he
        clear he hx0'
        go_wp2_with fail
        refine hc.mono ?_
        rintro e w' ⟨rfl, n, rfl⟩
        clear hc
        go_wp2
        go_roundw
        case rel => exact ⟨3, by omega, by go_num, fun _ => P.out.1 (by omega), fun _ => P.out.2.1 (by omega), fun _ => He.out, fun h => by omega, m + n, rfl⟩
        case measure => simp [intOf]
      · have he' : (e2 != 0) = true := by simpa using he
        have hf : fl x (four e0 e1 e2 e3) = .agg #[.int .i64 x, .int .i64 e2] := by
          unfold fl four
          simp [P.out.1 (by omega), P.out.2.1 (by omega), he]
        have Hf := Lib.hid hf
        clear he hf
        have z0 : (((w.alloc (.cells #[.int .i64 0, .int .i64 0] 61)).drewN m)).frozen? ⟨w.heap.size, 0, none⟩ = false := HB.out.2.frozen 0
        go_wp2_with fail
        refine hc.mono ?_
        rintro e w' ⟨rfl, n, rfl⟩
        clear hc
        rw [World.drewN_drewN]
        have hxx : ((w.alloc (.cells #[.int .i64 0, .int .i64 0] 61)).drewN (m + n)).cell? ⟨g, 4, none⟩ = some (.int .i64 x) := hx0'
        have hNN : Blk ((w.alloc (.cells #[.int .i64 0, .int .i64 0] 61)).drewN (m + n)) w.heap.size [.int .i64 0, .int .i64 0] := HB.out.2
        have hBB : Below w.heap.size w ((w.alloc (.cells #[.int .i64 0, .int .i64 0] 61)).drewN (m + n)) := belN HB.out.1 _
        clear hx0' z0 HB
        generalize (w.alloc (.cells #[.int .i64 0, .int .i64 0] 61)).drewN (m + n) = W at *
        have z0 := hNN.frozen 0
        have z1 := hNN.frozen 1
        have y0 := hNN.cell (i := 0) rfl
        have y1 := hNN.cell (i := 1) rfl
        have hNB := Lib.hid (And.intro hNN hBB)
        clear hNN hBB
        go_wp2
        have hG2 := (hNB.out.1.put 0 (.int .i64 x)).put 1 (.int .i64 e2)
        have d0 := hG2.cell (i := 0) rfl
        have d1 := hG2.cell (i := 1) rfl
        rw [Hf.out]
        exact bodyPost_ret (v := .agg #[.int .i64 x, .int .i64 e2]) (by simp [results, Try.results27, go_sem, d0, d1]) rfl ⟨rfl, (hNB.out.2.setCell (p := ⟨w.heap.size, 0, none⟩) (Nat.le_refl _) (.int .i64 x)).setCell (p := ⟨w.heap.size, 1, none⟩) (Nat.le_refl _) (.int .i64 e2)⟩
    | 3, hk =>
      clear hq0' hq1' hq2'
      have hc := G3.out m
      by_cases he : e3 = 0
      · rw [he] at hc
        have He := Lib.hid he
        clear he hx0'
        go_wp2_with fail
        refine hc.mono ?_
        rintro e w' ⟨rfl, n, rfl⟩
        clear hc
        go_wp2
        go_roundw
        case rel => exact ⟨4, by omega, by go_num, fun _ => P.out.1 (by omega), fun _ => P.out.2.1 (by omega), fun _ => P.out.2.2.1 (by omega), fun _ => He.out, m + n, rfl⟩
        case measure => simp [intOf]
      · have he' : (e3 != 0) = true := by simpa using he
        have hf : fl x (four e0 e1 e2 e3) = .agg #[.int .i64 x, .int .i64 e3] := by
          unfold fl four
          simp [P.out.1 (by omega), P.out.2.1 (by omega), P.out.2.2.1 (by omega), he]
        have Hf := Lib.hid hf
        clear he hf
        have z0 : (((w.alloc (.cells #[.int .i64 0, .int .i64 0] 61)).drewN m)).frozen? ⟨w.heap.size, 0, none⟩ = false := HB.out.2.frozen 0
        go_wp2_with fail
        refine hc.mono ?_
        rintro e w' ⟨rfl, n, rfl⟩
        clear hc
        rw [World.drewN_drewN]
        have hxx : ((w.alloc (.cells #[.int .i64 0, .int .i64 0] 61)).drewN (m + n)).cell? ⟨g, 4, none⟩ = some (.int .i64 x) := hx0'
        have hNN : Blk ((w.alloc (.cells #[.int .i64 0, .int .i64 0] 61)).drewN (m + n)) w.heap.size [.int .i64 0, .int .i64 0] := HB.out.2
        have hBB : Below w.heap.size w ((w.alloc (.cells #[.int .i64 0, .int .i64 0] 61)).drewN (m + n)) := belN HB.out.1 _
        clear hx0' z0 HB
        generalize (w.alloc (.cells #[.int .i64 0, .int .i64 0] 61)).drewN (m + n) = W at *
        have z0 := hNN.frozen 0
        have z1 := hNN.frozen 1
        have y0 := hNN.cell (i := 0) rfl
        have y1 := hNN.cell (i := 1) rfl
        have hNB := Lib.hid (And.intro hNN hBB)
        clear hNN hBB
        go_wp2
        have hG2 := (hNB.out.1.put 0 (.int .i64 x)).put 1 (.int .i64 e3)
        have d0 := hG2.cell (i := 0) rfl
        have d1 := hG2.cell (i := 1) rfl
        rw [Hf.out]
        exact bodyPost_ret (v := .agg #[.int .i64 x, .int .i64 e3]) (by simp [results, Try.results27, go_sem, d0, d1]) rfl ⟨rfl, (hNB.out.2.setCell (p := ⟨w.heap.size, 0, none⟩) (Nat.le_refl _) (.int .i64 x)).setCell (p := ⟨w.heap.size, 1, none⟩) (Nat.le_refl _) (.int .i64 e3)⟩
    | 4, hk =>
      have hf : fl x (four e0 e1 e2 e3) = .agg #[.int .i64 0, .int .i64 0] := by
        unfold fl four
        simp [P.out.1 (by omega), P.out.2.1 (by omega), P.out.2.2.1 (by omega), P.out.2.2.2 (by omega)]
      have Hf := Lib.hid hf
      clear hf hq0' hq1' hq2' hq3' hx0'
      have hNN : Blk ((w.alloc (.cells #[.int .i64 0, .int .i64 0] 61)).drewN m) w.heap.size [.int .i64 0, .int .i64 0] := HB.out.2
      have hBB : Below w.heap.size w ((w.alloc (.cells #[.int .i64 0, .int .i64 0] 61)).drewN m) := belN HB.out.1 _
      clear HB
      have z0 := hNN.frozen 0
      have z1 := hNN.frozen 1
      have y0 := hNN.cell (i := 0) rfl
      have y1 := hNN.cell (i := 1) rfl
      have hNB := Lib.hid (And.intro hNN hBB)
      clear hNN hBB
      generalize (w.alloc (.cells #[.int .i64 0, .int .i64 0] 61)).drewN m = W at *
      go_wp2
      have hG2 := (hNB.out.1.put 0 (.int .i64 0)).put 1 (.int .i64 0)
      have d0 := hG2.cell (i := 0) rfl
      have d1 := hG2.cell (i := 1) rfl
      rw [Hf.out]
      exact bodyPost_ret (v := .agg #[.int .i64 0, .int .i64 0]) (by simp [results, Try.results27, go_sem, d0, d1]) rfl ⟨rfl, (hNB.out.2.setCell (p := ⟨w.heap.size, 0, none⟩) (Nat.le_refl _) (.int .i64 0)).setCell (p := ⟨w.heap.size, 1, none⟩) (Nat.le_refl _) (.int .i64 0)⟩
end Go.Proofs.Ytdnjoflahiffhaa
