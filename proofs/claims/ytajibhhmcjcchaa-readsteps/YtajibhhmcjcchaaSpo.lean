/- The law's own spot, and its bank. -/
import Derived.Test.YtajibhhmcjcchaaAwk
namespace Go.Proofs.Ytajibhhmcjcchaa
open Go.RowKit
def spS (n d : Int) : Sp := ⟨0, 1, 2, n, d⟩
def SpotPost (n d : Nat) (w : World) (e : Ending) (w' : World) : Prop :=
  ∃ b g : Nat, w.heap.size ≤ b ∧ w.heap.size ≤ g ∧ e = .returned (.tuple #[spv 0 1 2 n d, .pointer (some ⟨b, 0, none⟩), .bool true]) ∧ Bk w' b g (List.replicate (2 + n * d) 0) 0 ∧ Below w.heap.size w w'
abbrev so (a b c d e : Int) : Obj := .cells #[.int .i64 a, .int .i64 b, .int .i64 c, .int .i64 d, .int .i64 e] 23
set_option maxRecDepth 100000 in
set_option maxHeartbeats 1000000 in
theorem spot_ok (n d : Nat) (h1 : 1 ≤ n) (h2 : n ≤ 64) (h3 : 2 ≤ d) (h4 : d ≤ 16) (w : World) : Calls Try.prog 22 #[.int .i64 (n : Int), .int .i64 (d : Int)] w (SpotPost n d w) := by
  have hm : n * d ≤ 64 * 16 := Nat.mul_le_mul h2 h4
  have hN : ∀ w, Calls Try.prog 8 #[.int .i64 (2 + (n : Int) * d)] w (NewPost (2 + n * d) w) := fun w => by
    have := new_ok (2 + n * d) w (by omega) (by omega)
    rw [show ((2 + n * d : Nat) : Int) = 2 + (n : Int) * d by rw [Int.natCast_add, Int.natCast_mul]; rfl] at this
    exact this
  have HN := Lib.hid hN
  have m1 : (1 : Int) ≤ n := by omega
  have m2 : (n : Int) ≤ 64 := by omega
  have m3 : (2 : Int) ≤ d := by omega
  have m4 : (d : Int) ≤ 16 := by omega
  have hmz : 0 ≤ (n : Int) * d ∧ (n : Int) * d ≤ 1024 := by rw [← Int.natCast_mul]; omega
  obtain ⟨z0, z1⟩ := hmz
  have hb1 := ((Below.refl w.heap.size w).alloc (Nat.le_refl _) (so 0 0 0 0 0)).alloc (by simp) (so 0 1 2 n d)
  have hA := (Blk.new w #[.int .i64 0, .int .i64 0, .int .i64 0, .int .i64 0, .int .i64 0] 23).alloc (so 0 1 2 n d)
  have hC := Blk.new (w.alloc (so 0 0 0 0 0)) #[.int .i64 0, .int .i64 1, .int .i64 2, .int .i64 n, .int .i64 d] 23
  simp only [World.size_alloc] at hC
  have H1 := Lib.hid (And.intro hb1 (And.intro hA hC))
  clear hN hm hb1 hA hC h1 h2 h3 h4
  go_enter Try.func22, Try.ntmps22
  go_wp2_with fail
  generalize hW : ((w.alloc (so 0 0 0 0 0)).alloc (so 0 1 2 n d)) = W at H1 ⊢
  clear hW
  refine (HN.out _).mono ?_
  rintro e w1 ⟨b, g, hb, hg, rfl, hk1, hu1⟩
  obtain ⟨hb0, hA, hC⟩ := H1.out
  have hA1 := hA.low hu1
  have hC1 := hC.low hu1
  have hu2 := hb0.trans (hu1.mono hb0.size)
  have lA := hA.lt
  have lC := hC.lt
  have c0 := hC1.cell (i := 0) rfl
  have c1 := hC1.cell (i := 1) rfl
  have c2 := hC1.cell (i := 2) rfl
  have c3 := hC1.cell (i := 3) rfl
  have c4 := hC1.cell (i := 4) rfl
  have a0 := hA1.cell (i := 0) rfl
  have a1 := hA1.cell (i := 1) rfl
  have a2 := hA1.cell (i := 2) rfl
  have a3 := hA1.cell (i := 3) rfl
  have a4 := hA1.cell (i := 4) rfl
  have f0 := hA1.frozen 0
  have f1 := hA1.frozen 1
  have f2 := hA1.frozen 2
  have f3 := hA1.frozen 3
  have f4 := hA1.frozen 4
  have H2 := Lib.hid (And.intro hA1 (And.intro hk1 (And.intro hu2 (show w.heap.size ≠ b ∧ w.heap.size ≠ g ∧ w.heap.size ≤ b ∧ w.heap.size ≤ g by have := hb0.size; omega))))
  clear H1 hb0 hA hC hA1 hC1 hu2 hk1 hu1 hb hg HN
  go_wp2
  obtain ⟨hA1, hk1, hu2, n1, n2, n3, n4⟩ := H2.out
  have hA2 := ((((hA1.put 0 (.int .i64 0)).put 1 (.int .i64 1)).put 2 (.int .i64 2)).put 3 (.int .i64 n)).put 4 (.int .i64 d)
  have hk2 := ((((hk1.setFar (p := ⟨w.heap.size, 0, none⟩) n1.symm n2.symm (.int .i64 0)).setFar (p := ⟨w.heap.size, 1, none⟩) n1.symm n2.symm (.int .i64 1)).setFar (p := ⟨w.heap.size, 2, none⟩) n1.symm n2.symm (.int .i64 2)).setFar (p := ⟨w.heap.size, 3, none⟩) n1.symm n2.symm (.int .i64 n)).setFar (p := ⟨w.heap.size, 4, none⟩) n1.symm n2.symm (.int .i64 d)
  have hu3 := ((((hu2.setCell (p := ⟨w.heap.size, 0, none⟩) (Nat.le_refl _) (.int .i64 0)).setCell (p := ⟨w.heap.size, 1, none⟩) (Nat.le_refl _) (.int .i64 1)).setCell (p := ⟨w.heap.size, 2, none⟩) (Nat.le_refl _) (.int .i64 2)).setCell (p := ⟨w.heap.size, 3, none⟩) (Nat.le_refl _) (.int .i64 n)).setCell (p := ⟨w.heap.size, 4, none⟩) (Nat.le_refl _) (.int .i64 d)
  clear H2 hA1 hk1 hu2 c0 c1 c2 c3 c4 a0 a1 a2 a3 a4 f0 f1 f2 f3 f4
  generalize ((((w1.setCell ⟨w.heap.size, 0, none⟩ (.int .i64 0)).setCell ⟨w.heap.size, 1, none⟩ (.int .i64 1)).setCell ⟨w.heap.size, 2, none⟩ (.int .i64 2)).setCell ⟨w.heap.size, 3, none⟩ (.int .i64 n)).setCell ⟨w.heap.size, 4, none⟩ (.int .i64 d) = w2 at hA2 hk2 hu3 ⊢
  have e0 := hA2.cell (i := 0) rfl
  have e1 := hA2.cell (i := 1) rfl
  have e2 := hA2.cell (i := 2) rfl
  have e3 := hA2.cell (i := 3) rfl
  have e4 := hA2.cell (i := 4) rfl
  exact bodyPost_ret (v := .tuple #[spv 0 1 2 n d, .pointer (some ⟨b, 0, none⟩), .bool true]) (by simp [results, Try.results22, go_sem, e0, e1, e2, e3, e4]) rfl ⟨b, g, n3, n4, rfl, hk2, hu3⟩

set_option maxRecDepth 100000 in
set_option maxHeartbeats 1000000 in
theorem spot_no (n : Nat) (h : n < 1 ∨ 64 < n) (w : World) : Calls Try.prog 22 #[.int .i64 (n : Int), .int .i64 3] w (Ret (.tuple #[spv 0 0 0 0 0, .pointer none, .bool false]) w) := by
  have hb1 := (Below.refl w.heap.size w).alloc (Nat.le_refl _) (so 0 0 0 0 0)
  have hA := Blk.new w #[.int .i64 0, .int .i64 0, .int .i64 0, .int .i64 0, .int .i64 0] 23
  have H1 := Lib.hid (And.intro hb1 hA)
  clear hb1 hA
  rcases (show (n : Int) < 1 ∨ (1 ≤ (n : Int) ∧ 64 < (n : Int)) by omega) with k | ⟨k1, k2⟩
  all_goals
    clear h
    go_enter Try.func22, Try.ntmps22
    go_wp2
    obtain ⟨hb1, hA⟩ := H1.out
    have e0 := hA.cell (i := 0) rfl
    have e1 := hA.cell (i := 1) rfl
    have e2 := hA.cell (i := 2) rfl
    have e3 := hA.cell (i := 3) rfl
    have e4 := hA.cell (i := 4) rfl
    exact bodyPost_ret (v := .tuple #[spv 0 0 0 0 0, .pointer none, .bool false]) (by simp [results, Try.results22, go_sem, e0, e1, e2, e3, e4]) rfl ⟨rfl, hb1⟩
end Go.Proofs.Ytajibhhmcjcchaa
