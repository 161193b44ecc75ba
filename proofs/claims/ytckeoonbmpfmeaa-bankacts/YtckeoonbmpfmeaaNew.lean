/- bank.New, Clone, and the chapter's example (awake): contracts. -/
import Derived.Test.YtckeoonbmpfmeaaBank
import Derived.Deep.RegionWith
import Derived.BigQuiet
namespace Go.Proofs.Ytckeoonbmpfmeaa
open Go.RowKit

def zeros (n : Nat) : Array Value := ((List.replicate n (0 : Int)).map (Value.int .u64)).toArray
theorem made_zeros (n : Nat) : madeCells #[.int .u64 0] n = zeros n := by
  apply Array.ext
  · simp [madeCells, zeros]
  · intro i h1 h2
    simp [madeCells, zeros, Nat.mod_one]
theorem info72 : (Try.prog.info? 72).map (fun i => (i.zero, i.size, i.bytes)) = some (some (.agg #[.int .u64 0]), 1, 8) := by kernel_rfl
theorem make_words (n : Nat) (h : n ≤ 1048576) (w : World) :
    (Instr.makeSlice 61 (.int .i64 n) (.int .i64 n)).run Try.prog w = .ok (.slice (some ⟨w.heap.size, 0, none⟩) n n) (w.alloc (.cells (zeros n) 72)) := by
  obtain ⟨i, hi, he⟩ := Option.map_eq_some_iff.1 info72
  simp only [Prod.mk.injEq] at he
  obtain ⟨hz, hs, hb⟩ := he
  have hr := run_make (P := Try.prog) w 61 72 i _ Try.underlying61 hi hz .i64 .i64 n n (by omega) (by omega) (by rw [hb]; omega) (by omega)
  rw [hs] at hr
  simp only [Int.toNat_natCast, Nat.mul_one] at hr
  rw [show (Value.agg #[Value.int .u64 0]).cells = #[Value.int .u64 0] from rfl, made_zeros] at hr
  exact hr
theorem Bk.made (w : World) (n : Nat) : Bk ((w.alloc (.cells (zeros n) 72)).alloc (.cells #[.slice (some ⟨w.heap.size, 0, none⟩) n n, .int .i64 0] 68)) (w.heap.size + 1) w.heap.size (List.replicate n 0) 0 := by
  refine ⟨⟨68, ?_⟩, ⟨72, ?_⟩, by omega, fun x hx => by rw [List.eq_of_mem_replicate hx]; exact u64_zero⟩
  · show ((w.heap.push _).push _)[w.heap.size + 1]? = _
    rw [Array.getElem?_push, if_pos (by simp), List.length_replicate]
  · show ((w.heap.push _).push _)[w.heap.size]? = _
    rw [Array.getElem?_push, if_neg (by simp), Array.getElem?_push, if_pos rfl]
    rfl

theorem Below.own {B b g : Nat} {a w w' : World} (h : Below B a w) (u : Upd (Own b g) w w') (hs : B ≤ w.heap.size) (hb : B ≤ b) (hg : B ≤ g) : Below B a w' :=
  h.trans (u.below hs (fun k hk => by rcases hk with rfl | rfl <;> assumption))

/-- A new bank of n words at two new blocks. -/
def NewPost (n : Nat) (w : World) (e : Ending) (w' : World) : Prop :=
  ∃ b g : Nat, w.heap.size ≤ b ∧ w.heap.size ≤ g ∧ e = .returned (.tuple #[.pointer (some ⟨b, 0, none⟩), .int .i64 0]) ∧ Bk w' b g (List.replicate n 0) 0 ∧ Below w.heap.size w w'

set_option maxHeartbeats 400000 in
theorem new_ok (n : Nat) (w : World) (h1 : 1 ≤ n) (h2 : n ≤ 1048576) : Calls Try.prog 11 #[.int .i64 n] w (NewPost n w) := by
  have hmk := make_words n h2
  have h1' : (1 : Int) ≤ n := by omega
  have h2' : (n : Int) ≤ 1048576 := by omega
  have hB := Bk.made w n
  have hu := ((Below.refl w.heap.size w).alloc (Nat.le_refl _) (.cells (zeros n) 72)).alloc (by simp) (.cells #[.slice (some ⟨w.heap.size, 0, none⟩) n n, .int .i64 0] 68)
  have HB := Lib.hid (And.intro hB hu)
  clear hB hu
  go_enter Try.func11, Try.ntmps11
  go_wp2
  go_ret2
  exact ⟨w.heap.size + 1, w.heap.size, by omega, by omega, rfl, HB.out.1, HB.out.2⟩

/-- Nothing that was there has turned, and the answer is true. -/
def True1 (w : World) (e : Ending) (w' : World) : Prop := e = .returned (.bool true) ∧ Below w.heap.size w w'

theorem awake_words : addw 0 7 = 7 ∧ addw 9 18446744073709551608 = 1 := by decide
theorem awake_u : U64 9 := by unfold U64; omega

set_option maxHeartbeats 400000 in
theorem awake_any (w : World) : Calls Try.prog 10 #[] w (True1 w) := by
  go_enter Try.func10, Try.ntmps10
  go_wp2_with fail
  refine (new_ok 4 w (by omega) (by omega)).mono ?_
  rintro e w1 ⟨b, g, hb, hg, rfl, hk1, hu1⟩
  have hs1 := hu1.size
  go_wp2_with fail
  refine (add_in b g [0, 0, 0, 0] 0 7 0 2 w1 hk1 rfl (by omega) (by omega)).mono ?_
  rintro e w2 ⟨rfl, hk2, hu2⟩
  have hu := Below.own hu1 hu2 hs1 hb hg
  clear hu1 hu2 hk1 hs1
  rw [awake_words.1] at hk2
  have hs2 := hu.size
  go_wp2_with fail
  refine (cas_hit b g [0, 0, 7, 0] 1 9 7 2 w2 hk2 rfl (by omega) (by omega) awake_u).mono ?_
  rintro e w3 ⟨rfl, hk3, hu3⟩
  have hu' := Below.own hu hu3 hs2 hb hg
  clear hu hu3 hk2 hs2
  have hs3 := hu'.size
  go_wp2_with fail
  refine (add_in b g [0, 0, 9, 0] 2 18446744073709551608 9 2 w3 hk3 rfl (by omega) (by omega)).mono ?_
  rintro e w4 ⟨rfl, hk4, hu4⟩
  have hu := Below.own hu' hu4 hs3 hb hg
  clear hu' hu4 hk3 hs3
  rw [awake_words.2] at hk4
  have hs4 := hu.size
  go_wp2_with fail
  refine (load_in b g [0, 0, 1, 0] 3 1 2 w4 hk4 rfl (by omega) (by omega)).mono ?_
  rintro e w5 ⟨rfl, hk5, hu5⟩
  have hu' := Below.own hu hu5 hs4 hb hg
  clear hu hu5 hk4 hs4
  go_wp2_with fail
  refine (touches_any b g _ _ w5 hk5).mono ?_
  rintro e w6 ⟨rfl, rfl⟩
  go_wp2
  go_ret
  exact ⟨rfl, hu'⟩
end Go.Proofs.Ytckeoonbmpfmeaa
