/- bank.New, Clone, and the chapter's example (awake): contracts. -/
import Derived.Test.YtflgggfomhifeaaBank
import Derived.Deep.RegionWith
import Derived.BigQuiet
namespace Go.Proofs.Ytflgggfomhifeaa
open Go.RowKit

def zeros (n : Nat) : Array Value := ((List.replicate n (0 : Int)).map (Value.int .u64)).toArray
theorem made_zeros (n : Nat) : madeCells #[.int .u64 0] n = zeros n := by
  apply Array.ext
  · simp [madeCells, zeros]
  · intro i h1 h2
    simp [madeCells, zeros, Nat.mod_one]
theorem info72 : (Try.prog.info? 100).map (fun i => (i.zero, i.size, i.bytes)) = some (some (.agg #[.int .u64 0]), 1, 8) := by kernel_rfl
theorem make_words (n : Nat) (h : n ≤ 1048576) (w : World) :
    (Instr.makeSlice 82 (.int .i64 n) (.int .i64 n)).run Try.prog w = .ok (.slice (some ⟨w.heap.size, 0, none⟩) n n) (w.alloc (.cells (zeros n) 100)) := by
  obtain ⟨i, hi, he⟩ := Option.map_eq_some_iff.1 info72
  simp only [Prod.mk.injEq] at he
  obtain ⟨hz, hs, hb⟩ := he
  have hr := run_make (P := Try.prog) w 82 100 i _ Try.underlying82 hi hz .i64 .i64 n n (by omega) (by omega) (by rw [hb]; omega) (by omega)
  rw [hs] at hr
  simp only [Int.toNat_natCast, Nat.mul_one] at hr
  rw [show (Value.agg #[Value.int .u64 0]).cells = #[Value.int .u64 0] from rfl, made_zeros] at hr
  exact hr
theorem Bk.made (w : World) (n : Nat) : Bk ((w.alloc (.cells (zeros n) 100)).alloc (.cells #[.slice (some ⟨w.heap.size, 0, none⟩) n n, .int .i64 0] 89)) (w.heap.size + 1) w.heap.size (List.replicate n 0) 0 := by
  refine ⟨⟨89, ?_⟩, ⟨100, ?_⟩, by omega, fun x hx => by rw [List.eq_of_mem_replicate hx]; exact u64_zero⟩
  · show ((w.heap.push _).push _)[w.heap.size + 1]? = _
    rw [Array.getElem?_push, if_pos (by simp), List.length_replicate]
  · show ((w.heap.push _).push _)[w.heap.size]? = _
    rw [Array.getElem?_push, if_neg (by simp), Array.getElem?_push, if_pos rfl]
    rfl

theorem Below.own {B b g : Nat} {a w w' : World} (h : Below B a w) (u : Upd (Own b g) w w') (hs : B ≤ w.heap.size) (hb : B ≤ b) (hg : B ≤ g) : Below B a w' :=
  h.trans (u.below hs (fun k hk => by rcases hk with rfl | rfl <;> assumption))

/-- A new bank of n words at two new blocks. -/
def NewPost (n : Nat) (w : World) (e : Ending) (w' : World) : Prop :=
  ∃ b g : Nat, w.heap.size ≤ b ∧ w.heap.size ≤ g ∧ e = .returned (.tuple #[.pointer (some ⟨b, 0, none⟩), .int .i64 0]) ∧ Bk w' b g (List.replicate n 0) 0 ∧ Below w.heap.size w w'

set_option maxHeartbeats 400000 in
theorem new_ok (n : Nat) (w : World) (h1 : 1 ≤ n) (h2 : n ≤ 1048576) : Calls Try.prog 9 #[.int .i64 n] w (NewPost n w) := by
  have hmk := make_words n h2
  have h1' : (1 : Int) ≤ n := by omega
  have h2' : (n : Int) ≤ 1048576 := by omega
  have hB := Bk.made w n
  have hu := ((Below.refl w.heap.size w).alloc (Nat.le_refl _) (.cells (zeros n) 100)).alloc (by simp) (.cells #[.slice (some ⟨w.heap.size, 0, none⟩) n n, .int .i64 0] 89)
  have HB := Lib.hid (And.intro hB hu)
  clear hB hu
  go_enter Try.func9, Try.ntmps9
  go_wp2
  go_ret2
  exact ⟨w.heap.size + 1, w.heap.size, by omega, by omega, rfl, HB.out.1, HB.out.2⟩

/-- Nothing that was there has turned, and the answer is true. -/
def True1 (w : World) (e : Ending) (w' : World) : Prop := e = .returned (.bool true) ∧ Below w.heap.size w w'

end Go.Proofs.Ytflgggfomhifeaa
