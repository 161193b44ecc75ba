/- The chapter's example (awake) holds. -/
import Derived.Test.YtknhbpifkpcpnaaJoin
namespace Go.Proofs.Ytknhbpifkpcpnaa
open Go.RowKit

theorem ex_row : rowE 0 [3, 1, 60] = 0 ∧ rowF 0 [3, 1, 60] = [(0, 3), (3, 1), (4, 60)] := by decide
theorem ex_join : joinE [3, 1, 60] [4, 1, 2] = (44, 0) := by decide +kernel
theorem ex_vals : mx 3 = 7 ∧ gt 4 3 43981 = 4 ∧ pt 4 3 0 5 = 80 ∧ sg 3 (gt 4 3 112) = -1 := by decide +kernel

/-- Three ints in a new block. -/
theorem ints3 (w : World) (x y z : Int) (t : TypeId) : Ints (w.heap.size + 1) (w.alloc (.cells #[.int .i64 x, .int .i64 y, .int .i64 z] t)) (some ⟨w.heap.size, 0, none⟩) [x, y, z] := by
  intro j v hv
  refine ⟨_, _, rfl, by omega, ?_⟩
  match j, hv with
  | 0, hv => simp at hv; subst hv; simp
  | 1, hv => simp at hv; subst hv; simp
  | 2, hv => simp at hv; subst hv; simp
  | j + 3, hv => simp at hv
theorem words3 (w : World) (x y z : Nat) (t : TypeId) (hx : W64 x) (hy : W64 y) (hz : W64 z) : Words (w.heap.size + 1) (w.alloc (.cells #[.int .u64 (x : Int), .int .u64 (y : Int), .int .u64 (z : Int)] t)) (some ⟨w.heap.size, 0, none⟩) [x, y, z] := by
  intro j v hv
  match j, hv with
  | 0, hv => simp at hv; subst hv; exact ⟨hx, _, _, rfl, by omega, by simp⟩
  | 1, hv => simp at hv; subst hv; exact ⟨hy, _, _, rfl, by omega, by simp⟩
  | 2, hv => simp at hv; subst hv; exact ⟨hz, _, _, rfl, by omega, by simp⟩
  | j + 3, hv => simp at hv

set_option maxRecDepth 100000 in
set_option maxHeartbeats 2000000 in
theorem awake_any (w : World) : Calls Try.prog 20 #[] w (Ret (.bool true) w) := by
  obtain ⟨e1, e2, e3, e4⟩ := ex_vals
  have Hv := Lib.hid (And.intro e1 (And.intro e2 (And.intro e3 e4)))
  clear e1 e2 e3 e4
  go_enter Try.func20, Try.ntmps20
  go_wp2_with fail
  have hF0 := FS.new w 4 3 23
  generalize w.alloc (.cells #[.int .i64 4, .int .i64 3] 23) = w0 at *
  refine (put_in 4 3 0 5 w0 (by omega) (by omega) (by decide) (by rw [Hv.out.1]; omega)).mono ?_
  rintro e w1 ⟨rfl, hb1⟩
  rw [Hv.out.2.2.1]
  have hF1 := hF0.next hb1
  clear hF0 hb1
  go_wp2_with fail
  have hF2 := hF1.alloc (.cells #[.int .i64 3, .int .i64 1, .int .i64 60] 3)
  have hI2 := ints3 w1 3 1 60 3
  have hz2 : (w1.alloc (.cells #[.int .i64 3, .int .i64 1, .int .i64 60] 3)).heap.size = w1.heap.size + 1 := by simp
  rw [← hz2] at hI2
  generalize w1.alloc (.cells #[.int .i64 3, .int .i64 1, .int .i64 60] 3) = w2 at *
  generalize w1.heap.size = b1 at *
  refine (row_any (some ⟨b1, 0, none⟩) 3 3 [3, 1, 60] rfl (by decide) w2 hI2).mono ?_
  rintro e w3 ⟨v, rfl, hb3, _, hr3⟩
  rw [ex_row.1, ex_row.2] at hr3
  rw [ex_row.1]
  obtain ⟨av, cv, rfl, hfl⟩ := owns_flds (hr3 rfl)
  have hF3 := hF2.next hb3
  clear hr3 hF1 hF2 hb3 hI2
  obtain ⟨g, rfl, hg1, hg2, c0, c0'⟩ := hfl 0 (0, 3) rfl
  obtain ⟨g', hgg, _, _, c1, c1'⟩ := hfl 1 (3, 1) rfl
  cases hgg
  obtain ⟨g', hgg, _, _, c2, c2'⟩ := hfl 2 (4, 60) rfl
  cases hgg
  clear hfl c0' c1' c2' hg1
  simp only [Nat.reduceMul] at c0 c1 c2
  have Hc := Lib.hid (And.intro hg2 (And.intro c0 (And.intro c1 c2)))
  clear hg2 c0 c1 c2
  go_wp2_with fail
  have hF4 := (hF3.alloc (.cells #[.int .i64 3, .int .i64 1, .int .i64 60] 3)).alloc (.cells #[.int .u64 4, .int .u64 1, .int .u64 2] 24)
  have hI4 := ints3 w3 3 1 60 3
  have hW4 := words3 (w3.alloc (.cells #[.int .i64 3, .int .i64 1, .int .i64 60] 3)) 4 1 2 24 (by decide) (by decide) (by decide)
  have hbb := (Below.refl (w3.heap.size + 1) (w3.alloc (.cells #[.int .i64 3, .int .i64 1, .int .i64 60] 3))).alloc (by simp) (.cells #[.int .u64 4, .int .u64 1, .int .u64 2] 24)
  have hI5 := hI4.below hbb
  have hb4 := ((Below.refl w3.heap.size w3).alloc (Nat.le_refl _) (.cells #[.int .i64 3, .int .i64 1, .int .i64 60] 3)).alloc (by simp) (.cells #[.int .u64 4, .int .u64 1, .int .u64 2] 24)
  have hz4 : ((w3.alloc (.cells #[.int .i64 3, .int .i64 1, .int .i64 60] 3)).alloc (.cells #[.int .u64 4, .int .u64 1, .int .u64 2] 24)).heap.size = w3.heap.size + 1 + 1 := by simp
  simp only [World.size_alloc] at hW4
  have hW5 : Words (w3.heap.size + 1 + 1) ((w3.alloc (.cells #[.int .i64 3, .int .i64 1, .int .i64 60] 3)).alloc (.cells #[.int .u64 4, .int .u64 1, .int .u64 2] 24)) (some ⟨w3.heap.size + 1, 0, none⟩) [4, 1, 2] := hW4
  clear hbb hI4 hF3 hW4
  obtain ⟨w4, hw4⟩ : ∃ w4, (w3.alloc (.cells #[.int .i64 3, .int .i64 1, .int .i64 60] 3)).alloc (.cells #[.int .u64 4, .int .u64 1, .int .u64 2] 24) = w4 := ⟨_, rfl⟩
  rw [hw4] at hI5 hW5 hF4 hb4 hz4 ⊢
  clear hw4
  refine (join_any _ _ _ [3, 1, 60] rfl (by decide) _ _ _ [4, 1, 2] rfl w4 (hI5.mono (by omega)) (hW5.mono (by omega))).mono ?_
  rintro e w5 ⟨rfl, hb5⟩
  rw [ex_join]
  have hb6 : Below w3.heap.size w3 w5 := hb4.trans (hb5.mono hb4.size)
  obtain ⟨hg2, c0, c1, c2⟩ := Hc.out
  have d0 := (hb6.cell (p := ⟨g, 0, none⟩) hg2).trans c0
  have d1 := (hb6.cell (p := ⟨g, 2, none⟩) hg2).trans c1
  have d2 := (hb6.cell (p := ⟨g, 4, none⟩) hg2).trans c2
  have hgl : g < w5.heap.size := Nat.lt_of_lt_of_le hg2 hb6.size
  have hF5 := hF4.next hb5
  clear hF4 hI5 hW5 hb4 hb5 hb6 hz4 Hc c0 c1 c2 hg2
  have ⟨_, _, f0, f1⟩ := hF5
  go_wp2_with fail
  refine (max_in 4 3 w5 (by omega) (by omega)).mono ?_
  rintro e w6 ⟨rfl, hb⟩
  rw [Hv.out.1]
  have hF6 := hF5.next hb
  have e0 := (hb.cell (p := ⟨g, 0, none⟩) hgl).trans d0
  have e1 := (hb.cell (p := ⟨g, 2, none⟩) hgl).trans d1
  have e2 := (hb.cell (p := ⟨g, 4, none⟩) hgl).trans d2
  have hgl6 : g < w6.heap.size := Nat.lt_of_lt_of_le hgl hb.size
  clear hb hF5 d0 d1 d2 hgl f0 f1
  have ⟨_, _, f0, f1⟩ := hF6
  go_wp2_with fail
  refine (get_in 4 3 43981 w6 (by omega) (by omega) (by decide)).mono ?_
  rintro e w7 ⟨rfl, hb⟩
  rw [Hv.out.2.1]
  have hF7 := hF6.next hb
  have d0 := (hb.cell (p := ⟨g, 0, none⟩) hgl6).trans e0
  have d1 := (hb.cell (p := ⟨g, 2, none⟩) hgl6).trans e1
  have d2 := (hb.cell (p := ⟨g, 4, none⟩) hgl6).trans e2
  have hgl : g < w7.heap.size := Nat.lt_of_lt_of_le hgl6 hb.size
  clear hb hF6 e0 e1 e2 hgl6 f0 f1
  have ⟨_, _, f0, f1⟩ := hF7
  go_wp2_with fail
  refine (signed_in 4 3 112 w7 (by omega) (by omega) (by decide)).mono ?_
  rintro e w8 ⟨rfl, hb⟩
  rw [Hv.out.2.2.2]
  have hF8 := hF7.next hb
  have e0 := (hb.cell (p := ⟨g, 0, none⟩) hgl).trans d0
  have e1 := (hb.cell (p := ⟨g, 2, none⟩) hgl).trans d1
  have e2 := (hb.cell (p := ⟨g, 4, none⟩) hgl).trans d2
  clear hb hF7 d0 d1 d2 hgl f0 f1
  go_wp2
  go_ret
  exact ⟨rfl, hF8.bel⟩
end Go.Proofs.Ytknhbpifkpcpnaa
