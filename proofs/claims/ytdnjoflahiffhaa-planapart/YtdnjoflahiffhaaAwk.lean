/- The chapter's example. -/
import Derived.Test.YtdnjoflahiffhaaOf
namespace Go.Proofs.Ytdnjoflahiffhaa
open Go.RowKit

abbrev exN : ByteArray := ⟨#[112, 111, 115, 101]⟩
theorem ex_chk : (chk 1 [(exN, 6, 4)] 1 8).2 = 0 := by decide +kernel
theorem ex_tot : tot (1 + 8) [(exN, 6, 4)] = 35 := by decide +kernel
theorem ex_spots : spots (1 + 8) [(exN, 6, 4)] = [(9, 10, 11, 6, 4)] := by decide +kernel
theorem ex_at : atv 11 6 4 5 = 17 := by decide +kernel
theorem ex_env : env 1 8 9 = 2 := by decide +kernel

set_option maxRecDepth 100000 in
set_option maxHeartbeats 2000000 in
theorem awake_any (w : World) : Calls Try.prog 10 #[] w (Ret (.bool true) w) := by
  have hC := Blk.new w #[.string exN, .int .i64 6, .int .i64 4] 58
  have hB := (Below.refl w.heap.size w).alloc (Nat.le_refl _) (.cells #[.string exN, .int .i64 6, .int .i64 4] 58)
  have hT : Tps (w.alloc (.cells #[.string exN, .int .i64 6, .int .i64 4] 58)).heap.size (w.alloc (.cells #[.string exN, .int .i64 6, .int .i64 4] 58)) (some ⟨w.heap.size, 0, none⟩) [(exN, 6, 4)] := by
    intro j t ht
    match j, ht with
    | 0, ht =>
      simp at ht
      subst ht
      exact ⟨w.heap.size, 0, rfl, by simp, hC.cell (i := 0) rfl, hC.cell (i := 1) rfl, hC.cell (i := 2) rfl⟩
    | j + 1, ht => simp at ht
  have hof : Calls Try.prog 11 #[cfg 1 (some ⟨w.heap.size, 0, none⟩) 1 1 1 8] (w.alloc (.cells #[.string exN, .int .i64 6, .int .i64 4] 58)) (OfPost 8 [(exN, 6, 4)] (w.alloc (.cells #[.string exN, .int .i64 6, .int .i64 4] 58))) :=
    of_ok 1 1 8 (some ⟨w.heap.size, 0, none⟩) 1 [(exN, 6, 4)] _ hT (by intro t ht; simp at ht; subst ht; decide) ex_chk
  have Hof := Lib.hid hof
  have HB := Lib.hid hB
  clear hof hT hC hB
  go_enter Try.func10, Try.ntmps10
  go_wp2_with fail
  refine Hof.out.mono ?_
  rintro e w1 ⟨a, cap, rfl, hS, hb⟩
  rw [ex_tot, ex_spots] at *
  obtain ⟨b, off, rfl, hlt, u0, u1, u2, u3, u4⟩ := hS 0 _ rfl
  have hb1 := HB.out.trans (hb.mono HB.out.size)
  have hP := Blk.new w1 #[.int .i64 0, .int .i64 1, .int .i64 8, .slice (some ⟨b, off, none⟩) 1 cap, .int .i64 35] 29
  have hbp := (Below.refl w1.heap.size w1).alloc (Nat.le_refl _) (.cells #[.int .i64 0, .int .i64 1, .int .i64 8, .slice (some ⟨b, off, none⟩) 1 cap, .int .i64 35] 29)
  have p0 := hP.cell (i := 0) rfl
  have p1 := hP.cell (i := 1) rfl
  have p2 := hP.cell (i := 2) rfl
  have p3 := hP.cell (i := 3) rfl
  have p4 := hP.cell (i := 4) rfl
  have v0 := (hbp.cell (p := ⟨b, off + 0 * 5, none⟩) hlt).trans u0
  have v1 := (hbp.cell (p := ⟨b, off + 0 * 5 + 1, none⟩) hlt).trans u1
  have v2 := (hbp.cell (p := ⟨b, off + 0 * 5 + 2, none⟩) hlt).trans u2
  have v3 := (hbp.cell (p := ⟨b, off + 0 * 5 + 3, none⟩) hlt).trans u3
  have v4 := (hbp.cell (p := ⟨b, off + 0 * 5 + 4, none⟩) hlt).trans u4
  simp only [Nat.zero_mul, Nat.add_zero] at v0 v1 v2 v3 v4
  have H1 := Lib.hid (And.intro hP (hb1.trans (hbp.mono hb1.size)))
  have heq : ∀ w, (Op.equalIn 10000 43 (spv 9 10 11 6 4) (spv 9 10 11 6 4)).run Try.prog w = .ok true w := fun w => by rw [eq43]; simp
  clear hb hb1 hP hbp u0 u1 u2 u3 u4 hS Hof HB
  go_wp2_with fail
  generalize w1.alloc (.cells #[.int .i64 0, .int .i64 1, .int .i64 8, .slice (some ⟨b, off, none⟩) 1 cap, .int .i64 35] 29) = w2 at *
  clear v0 v1 v2 v3 v4 p0 p1 p2 p3 p4
  refine (at_any 9 10 11 6 4 5 w2 (by omega) (by omega)).mono ?_
  rintro e w3 ⟨rfl, hb3⟩
  rw [ex_at]
  have hP := H1.out.1.low hb3
  have p0 := hP.cell (i := 0) rfl
  have p1 := hP.cell (i := 1) rfl
  have p2 := hP.cell (i := 2) rfl
  have p3 := hP.cell (i := 3) rfl
  have p4 := hP.cell (i := 4) rfl
  have H3 := Lib.hid (H1.out.2.trans (hb3.mono H1.out.2.size))
  clear hb3 hP H1
  go_wp2_with fail
  refine (ent_any 0 1 8 35 9 (some ⟨b, off, none⟩) 1 cap w3 (by omega)).mono ?_
  rintro e w4 ⟨rfl, hb4⟩
  rw [ex_env]
  have H4 := Lib.hid (H3.out.trans (hb4.mono H3.out.size))
  clear hb4 H3
  go_wp2
  go_ret
  exact ⟨rfl, H4.out⟩
end Go.Proofs.Ytdnjoflahiffhaa
