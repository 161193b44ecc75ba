/- The chapter's example; topics that are held against each other. -/
import Derived.Test.YthdchoagdipplaaDoorPar
namespace Go.Proofs.YthdchoagdipplaaDoor
open Go.RowKit

abbrev top (t : Tp) : Value := .agg #[.string t.1, .int .i64 t.2.1, .int .i64 t.2.2]
theorem eq45 (t u : Tp) (w : World) : (Op.equalIn 10000 45 (top t) (top u)).run Tryd.prog w = .ok (decide (t = u)) w := by
  obtain ⟨a, b, c⟩ := t
  obtain ⟨d, e, f⟩ := u
  have u3 := Tryd.underlying3
  have a3 := Tryd.isAgg3
  have z3 := Tryd.sizeOf3
  have u9 := Tryd.underlying9
  have a9 := Tryd.isAgg9
  have z9 := Tryd.sizeOf9
  have hS : Tryd.prog.underlying 45 = some (.struct (Tryd.prog.fieldsOf 45)) := by kernel_rfl
  rw [show (10000 : Nat) = 9999 + 1 from rfl, run_equalIn_agg w 9999 45 _ _ hS (by kernel_rfl)]
  simp only [Program.fieldsOf, Tryd.underlying45]
  have hs := str_eq a d
  go_simp
  by_cases h0 : a = d
  · have h0' : (a.toList == d.toList) = true := by rw [hs]; exact decide_eq_true h0
    by_cases h1 : b = e <;> by_cases h2 : c = f <;> simp [h0, h1, h2]
  · simp [h0]

def exS : ByteArray := ⟨#[116, 97, 115, 107, 115, 32, 50, 32, 116, 114, 105, 101, 115, 32, 51, 32, 108, 111, 103, 32, 56, 10, 116, 111, 112, 105, 99, 32, 112, 111, 115, 101, 32, 119, 111, 114, 100, 115, 32, 54, 32, 100, 101, 112, 116, 104, 32, 52, 10]⟩
theorem ex_nums : paE (bs exS) = 0 ∧ paN (bs exS) = 0 ∧ paT (bs exS) = 2 ∧ paR (bs exS) = 3 ∧ paG (bs exS) = 8 := by decide +kernel
theorem ex_tops : paL (bs exS) = [(⟨#[112, 111, 115, 101]⟩, 6, 4)] := by decide +kernel

set_option maxRecDepth 100000 in
set_option maxHeartbeats 2000000 in
theorem awake_any (w : World) (hM : ML w) : Calls Tryd.prog 11 #[] w (Ret (.bool true) w) := by
  go_enter Tryd.func11, Tryd.ntmps11
  go_wp2_with fail
  refine (parse_any exS w hM (by decide)).mono ?_
  rintro e w1 ⟨a, cap, rfl, hb, hT⟩
  rw [ex_tops] at hT
  rw [ex_tops, ex_nums.1, ex_nums.2.1, ex_nums.2.2.1, ex_nums.2.2.2.1, ex_nums.2.2.2.2]
  obtain ⟨b, off, rfl, hlt, u0, u1, u2⟩ := hT 0 _ rfl
  have hC := Blk.new w1 #[.int .i64 2, .slice (some ⟨b, off, none⟩) 1 cap, .int .i64 3, .int .i64 8] 24
  have c0 := hC.cell (i := 0) rfl
  have c1 := hC.cell (i := 1) rfl
  have c2 := hC.cell (i := 2) rfl
  have c3 := hC.cell (i := 3) rfl
  have hB := (Below.refl w1.heap.size w1).alloc (Nat.le_refl _) (.cells #[.int .i64 2, .slice (some ⟨b, off, none⟩) 1 cap, .int .i64 3, .int .i64 8] 24)
  have v0 := (hB.cell (p := ⟨b, off + 0 * 3, none⟩) hlt).trans u0
  have v1 := (hB.cell (p := ⟨b, off + 0 * 3 + 1, none⟩) hlt).trans u1
  have v2 := (hB.cell (p := ⟨b, off + 0 * 3 + 2, none⟩) hlt).trans u2
  simp only [Nat.zero_mul, Nat.add_zero] at v0 v1 v2
  have hfin := hb.alloc hb.size (.cells #[.int .i64 2, .slice (some ⟨b, off, none⟩) 1 cap, .int .i64 3, .int .i64 8] 24)
  have HF := Lib.hid hfin
  have heq : ∀ w, (Op.equalIn 10000 45 (.agg #[.string ⟨#[112, 111, 115, 101]⟩, .int .i64 6, .int .i64 4]) (.agg #[.string ⟨#[112, 111, 115, 101]⟩, .int .i64 6, .int .i64 4])).run Tryd.prog w = .ok true w := fun w => eq45 (⟨#[112, 111, 115, 101]⟩, 6, 4) (⟨#[112, 111, 115, 101]⟩, 6, 4) w
  clear hfin hb hC hB hT u0 u1 u2
  go_wp2
  go_ret
  exact ⟨rfl, HF.out⟩
end Go.Proofs.YthdchoagdipplaaDoor
