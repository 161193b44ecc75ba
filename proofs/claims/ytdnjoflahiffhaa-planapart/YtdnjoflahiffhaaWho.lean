/- plan's Whose: its contract. -/
import Derived.Test.YtdnjoflahiffhaaThg
namespace Go.Proofs.Ytdnjoflahiffhaa
open Go.RowKit Go.Shelf

/-- Whether a word is one of a stretch, as it is reckoned. -/
def hasW (x : It) (p : Int) : Bool := decide (x.1 ≤ p) && decide (p < wrap64 (x.1 + x.2.1))
theorem hasW_B {x : It} {p : Int} (h1 : 0 ≤ x.1) (h2 : x.1 ≤ 10000000) (h3 : 0 ≤ x.2.1) (h4 : x.2.1 ≤ 10000000) : hasW x p = hasB x p := by
  unfold hasW hasB
  rw [show wrap64 (x.1 + x.2.1) = x.1 + x.2.1 by unfold wrap64; omega]

set_option maxHeartbeats 1000000 in
theorem has_any (x : It) (p : Int) (w : World) : Calls Try.prog 26 #[.agg #[.int .i64 x.1, .int .i64 x.2.1], .int .i64 p] w (Ret (.bool (hasW x p)) w) := by
  obtain ⟨f, n, q⟩ := x
  have hC := Blk.new w #[.int .i64 f, .int .i64 n] 72
  have hB := Lib.hid ((Below.refl w.heap.size w).alloc (Nat.le_refl _) (.cells #[.int .i64 f, .int .i64 n] 72))
  have c0 := hC.cell (i := 0) rfl
  have c1 := hC.cell (i := 1) rfl
  clear hC
  by_cases h1 : f ≤ p
  · have m1 : decide (f ≤ p) = true := decide_eq_true h1
    have hv : hasW (f, n, q) p = decide (p < wrap64 (f + n)) := by simp [hasW, h1]
    rw [hv]
    clear hv h1
    go_enter Try.func26, Try.ntmps26
    go_wp2
    go_ret
    exact ⟨rfl, hB.out⟩
  · have m1 : decide (f ≤ p) = false := decide_eq_false h1
    have hv : hasW (f, n, q) p = false := by simp [hasW, h1]
    rw [hv]
    clear hv h1
    go_enter Try.func26, Try.ntmps26
    go_wp2
    go_ret
    exact ⟨rfl, hB.out⟩
end Go.Proofs.Ytdnjoflahiffhaa
