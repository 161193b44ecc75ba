/- The walk of the law QueueCursors: all its branches. -/
import Derived.Test.YtkkkicinlghikaaCuB
import Derived.Test.YtkkkicinlghikaaCuC
import Derived.Test.YtkkkicinlghikaaCuD
import Derived.Test.YtkkkicinlghikaaArgQ
namespace Go.Proofs.Ytkkkicinlghikaa
open Go.RowKit

theorem cursors_law (n c g l x r : Int) (hn : W64 n) (hl : W64 l) (hx : W64 x) (w : World) : Calls Try.prog 6 #[cu n c g l, .int .u64 x, .int .i64 r] w (Ret (.bool true) w) := by
  by_cases h : Rgt n c
  · by_cases k : 9223372036854775807 < x
    · exact cursors_GB n c g l x r k 10 rfl (may_range h k) (fun w => see_range n c g l x h k w) (fun w => count_range n c g l x h k w) w
    · have hG : Gen x := ⟨hx.1, by omega⟩
      by_cases hq : qd n c x = 0
      · by_cases r1 : r < 1
        · exact cursors_RN n c g l x r hG r1 h hl hq w
        · by_cases r2 : 15 < r
          · exact cursors_SN n c g l x r hG r2 h hl hq w
          · exact cursors_ON n c g l x r hG (by omega) (by omega) h hl hq w
      · by_cases r1 : r < 1
        · exact cursors_RT n c g l x r hG r1 h hl hq w
        · by_cases r2 : 15 < r
          · exact cursors_ST n c g l x r hG r2 h hl hq w
          · exact cursors_OT n c g l x r hG (by omega) (by omega) h hl hq w
  · by_cases k : 9223372036854775807 < x
    · exact cursors_GB n c g l x r k 1 rfl (may_arg hn.1 h) (fun w => see_arg n c g l x hn.1 h w) (fun w => count_arg n c g l x hn.1 h w) w
    · have hG : Gen x := ⟨hx.1, by omega⟩
      by_cases r1 : r < 1
      · exact cursors_RB n c g l x r hG r1 1 rfl (may_arg hn.1 h) (fun w => see_arg n c g l x hn.1 h w) (fun w => count_arg n c g l x hn.1 h w) w
      · by_cases r2 : 15 < r
        · exact cursors_SB n c g l x r hG r2 1 rfl (may_arg hn.1 h) (fun w => see_arg n c g l x hn.1 h w) (fun w => count_arg n c g l x hn.1 h w) w
        · exact cursors_OB n c g l x r hG (by omega) (by omega) 1 rfl (may_arg hn.1 h) (fun w => see_arg n c g l x hn.1 h w) (fun w => count_arg n c g l x hn.1 h w) w
end Go.Proofs.Ytkkkicinlghikaa
