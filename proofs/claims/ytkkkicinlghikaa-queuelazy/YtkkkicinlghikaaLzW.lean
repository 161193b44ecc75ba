/- The walk of the law QueueLazy: all its branches. -/
import Derived.Test.YtkkkicinlghikaaLzN
import Derived.Test.YtkkkicinlghikaaLzT
namespace Go.Proofs.Ytkkkicinlghikaa
open Go.RowKit

theorem lazy_law (n c g l x y : Int) (hn : W64 n) (hl : W64 l) (hx : W64 x) (hy : W64 y) (w : World) : Calls Try.prog 5 #[cu n c g l, .int .u64 x, .int .u64 y] w (Ret (.bool true) w) := by
  by_cases h : Rgt n c
  · by_cases k : x ≤ y
    · by_cases m : 9223372036854775807 < y
      · by_cases m2 : 9223372036854775807 < x
        · exact lazy_E n c g l x y k 10 rfl (fun w => see_range n c g l x h m2 w) (fun w => see_range n c g l y h m w) w
        · exact lazy_F n c g l x y k h hl ⟨hx.1, by omega⟩ m w
      · by_cases hq : qd n c y = 0
        · exact lazy_N n c g l x y k h hl ⟨hx.1, by omega⟩ ⟨hy.1, by omega⟩ hq w
        · exact lazy_T n c g l x y k h hl ⟨hx.1, by omega⟩ ⟨hy.1, by omega⟩ hq w
    · have k : y < x := by omega
      by_cases m : 9223372036854775807 < x
      · by_cases m2 : 9223372036854775807 < y
        · exact lazy_Es n c g l y x k 10 rfl (fun w => see_range n c g l y h m2 w) (fun w => see_range n c g l x h m w) w
        · exact lazy_Fs n c g l y x k h hl ⟨hy.1, by omega⟩ m w
      · by_cases hq : qd n c x = 0
        · exact lazy_Ns n c g l y x k h hl ⟨hy.1, by omega⟩ ⟨hx.1, by omega⟩ hq w
        · exact lazy_Ts n c g l y x k h hl ⟨hy.1, by omega⟩ ⟨hx.1, by omega⟩ hq w
  · by_cases k : x ≤ y
    · exact lazy_E n c g l x y k 1 rfl (fun w => see_arg n c g l x hn.1 h w) (fun w => see_arg n c g l y hn.1 h w) w
    · exact lazy_Es n c g l y x (by omega) 1 rfl (fun w => see_arg n c g l y hn.1 h w) (fun w => see_arg n c g l x hn.1 h w) w
end Go.Proofs.Ytkkkicinlghikaa
