/- bits.Split: its contract. -/
import Derived.Test.YtknhbpifkpcpnaaTold
namespace Go.Proofs.Ytknhbpifkpcpnaa
open Go.RowKit

set_option maxHeartbeats 400000 in
theorem split_any (a : Option Addr) (len cap : Nat) (zs : List Int) (x : Nat) (hx : W64 x) (hlen : len = zs.length) (hl80 : zs.length ≤ 80) (w : World) (hI : Ints w.heap.size w a zs) :
    Calls Try.prog 30 #[.slice a len cap, .int .u64 x] w (SplitPost zs x w) := by
  subst hlen
  go_enter Try.func30, Try.ntmps30
  go_wp2_with fail
  refine (told_any a _ cap zs x hx rfl hl80 w hI).mono ?_
  rintro e w1 ⟨v, rfl, hb, h1, h2⟩
  have HH := Lib.hid (And.intro h1 h2)
  clear h1 h2
  go_wp2
  go_ret2
  exact ⟨v, rfl, hb, HH.out.1, HH.out.2⟩
end Go.Proofs.Ytknhbpifkpcpnaa
