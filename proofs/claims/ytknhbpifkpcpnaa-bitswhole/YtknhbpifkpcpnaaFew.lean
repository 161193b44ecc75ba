/- few: its contract. -/
import Derived.Test.YtknhbpifkpcpnaaAny
namespace Go.Proofs.Ytknhbpifkpcpnaa
open Go.RowKit
theorem few_any (a : Option Addr) (len cap : Nat) (w : World) : Calls Try.prog 25 #[.slice a len cap] w (Ret (.bool (decide ((len : Int) ≤ 80))) w) := by
  go_enter Try.func25, Try.ntmps25
  go_wp2
  go_ret
  exact ⟨rfl, Below.refl _ _⟩
end Go.Proofs.Ytknhbpifkpcpnaa
