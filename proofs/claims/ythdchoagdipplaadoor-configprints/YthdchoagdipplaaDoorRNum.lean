/- The document's numeral: its contract. -/
import Derived.Test.YthdchoagdipplaaDoorPrM
import Derived.Test.YthdchoagdipplaaDoorChk
import Derived.BigQuiet
namespace Go.Proofs.YthdchoagdipplaaDoor
open Go.RowKit

def digs : ByteArray := ⟨#[48, 49, 50, 51, 52, 53, 54, 55, 56, 57]⟩
theorem dig_ext : ∀ n : Fin 10, (digs.extract n.val (n.val + 1)) = str [UInt8.ofNat (48 + n.val)] := by decide +kernel
theorem digx {n : Nat} (h : n < 10) : digs.extract n (n + 1) = str [UInt8.ofNat (48 + n)] := dig_ext ⟨n, h⟩
theorem rnum_one (n : Nat) (h : n < 10) (w : World) : Calls Tryd.prog 38 #[.int .i64 n] w (fun e w' => e = .returned (.string (str (dd2 n))) ∧ w = w') := by
  have e : dd2 n = [UInt8.ofNat (48 + n)] := by unfold dd2; rw [if_pos h]
  rw [e, ← digx h]
  unfold digs
  clear e
  go_enter Tryd.func38, Tryd.ntmps38
  go_wp2
  go_ret
  exact ⟨rfl, rfl⟩

set_option maxRecDepth 100000 in
set_option maxHeartbeats 4000000 in
theorem rnum_two (n : Nat) (h : 10 ≤ n) (h2 : n < 100) (w : World) : Calls Tryd.prog 38 #[.int .i64 n] w (fun e w' => e = .returned (.string (str (dd2 n))) ∧ ∃ m, w' = w.drewN m) := by
  obtain ⟨a, b, rfl, ha, hb, ha0⟩ : ∃ a b, n = 10 * a + b ∧ a < 10 ∧ b < 10 ∧ 1 ≤ a := ⟨n / 10, n % 10, by omega, by omega, by omega, by omega⟩
  have e : dd2 (10 * a + b) = [UInt8.ofNat (48 + a)] ++ [UInt8.ofNat (48 + b)] := by
    unfold dd2
    rw [if_neg (by omega), show (10 * a + b) / 10 = a by omega, show (10 * a + b) % 10 = b by omega]
    rfl
  have hone : ∀ w : World, Calls Tryd.prog 38 #[.int .i64 a] w (fun e w' => e = .returned (.string (str (dd2 a))) ∧ w' = w) := fun w => (rnum_one a ha w).mono (fun _ _ h => ⟨h.1, h.2.symm⟩)
  have e1 : dd2 a = [UInt8.ofNat (48 + a)] := by unfold dd2; rw [if_pos ha]
  rw [e1] at hone
  have hx := digx hb
  unfold digs at hx
  rw [e]
  have hlt : decide ((((10 * a + b : Nat)) : Int) < 10) = false := decide_eq_false (by omega)
  have hq : (((10 * a + b : Nat)) : Int) / 10 = (a : Int) := by omega
  have hr : (((10 * a + b : Nat)) : Int) % 10 = (b : Int) := by omega
  have hw1 : IntKind.i64.wrap ((b : Int) + 1) = (b : Int) + 1 := IntWalk.i64_in _ (by omega)
  have hcat := str_cat [UInt8.ofNat (48 + a)] [UInt8.ofNat (48 + b)]
  have hsz : ¬ (9223372036854775807 < (str [UInt8.ofNat (48 + a)]).size + (str [UInt8.ofNat (48 + b)]).size) := by show ¬ (9223372036854775807 < 1 + 1); omega
  have Hone := Lib.hid hone
  clear e e1 hone h h2
  generalize hnE : (10 * a + b : Nat) = n at *
  have hn : n < 100 := by omega
  clear hnE
  generalize UInt8.ofNat (48 + a) = ca at *
  generalize UInt8.ofNat (48 + b) = cb at *
  go_enter Tryd.func38, Tryd.ntmps38
  go_wp2_with fail
  go_quiet ((go_at_call 38; exact Calls.quiet_of_same (Hone.out _)))
  go_wp2
  go_ret
  refine ⟨?_, _, rfl⟩
  show Ending.returned (.string (str [ca] ++ str [cb])) = _
  rw [show str [ca] ++ str [cb] = str ([ca] ++ [cb]) from hcat]
  rfl

theorem rnum_any (n : Nat) (h : n < 100) (w : World) : Calls Tryd.prog 38 #[.int .i64 n] w (fun e w' => e = .returned (.string (str (dd2 n))) ∧ ∃ m, w' = w.drewN m) := by
  by_cases h1 : n < 10
  · refine (rnum_one n h1 w).mono ?_
    rintro e w' ⟨he, hw⟩
    exact ⟨he, 0, by rw [← hw]; rfl⟩
  · exact rnum_two n (by omega) h w
end Go.Proofs.YthdchoagdipplaaDoor
