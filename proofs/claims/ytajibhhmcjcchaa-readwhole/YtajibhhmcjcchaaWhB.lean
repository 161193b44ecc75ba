/- ReadWhole: the inputs that its walk leaves, and what the walk leans on. -/
import Derived.Test.YtajibhhmcjcchaaWhM
import Derived.Test.YtajibhhmcjcchaaRaM
import Derived.Deep.RegionHeld3
import Derived.Deep.CutRange
import Derived.Deep.DeepCutAuto
import Derived.BigQuiet
namespace Go.Proofs.Ytajibhhmcjcchaa
open Go.RowKit

/-- Ints of a slice that came in. -/
def Ids (n₀ : Nat) (W : World) (a : Option Addr) (xs : List Int) : Prop :=
  ∀ j x, xs[j]? = some x → I64 x ∧ ∃ b off, a = some ⟨b, off, none⟩ ∧ b < n₀ ∧ W.cell? ⟨b, off + j, none⟩ = some (.int .i64 x)
theorem Ids.keep {A B : World} {n₀ : Nat} {a : Option Addr} {xs : List Int} (k : Ids n₀ A a xs) (h : Below n₀ A B) : Ids n₀ B a xs := fun j x hx => by
  obtain ⟨h1, b, off, e, hb, hc⟩ := k j x hx
  exact ⟨h1, b, off, e, hb, by rw [h.cell (p := ⟨b, off + j, none⟩) hb]; exact hc⟩
abbrev bx2 (d t : Int) : Obj := .cells #[.int .i64 d, .int .i64 t] 66
set_option maxRecDepth 100000 in
set_option maxHeartbeats 2000000 in
theorem who_few (a : Option Addr) (l cap : Nat) (d t : Int) (pa : Option Addr) (m pc : Nat) (w : World) (h : l < 1 ∨ 40 < l) : Calls Try.prog 5 #[.slice a l cap, .agg #[.int .i64 d, .int .i64 t], .slice pa m pc] w (True1 w) := by
  have Hb := Lib.hid ((Below.refl w.heap.size w).alloc (Nat.le_refl _) (bx2 d t))
  rcases (show (l : Int) < 1 ∨ (1 ≤ (l : Int) ∧ 40 < (l : Int)) by omega) with k | ⟨k1, k2⟩
  all_goals
    clear h
    go_enter Try.func5, Try.ntmps5
    go_wp2_with fail
    refine (awake_any _).mono ?_
    rintro e w1 ⟨rfl, hu1⟩
    have H1 := Lib.hid (Hb.out.trans (hu1.mono Hb.out.size))
    clear hu1
    go_wp2
    go_ret
    exact ⟨rfl, H1.out⟩
set_option maxRecDepth 100000 in
set_option maxHeartbeats 2000000 in
theorem who_bad (b off l cap : Nat) (d t : Int) (pa : Option Addr) (m pc : Nat) (w : World) (a0 : Option Addr) (n c0 : Nat) (h1 : 1 ≤ l) (h2 : l ≤ 40) (hb : b < w.heap.size) (hc : w.cell? ⟨b, off, none⟩ = some (.slice a0 n c0)) (h : ¬ (1 ≤ n ∧ n ≤ 6 ∧ 2 ≤ d ∧ d ≤ 16 ∧ 1 ≤ t ∧ t ≤ 16 ∧ m ≤ 400)) : Calls Try.prog 5 #[.slice (some ⟨b, off, none⟩) l cap, .agg #[.int .i64 d, .int .i64 t], .slice pa m pc] w (True1 w) := by
  have k1 : 1 ≤ (l : Int) := by omega
  have k2 : (l : Int) ≤ 40 := by omega
  have k0 : (0 : Int) < l := by omega
  have Hb := Lib.hid ((Below.refl w.heap.size w).alloc (Nat.le_refl _) (bx2 d t))
  have hC := Blk.new w #[.int .i64 d, .int .i64 t] 66
  have x0 := hC.cell (i := 0) rfl
  have x1 := hC.cell (i := 1) rfl
  have c0' : (w.alloc (bx2 d t)).cell? ⟨b, off, none⟩ = some (.slice a0 n c0) := by rw [Hb.out.cell (p := ⟨b, off, none⟩) hb]; exact hc
  clear h1 h2 hc hC hb
  rcases (show (n : Int) < 1 ∨ (1 ≤ (n : Int) ∧ 6 < (n : Int)) ∨ (1 ≤ (n : Int) ∧ (n : Int) ≤ 6 ∧ d < 2) ∨ (1 ≤ (n : Int) ∧ (n : Int) ≤ 6 ∧ 2 ≤ d ∧ 16 < d) ∨ (1 ≤ (n : Int) ∧ (n : Int) ≤ 6 ∧ 2 ≤ d ∧ d ≤ 16 ∧ t < 1) ∨ (1 ≤ (n : Int) ∧ (n : Int) ≤ 6 ∧ 2 ≤ d ∧ d ≤ 16 ∧ 1 ≤ t ∧ 16 < t) ∨ (1 ≤ (n : Int) ∧ (n : Int) ≤ 6 ∧ 2 ≤ d ∧ d ≤ 16 ∧ 1 ≤ t ∧ t ≤ 16 ∧ 400 < (m : Int)) by omega) with k | ⟨k3, k4⟩ | ⟨k3, k4, k5⟩ | ⟨k3, k4, k5, k6⟩ | ⟨k3, k4, k5, k6, k7⟩ | ⟨k3, k4, k5, k6, k7, k8⟩ | ⟨k3, k4, k5, k6, k7, k8, k9⟩
  all_goals
    clear h
    go_enter Try.func5, Try.ntmps5
    go_wp2_with fail
    refine (awake_any _).mono ?_
    rintro e w1 ⟨rfl, hu1⟩
    have H1 := Lib.hid (Hb.out.trans (hu1.mono Hb.out.size))
    clear hu1
    go_wp2
    go_ret
    exact ⟨rfl, H1.out⟩
end Go.Proofs.Ytajibhhmcjcchaa
