/- WriteOnce: what its walk leans on, and the inputs that it leaves. -/
import Derived.Test.YtbfelghfimcenaaOnX
import Derived.Deep.RegionHeld3
import Derived.Deep.CutRange
import Derived.Deep.DeepCutAuto
import Derived.BigQuiet
namespace Go.Proofs.Ytbfelghfimcenaa
open Go.RowKit

/-- Ints of a slice that came in. -/
def Ids (n₀ : Nat) (W : World) (a : Option Addr) (xs : List Int) : Prop :=
  ∀ j x, xs[j]? = some x → I64 x ∧ ∃ b off, a = some ⟨b, off, none⟩ ∧ b < n₀ ∧ W.cell? ⟨b, off + j, none⟩ = some (.int .i64 x)
theorem Ids.keep {A B : World} {n₀ : Nat} {a : Option Addr} {xs : List Int} (k : Ids n₀ A a xs) (h : Below n₀ A B) : Ids n₀ B a xs := fun j x hx => by
  obtain ⟨h1, b, off, e, hb, hc⟩ := k j x hx
  exact ⟨h1, b, off, e, hb, by rw [h.cell (p := ⟨b, off + j, none⟩) hb]; exact hc⟩
abbrev bx3 (r0 r1 r2 : Rw) : Obj := .cells #[rwv r0, rwv r1, rwv r2] 67
theorem cell_low {A B : World} {p : Addr} {v : Value} (h : Below A.heap.size A B) (c : A.cell? p = some v) : B.cell? p = some v := by
  rw [h.cell (World.block_lt_of_cell? _ _ c)]
  exact c
abbrev bs (n d : Int) : Obj := .cells #[.int .i64 0, .int .i64 1, .int .i64 2, .int .i64 n, .int .i64 d] 23

set_option maxRecDepth 100000 in
set_option maxHeartbeats 2000000 in
theorem once_bad (a0 a1 a2 : Option Addr) (l0 l1 l2 c0 c1 c2 : Nat) (d : Int) (pa : Option Addr) (m pc : Nat) (w : World) (h : ¬ (1 ≤ l0 ∧ l0 ≤ 6 ∧ l1 = l0 ∧ l2 = l0 ∧ 2 ≤ d ∧ d ≤ 16 ∧ m ≤ 300)) :
    Calls Try.prog 5 #[.agg #[.slice a0 l0 c0, .slice a1 l1 c1, .slice a2 l2 c2], .int .i64 d, .slice pa m pc] w (True1 w) := by
  have key : (l0 : Int) < 1 ∨ (1 ≤ (l0 : Int) ∧ 6 < (l0 : Int)) ∨ (1 ≤ (l0 : Int) ∧ (l0 : Int) ≤ 6 ∧ ((l1 : Int) != l0) = true) ∨ (1 ≤ (l0 : Int) ∧ (l0 : Int) ≤ 6 ∧ ((l1 : Int) != l0) = false ∧ ((l2 : Int) != l0) = true) ∨
      (1 ≤ (l0 : Int) ∧ (l0 : Int) ≤ 6 ∧ ((l1 : Int) != l0) = false ∧ ((l2 : Int) != l0) = false ∧ d < 2) ∨ (1 ≤ (l0 : Int) ∧ (l0 : Int) ≤ 6 ∧ ((l1 : Int) != l0) = false ∧ ((l2 : Int) != l0) = false ∧ 2 ≤ d ∧ 16 < d) ∨
      (1 ≤ (l0 : Int) ∧ (l0 : Int) ≤ 6 ∧ ((l1 : Int) != l0) = false ∧ ((l2 : Int) != l0) = false ∧ 2 ≤ d ∧ d ≤ 16 ∧ 300 < (m : Int)) := by
    simp only [bne_iff_ne, ne_eq, bne_eq_false_iff_eq]
    omega
  clear h
  have Hb := Lib.hid ((Below.refl w.heap.size w).alloc (Nat.le_refl _) (.cells #[.slice a0 l0 c0, .slice a1 l1 c1, .slice a2 l2 c2] 67))
  rcases key with k | ⟨k1, k2⟩ | ⟨k1, k2, k3⟩ | ⟨k1, k2, k3, k4⟩ | ⟨k1, k2, k3, k4, k5⟩ | ⟨k1, k2, k3, k4, k5, k6⟩ | ⟨k1, k2, k3, k4, k5, k6, k7⟩
  all_goals
    go_enter Try.func5, Try.ntmps5
    go_wp2_with fail
    refine (awake_any _).mono ?_
    rintro e w1 ⟨rfl, hu1⟩
    have H1 := Lib.hid (Hb.out.trans (hu1.mono Hb.out.size))
    clear hu1
    go_wp2
    go_ret
    exact ⟨rfl, H1.out⟩
def SpC (sp : Nat) (n d : Int) (p : Addr) (v : Value) (w : World) : Prop := Blk w sp (spc 0 1 2 n d) ∧ w.cell? p = some v
def TwC (p1 : Addr) (v1 : Value) (p2 : Addr) (v2 : Value) (w : World) : Prop := w.cell? p1 = some v1 ∧ w.cell? p2 = some v2
/-- The loop's head. -/
def OnRel (w : World) (b bg sp ob rb : Nat) (n d m : Nat) (R : Nat → Rw) (dn hd i : Value) (wr : World) : Prop :=
  ∃ (D : Nat) (H : Int) (q : Nat) (X : Ops) (zs : List Int) (t : Int), dn = .int .u64 D ∧ hd = .int .i64 H ∧ i = .int .i64 q ∧ q ≤ m ∧ OnInv n d D H X (fun k => (R k).2.2) q zs ∧ OnMem w b bg sp ob rb n d X R zs t wr ∧ 0 ≤ t ∧ t ≤ q
/-- Behind the making of one that was not under way. -/
def OnMid (w : World) (b bg sp ob rb : Nat) (n d : Nat) (R : Nat → Rw) (D : Nat) (H : Int) (q k : Nat) (zs : List Int) (t : Int) (wr : World) : Prop :=
  ∃ (X : Ops) (o g : Nat) (x : St), X k = some (o, g, x) ∧ OnInv n d D H X (fun k => (R k).2.2) q zs ∧ OnMem w b bg sp ob rb n d X R zs t wr
theorem pick3 (p : Int) : ∃ k : Nat, k < 3 ∧ Int.tmod (wrap64 (Int.tmod p 3 + 3)) 3 = k := by
  have h1 : -3 < Int.tmod p 3 ∧ Int.tmod p 3 < 3 := ⟨by have := Int.lt_tmod_of_pos p (show (0 : Int) < 3 by omega); omega, Int.tmod_lt_of_pos p (by omega)⟩
  have e : wrap64 (Int.tmod p 3 + 3) = Int.tmod p 3 + 3 := by unfold wrap64; omega
  rw [e]
  refine ⟨((Int.tmod p 3 + 3) % 3).toNat, by omega, ?_⟩
  rw [Int.tmod_eq_emod_of_nonneg (by omega)]
  omega
/-- The loop that looks for a word that was turned. -/
def OnRel2 (w : World) (b bg sp ob rb b2 g2 : Nat) (n d : Nat) (X : Ops) (R : Nat → Rw) (zs ys : List Int) (t t2 : Int) (tv i : Value) (wr : World) : Prop :=
  ∃ (c : Bool) (q : Nat), tv = .bool c ∧ i = .int .i64 q ∧ 2 ≤ q ∧ q ≤ zs.length ∧ ((∀ j, 2 ≤ j → zs[j]? = ys[j]?) → c = false) ∧ OnMem w b bg sp ob rb n d X R zs t wr ∧ Bk wr b2 g2 ys t2
/-- The loop over the words of the place. -/
def OnRel3 (w : World) (b bg sp ob rb : Nat) (n d : Nat) (X : Ops) (R : Nat → Rw) (zs : List Int) (t : Int) (i : Value) (wr : World) : Prop :=
  ∃ (q : Nat), i = .int .i64 q ∧ q ≤ n ∧ OnMem w b bg sp ob rb n d X R zs t wr
end Go.Proofs.Ytbfelghfimcenaa
