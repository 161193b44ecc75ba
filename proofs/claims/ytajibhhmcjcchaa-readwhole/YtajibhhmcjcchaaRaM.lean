/- ReadAlone: what its walk leans on, and the inputs that it leaves. -/
import Derived.Test.YtajibhhmcjcchaaOwM
import Derived.Test.YtajibhhmcjcchaaClo
import Derived.Test.YtajibhhmcjcchaaArgR
import Derived.Deep.RegionHeld3
import Derived.BigQuiet
namespace Go.Proofs.Ytajibhhmcjcchaa
open Go.RowKit

/-- While a publishing is under way, the newest record stays, and which one it is. -/
theorem al_place {n d k : Nat} {ws xs : List Int} {j : Nat} {x : St} {zs : List Int} (h3 : 2 ≤ d) (hx : xs[1]? = some (2 * (k : Int))) (h : AlInv n d k ws xs j x zs) (hj : j < n + 3) :
    (∀ i, i < n → zs[gat n d k + i]? = xs[gat n d k + i]?) ∧ ∃ v : Int, zs[1]? = some v ∧ v / 2 = k ∧ 0 ≤ v ∧ v ≤ 2 * (k : Int) + 1 := by
  obtain ⟨_, _, hc⟩ := h
  have hlaid : ∀ m, m ≤ n → Laid (plc n d k) m ws xs zs → ∀ i, i < n → zs[gat n d k + i]? = xs[gat n d k + i]? := fun m hm hL i hi => by
    have h2 := (gat_in (n := n) (d := d) (G := k) h3).1
    rw [hL _ (by omega), if_neg]
    unfold plc gat
    intro c
    have q : k % d < d := Nat.mod_lt _ (by omega)
    have q' : (k + 1) % d < d := Nat.mod_lt _ (by omega)
    have hne : (k + 1) % d ≠ k % d := by
      intro e
      have h1 : (k % d + 1) % d = k % d := by rw [Nat.mod_add_mod]; exact e
      by_cases c2 : k % d + 1 = d
      · rw [c2, Nat.mod_self] at h1
        omega
      · rw [Nat.mod_eq_of_lt (by omega)] at h1
        omega
    generalize (k + 1) % d = A at *
    generalize k % d = B at *
    rcases Nat.lt_trichotomy B A with e | e | e
    · have : (B + 1) * n ≤ A * n := Nat.mul_le_mul_right n e
      rw [Nat.add_mul, Nat.one_mul] at this
      omega
    · exact hne e.symm
    · have : (A + 1) * n ≤ B * n := Nat.mul_le_mul_right n e
      rw [Nat.add_mul, Nat.one_mul] at this
      omega
  rcases hc with ⟨_, _, rfl⟩ | ⟨_, _, rfl⟩ | ⟨m, _, hm, _, hy, hL⟩ | ⟨c, _⟩
  · exact ⟨fun _ _ => rfl, _, hx, by omega, by omega, by omega⟩
  · exact ⟨fun _ _ => rfl, _, hx, by omega, by omega, by omega⟩
  · exact ⟨hlaid m hm hL, _, hy, by omega, by omega, by omega⟩
  · omega
/-- A spot's cells, and one more. -/
def SpC (sp : Nat) (n d : Int) (p : Addr) (v : Value) (w : World) : Prop := Blk w sp (spc 0 1 2 n d) ∧ w.cell? p = some v
theorem cell_low {A B : World} {p : Addr} {v : Value} (h : Below A.heap.size A B) (c : A.cell? p = some v) : B.cell? p = some v := by
  rw [h.cell (World.block_lt_of_cell? _ _ c)]
  exact c
/-- A bank and a spot. -/
structure RaB (w : World) (b bg sp n d : Nat) (zs : List Int) (t : Int) (wr : World) : Prop where
  bank : Bk wr b bg zs t
  spot : Blk wr sp (spc 0 1 2 n d)
  bel : Below w.heap.size w wr
theorem RaB.low {w A B : World} {b bg sp n d : Nat} {zs : List Int} {t : Int} (h : RaB w b bg sp n d zs t A) (u : Below A.heap.size A B) : RaB w b bg sp n d zs t B :=
  ⟨h.bank.below u, h.spot.low u, h.bel.trans (u.mono h.bel.size)⟩
/-- The checking loop's head. -/
def RaRel1 (w : World) (b bg sp n d : Nat) (rs : List Rw) (zs : List Int) (i : Value) (wr : World) : Prop :=
  ∃ k : Nat, i = .int .i64 k ∧ k ≤ rs.length ∧ (∀ j r, j < k → rs[j]? = some r → r.2.2.length = n) ∧ RaB w b bg sp n d zs 0 wr
/-- The publishing loop's head. -/
def RaRel2 (w : World) (b bg sp n d : Nat) (rs : List Rw) (i : Value) (wr : World) : Prop :=
  ∃ (k : Nat) (xs : List Int) (t : Int), i = .int .i64 k ∧ k ≤ rs.length ∧ xs.length = 2 + n * d ∧ xs[1]? = some (2 * (k : Int)) ∧ (∀ j r, k = j + 1 → rs[j]? = some r → ∀ i, i < n → xs[gat n d k + i]? = r.2.2[i]?) ∧ 0 ≤ t ∧ t ≤ 67 * k ∧ RaB w b bg sp n d xs t wr
/-- The steps of one more publishing. -/
def RaRel3 (w : World) (b bg o g p pg n d k : Nat) (ws xs : List Int) (t : Int) (m : Nat) (i : Value) (wr : World) : Prop :=
  ∃ (j : Nat) (x : St) (zs : List Int), i = .int .i64 j ∧ j ≤ m ∧ AlInv n d k ws xs j x zs ∧ OpAt wr o g (spS n d) ws x ∧ Bk wr b bg zs (t + j) ∧ Wf (spS n d) ws x ∧ x.steps = j ∧ RdAt wr p pg (spS n d) (rst0 1) ∧ Below w.heap.size w wr
/-- The reading's steps. -/
def RaRel4 (w : World) (b bg b2 g2 p pg n d k : Nat) (zs : List Int) (t : Int) (i : Value) (wr : World) : Prop :=
  ∃ j : Nat, i = .int .i64 ((j : Int) + 1) ∧ j ≤ n + 2 ∧ Bk wr b bg zs (t + j) ∧ Bk wr b2 g2 zs t ∧ RdAt wr p pg (spS n d) (rqa zs n 1 k (gat n d k) j) ∧ Below w.heap.size w wr
/-- The words' loop. -/
def RaRel5 (w : World) (b bg b2 g2 p pg n d : Nat) (X : RSt) (zs : List Int) (t t' : Int) (i : Value) (wr : World) : Prop :=
  ∃ q : Nat, i = .int .i64 q ∧ q ≤ zs.length ∧ Bk wr b bg zs t' ∧ Bk wr b2 g2 zs t ∧ RdAt wr p pg (spS n d) X ∧ Below w.heap.size w wr
set_option maxRecDepth 100000 in
set_option maxHeartbeats 2000000 in
theorem ral_few (a : Option Addr) (l cap : Nat) (d m : Int) (w : World) (h : l < 1 ∨ 20 < l) : Calls Try.prog 4 #[.slice a l cap, .int .i64 d, .int .i64 m] w (True1 w) := by
  rcases (show (l : Int) < 1 ∨ (1 ≤ (l : Int) ∧ 20 < (l : Int)) by omega) with k | ⟨k1, k2⟩
  all_goals
    clear h
    go_enter Try.func4, Try.ntmps4
    go_wp2_with fail
    refine (awake_any _).mono ?_
    rintro e w1 ⟨rfl, hu1⟩
    have H1 := Lib.hid hu1
    clear hu1
    go_wp2
    go_ret
    exact ⟨rfl, H1.out⟩
set_option maxRecDepth 100000 in
set_option maxHeartbeats 2000000 in
theorem ral_bad (b off l cap : Nat) (d m : Int) (w : World) (a0 : Option Addr) (n c0 : Nat) (h1 : 1 ≤ l) (h2 : l ≤ 20) (hc : w.cell? ⟨b, off, none⟩ = some (.slice a0 n c0)) (h : ¬ (1 ≤ n ∧ n ≤ 64 ∧ 2 ≤ d ∧ d ≤ 16 ∧ 0 ≤ m ∧ m ≤ (n : Int) + 2)) : Calls Try.prog 4 #[.slice (some ⟨b, off, none⟩) l cap, .int .i64 d, .int .i64 m] w (True1 w) := by
  have k1 : 1 ≤ (l : Int) := by omega
  have k2 : (l : Int) ≤ 20 := by omega
  have k0 : (0 : Int) < l := by omega
  clear h1 h2
  rcases (show (n : Int) < 1 ∨ (1 ≤ (n : Int) ∧ 64 < (n : Int)) ∨ (1 ≤ (n : Int) ∧ (n : Int) ≤ 64 ∧ d < 2) ∨ (1 ≤ (n : Int) ∧ (n : Int) ≤ 64 ∧ 2 ≤ d ∧ 16 < d) ∨ (1 ≤ (n : Int) ∧ (n : Int) ≤ 64 ∧ 2 ≤ d ∧ d ≤ 16 ∧ m < 0) ∨ (1 ≤ (n : Int) ∧ (n : Int) ≤ 64 ∧ 2 ≤ d ∧ d ≤ 16 ∧ 0 ≤ m ∧ (n : Int) + 2 < m) by omega) with k | ⟨k3, k4⟩ | ⟨k3, k4, k5⟩ | ⟨k3, k4, k5, k6⟩ | ⟨k3, k4, k5, k6, k7⟩ | ⟨k3, k4, k5, k6, k7, k8⟩
  all_goals
    clear h
    go_enter Try.func4, Try.ntmps4
    go_wp2_with fail
    refine (awake_any _).mono ?_
    rintro e w1 ⟨rfl, hu1⟩
    have H1 := Lib.hid hu1
    clear hu1
    go_wp2
    go_ret
    exact ⟨rfl, H1.out⟩
end Go.Proofs.Ytajibhhmcjcchaa
