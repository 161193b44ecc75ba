/- The law BankActs returns true, whatever it is given. No condition. -/
import Derived.Test.YtckeoonbmpfmeaaRef
import Derived.ProofKit
import Derived.OpenShut
import Derived.ChangeOld
import Derived.Below
import Derived.Deep.RegionHeld3
import Derived.Deep.DeepCutAuto
namespace Go.Proofs.Ytckeoonbmpfmeaa.bankActs
open Go.ChangeShapes Go.WideShapes Go.ChangeAt Go.RowKit Go.Deep

theorem own : ownKnob Try.prog.godebug = none := by kernel_rfl
theorem laidOut : laidOutB Try.prog = true := by kernel_rfl

/-- An access leaves as many words, and counts one at most. -/
theorem acc_len (c : Act4) (xs : List Int) (t : Int) : (acc c xs t).xs.length = xs.length ∧ t ≤ (acc c xs t).t ∧ (acc c xs t).t ≤ t + 1 := by
  unfold acc
  cases hw : word c.a xs with
  | none => exact ⟨rfl, by simp, by simp; omega⟩
  | some v =>
    simp only
    split
    · exact ⟨rfl, by simp; omega, by simp⟩
    · split
      · exact ⟨by simp, by simp; omega, by simp⟩
      · split
        · split
          · exact ⟨by simp, by simp; omega, by simp⟩
          · exact ⟨rfl, by simp; omega, by simp⟩
        · exact ⟨by simp, by simp; omega, by simp⟩

def Rel (w : World) (b g r h n len : Nat) (i : Value) (wr : World) : Prop :=
  ∃ (k : Nat) (xs : List Int) (t : Int), k ≤ len ∧ i = .int .i64 k ∧ Bk wr b g xs t ∧ Bk wr r h xs t ∧ xs.length = n ∧ 0 ≤ t ∧ t ≤ k ∧ Below w.heap.size w wr
def RelB (w : World) (b g r h : Nat) (n : Int) (xs : List Int) (t : Int) (i : Value) (wr : World) : Prop :=
  ∃ q : Int, -1 ≤ q ∧ q ≤ n + 1 ∧ i = .int .i64 q ∧ Bk wr b g xs t ∧ Bk wr r h xs t ∧ Below w.heap.size w wr
/-- The cells of one access, and that nothing old has turned. -/
def SA (w : World) (ab o : Nat) (ck ca cx cy : Int) (w' : World) : Prop :=
  Below w.heap.size w w' ∧ w'.cell? ⟨ab, o, none⟩ = some (.int .i64 ck) ∧ w'.cell? ⟨ab, o + 1, none⟩ = some (.int .i64 ca) ∧ w'.cell? ⟨ab, o + 2, none⟩ = some (.int .u64 cx) ∧ w'.cell? ⟨ab, o + 3, none⟩ = some (.int .u64 cy)
theorem SA.of {w w' : World} {ab o : Nat} {ck ca cx cy : Int} (hu : Below w.heap.size w w') (hab : ab < w.heap.size)
    (h : w.cell? ⟨ab, o, none⟩ = some (.int .i64 ck) ∧ w.cell? ⟨ab, o + 1, none⟩ = some (.int .i64 ca) ∧ w.cell? ⟨ab, o + 2, none⟩ = some (.int .u64 cx) ∧ w.cell? ⟨ab, o + 3, none⟩ = some (.int .u64 cy)) : SA w ab o ck ca cx cy w' :=
  ⟨hu, (hu.cell (p := ⟨ab, o, none⟩) hab).trans h.1, (hu.cell (p := ⟨ab, o + 1, none⟩) hab).trans h.2.1, (hu.cell (p := ⟨ab, o + 2, none⟩) hab).trans h.2.2.1, (hu.cell (p := ⟨ab, o + 3, none⟩) hab).trans h.2.2.2⟩

set_option maxRecDepth 100000 in
set_option maxHeartbeats 1000000 in
theorem walk_no (n : Int) (a : Option Addr) (len cap : Nat) (l : List Act4) (w : World) (hl : Acts w a len cap l) (hno : n < 1 ∨ 40 < n ∨ 200 < (len : Int)) : Calls Try.prog 3 #[.int .i64 n, .slice a len cap] w (True1 w) := by
  have hmax := hl.1.len.2
  unfold maxLen at hmax
  have fin : ∀ (hd : decide (n < 1) = true ∨ (decide (n < 1) = false ∧ decide (40 < n) = true) ∨ (decide (n < 1) = false ∧ decide (40 < n) = false ∧ decide (200 < (len : Int)) = true)), Calls Try.prog 3 #[.int .i64 n, .slice a len cap] w (True1 w) := by
    intro hd
    clear hno
    rcases hd with h1 | ⟨h1, h2⟩ | ⟨h1, h2, h3⟩
    all_goals
      go_enter Try.func3, Try.ntmps3
      go_wp2_with fail
      refine (awake_any w).mono ?_
      rintro e w7 ⟨rfl, hu7⟩
      go_wp2
      go_ret
      exact ⟨rfl, hu7⟩
  apply fin
  by_cases h1 : n < 1
  · exact .inl (by simpa using h1)
  · by_cases h2 : 40 < n
    · exact .inr (.inl ⟨by simpa using h1, by simpa using h2⟩)
    · exact .inr (.inr ⟨by simpa using h1, by simpa using h2, by simp; omega⟩)

set_option maxRecDepth 100000 in
set_option maxHeartbeats 2000000 in
theorem walk_yes (n : Int) (a : Option Addr) (len cap : Nat) (l : List Act4) (w : World) (hl : Acts w a len cap l) (h1 : 1 ≤ n) (h40 : n ≤ 40) (h200 : (len : Int) ≤ 200) : Calls Try.prog 3 #[.int .i64 n, .slice a len cap] w (True1 w) := by
  have d1 : decide (n < 1) = false := by simp; omega
  have d2 : decide (40 < n) = false := by simp; omega
  have d3 : decide (200 < (len : Int)) = false := by simp; omega
  obtain ⟨m, Hm⟩ : ∃ m : Nat, Hid (n = (m : Int)) := ⟨n.toNat, show n = _ by omega⟩
  have hm1 : (m : Int) ≤ n := by have := Hm.out; omega
  have hm2 : n ≤ (m : Int) := by have := Hm.out; omega
  go_enter Try.func3, Try.ntmps3
  go_wp2_with fail
  have hnew : Calls Try.prog 11 #[.int .i64 n] w (NewPost m w) := by rw [Hm.out]; exact new_ok m w (by omega) (by omega)
  refine hnew.mono ?_
  clear hnew
  rintro e w1 ⟨b, g, hb, hg, rfl, hk1, hu1⟩
  have hs1 := hu1.size
  go_wp2_with fail
  have hlen : Calls Try.prog 12 #[.pointer (some ⟨b, 0, none⟩)] w1 fun e w' => e = .returned (.int .i64 n) ∧ w1 = w' := by
    have := len_any b g _ _ w1 hk1
    rw [List.length_replicate, ← Hm.out] at this
    exact this
  refine hlen.mono ?_
  clear hlen
  rintro e w2 ⟨rfl, rfl⟩
  go_wp2_with fail
  have hnew : Calls Try.prog 13 #[.int .i64 n] w1 (RefNewPost m w1) := by rw [Hm.out]; exact refnew_ok m w1 (by omega)
  refine hnew.mono ?_
  clear hnew
  rintro e w2 ⟨r, h, hr, hh, rfl, hR2, hu2⟩
  have hk2 := hk1.below hu2
  have lb := hk1.ltb
  have lg := hk1.ltg
  have hne : b ≠ r ∧ b ≠ h ∧ g ≠ r ∧ g ≠ h ∧ w.heap.size ≤ r ∧ w.heap.size ≤ h := by omega
  obtain ⟨n1, n2, n3, n4, hr, hh⟩ := hne
  have hu := hu1.trans (hu2.mono hs1)
  clear hk1 hu1 hu2 hs1 lb lg
  go_wp2_with fail
  go_loopw [8] (fun i wr => Rel w b g r h m len i wr) (fun i _ => len - (intOf i).toNat)
  case atStart => exact ⟨0, _, _, by omega, rfl, hk2, hR2, by simp, by omega, by omega, hu⟩
  case round =>
    clear hk2 hR2 hu
    obtain ⟨k, xs, t, hk, rfl, hk1, hR1, hxl, ht0, ht1, hu1⟩ := hrel
    have hs1 := hu1.size
    have Hxl := Lib.hid hxl
    clear hxl
    by_cases hlt : (k : Int) < len
    · obtain ⟨ab, off, c, ha, hlk, hok, hc0, hc1, hc2, hc3⟩ := hl.at (Below.refl _ _) (k := k) (by omega)
      clear hlk
      obtain ⟨ck, ca, cx, cy⟩ := c
      simp only at hc0 hc1 hc2 hc3
      have hab : ab < w.heap.size := World.block_lt_of_cell? _ _ hc0
      have Hc := Lib.hid (And.intro hc0 (And.intro hc1 (And.intro hc2 hc3)))
      clear hc0 hc1 hc2 hc3
      subst ha
      obtain ⟨_, hc0, hc1, hc2, hc3⟩ := SA.of hu1 hab Hc.out
      have hdo := Lib.hid (do_any b g xs t ⟨ck, ca, cx, cy⟩ wr hk1 hok (by omega) (by omega))
      have HA := Lib.hid (acc_len ⟨ck, ca, cx, cy⟩ xs t)
      go_wp2_with fail
      refine hdo.out.mono ?_
      rintro e w2 ⟨rfl, hk2, hu2'⟩
      have hu2 := Below.own hu1 hu2' hs1 hb hg
      have hR2 := hR1.upd hu2' (by rintro (q | q) <;> omega) (by rintro (q | q) <;> omega)
      have hs2 := hu2.size
      clear hu1 hu2' hk1 hR1 hs1 hc0 hc1 hc2 hc3 hdo
      go_wp2_with fail
      have hud := hu2.drew
      have hkd := hk2.drew
      have hRd := hR2.drew
      refine wp_region_held_drew (S := fun w' => SA w ab (off + k * 4) ck ca cx cy w') (by kernel_rfl) (SA.of hud hab Hc.out) (fun hHeld => ?_)
      refine wpAnyH_take (i := 0) (v := ?v1) rfl (by kernel_rfl) (by kernel_rfl) (by kernel_rfl) (fun _ _ _ h => h) (Or.inl ⟨by rfl, ?y1⟩) hHeld ?r1
      case y1 => (intro w hSw; obtain ⟨_, hSa, hSb, hSc, hSd⟩ := hSw; go_simp; try with_reducible rfl)
      simp only [List.getElem_toArray, List.getElem_cons_zero, List.getElem_cons_succ, Act.put, List.setIfInBounds_toArray, List.set_cons_zero, List.set_cons_succ]
      refine wpAnyH_take (i := 1) (v := ?v2) rfl (by kernel_rfl) (by kernel_rfl) (by kernel_rfl) (fun _ _ _ h => h) (Or.inl ⟨by rfl, ?y2⟩) hHeld ?r2
      case y2 => (intro w hSw; obtain ⟨_, hSa, hSb, hSc, hSd⟩ := hSw; go_simp; try with_reducible rfl)
      simp only [List.getElem_toArray, List.getElem_cons_zero, List.getElem_cons_succ, Act.put, List.setIfInBounds_toArray, List.set_cons_zero, List.set_cons_succ]
      refine wpAnyH_take (i := 2) (v := ?v3) rfl (by kernel_rfl) (by kernel_rfl) (by kernel_rfl) (fun _ _ _ h => h) (Or.inl ⟨by rfl, ?y3⟩) hHeld ?r3
      case y3 => (intro w hSw; obtain ⟨_, hSa, hSb, hSc, hSd⟩ := hSw; go_simp; try with_reducible rfl)
      simp only [List.getElem_toArray, List.getElem_cons_zero, List.getElem_cons_succ, Act.put, List.setIfInBounds_toArray, List.set_cons_zero, List.set_cons_succ]
      refine wpAnyH_take (i := 3) (v := ?v4) rfl (by kernel_rfl) (by kernel_rfl) (by kernel_rfl) (fun _ _ _ h => h) (Or.inl ⟨by rfl, ?y4⟩) hHeld ?r4
      case y4 => (intro w hSw; obtain ⟨_, hSa, hSb, hSc, hSd⟩ := hSw; go_simp; try with_reducible rfl)
      simp only [List.getElem_toArray, List.getElem_cons_zero, List.getElem_cons_succ, Act.put, List.setIfInBounds_toArray, List.set_cons_zero, List.set_cons_succ]
      refine wpAnyH_take (i := 4) (v := ?v5) rfl (by kernel_rfl) (by kernel_rfl) (by kernel_rfl) (fun _ _ _ h => h) (Or.inl ⟨by rfl, ?y5⟩) hHeld ?r5
      case y5 => (intro w hSw; obtain ⟨_, hSa, hSb, hSc, hSd⟩ := hSw; go_simp; try with_reducible rfl)
      simp only [List.getElem_toArray, List.getElem_cons_zero, List.getElem_cons_succ, Act.put, List.setIfInBounds_toArray, List.set_cons_zero, List.set_cons_succ]
      refine wpAnyH_take (i := 5) (v := ?v6) rfl (by kernel_rfl) (by kernel_rfl) (by kernel_rfl) (fun _ _ _ h => h) (Or.inl ⟨by rfl, ?y6⟩) hHeld ?r6
      case y6 => (intro w hSw; obtain ⟨_, hSa, hSb, hSc, hSd⟩ := hSw; go_simp; try with_reducible rfl)
      simp only [List.getElem_toArray, List.getElem_cons_zero, List.getElem_cons_succ, Act.put, List.setIfInBounds_toArray, List.set_cons_zero, List.set_cons_succ]
      refine wpAnyH_take (i := 6) (v := ?v7) rfl (by kernel_rfl) (by kernel_rfl) (by kernel_rfl) (fun _ _ _ h => h) (Or.inl ⟨by rfl, ?y7⟩) hHeld ?r7
      case y7 => (intro w hSw; obtain ⟨_, hSa, hSb, hSc, hSd⟩ := hSw; go_simp; try with_reducible rfl)
      simp only [List.getElem_toArray, List.getElem_cons_zero, List.getElem_cons_succ, Act.put, List.setIfInBounds_toArray, List.set_cons_zero, List.set_cons_succ]
      refine wpAnyH_take (i := 7) (v := ?v8) rfl (by kernel_rfl) (by kernel_rfl) (by kernel_rfl) (fun _ _ _ h => h) (Or.inl ⟨by rfl, ?y8⟩) hHeld ?r8
      case y8 => (intro w hSw; obtain ⟨_, hSa, hSb, hSc, hSd⟩ := hSw; go_simp; try with_reducible rfl)
      simp only [List.getElem_toArray, List.getElem_cons_zero, List.getElem_cons_succ, Act.put, List.setIfInBounds_toArray, List.set_cons_zero, List.set_cons_succ]
      refine wpAnyH_take (i := 8) (v := ?v9) rfl (by kernel_rfl) (by kernel_rfl) (by kernel_rfl) (fun _ _ _ h => h) (Or.inl ⟨by rfl, ?y9⟩) hHeld ?r9
      case y9 => (intro w hSw; obtain ⟨_, hSa, hSb, hSc, hSd⟩ := hSw; go_simp; try with_reducible rfl)
      simp only [List.getElem_toArray, List.getElem_cons_zero, List.getElem_cons_succ, Act.put, List.setIfInBounds_toArray, List.set_cons_zero, List.set_cons_succ]
      refine wpAnyH_take (i := 9) (v := ?v10) rfl (by kernel_rfl) (by kernel_rfl) (by kernel_rfl) (fun _ _ _ h => h) (Or.inl ⟨by rfl, ?y10⟩) hHeld ?r10
      case y10 => (intro w hSw; obtain ⟨_, hSa, hSb, hSc, hSd⟩ := hSw; go_simp; try with_reducible rfl)
      simp only [List.getElem_toArray, List.getElem_cons_zero, List.getElem_cons_succ, Act.put, List.setIfInBounds_toArray, List.set_cons_zero, List.set_cons_succ]
      refine wpAnyH_take (i := 10) (v := ?v11) rfl (by kernel_rfl) (by kernel_rfl) (by kernel_rfl) (fun _ _ _ h => h) (Or.inl ⟨by rfl, ?y11⟩) hHeld ?r11
      case y11 => (intro w hSw; obtain ⟨_, hSa, hSb, hSc, hSd⟩ := hSw; go_simp; try with_reducible rfl)
      simp only [List.getElem_toArray, List.getElem_cons_zero, List.getElem_cons_succ, Act.put, List.setIfInBounds_toArray, List.set_cons_zero, List.set_cons_succ]
      refine wpAnyH_take (i := 11) (v := ?v12) rfl (by kernel_rfl) (by kernel_rfl) (by kernel_rfl) (fun _ _ _ h => h) (Or.inl ⟨by rfl, ?y12⟩) hHeld ?r12
      case y12 => (intro w hSw; obtain ⟨_, hSa, hSb, hSc, hSd⟩ := hSw; go_simp; try with_reducible rfl)
      simp only [List.getElem_toArray, List.getElem_cons_zero, List.getElem_cons_succ, Act.put, List.setIfInBounds_toArray, List.set_cons_zero, List.set_cons_succ]
      refine wpAnyH_take (i := 12) (v := ?v13) rfl (by kernel_rfl) (by kernel_rfl) (by kernel_rfl) (fun _ _ _ h => h) (Or.inl ⟨by rfl, ?y13⟩) hHeld ?r13
      case y13 => (intro w hSw; obtain ⟨_, hSa, hSb, hSc, hSd⟩ := hSw; go_simp; try with_reducible rfl)
      simp only [List.getElem_toArray, List.getElem_cons_zero, List.getElem_cons_succ, Act.put, List.setIfInBounds_toArray, List.set_cons_zero, List.set_cons_succ]
      refine wpAnyH_take (i := 13) (v := ?v14) rfl (by kernel_rfl) (by kernel_rfl) (by kernel_rfl) (fun _ _ _ h => h) (Or.inl ⟨by rfl, ?y14⟩) hHeld ?r14
      case y14 => (intro w hSw; obtain ⟨_, hSa, hSb, hSc, hSd⟩ := hSw; go_simp; try with_reducible rfl)
      simp only [List.getElem_toArray, List.getElem_cons_zero, List.getElem_cons_succ, Act.put, List.setIfInBounds_toArray, List.set_cons_zero, List.set_cons_succ]
      refine wpAnyH_take (i := 14) (v := ?v15) rfl (by kernel_rfl) (by kernel_rfl) (by kernel_rfl) (fun _ _ _ h => h) (Or.inl ⟨by rfl, ?y15⟩) hHeld ?r15
      case y15 => (intro w hSw; obtain ⟨_, hSa, hSb, hSc, hSd⟩ := hSw; go_simp; try with_reducible rfl)
      simp only [List.getElem_toArray, List.getElem_cons_zero, List.getElem_cons_succ, Act.put, List.setIfInBounds_toArray, List.set_cons_zero, List.set_cons_succ]
      refine wpAnyH_take (i := 15) (v := ?v16) rfl (by kernel_rfl) (by kernel_rfl) (by kernel_rfl) (fun _ _ _ h => h) (Or.inl ⟨by rfl, ?y16⟩) hHeld ?r16
      case y16 => (intro w hSw; obtain ⟨_, hSa, hSb, hSc, hSd⟩ := hSw; go_simp; try with_reducible rfl)
      simp only [List.getElem_toArray, List.getElem_cons_zero, List.getElem_cons_succ, Act.put, List.setIfInBounds_toArray, List.set_cons_zero, List.set_cons_succ]
      refine wpAnyH_take (i := 16) (v := ?v17) rfl (by kernel_rfl) (by kernel_rfl) (by kernel_rfl) (fun _ _ _ h => h) (Or.inl ⟨by rfl, ?y17⟩) hHeld ?r17
      case y17 => (intro w hSw; obtain ⟨_, hSa, hSb, hSc, hSd⟩ := hSw; go_simp; try with_reducible rfl)
      simp only [List.getElem_toArray, List.getElem_cons_zero, List.getElem_cons_succ, Act.put, List.setIfInBounds_toArray, List.set_cons_zero, List.set_cons_succ]
      refine wpAnyH_take (i := 17) (v := ?v18) rfl (by kernel_rfl) (by kernel_rfl) (by kernel_rfl) (fun _ _ _ h => h) (Or.inl ⟨by rfl, ?y18⟩) hHeld ?r18
      case y18 => (intro w hSw; obtain ⟨_, hSa, hSb, hSc, hSd⟩ := hSw; go_simp; try with_reducible rfl)
      simp only [List.getElem_toArray, List.getElem_cons_zero, List.getElem_cons_succ, Act.put, List.setIfInBounds_toArray, List.set_cons_zero, List.set_cons_succ]
      refine wpAnyH_take (i := 18) (v := ?v19) rfl (by kernel_rfl) (by kernel_rfl) (by kernel_rfl) (fun _ _ _ h => h) (Or.inl ⟨by rfl, ?y19⟩) hHeld ?r19
      case y19 => (intro w hSw; obtain ⟨_, hSa, hSb, hSc, hSd⟩ := hSw; go_simp; try with_reducible rfl)
      simp only [List.getElem_toArray, List.getElem_cons_zero, List.getElem_cons_succ, Act.put, List.setIfInBounds_toArray, List.set_cons_zero, List.set_cons_succ]
      refine wpAnyH_take (i := 19) (v := ?v20) rfl (by kernel_rfl) (by kernel_rfl) (by kernel_rfl) (fun _ _ _ h => h) (Or.inl ⟨by rfl, ?y20⟩) hHeld ?r20
      case y20 => (intro w hSw; obtain ⟨_, hSa, hSb, hSc, hSd⟩ := hSw; go_simp; try with_reducible rfl)
      simp only [List.getElem_toArray, List.getElem_cons_zero, List.getElem_cons_succ, Act.put, List.setIfInBounds_toArray, List.set_cons_zero, List.set_cons_succ]
      refine wpAnyH_take (i := 20) (v := ?v21) rfl (by kernel_rfl) (by kernel_rfl) (by kernel_rfl) (fun _ _ _ h => h) (Or.inl ⟨by rfl, ?y21⟩) hHeld ?r21
      case y21 => (intro w hSw; obtain ⟨_, hSa, hSb, hSc, hSd⟩ := hSw; go_simp; try with_reducible rfl)
      simp only [List.getElem_toArray, List.getElem_cons_zero, List.getElem_cons_succ, Act.put, List.setIfInBounds_toArray, List.set_cons_zero, List.set_cons_succ]
      refine wpAnyH_ready (rs := [21]) (by kernel_rfl) (by simp) (AllReadyH.cons rfl (fun K hK => ?_) AllReadyH.nil)
      go_simp
      refine (refdo_any r h xs t ck ca cx cy _ hRd hok.2.2.1 (by omega) (by omega)).mono ?_
      rintro e w9 ⟨rfl, hR9, hu9'⟩
      have hu9 := Below.own hud hu9' hs2 hr hh
      have hk9 := hkd.upd hu9' (by rintro (q | q) <;> omega) (by rintro (q | q) <;> omega)
      go_wp2_with fail
      refine hK.out _ _ (SA.of hu9 hab Hc.out) (fun hHeld => ?_)
      clear hK K
      refine wpAnyH_take (i := 22) (v := ?v23) rfl (by kernel_rfl) (by kernel_rfl) (by kernel_rfl) (fun _ _ _ h => h) (Or.inl ⟨by rfl, ?y23⟩) hHeld ?r23
      case y23 => (intro w hSw; obtain ⟨_, hSa, hSb, hSc, hSd⟩ := hSw; go_simp; try with_reducible rfl)
      simp only [List.getElem_toArray, List.getElem_cons_zero, List.getElem_cons_succ, Act.put, List.setIfInBounds_toArray, List.set_cons_zero, List.set_cons_succ]
      refine wpAnyH_take (i := 23) (v := ?v24) rfl (by kernel_rfl) (by kernel_rfl) (by kernel_rfl) (fun _ _ _ h => h) (Or.inl ⟨by rfl, ?y24⟩) hHeld ?r24
      case y24 => (intro w hSw; obtain ⟨_, hSa, hSb, hSc, hSd⟩ := hSw; go_simp; try with_reducible rfl)
      simp only [List.getElem_toArray, List.getElem_cons_zero, List.getElem_cons_succ, Act.put, List.setIfInBounds_toArray, List.set_cons_zero, List.set_cons_succ]
      refine wpAnyH_take (i := 24) (v := ?v25) rfl (by kernel_rfl) (by kernel_rfl) (by kernel_rfl) (fun _ _ _ h => h) (Or.inl ⟨by rfl, ?y25⟩) hHeld ?r25
      case y25 => (intro w hSw; obtain ⟨_, hSa, hSb, hSc, hSd⟩ := hSw; go_simp; try with_reducible rfl)
      simp only [List.getElem_toArray, List.getElem_cons_zero, List.getElem_cons_succ, Act.put, List.setIfInBounds_toArray, List.set_cons_zero, List.set_cons_succ]
      refine wpAnyH_take (i := 25) (v := ?v26) rfl (by kernel_rfl) (by kernel_rfl) (by kernel_rfl) (fun _ _ _ h => h) (Or.inl ⟨by rfl, ?y26⟩) hHeld ?r26
      case y26 => (intro w hSw; obtain ⟨_, hSa, hSb, hSc, hSd⟩ := hSw; go_simp; try with_reducible rfl)
      simp only [List.getElem_toArray, List.getElem_cons_zero, List.getElem_cons_succ, Act.put, List.setIfInBounds_toArray, List.set_cons_zero, List.set_cons_succ]
      refine wpAnyH_take (i := 26) (v := ?v27) rfl (by kernel_rfl) (by kernel_rfl) (by kernel_rfl) (fun _ _ _ h => h) (Or.inl ⟨by rfl, ?y27⟩) hHeld ?r27
      case y27 => (intro w hSw; obtain ⟨_, hSa, hSb, hSc, hSd⟩ := hSw; go_simp; try with_reducible rfl)
      simp only [List.getElem_toArray, List.getElem_cons_zero, List.getElem_cons_succ, Act.put, List.setIfInBounds_toArray, List.set_cons_zero, List.set_cons_succ]
      refine wpAnyH_done (by kernel_rfl) ?_ _
      clear hHeld hud hkd hRd hu9' hu2 hk2 hR2 hs2
      generalize acc ⟨ck, ca, cx, cy⟩ xs t = o at hk9 hR9 HA ⊢
      have hs9 := hu9.size
      go_wp2_with fail
      have hk9d := hk9.drew
      have hR9d := hR9.drew
      have hu9d := hu9.drew
      refine wp_region_held_drew (S := fun w' => w'.cell? ⟨r, 1, none⟩ = some (.int .i64 o.t)) (by kernel_rfl) (hR9d.c1) (fun hHeld => ?_)
      refine wpAnyH_take (i := 0) (v := ?v28) rfl (by kernel_rfl) (by kernel_rfl) (by kernel_rfl) (fun _ _ _ h => h) (Or.inl ⟨by rfl, ?y28⟩) hHeld ?r28
      case y28 => (intro w hSw; go_simp; try with_reducible rfl)
      simp only [List.getElem_toArray, List.getElem_cons_zero, List.getElem_cons_succ, Act.put, List.setIfInBounds_toArray, List.set_cons_zero, List.set_cons_succ]
      refine wpAnyH_take (i := 1) (v := ?v29) rfl (by kernel_rfl) (by kernel_rfl) (by kernel_rfl) (fun _ _ _ h => h) (Or.inl ⟨by rfl, ?y29⟩) hHeld ?r29
      case y29 => (intro w hSw; go_simp; try with_reducible rfl)
      simp only [List.getElem_toArray, List.getElem_cons_zero, List.getElem_cons_succ, Act.put, List.setIfInBounds_toArray, List.set_cons_zero, List.set_cons_succ]
      refine wpAnyH_take (i := 2) (v := ?v30) rfl (by kernel_rfl) (by kernel_rfl) (by kernel_rfl) (fun _ _ _ h => h) (Or.inl ⟨by rfl, ?y30⟩) hHeld ?r30
      case y30 => (intro w hSw; go_simp; try with_reducible rfl)
      simp only [List.getElem_toArray, List.getElem_cons_zero, List.getElem_cons_succ, Act.put, List.setIfInBounds_toArray, List.set_cons_zero, List.set_cons_succ]
      refine wpAnyH_take (i := 3) (v := ?v31) rfl (by kernel_rfl) (by kernel_rfl) (by kernel_rfl) (fun _ _ _ h => h) (Or.inl ⟨by rfl, ?y31⟩) hHeld ?r31
      case y31 => (intro w hSw; go_simp; try with_reducible rfl)
      simp only [List.getElem_toArray, List.getElem_cons_zero, List.getElem_cons_succ, Act.put, List.setIfInBounds_toArray, List.set_cons_zero, List.set_cons_succ]
      refine wpAnyH_take (i := 4) (v := ?v32) rfl (by kernel_rfl) (by kernel_rfl) (by kernel_rfl) (fun _ _ _ h => h) (Or.inl ⟨by rfl, ?y32⟩) hHeld ?r32
      case y32 => (intro w hSw; go_simp; try with_reducible rfl)
      simp only [List.getElem_toArray, List.getElem_cons_zero, List.getElem_cons_succ, Act.put, List.setIfInBounds_toArray, List.set_cons_zero, List.set_cons_succ]
      refine wpAnyH_take (i := 5) (v := ?v33) rfl (by kernel_rfl) (by kernel_rfl) (by kernel_rfl) (fun _ _ _ h => h) (Or.inl ⟨by rfl, ?y33⟩) hHeld ?r33
      case y33 => (intro w hSw; go_simp; try with_reducible rfl)
      simp only [List.getElem_toArray, List.getElem_cons_zero, List.getElem_cons_succ, Act.put, List.setIfInBounds_toArray, List.set_cons_zero, List.set_cons_succ]
      refine wpAnyH_take (i := 6) (v := ?v34) rfl (by kernel_rfl) (by kernel_rfl) (by kernel_rfl) (fun _ _ _ h => h) (Or.inl ⟨by rfl, ?y34⟩) hHeld ?r34
      case y34 => (intro w hSw; go_simp; try with_reducible rfl)
      simp only [List.getElem_toArray, List.getElem_cons_zero, List.getElem_cons_succ, Act.put, List.setIfInBounds_toArray, List.set_cons_zero, List.set_cons_succ]
      refine wpAnyH_take (i := 7) (v := ?v35) rfl (by kernel_rfl) (by kernel_rfl) (by kernel_rfl) (fun _ _ _ h => h) (Or.inl ⟨by rfl, ?y35⟩) hHeld ?r35
      case y35 => (intro w hSw; go_simp; try with_reducible rfl)
      simp only [List.getElem_toArray, List.getElem_cons_zero, List.getElem_cons_succ, Act.put, List.setIfInBounds_toArray, List.set_cons_zero, List.set_cons_succ]
      refine wpAnyH_take (i := 8) (v := ?v36) rfl (by kernel_rfl) (by kernel_rfl) (by kernel_rfl) (fun _ _ _ h => h) (Or.inl ⟨by rfl, ?y36⟩) hHeld ?r36
      case y36 => (intro w hSw; go_simp; try with_reducible rfl)
      simp only [List.getElem_toArray, List.getElem_cons_zero, List.getElem_cons_succ, Act.put, List.setIfInBounds_toArray, List.set_cons_zero, List.set_cons_succ]
      refine wpAnyH_take (i := 9) (v := ?v37) rfl (by kernel_rfl) (by kernel_rfl) (by kernel_rfl) (fun _ _ _ h => h) (Or.inl ⟨by rfl, ?y37⟩) hHeld ?r37
      case y37 => (intro w hSw; go_simp; try with_reducible rfl)
      simp only [List.getElem_toArray, List.getElem_cons_zero, List.getElem_cons_succ, Act.put, List.setIfInBounds_toArray, List.set_cons_zero, List.set_cons_succ]
      refine wpAnyH_take (i := 11) (v := ?v38) rfl (by kernel_rfl) (by kernel_rfl) (by kernel_rfl) (fun _ _ _ h => h) (Or.inl ⟨by rfl, ?y38⟩) hHeld ?r38
      case y38 => (intro w hSw; go_simp; try with_reducible rfl)
      simp only [List.getElem_toArray, List.getElem_cons_zero, List.getElem_cons_succ, Act.put, List.setIfInBounds_toArray, List.set_cons_zero, List.set_cons_succ]
      refine wpAnyH_take (i := 12) (v := ?v39) rfl (by kernel_rfl) (by kernel_rfl) (by kernel_rfl) (fun _ _ _ h => h) (Or.inl ⟨by rfl, ?y39⟩) hHeld ?r39
      case y39 => (intro w hSw; go_simp; try with_reducible rfl)
      simp only [List.getElem_toArray, List.getElem_cons_zero, List.getElem_cons_succ, Act.put, List.setIfInBounds_toArray, List.set_cons_zero, List.set_cons_succ]
      refine wpAnyH_take (i := 13) (v := ?v40) rfl (by kernel_rfl) (by kernel_rfl) (by kernel_rfl) (fun _ _ _ h => h) (Or.inl ⟨by rfl, ?y40⟩) hHeld ?r40
      case y40 => (intro w hSw; go_simp; try with_reducible rfl)
      simp only [List.getElem_toArray, List.getElem_cons_zero, List.getElem_cons_succ, Act.put, List.setIfInBounds_toArray, List.set_cons_zero, List.set_cons_succ]
      refine wpAnyH_take (i := 14) (v := ?v41) rfl (by kernel_rfl) (by kernel_rfl) (by kernel_rfl) (fun _ _ _ h => h) (Or.inl ⟨by rfl, ?y41⟩) hHeld ?r41
      case y41 => (intro w hSw; go_simp; try with_reducible rfl)
      simp only [List.getElem_toArray, List.getElem_cons_zero, List.getElem_cons_succ, Act.put, List.setIfInBounds_toArray, List.set_cons_zero, List.set_cons_succ]
      refine wpAnyH_ready (rs := [10]) (by kernel_rfl) (by simp) (AllReadyH.cons rfl (fun K hK => ?_) AllReadyH.nil)
      go_simp
      refine (touches_any b g _ _ _ hk9d).mono ?_
      rintro e w10 ⟨rfl, rfl⟩
      go_wp2_with fail
      refine hK.out _ _ (hHeld) (fun hHeld => ?_)
      clear hK K
      refine wpAnyH_take (i := 15) (v := ?v43) rfl (by kernel_rfl) (by kernel_rfl) (by kernel_rfl) (fun _ _ _ h => h) (Or.inl ⟨by rfl, ?y43⟩) hHeld ?r43
      case y43 => (intro w hSw; go_simp; try with_reducible rfl)
      simp only [List.getElem_toArray, List.getElem_cons_zero, List.getElem_cons_succ, Act.put, List.setIfInBounds_toArray, List.set_cons_zero, List.set_cons_succ]
      refine wpAnyH_take (i := 16) (v := ?v44) rfl (by kernel_rfl) (by kernel_rfl) (by kernel_rfl) (fun _ _ _ h => h) (Or.inl ⟨by rfl, ?y44⟩) hHeld ?r44
      case y44 => (intro w hSw; go_simp; try with_reducible rfl)
      simp only [List.getElem_toArray, List.getElem_cons_zero, List.getElem_cons_succ, Act.put, List.setIfInBounds_toArray, List.set_cons_zero, List.set_cons_succ]
      refine wpAnyH_done (by kernel_rfl) ?_ _
      clear hHeld hk9 hR9 hu9
      go_wp2_with fail
      obtain ⟨q1, q2, q3⟩ := HA.out
      have Hol : Hid (o.xs.length = m) := q1.trans Hxl.out
      clear HA q1
      go_loopw [13] (fun i wr => RelB w b g r h n o.xs o.t i wr) (fun i _ => (n + 1 - intOf i).toNat)
      case atStart => exact ⟨-1, by omega, by omega, rfl, hk9d, hR9d, hu9d⟩
      case round =>
        clear hk9d hR9d hu9d hs9
        obtain ⟨q, hq1, hq2, rfl, hk1, hR1, hu1⟩ := hrel
        have hs1 := hu1.size
        by_cases hqn : q ≤ n
        · cases hw : word q o.xs with
          | none =>
            have ho := word_none hw
            clear hw
            go_wp2_with fail
            refine (peek_out b g _ _ q _ hk1 ho).mono ?_
            rintro e w3 ⟨rfl, hk3, hu3⟩
            have hR3 := hR1.below hu3
            have hu := hu1.trans (hu3.mono hs1)
            clear hk1 hR1 hu1 hu3 hs1
            go_wp2_with fail
            refine (refpeek_out r h _ _ q _ hR3 ho).mono ?_
            rintro e w4 ⟨rfl, rfl⟩
            clear ho
            go_wp2_with fail
            go_roundw
            case rel => exact ⟨q + 1, by omega, by omega, by go_num, hk3, hR3, hu⟩
            case measure => simp [intOf]; omega
          | some v =>
            obtain ⟨h0, hv, _⟩ := word_some hw
            have Hv := Lib.hid hv
            clear hw hv
            go_wp2_with fail
            refine (peek_at b g _ _ v q _ h0 hk1 Hv.out).mono ?_
            rintro e w3 ⟨rfl, hk3, hu3⟩
            have hR3 := hR1.below hu3
            have hu := hu1.trans (hu3.mono hs1)
            clear hk1 hR1 hu1 hu3 hs1
            go_wp2_with fail
            refine (refpeek_in r h _ _ v q _ h0 hR3 Hv.out).mono ?_
            rintro e w4 ⟨rfl, rfl⟩
            go_wp2_with fail
            go_roundw
            case rel => exact ⟨q + 1, by omega, by omega, by go_num, hk3, hR3, hu⟩
            case measure => simp [intOf]; omega
        · go_wp2_with fail
          go_roundw
          case rel => exact ⟨k + 1, o.xs, o.t, by omega, by go_num, hk1, hR1, Hol.out, by omega, by omega, hu1⟩
          case measure => simp [intOf]; omega
    · go_wp2_with fail
      have hud := hu1.drew
      have hkd := hk1.drew
      have hRd := hR1.drew
      refine wp_region_held_drew (S := fun w' => w'.cell? ⟨r, 1, none⟩ = some (.int .i64 t)) (by kernel_rfl) (hRd.c1) (fun hHeld => ?_)
      refine wpAnyH_take (i := 0) (v := ?v45) rfl (by kernel_rfl) (by kernel_rfl) (by kernel_rfl) (fun _ _ _ h => h) (Or.inl ⟨by rfl, ?y45⟩) hHeld ?r45
      case y45 => (intro w hSw; go_simp; try with_reducible rfl)
      simp only [List.getElem_toArray, List.getElem_cons_zero, List.getElem_cons_succ, Act.put, List.setIfInBounds_toArray, List.set_cons_zero, List.set_cons_succ]
      refine wpAnyH_take (i := 2) (v := ?v46) rfl (by kernel_rfl) (by kernel_rfl) (by kernel_rfl) (fun _ _ _ h => h) (Or.inl ⟨by rfl, ?y46⟩) hHeld ?r46
      case y46 => (intro w hSw; go_simp; try with_reducible rfl)
      simp only [List.getElem_toArray, List.getElem_cons_zero, List.getElem_cons_succ, Act.put, List.setIfInBounds_toArray, List.set_cons_zero, List.set_cons_succ]
      refine wpAnyH_take (i := 3) (v := ?v47) rfl (by kernel_rfl) (by kernel_rfl) (by kernel_rfl) (fun _ _ _ h => h) (Or.inl ⟨by rfl, ?y47⟩) hHeld ?r47
      case y47 => (intro w hSw; go_simp; try with_reducible rfl)
      simp only [List.getElem_toArray, List.getElem_cons_zero, List.getElem_cons_succ, Act.put, List.setIfInBounds_toArray, List.set_cons_zero, List.set_cons_succ]
      refine wpAnyH_take (i := 4) (v := ?v48) rfl (by kernel_rfl) (by kernel_rfl) (by kernel_rfl) (fun _ _ _ h => h) (Or.inl ⟨by rfl, ?y48⟩) hHeld ?r48
      case y48 => (intro w hSw; go_simp; try with_reducible rfl)
      simp only [List.getElem_toArray, List.getElem_cons_zero, List.getElem_cons_succ, Act.put, List.setIfInBounds_toArray, List.set_cons_zero, List.set_cons_succ]
      refine wpAnyH_take (i := 5) (v := ?v49) rfl (by kernel_rfl) (by kernel_rfl) (by kernel_rfl) (fun _ _ _ h => h) (Or.inl ⟨by rfl, ?y49⟩) hHeld ?r49
      case y49 => (intro w hSw; go_simp; try with_reducible rfl)
      simp only [List.getElem_toArray, List.getElem_cons_zero, List.getElem_cons_succ, Act.put, List.setIfInBounds_toArray, List.set_cons_zero, List.set_cons_succ]
      refine wpAnyH_ready (rs := [1]) (by kernel_rfl) (by simp) (AllReadyH.cons rfl (fun K hK => ?_) AllReadyH.nil)
      go_simp
      refine (touches_any b g _ _ _ hkd).mono ?_
      rintro e w10 ⟨rfl, rfl⟩
      go_wp2_with fail
      refine hK.out _ _ (hHeld) (fun hHeld => ?_)
      clear hK K
      refine wpAnyH_take (i := 6) (v := ?v51) rfl (by kernel_rfl) (by kernel_rfl) (by kernel_rfl) (fun _ _ _ h => h) (Or.inl ⟨by rfl, ?y51⟩) hHeld ?r51
      case y51 => (intro w hSw; go_simp; try with_reducible rfl)
      simp only [List.getElem_toArray, List.getElem_cons_zero, List.getElem_cons_succ, Act.put, List.setIfInBounds_toArray, List.set_cons_zero, List.set_cons_succ]
      refine wpAnyH_take (i := 7) (v := ?v52) rfl (by kernel_rfl) (by kernel_rfl) (by kernel_rfl) (fun _ _ _ h => h) (Or.inl ⟨by rfl, ?y52⟩) hHeld ?r52
      case y52 => (intro w hSw; go_simp; try with_reducible rfl)
      simp only [List.getElem_toArray, List.getElem_cons_zero, List.getElem_cons_succ, Act.put, List.setIfInBounds_toArray, List.set_cons_zero, List.set_cons_succ]
      refine wpAnyH_ready (rs := [8]) (by kernel_rfl) (by simp) (AllReadyH.cons rfl (fun K hK => ?_) AllReadyH.nil)
      go_simp
      refine (awake_any _).mono ?_
      rintro e w11 ⟨rfl, hu11⟩
      go_wp2_with fail
      refine hK.out _ _ ((hRd.below hu11).c1) (fun hHeld => ?_)
      clear hK K
      refine wpAnyH_take (i := 9) (v := ?v54) rfl (by kernel_rfl) (by kernel_rfl) (by kernel_rfl) (fun _ _ _ h => h) (Or.inl ⟨by rfl, ?y54⟩) hHeld ?r54
      case y54 => (intro w hSw; go_simp; try with_reducible rfl)
      simp only [List.getElem_toArray, List.getElem_cons_zero, List.getElem_cons_succ, Act.put, List.setIfInBounds_toArray, List.set_cons_zero, List.set_cons_succ]
      refine wpAnyH_take (i := 10) (v := ?v55) rfl (by kernel_rfl) (by kernel_rfl) (by kernel_rfl) (fun _ _ _ h => h) (Or.inl ⟨by rfl, ?y55⟩) hHeld ?r55
      case y55 => (intro w hSw; go_simp; try with_reducible rfl)
      simp only [List.getElem_toArray, List.getElem_cons_zero, List.getElem_cons_succ, Act.put, List.setIfInBounds_toArray, List.set_cons_zero, List.set_cons_succ]
      refine wpAnyH_done (by kernel_rfl) ?_ _
      go_wp2
      go_ret
      exact ⟨rfl, hud.trans (hu11.mono hs1)⟩
theorem walk (n : Int) (a : Option Addr) (len cap : Nat) (l : List Act4) (w : World) (hl : Acts w a len cap l) : Calls Try.prog 3 #[.int .i64 n, .slice a len cap] w (True1 w) := by
  by_cases h : n < 1 ∨ 40 < n ∨ 200 < (len : Int)
  · exact walk_no n a len cap l w hl h
  · exact walk_yes n a len cap l w hl (by omega) (by omega) (by omega)

set_option maxRecDepth 100000 in
theorem lifted (os : Os) (started : os.Started) (H : Type) (enc : TypeId × Value → H) :
    ReturnsInHanded {} Try.checked os 3 .any (Rows.bankActsSpec.pre6 enc Try.prog Try.f3 Rows.bankActsRow.domain false) (Rows.bankActsSpec.post enc Try.prog Try.f3 false true false false) := by
  refine returnsInHanded_of_change (C := Try.checked) own started (by kernel_rfl) Try.func3
    (ChangeSpec.witness6 (enc := enc) (C := Try.checked) false ⟨#[], #[.int .i64 0, .slice none 0 0], []⟩ 8 (by kernel_rfl) (by kernel_rfl) (by kernel_rfl) (by kernel_rfl)) ?_
  intro W base args ds gs before hval0 hW _ _
  have hval : ∀ (j : Nat) t v, Try.f3.params[j]? = some t → args[j]? = some v → Value.okWide Try.prog W .any base t v := hval0
  have hW' := hW
  obtain ⟨p, q, hA0, hV, rfl, _, _⟩ := hW
  have hA : DataW.TrodAll enc Try.prog W 0 (fun _ => true) true Try.f3.params.toList args.toList ds p := hA0
  rw [Try.params3] at hA hval
  obtain ⟨v0, vs0, d0, ds0, p0, q0, hargs, rfl, rfl, h0, r0⟩ := trodAll_cons hA
  obtain ⟨v1, vs1, d1, ds1, p1, q1, rfl, rfl, rfl, h1, r1⟩ := trodAll_cons r0
  obtain ⟨rfl, rfl, rfl⟩ := trodAll_nil r1
  obtain rfl : args = #[v0, v1] := by cases args; simp_all
  obtain ⟨rfl, rfl⟩ := trodVars_none hV
  have k0 := h0
  have lt0 : ∀ x ∈ p0, x.block < W.heap.size := by obtain ⟨m, hm⟩ := k0; exact DataW.trod_lt m _ _ _ hm
  obtain ⟨a0, rfl, _, _, wf0⟩ := open_int Try.underlying3 (hval 0 3 v0 rfl rfl) h0
  have k1 := h1
  have lt1 : ∀ x ∈ p1, x.block < W.heap.size := by obtain ⟨m, hm⟩ := k1; exact DataW.trod_lt m _ _ _ hm
  obtain ⟨a1, len1, cap1, rfl⟩ := okWide_slice Try.underlying22 (hval 1 22 v1 rfl rfl)
  obtain ⟨l1, hl1⟩ := acts_of h1
  clear hA0 hval0
  refine (walk a0 a1 len1 cap1 l1 W hl1).mono fun e W' ⟨he, bel⟩ => ?_
  subst he
  exact ⟨_, rfl, _, _, _, [], _, [], hW', trodAll_mk1 (shut_bool Try.underlying4 _), (trodAll_cons_mk (Below.trod laidOut (by kernel_rfl) (of_decide_eq_true (by kernel_rfl)) k0 bel lt0) (trodAll_cons_mk (Below.trod laidOut (by kernel_rfl) (of_decide_eq_true (by kernel_rfl)) k1 bel lt1) trodAll_mk0)), rfl, bel.frame _, fun h => by cases h⟩

theorem over : Rows.bankActsRow.holds Try.pinned (OpenSpec.ofChange Rows.bankActsSpec) :=
  OpenClaim.holds_of_wide 3 Try.f3 rfl rfl rfl rfl rfl rfl rfl ⟨rfl, rfl, rfl, rfl, rfl⟩ rfl rfl rfl rfl rfl (by kernel_rfl) Try.func3 (by kernel_rfl)
    (of_decide_eq_true (by kernel_rfl)) (by unfold Func.isWrapper; first | (rw [if_pos (by decide +kernel)]; kernel_rfl) | (rw [if_neg (by decide +kernel)]; exact ⟨rfl, rfl⟩))
    (fun os started H enc _ => lifted os started H enc)

theorem proved : Rows.BankActsSaid := over
#print axioms proved
end Go.Proofs.Ytckeoonbmpfmeaa.bankActs
