/- bank.Clone: its contract. -/
import Derived.Test.YtflgggfomhifeaaNew
import Derived.Deep.RegionHeld3
namespace Go.Proofs.Ytflgggfomhifeaa
open Go.RowKit

/-- What the copying of a word reads. -/
def CR (b g b2 g2 n : Nat) (w' : World) : Prop :=
  w'.cell? ⟨b, 0, none⟩ = some (.slice (some ⟨g, 0, none⟩) n n) ∧ w'.cell? ⟨b2, 0, none⟩ = some (.slice (some ⟨g2, 0, none⟩) n n)
theorem CR.of {w' : World} {b g b2 g2 : Nat} {xs : List Int} {t : Int} (h : Bk w' b g xs t) (h2 : w'.cell? ⟨b2, 0, none⟩ = some (.slice (some ⟨g2, 0, none⟩) xs.length xs.length)) : CR b g b2 g2 xs.length w' := ⟨h.c0, h2⟩

/-- A clone at two new blocks. -/
def ClonePost (xs : List Int) (t : Int) (w : World) (e : Ending) (w' : World) : Prop :=
  ∃ b2 g2 : Nat, w.heap.size ≤ b2 ∧ w.heap.size ≤ g2 ∧ e = .returned (.pointer (some ⟨b2, 0, none⟩)) ∧ Bk w' b2 g2 xs t ∧ Below w.heap.size w w'

/-- What holds at the head of the loop. -/
def CloneRel (w : World) (b g b2 g2 : Nat) (xs : List Int) (t : Int) (i : Value) (wr : World) : Prop :=
  ∃ (k : Nat) (ys : List Int), k ≤ xs.length ∧ i = .int .i64 k ∧ Bk wr b g xs t ∧ Bk wr b2 g2 ys 0 ∧ ys.length = xs.length ∧ (∀ j, j < k → ys[j]? = xs[j]?) ∧ Below w.heap.size w wr

set_option maxHeartbeats 400000 in
theorem clone_nil (w : World) : Calls Try.prog 29 #[.pointer none] w fun e w' => e = .returned (.pointer none) ∧ w = w' := by
  go_enter Try.func29, Try.ntmps29
  go_wp2
  go_ret
  exact ⟨rfl, rfl⟩

set_option maxRecDepth 100000 in
set_option maxHeartbeats 1000000 in
theorem clone_any (b g : Nat) (xs : List Int) (t : Int) (w : World) (hk : Bk w b g xs t) (hn : xs.length ≤ 1048576) : Calls Try.prog 29 #[.pointer (some ⟨b, 0, none⟩)] w (ClonePost xs t w) := by
  have hmk := make_words xs.length hn
  have c0 := hk.c0
  have lb := hk.ltb
  have lg := hk.ltg
  have hB := Bk.made w xs.length
  have hu := ((Below.refl w.heap.size w).alloc (Nat.le_refl _) (.cells (zeros xs.length) 100)).alloc (by simp) (.cells #[.slice (some ⟨w.heap.size, 0, none⟩) xs.length xs.length, .int .i64 0] 89)
  have hk' := (hk.alloc (.cells (zeros xs.length) 100)).alloc (.cells #[.slice (some ⟨w.heap.size, 0, none⟩) xs.length xs.length, .int .i64 0] 89)
  have HB := Lib.hid (And.intro hB (And.intro hu hk'))
  clear hB hu hk'
  go_enter Try.func29, Try.ntmps29
  go_wp2_with fail
  obtain ⟨hB, hu, hk'⟩ := HB.out
  clear HB
  generalize (w.alloc (.cells (zeros xs.length) 100)).alloc (.cells #[.slice (some ⟨w.heap.size, 0, none⟩) xs.length xs.length, .int .i64 0] 89) = w1 at hB hu hk' ⊢
  have hb2 : w.heap.size ≤ w.heap.size + 1 ∧ b ≠ w.heap.size + 1 ∧ g ≠ w.heap.size + 1 := ⟨by omega, by omega, by omega⟩
  have hg2 : w.heap.size ≤ w.heap.size ∧ b ≠ w.heap.size ∧ g ≠ w.heap.size := ⟨by omega, by omega, by omega⟩
  generalize w.heap.size + 1 = b2 at hB hb2 ⊢
  revert hg2
  obtain ⟨g2, hg2e⟩ : ∃ g2, w.heap.size = g2 := ⟨_, rfl⟩
  have Hg2 := Lib.hid hg2e
  rw [hg2e] at hB
  rw [show (Value.slice (some ⟨w.heap.size, 0, none⟩) xs.length xs.length) = Value.slice (some ⟨g2, 0, none⟩) xs.length xs.length from by rw [hg2e]]
  intro hg2
  have hg2' : w.heap.size ≤ g2 ∧ b ≠ g2 ∧ g ≠ g2 := by rw [hg2e] at hg2; omega
  clear hg2e hg2 hmk c0 lb lg
  obtain ⟨hb2a, hb2b, hb2c⟩ := hb2
  obtain ⟨hg2a, hg2b, hg2c⟩ := hg2'
  go_loopw [20] (fun i wr => CloneRel w b g b2 g2 xs t i wr) (fun i _ => xs.length - (intOf i).toNat)
  case atStart => exact ⟨0, _, by omega, rfl, hk', hB, by simp, fun j hj => by omega, hu⟩
  case round =>
    clear hk' hB hu
    obtain ⟨k, ys, hkl, rfl, hk1, hc1, hyl, hys, hu1⟩ := hrel
    have hs1 := hu1.size
    have Hyl := Lib.hid hyl
    have Hys := Lib.hid hys
    clear hyl hys
    by_cases hlt : (k : Int) < xs.length
    · obtain ⟨v, hv⟩ : ∃ v, xs[k]? = some v := ⟨xs[k]'(by omega), List.getElem?_eq_getElem _⟩
      have Hv := Lib.hid hv
      have huv := hk1.rngAt hv
      clear hv
      go_wp2_with fail
      have hkd := hk1.drew
      have hcd := hc1.drew
      have hud := hu1.drew
      have hHd : CR b g b2 g2 xs.length wr.drew := CR.of hkd (by have := hcd.c0; rw [Hyl.out] at this; exact this)
      have hcz := hcd.cg (i := k) (v := ys[k]'(by have := Hyl.out; omega)) (List.getElem?_eq_getElem _)
      refine wp_region_held_drew (S := fun w' => CR b g b2 g2 xs.length w') (by kernel_rfl) (hHd) (fun hHeld => ?_)
      refine wpAnyH_take (i := 0) (v := ?v1) rfl (by kernel_rfl) (by kernel_rfl) (by kernel_rfl) (fun _ _ _ h => h) (Or.inl ⟨by rfl, ?y1⟩) hHeld ?r1
      case y1 => (intro w hSw; obtain ⟨hSa, hSb⟩ := hSw; go_simp; try with_reducible rfl)
      simp only [List.getElem_toArray, List.getElem_cons_zero, List.getElem_cons_succ, Act.put, List.setIfInBounds_toArray, List.set_cons_zero, List.set_cons_succ]
      refine wpAnyH_take (i := 1) (v := ?v2) rfl (by kernel_rfl) (by kernel_rfl) (by kernel_rfl) (fun _ _ _ h => h) (Or.inl ⟨by rfl, ?y2⟩) hHeld ?r2
      case y2 => (intro w hSw; obtain ⟨hSa, hSb⟩ := hSw; go_simp; try with_reducible rfl)
      simp only [List.getElem_toArray, List.getElem_cons_zero, List.getElem_cons_succ, Act.put, List.setIfInBounds_toArray, List.set_cons_zero, List.set_cons_succ]
      refine wpAnyH_take (i := 2) (v := ?v3) rfl (by kernel_rfl) (by kernel_rfl) (by kernel_rfl) (fun _ _ _ h => h) (Or.inl ⟨by rfl, ?y3⟩) hHeld ?r3
      case y3 => (intro w hSw; obtain ⟨hSa, hSb⟩ := hSw; go_simp; try with_reducible rfl)
      simp only [List.getElem_toArray, List.getElem_cons_zero, List.getElem_cons_succ, Act.put, List.setIfInBounds_toArray, List.set_cons_zero, List.set_cons_succ]
      refine wpAnyH_take (i := 3) (v := ?v4) rfl (by kernel_rfl) (by kernel_rfl) (by kernel_rfl) (fun _ _ _ h => h) (Or.inl ⟨by rfl, ?y4⟩) hHeld ?r4
      case y4 => (intro w hSw; obtain ⟨hSa, hSb⟩ := hSw; go_simp; try with_reducible rfl)
      simp only [List.getElem_toArray, List.getElem_cons_zero, List.getElem_cons_succ, Act.put, List.setIfInBounds_toArray, List.set_cons_zero, List.set_cons_succ]
      refine wpAnyH_take (i := 4) (v := ?v5) rfl (by kernel_rfl) (by kernel_rfl) (by kernel_rfl) (fun _ _ _ h => h) (Or.inl ⟨by rfl, ?y5⟩) hHeld ?r5
      case y5 => (intro w hSw; obtain ⟨hSa, hSb⟩ := hSw; go_simp; try with_reducible rfl)
      simp only [List.getElem_toArray, List.getElem_cons_zero, List.getElem_cons_succ, Act.put, List.setIfInBounds_toArray, List.set_cons_zero, List.set_cons_succ]
      refine wpAnyH_take (i := 5) (v := ?v6) rfl (by kernel_rfl) (by kernel_rfl) (by kernel_rfl) (fun _ _ _ h => h) (Or.inl ⟨by rfl, ?y6⟩) hHeld ?r6
      case y6 => (intro w hSw; obtain ⟨hSa, hSb⟩ := hSw; go_simp; try with_reducible rfl)
      simp only [List.getElem_toArray, List.getElem_cons_zero, List.getElem_cons_succ, Act.put, List.setIfInBounds_toArray, List.set_cons_zero, List.set_cons_succ]
      refine wpAnyH_take (i := 6) (v := ?v7) rfl (by kernel_rfl) (by kernel_rfl) (by kernel_rfl) (fun _ _ _ h => h) (Or.inl ⟨by rfl, ?y7⟩) hHeld ?r7
      case y7 => (intro w hSw; obtain ⟨hSa, hSb⟩ := hSw; go_simp; try with_reducible rfl)
      simp only [List.getElem_toArray, List.getElem_cons_zero, List.getElem_cons_succ, Act.put, List.setIfInBounds_toArray, List.set_cons_zero, List.set_cons_succ]
      refine wpAnyH_take (i := 7) (v := ?v8) rfl (by kernel_rfl) (by kernel_rfl) (by kernel_rfl) (fun _ _ _ h => h) (Or.inl ⟨by rfl, ?y8⟩) hHeld ?r8
      case y8 => (intro w hSw; obtain ⟨hSa, hSb⟩ := hSw; go_simp; try with_reducible rfl)
      simp only [List.getElem_toArray, List.getElem_cons_zero, List.getElem_cons_succ, Act.put, List.setIfInBounds_toArray, List.set_cons_zero, List.set_cons_succ]
      refine wpAnyH_take (i := 8) (v := ?v9) rfl (by kernel_rfl) (by kernel_rfl) (by kernel_rfl) (fun _ _ _ h => h) (Or.inl ⟨by rfl, ?y9⟩) hHeld ?r9
      case y9 => (intro w hSw; obtain ⟨hSa, hSb⟩ := hSw; go_simp; try with_reducible rfl)
      simp only [List.getElem_toArray, List.getElem_cons_zero, List.getElem_cons_succ, Act.put, List.setIfInBounds_toArray, List.set_cons_zero, List.set_cons_succ]
      refine wpAnyH_take (i := 9) (v := ?v10) rfl (by kernel_rfl) (by kernel_rfl) (by kernel_rfl) (fun _ _ _ h => h) (Or.inl ⟨by rfl, ?y10⟩) hHeld ?r10
      case y10 => (intro w hSw; obtain ⟨hSa, hSb⟩ := hSw; go_simp; try with_reducible rfl)
      simp only [List.getElem_toArray, List.getElem_cons_zero, List.getElem_cons_succ, Act.put, List.setIfInBounds_toArray, List.set_cons_zero, List.set_cons_succ]
      refine wpAnyH_take (i := 10) (v := ?v11) rfl (by kernel_rfl) (by kernel_rfl) (by kernel_rfl) (fun _ _ _ h => h) (Or.inl ⟨by rfl, ?y11⟩) hHeld ?r11
      case y11 => (intro w hSw; obtain ⟨hSa, hSb⟩ := hSw; go_simp; try with_reducible rfl)
      simp only [List.getElem_toArray, List.getElem_cons_zero, List.getElem_cons_succ, Act.put, List.setIfInBounds_toArray, List.set_cons_zero, List.set_cons_succ]
      refine wpAnyH_take (i := 11) (v := ?v12) rfl (by kernel_rfl) (by kernel_rfl) (by kernel_rfl) (fun _ _ _ h => h) (Or.inl ⟨by rfl, ?y12⟩) hHeld ?r12
      case y12 => (intro w hSw; obtain ⟨hSa, hSb⟩ := hSw; go_simp; try with_reducible rfl)
      simp only [List.getElem_toArray, List.getElem_cons_zero, List.getElem_cons_succ, Act.put, List.setIfInBounds_toArray, List.set_cons_zero, List.set_cons_succ]
      refine wpAnyH_ready (rs := [12]) (by kernel_rfl) (by simp) (AllReadyH.cons rfl (fun K hK => ?_) AllReadyH.nil)
      go_simp
      refine (u64_load g k v _ (hkd.cg Hv.out)).mono ?_
      rintro e w9 ⟨rfl, rfl⟩
      go_wp2_with fail
      refine hK.out _ _ (hHeld) (fun hHeld => ?_)
      clear hK K
      refine wpAnyH_ready (rs := [13]) (by kernel_rfl) (by simp) (AllReadyH.cons rfl (fun K hK => ?_) AllReadyH.nil)
      go_simp
      refine (u64_store g2 k v _ _ hcz (hcd.fg k)).mono ?_
      rintro e w9 ⟨rfl, rfl⟩
      go_wp2_with fail
      refine hK.out _ _ ((CR.of (hkd.setFar (p := ⟨g2, k, none⟩) hg2b hg2c (.int .u64 v)) (by rw [← Hyl.out]; have := (hcd.put k v huv).c0; rw [List.length_set] at this; exact this))) (fun hHeld => ?_)
      clear hK K
      refine wpAnyH_done (by kernel_rfl) ?_ _
      have hkf := hkd.setFar (p := ⟨g2, k, none⟩) hg2b hg2c (.int .u64 v)
      have hcf := hcd.put k v huv
      have huf := hud.setCell (p := ⟨g2, k, none⟩) hg2a (.int .u64 v)
      go_wp2_with fail
      go_roundw
      case rel =>
        refine ⟨k + 1, ys.set k v, by omega, by go_num, hkf, hcf, by rw [List.length_set]; exact Hyl.out, fun q hq => ?_, huf⟩
        by_cases hqk : q = k
        · rw [hqk, Hv.out, List.getElem?_set_self (by have := Hyl.out; omega)]
        · rw [List.getElem?_set_ne (by omega)]; exact Hys.out q (by omega)
      case measure => simp [intOf]; omega
    · obtain rfl : ys = xs := by
        apply List.ext_getElem?
        intro q
        by_cases hq : q < xs.length
        · exact Hys.out q (by omega)
        · rw [List.getElem?_eq_none (by have := Hyl.out; omega), List.getElem?_eq_none (by omega)]
      clear Hyl Hys
      go_wp2_with fail
      have hkd := hk1.drew
      have hcd := hc1.drew
      have hud := hu1.drew
      refine wp_region_held_drew (S := fun _ => True) (by kernel_rfl) (trivial) (fun hHeld => ?_)
      refine wpAnyH_take (i := 0) (v := ?v15) rfl (by kernel_rfl) (by kernel_rfl) (by kernel_rfl) (fun _ _ _ h => h) (Or.inl ⟨by rfl, ?y15⟩) hHeld ?r15
      case y15 => (intro w _; go_simp; try with_reducible rfl)
      simp only [List.getElem_toArray, List.getElem_cons_zero, List.getElem_cons_succ, Act.put, List.setIfInBounds_toArray, List.set_cons_zero, List.set_cons_succ]
      refine wpAnyH_take (i := 1) (v := ?v16) rfl (by kernel_rfl) (by kernel_rfl) (by kernel_rfl) (fun _ _ _ h => h) (Or.inl ⟨by rfl, ?y16⟩) hHeld ?r16
      case y16 => (intro w _; go_simp; try with_reducible rfl)
      simp only [List.getElem_toArray, List.getElem_cons_zero, List.getElem_cons_succ, Act.put, List.setIfInBounds_toArray, List.set_cons_zero, List.set_cons_succ]
      refine wpAnyH_take (i := 2) (v := ?v17) rfl (by kernel_rfl) (by kernel_rfl) (by kernel_rfl) (fun _ _ _ h => h) (Or.inl ⟨by rfl, ?y17⟩) hHeld ?r17
      case y17 => (intro w _; go_simp; try with_reducible rfl)
      simp only [List.getElem_toArray, List.getElem_cons_zero, List.getElem_cons_succ, Act.put, List.setIfInBounds_toArray, List.set_cons_zero, List.set_cons_succ]
      refine wpAnyH_take (i := 3) (v := ?v18) rfl (by kernel_rfl) (by kernel_rfl) (by kernel_rfl) (fun _ _ _ h => h) (Or.inl ⟨by rfl, ?y18⟩) hHeld ?r18
      case y18 => (intro w _; go_simp; try with_reducible rfl)
      simp only [List.getElem_toArray, List.getElem_cons_zero, List.getElem_cons_succ, Act.put, List.setIfInBounds_toArray, List.set_cons_zero, List.set_cons_succ]
      refine wpAnyH_take (i := 4) (v := ?v19) rfl (by kernel_rfl) (by kernel_rfl) (by kernel_rfl) (fun _ _ _ h => h) (Or.inl ⟨by rfl, ?y19⟩) hHeld ?r19
      case y19 => (intro w _; go_simp; try with_reducible rfl)
      simp only [List.getElem_toArray, List.getElem_cons_zero, List.getElem_cons_succ, Act.put, List.setIfInBounds_toArray, List.set_cons_zero, List.set_cons_succ]
      refine wpAnyH_take (i := 5) (v := ?v20) rfl (by kernel_rfl) (by kernel_rfl) (by kernel_rfl) (fun _ _ _ h => h) (Or.inl ⟨by rfl, ?y20⟩) hHeld ?r20
      case y20 => (intro w _; go_simp; try with_reducible rfl)
      simp only [List.getElem_toArray, List.getElem_cons_zero, List.getElem_cons_succ, Act.put, List.setIfInBounds_toArray, List.set_cons_zero, List.set_cons_succ]
      refine wpAnyH_ready (rs := [6]) (by kernel_rfl) (by simp) (AllReadyH.cons rfl (fun K hK => ?_) AllReadyH.nil)
      go_simp
      refine (i64_load b 1 t _ hkd.c1).mono ?_
      rintro e w9 ⟨rfl, rfl⟩
      go_wp2_with fail
      refine hK.out _ _ (hHeld) (fun hHeld => ?_)
      clear hK K
      refine wpAnyH_ready (rs := [7]) (by kernel_rfl) (by simp) (AllReadyH.cons rfl (fun K hK => ?_) AllReadyH.nil)
      go_simp
      refine (i64_store b2 1 t _ _ hcd.c1 (hcd.fb 1)).mono ?_
      rintro e w9 ⟨rfl, rfl⟩
      go_wp2_with fail
      refine hK.out _ _ (trivial) (fun hHeld => ?_)
      clear hK K
      refine wpAnyH_done (by kernel_rfl) ?_ _
      have hcf := hcd.touch t
      have huf := hud.setCell (p := ⟨b2, 1, none⟩) hb2a (.int .i64 t)
      go_wp2
      go_ret
      exact ⟨b2, g2, hb2a, hg2a, rfl, hcf, huf⟩
end Go.Proofs.Ytflgggfomhifeaa
