/- The law BankClone returns true, whatever it is given. No condition. -/
import Derived.Test.YtckeoonbmpfmeaaDo
import Derived.Test.YtckeoonbmpfmeaaClo
import Derived.ProofKit
import Derived.OpenShut
import Derived.ChangeOld
import Derived.Below
import Derived.Deep.RegionHeld3
import Derived.Deep.DeepCutAuto
namespace Go.Proofs.Ytckeoonbmpfmeaa.bankClone
open Go.ChangeShapes Go.WideShapes Go.ChangeAt Go.RowKit Go.Deep

theorem own : ownKnob Try.prog.godebug = none := by kernel_rfl
theorem laidOut : laidOutB Try.prog = true := by kernel_rfl

/-- An access leaves as many words, and counts one at most. -/
theorem acc_len (c : Act4) (xs : List Int) (t : Int) : (acc c xs t).xs.length = xs.length ∧ t ≤ (acc c xs t).t ∧ (acc c xs t).t ≤ t + 1 := by
  unfold acc
  cases hw : word c.a xs with
  | none => exact ⟨rfl, by simp, by simp; omega⟩
  | some v =>
    simp only
    split
    · exact ⟨rfl, by simp; omega, by simp⟩
    · split
      · exact ⟨by simp, by simp; omega, by simp⟩
      · split
        · split
          · exact ⟨by simp, by simp; omega, by simp⟩
          · exact ⟨rfl, by simp; omega, by simp⟩
        · exact ⟨by simp, by simp; omega, by simp⟩

def Rel1 (w : World) (b g : Nat) (at_ : Int) (i : Value) (wr : World) : Prop :=
  ∃ (k : Nat) (xs : List Int) (t : Int), (k : Int) ≤ at_ ∧ i = .int .i64 k ∧ Bk wr b g xs t ∧ xs.length = 6 ∧ 0 ≤ t ∧ t ≤ k ∧ Below w.heap.size w wr
def Rel2 (w : World) (b g b2 g2 wb : Nat) (xs : List Int) (t : Int) (i : Value) (wr : World) : Prop :=
  ∃ (k : Nat) (ys : List Int), k ≤ 6 ∧ i = .int .i64 k ∧ Bk wr b g xs t ∧ Bk wr b2 g2 xs t ∧ Row wr wb ys ∧ ys.length = 6 ∧ (∀ j, j < k → ys[j]? = xs[j]?) ∧ Below w.heap.size w wr
def Rel3 (w : World) (b g b2 g2 wb len : Nat) (xs : List Int) (t : Int) (i : Value) (wr : World) : Prop :=
  ∃ (k : Nat) (zs : List Int) (t2 : Int), k ≤ len ∧ i = .int .i64 k ∧ Bk wr b g xs t ∧ Bk wr b2 g2 zs t2 ∧ 0 ≤ t2 ∧ t2 ≤ k ∧ Row wr wb xs ∧ Below w.heap.size w wr
def Rel4 (w : World) (b g b2 g2 wb : Nat) (xs zs : List Int) (t t2 : Int) (i : Value) (wr : World) : Prop :=
  ∃ (k : Nat), k ≤ 6 ∧ i = .int .i64 k ∧ Bk wr b g xs t ∧ Bk wr b2 g2 zs t2 ∧ Row wr wb xs ∧ Below w.heap.size w wr

/-- What stands while a word is held against what was written down. -/
def SC (w : World) (b g b2 g2 wb : Nat) (xs zs ys : List Int) (t t2 v : Int) (j : Nat) (w' : World) : Prop :=
  Bk w' b g xs t ∧ Bk w' b2 g2 zs t2 ∧ Row w' wb ys ∧ Below w.heap.size w w' ∧ w'.cell? ⟨wb, j, none⟩ = some (.int .u64 v)
theorem SC.drew {w : World} {b g b2 g2 wb : Nat} {xs zs ys : List Int} {t t2 v : Int} {j : Nat} {W : World} (h : SC w b g b2 g2 wb xs zs ys t t2 v j W) : SC w b g b2 g2 wb xs zs ys t t2 v j W.drew :=
  ⟨h.1.drew, h.2.1.drew, h.2.2.1.drew, h.2.2.2.1.drew, h.2.2.2.2⟩
theorem SC.next {w : World} {b g b2 g2 wb : Nat} {xs zs ys : List Int} {t t2 v : Int} {j : Nat} {W w9 : World} (h : SC w b g b2 g2 wb xs zs ys t t2 v j W) (hu : Below W.heap.size W w9) : SC w b g b2 g2 wb xs zs ys t t2 v j w9 := by
  obtain ⟨h1, h2, h3, h4, h5⟩ := h
  exact ⟨h1.below hu, h2.below hu, h3.below hu, h4.trans (hu.mono h4.size), (hu.cell (p := ⟨wb, j, none⟩) h3.lt).trans h5⟩

set_option maxRecDepth 100000 in
set_option maxHeartbeats 1000000 in
theorem walk_no (a : Option Addr) (len cap : Nat) (at_ : Int) (l : List Act4) (w : World) (hl : Acts w a len cap l) (hno : 60 < (len : Int) ∨ at_ < 0 ∨ (len : Int) < at_) : Calls Try.prog 9 #[.slice a len cap, .int .i64 at_] w (True1 w) := by
  have hmax := hl.1.len.2
  unfold maxLen at hmax
  have fin : ∀ (hd : decide (60 < (len : Int)) = true ∨ (decide (60 < (len : Int)) = false ∧ decide (at_ < 0) = true) ∨ (decide (60 < (len : Int)) = false ∧ decide (at_ < 0) = false ∧ decide ((len : Int) < at_) = true)), Calls Try.prog 9 #[.slice a len cap, .int .i64 at_] w (True1 w) := by
    intro hd
    clear hno
    rcases hd with h1 | ⟨h1, h2⟩ | ⟨h1, h2, h3⟩
    all_goals
      go_enter Try.func9, Try.ntmps9
      go_wp2_with fail
      refine (new_ok 6 w (by omega) (by omega)).mono ?_
      rintro e w1 ⟨b, g, hb, hg, rfl, hk1, hu1⟩
      have hs1 := hu1.size
      go_wp2_with fail
      refine (awake_any w1).mono ?_
      rintro e w7 ⟨rfl, hu7⟩
      have hu' := hu1.trans (hu7.mono hs1)
      clear hk1 hu1 hu7 hs1
      go_wp2
      go_ret
      exact ⟨rfl, hu'⟩
  apply fin
  by_cases h1 : 60 < (len : Int)
  · exact .inl (by simpa using h1)
  · by_cases h2 : at_ < 0
    · exact .inr (.inl ⟨by simpa using h1, by simpa using h2⟩)
    · exact .inr (.inr ⟨by simpa using h1, by simpa using h2, by simp; omega⟩)

set_option maxRecDepth 100000 in
set_option maxHeartbeats 2000000 in
theorem walk_yes (a : Option Addr) (len cap : Nat) (at_ : Int) (l : List Act4) (w : World) (hl : Acts w a len cap l) (h60 : (len : Int) ≤ 60) (hat : 0 ≤ at_) (hle : at_ ≤ (len : Int)) : Calls Try.prog 9 #[.slice a len cap, .int .i64 at_] w (True1 w) := by
  have d1 : decide (60 < (len : Int)) = false := by simp; omega
  have d2 : decide (at_ < 0) = false := by simp; omega
  have d3 : decide ((len : Int) < at_) = false := by simp; omega
  have hnot : ∀ (x : Bool) (w : World), (Op.unary .not (.bool x)).run Try.prog w = .ok (.bool (!x)) w := fun _ _ => rfl
  go_enter Try.func9, Try.ntmps9
  go_wp2_with fail
  refine (new_ok 6 w (by omega) (by omega)).mono ?_
  rintro e w1 ⟨b, g, hb, hg, rfl, hk1, hu1⟩
  go_wp2_with fail
  go_loopw [7] (fun i wr => Rel1 w b g at_ i wr) (fun i _ => at_.toNat - (intOf i).toNat)
  case atStart => exact ⟨0, _, _, by omega, rfl, hk1, rfl, by omega, by omega, hu1⟩
  case round =>
    clear hk1 hu1
    obtain ⟨k, xs, t, hk, rfl, hk1, hxl, ht0, ht1, hu1⟩ := hrel
    have hs1 := hu1.size
    have Hxl := Lib.hid hxl
    clear hxl
    by_cases hlt : (k : Int) < at_
    · obtain ⟨ab, off, c, ha, hlk, hok, hc0, hc1, hc2, hc3⟩ := hl.at hu1 (k := k) (by omega)
      clear hlk
      have hkl : (k : Int) < len := by omega
      subst ha
      have HA := Lib.hid (acc_len c xs t)
      go_wp2_with fail
      refine (do_any b g xs t c _ hk1 hok (by omega) (by omega)).mono ?_
      rintro e w2 ⟨rfl, hk2, hu2'⟩
      have hu2 := Below.own hu1 hu2' hs1 hb hg
      clear hu1 hu2' hk1 hs1 hc0 hc1 hc2 hc3
      go_wp2_with fail
      go_roundw
      case rel =>
        obtain ⟨q1, q2, q3⟩ := HA.out
        exact ⟨k + 1, _, _, by omega, by go_num, hk2, by rw [q1]; exact Hxl.out, by omega, by omega, hu2⟩
      case measure => simp [intOf]; omega
    · go_wp2_with fail
      refine (clone_any b g xs t _ hk1 (by have := Hxl.out; omega)).mono ?_
      rintro e w2 ⟨b2, g2, hb2, hg2, rfl, hc1, hu2⟩
      have lb := hk1.ltb
      have lg := hk1.ltg
      have hk2 := hk1.below hu2
      have hn1 : b ≠ b2 ∧ b ≠ g2 ∧ g ≠ b2 ∧ g ≠ g2 ∧ w.heap.size ≤ b2 ∧ w.heap.size ≤ g2 := by omega
      have hu := hu1.trans (hu2.mono hs1)
      have hs2 := hu.size
      clear hk1 hu1 hu2 hs1 lb lg hb2 hg2
      obtain ⟨n1, n2, n3, n4, n5, n6⟩ := hn1
      go_wp2_with fail
      have hlen : Calls Try.prog 12 #[.pointer (some ⟨b2, 0, none⟩)] w2 fun e w' => e = .returned (.int .i64 6) ∧ w2 = w' := by
        have := len_any b2 g2 _ _ w2 hc1
        rw [Hxl.out] at this
        exact this
      refine hlen.mono ?_
      clear hlen
      rintro e w3 ⟨rfl, rfl⟩
      go_wp2_with fail
      refine (touches_any b2 g2 _ _ _ hc1).mono ?_
      rintro e w3 ⟨rfl, rfl⟩
      go_wp2_with fail
      refine (touches_any b g _ _ _ hk2).mono ?_
      rintro e w3 ⟨rfl, rfl⟩
      go_wp2_with fail
      have hk3 := hk2.alloc (.cells #[.int .u64 0, .int .u64 0, .int .u64 0, .int .u64 0, .int .u64 0, .int .u64 0] 57)
      have hc3 := hc1.alloc (.cells #[.int .u64 0, .int .u64 0, .int .u64 0, .int .u64 0, .int .u64 0, .int .u64 0] 57)
      have hu3 := hu.alloc hs2 (.cells #[.int .u64 0, .int .u64 0, .int .u64 0, .int .u64 0, .int .u64 0, .int .u64 0] 57)
      have hr3 : Row (w2.alloc (.cells #[.int .u64 0, .int .u64 0, .int .u64 0, .int .u64 0, .int .u64 0, .int .u64 0] 57)) w2.heap.size [0, 0, 0, 0, 0, 0] := ⟨57, by show (w2.heap.push _)[w2.heap.size]? = _; simp⟩
      have hwb : b ≠ w2.heap.size ∧ g ≠ w2.heap.size ∧ b2 ≠ w2.heap.size ∧ g2 ≠ w2.heap.size ∧ w.heap.size ≤ w2.heap.size := ⟨Nat.ne_of_lt hk2.ltb, Nat.ne_of_lt hk2.ltg, Nat.ne_of_lt hc1.ltb, Nat.ne_of_lt hc1.ltg, hs2⟩
      generalize w2.alloc (.cells #[.int .u64 0, .int .u64 0, .int .u64 0, .int .u64 0, .int .u64 0, .int .u64 0] 57) = wa at hk3 hc3 hu3 hr3 ⊢
      generalize w2.heap.size = wb at hr3 hwb ⊢
      obtain ⟨m1, m2, m3, m4, m5⟩ := hwb
      clear hk2 hu hs2 hc1
      go_loopw [10] (fun i wr => Rel2 w b g b2 g2 wb xs t i wr) (fun i _ => 6 - (intOf i).toNat)
      case atStart => exact ⟨0, _, by omega, rfl, hk3, hc3, hr3, rfl, fun j hj => by omega, hu3⟩
      case round =>
        clear hk3 hu3 hr3 hc3
        obtain ⟨j, ys, hj, rfl, hk1, hc1, hr1, hyl, hys, hu1⟩ := hrel
        have Hy := Lib.hid (And.intro hyl hys)
        clear hyl hys
        have hs1 := hu1.size
        by_cases hlj : (j : Int) < 6
        · obtain ⟨v, hv⟩ : ∃ v, xs[j]? = some v := ⟨xs[j]'(by have := Hxl.out; omega), List.getElem?_eq_getElem _⟩
          have Hv := Lib.hid hv
          clear hv
          go_wp2_with fail
          refine (peek_in b g _ _ v j _ hk1 Hv.out).mono ?_
          rintro e w3 ⟨rfl, hk3, hu3⟩
          have hr3 := hr1.below hu3
          have hc3 := hc1.below hu3
          have hu := hu1.trans (hu3.mono hs1)
          clear hk1 hu1 hr1 hu3 hs1 hc1
          have hcz := hr3.cell (i := j) (v := ys[j]'(by have := Hy.out.1; omega)) (List.getElem?_eq_getElem _)
          have hfz := hr3.frozen j
          go_wp2_with fail
          have hk1 := hk3.setFar (p := ⟨wb, j, none⟩) m1 m2 (.int .u64 v)
          have hc1 := hc3.setFar (p := ⟨wb, j, none⟩) m3 m4 (.int .u64 v)
          have hr1 := hr3.put j v
          have hu1 := hu.setCell (p := ⟨wb, j, none⟩) m5 (.int .u64 v)
          have hcj := hr1.cell (i := j) (v := v) (List.getElem?_set_self (by have := Hy.out.1; omega))
          generalize w3.setCell ⟨wb, j, none⟩ (.int .u64 v) = w4 at hk1 hc1 hr1 hu1 hcj ⊢
          clear hk3 hc3 hr3 hu hcz hfz
          refine wp_region_held_drew (S := fun w' => SC w b g b2 g2 wb xs xs (ys.set j v) t t v j w') (by kernel_rfl) (SC.drew ⟨hk1, hc1, hr1, hu1, hcj⟩) (fun hHeld => ?_)
          refine wpAnyH_take (i := 0) (v := ?v1) rfl (by kernel_rfl) (by kernel_rfl) (by kernel_rfl) (fun _ _ _ h => h) (Or.inl ⟨by rfl, ?y1⟩) hHeld ?r1
          case y1 => (intro w hSw; obtain ⟨_, _, _, _, hSa⟩ := hSw; go_simp; try with_reducible rfl)
          simp only [List.getElem_toArray, List.getElem_cons_zero, List.getElem_cons_succ, Act.put, List.setIfInBounds_toArray, List.set_cons_zero, List.set_cons_succ]
          refine wpAnyH_take (i := 1) (v := ?v2) rfl (by kernel_rfl) (by kernel_rfl) (by kernel_rfl) (fun _ _ _ h => h) (Or.inl ⟨by rfl, ?y2⟩) hHeld ?r2
          case y2 => (intro w hSw; obtain ⟨_, _, _, _, hSa⟩ := hSw; go_simp; try with_reducible rfl)
          simp only [List.getElem_toArray, List.getElem_cons_zero, List.getElem_cons_succ, Act.put, List.setIfInBounds_toArray, List.set_cons_zero, List.set_cons_succ]
          refine wpAnyH_take (i := 3) (v := ?v3) rfl (by kernel_rfl) (by kernel_rfl) (by kernel_rfl) (fun _ _ _ h => h) (Or.inl ⟨by rfl, ?y3⟩) hHeld ?r3
          case y3 => (intro w hSw; obtain ⟨_, _, _, _, hSa⟩ := hSw; go_simp; try with_reducible rfl)
          simp only [List.getElem_toArray, List.getElem_cons_zero, List.getElem_cons_succ, Act.put, List.setIfInBounds_toArray, List.set_cons_zero, List.set_cons_succ]
          refine wpAnyH_take (i := 4) (v := ?v4) rfl (by kernel_rfl) (by kernel_rfl) (by kernel_rfl) (fun _ _ _ h => h) (Or.inl ⟨by rfl, ?y4⟩) hHeld ?r4
          case y4 => (intro w hSw; obtain ⟨_, _, _, _, hSa⟩ := hSw; go_simp; try with_reducible rfl)
          simp only [List.getElem_toArray, List.getElem_cons_zero, List.getElem_cons_succ, Act.put, List.setIfInBounds_toArray, List.set_cons_zero, List.set_cons_succ]
          refine wpAnyH_take (i := 5) (v := ?v5) rfl (by kernel_rfl) (by kernel_rfl) (by kernel_rfl) (fun _ _ _ h => h) (Or.inl ⟨by rfl, ?y5⟩) hHeld ?r5
          case y5 => (intro w hSw; obtain ⟨_, _, _, _, hSa⟩ := hSw; go_simp; try with_reducible rfl)
          simp only [List.getElem_toArray, List.getElem_cons_zero, List.getElem_cons_succ, Act.put, List.setIfInBounds_toArray, List.set_cons_zero, List.set_cons_succ]
          refine wpAnyH_ready (rs := [2]) (by kernel_rfl) (by simp) (AllReadyH.cons rfl (fun K hK => ?_) AllReadyH.nil)
          go_simp
          refine (peek_in b2 g2 xs t v j _ hHeld.2.1 Hv.out).mono ?_
          rintro e w9 ⟨rfl, _, hu9⟩
          go_wp2_with fail
          refine hK.out _ _ (SC.next hHeld hu9) (fun hHeld => ?_)
          clear hK K
          refine wpAnyH_take (i := 6) (v := ?v7) rfl (by kernel_rfl) (by kernel_rfl) (by kernel_rfl) (fun _ _ _ h => h) (Or.inl ⟨by rfl, ?y7⟩) hHeld ?r7
          case y7 => (intro w hSw; obtain ⟨_, _, _, _, hSa⟩ := hSw; go_simp; try with_reducible rfl)
          simp only [List.getElem_toArray, List.getElem_cons_zero, List.getElem_cons_succ, Act.put, List.setIfInBounds_toArray, List.set_cons_zero, List.set_cons_succ]
          refine wpAnyH_done (by kernel_rfl) ?_ _
          obtain ⟨hk5, hc5, hr5, hu5, _⟩ := hHeld
          go_wp2_with fail
          go_roundw
          case rel =>
            refine ⟨j + 1, ys.set j v, by omega, by go_num, hk5, hc5, hr5, by rw [List.length_set]; exact Hy.out.1, fun q hq => ?_, hu5⟩
            have hy1 := Hy.out.1
            by_cases hqj : q = j
            · rw [hqj, Hv.out, List.getElem?_set_self (by omega)]
            · rw [List.getElem?_set_ne (by omega)]; exact Hy.out.2 q (by omega)
          case measure => simp [intOf]; omega
        · obtain rfl : ys = xs := by
            apply List.ext_getElem?
            intro q
            by_cases hq : q < 6
            · exact Hy.out.2 q (by omega)
            · rw [List.getElem?_eq_none (by have := Hy.out.1; omega), List.getElem?_eq_none (by have := Hxl.out; omega)]
          clear Hy
          go_wp2_with fail
          refine (touches_any b g _ _ _ hk1).mono ?_
          rintro e w3 ⟨rfl, rfl⟩
          obtain ⟨an, Han⟩ : ∃ an : Nat, Hid (at_ = (an : Int)) := ⟨at_.toNat, show at_ = _ by omega⟩
          have han1 : (an : Int) ≤ at_ := by have := Han.out; omega
          have han2 : at_ ≤ (an : Int) := by have := Han.out; omega
          go_wp2_with fail
          go_loopw [12] (fun i wr => Rel3 w b g b2 g2 wb len ys t i wr) (fun i _ => len - (intOf i).toNat)
          case atStart => exact ⟨an, ys, t, by omega, by rw [Han.out], hk1, hc1, by omega, by omega, hr1, hu1⟩
          case round =>
            clear hk1 hc1 hr1 hu1 hs1
            obtain ⟨i3, zs, t2, hi3, rfl, hk1, hc1, ht20, ht21, hr1, hu1⟩ := hrel
            have hs1 := hu1.size
            by_cases hl3 : (i3 : Int) < len
            · obtain ⟨ab, off, c, ha, hlk, hok, hc0', hc1', hc2', hc3'⟩ := hl.at hu1 (k := i3) (by omega)
              clear hlk
              subst ha
              have HA := Lib.hid (acc_len c zs t2)
              go_wp2_with fail
              refine (do_any b2 g2 zs t2 c _ hc1 hok (by omega) (by omega)).mono ?_
              rintro e w2 ⟨rfl, hc2, hu2'⟩
              have hu2 := Below.own hu1 hu2' hs1 n5 n6
              have hk2 := hk1.upd hu2' (by rintro (h | h) <;> omega) (by rintro (h | h) <;> omega)
              have hr2 := hr1.upd hu2' (by rintro (h | h) <;> omega)
              clear hu1 hu2' hk1 hc1 hr1 hs1 hc0' hc1' hc2' hc3'
              go_wp2_with fail
              go_roundw
              case rel =>
                obtain ⟨q1, q2, q3⟩ := HA.out
                exact ⟨i3 + 1, _, _, by omega, by go_num, hk2, hc2, by omega, by omega, hr2, hu2⟩
              case measure => simp [intOf]; omega
            · go_wp2_with fail
              go_loopw [13] (fun i wr => Rel4 w b g b2 g2 wb ys zs t t2 i wr) (fun i _ => 6 - (intOf i).toNat)
              case atStart => exact ⟨0, by omega, rfl, hk1, hc1, hr1, hu1⟩
              case round =>
                clear hk1 hc1 hr1 hu1 hs1
                obtain ⟨j, hj, rfl, hk1, hc1, hr1, hu1⟩ := hrel
                have hs1 := hu1.size
                by_cases hlj : (j : Int) < 6
                · obtain ⟨v, hv⟩ : ∃ v, ys[j]? = some v := ⟨ys[j]'(by have := Hxl.out; omega), List.getElem?_eq_getElem _⟩
                  have Hv := Lib.hid hv
                  clear hv
                  have hcj := hr1.cell Hv.out
                  go_wp2_with fail
                  refine wp_region_held_drew (S := fun w' => SC w b g b2 g2 wb ys zs ys t t2 v j w') (by kernel_rfl) (SC.drew ⟨hk1, hc1, hr1, hu1, hcj⟩) (fun hHeld => ?_)
                  refine wpAnyH_take (i := 0) (v := ?v8) rfl (by kernel_rfl) (by kernel_rfl) (by kernel_rfl) (fun _ _ _ h => h) (Or.inl ⟨by rfl, ?y8⟩) hHeld ?r8
                  case y8 => (intro w hSw; obtain ⟨_, _, _, _, hSa⟩ := hSw; go_simp; try with_reducible rfl)
                  simp only [List.getElem_toArray, List.getElem_cons_zero, List.getElem_cons_succ, Act.put, List.setIfInBounds_toArray, List.set_cons_zero, List.set_cons_succ]
                  refine wpAnyH_take (i := 1) (v := ?v9) rfl (by kernel_rfl) (by kernel_rfl) (by kernel_rfl) (fun _ _ _ h => h) (Or.inl ⟨by rfl, ?y9⟩) hHeld ?r9
                  case y9 => (intro w hSw; obtain ⟨_, _, _, _, hSa⟩ := hSw; go_simp; try with_reducible rfl)
                  simp only [List.getElem_toArray, List.getElem_cons_zero, List.getElem_cons_succ, Act.put, List.setIfInBounds_toArray, List.set_cons_zero, List.set_cons_succ]
                  refine wpAnyH_take (i := 3) (v := ?v10) rfl (by kernel_rfl) (by kernel_rfl) (by kernel_rfl) (fun _ _ _ h => h) (Or.inl ⟨by rfl, ?y10⟩) hHeld ?r10
                  case y10 => (intro w hSw; obtain ⟨_, _, _, _, hSa⟩ := hSw; go_simp; try with_reducible rfl)
                  simp only [List.getElem_toArray, List.getElem_cons_zero, List.getElem_cons_succ, Act.put, List.setIfInBounds_toArray, List.set_cons_zero, List.set_cons_succ]
                  refine wpAnyH_take (i := 4) (v := ?v11) rfl (by kernel_rfl) (by kernel_rfl) (by kernel_rfl) (fun _ _ _ h => h) (Or.inl ⟨by rfl, ?y11⟩) hHeld ?r11
                  case y11 => (intro w hSw; obtain ⟨_, _, _, _, hSa⟩ := hSw; go_simp; try with_reducible rfl)
                  simp only [List.getElem_toArray, List.getElem_cons_zero, List.getElem_cons_succ, Act.put, List.setIfInBounds_toArray, List.set_cons_zero, List.set_cons_succ]
                  refine wpAnyH_take (i := 5) (v := ?v12) rfl (by kernel_rfl) (by kernel_rfl) (by kernel_rfl) (fun _ _ _ h => h) (Or.inl ⟨by rfl, ?y12⟩) hHeld ?r12
                  case y12 => (intro w hSw; obtain ⟨_, _, _, _, hSa⟩ := hSw; go_simp; try with_reducible rfl)
                  simp only [List.getElem_toArray, List.getElem_cons_zero, List.getElem_cons_succ, Act.put, List.setIfInBounds_toArray, List.set_cons_zero, List.set_cons_succ]
                  refine wpAnyH_ready (rs := [2]) (by kernel_rfl) (by simp) (AllReadyH.cons rfl (fun K hK => ?_) AllReadyH.nil)
                  go_simp
                  refine (peek_in b g ys t v j _ hHeld.1 Hv.out).mono ?_
                  rintro e w9 ⟨rfl, _, hu9⟩
                  go_wp2_with fail
                  refine hK.out _ _ (SC.next hHeld hu9) (fun hHeld => ?_)
                  clear hK K
                  refine wpAnyH_take (i := 6) (v := ?v14) rfl (by kernel_rfl) (by kernel_rfl) (by kernel_rfl) (fun _ _ _ h => h) (Or.inl ⟨by rfl, ?y14⟩) hHeld ?r14
                  case y14 => (intro w hSw; obtain ⟨_, _, _, _, hSa⟩ := hSw; go_simp; try with_reducible rfl)
                  simp only [List.getElem_toArray, List.getElem_cons_zero, List.getElem_cons_succ, Act.put, List.setIfInBounds_toArray, List.set_cons_zero, List.set_cons_succ]
                  refine wpAnyH_done (by kernel_rfl) ?_ _
                  obtain ⟨hk5, hc5, hr5, hu5, _⟩ := hHeld
                  go_wp2_with fail
                  go_roundw
                  case rel => exact ⟨j + 1, by omega, by go_num, hk5, hc5, hr5, hu5⟩
                  case measure => simp [intOf]; omega
                · clear hc1 hr1
                  go_wp2_with fail
                  refine (load_nil 0 _).mono ?_
                  rintro e w2 ⟨rfl, hv2⟩
                  have hk2 := hk1.below hv2
                  have hu2 := hu1.trans (hv2.mono hs1)
                  have hs2 := hu2.size
                  clear hk1 hv2 hu1 hs1
                  go_wp2_with fail
                  refine (cas_nil 0 0 0 _).mono ?_
                  rintro e w3 ⟨rfl, hv2⟩
                  have hk3 := hk2.below hv2
                  have hu3 := hu2.trans (hv2.mono hs2)
                  have hs3 := hu3.size
                  clear hk2 hv2 hu2 hs2
                  go_wp2_with fail
                  refine (add_nil 0 1 _).mono ?_
                  rintro e w4 ⟨rfl, hv2⟩
                  have hk4 := hk3.below hv2
                  have hu4 := hu3.trans (hv2.mono hs3)
                  have hs4 := hu4.size
                  clear hk3 hv2 hu3 hs3
                  go_wp2_with fail
                  refine (touches_any b g _ _ _ hk4).mono ?_
                  rintro e w5 ⟨rfl, rfl⟩
                  clear hk4
                  go_wp2_with fail
                  refine (store_nil 0 0 _).mono ?_
                  rintro e w5 ⟨rfl, hv2⟩
                  have hu5 := hu4.trans (hv2.mono hs4)
                  have hs5 := hu5.size
                  clear hv2 hu4 hs4
                  go_wp2_with fail
                  refine (len_nil _).mono ?_
                  rintro e w6 ⟨rfl, rfl⟩
                  go_wp2_with fail
                  refine (touches_nil _).mono ?_
                  rintro e w6 ⟨rfl, rfl⟩
                  go_wp2_with fail
                  refine (peek_nil 0 _).mono ?_
                  rintro e w6 ⟨rfl, hv2⟩
                  have hu6 := hu5.trans (hv2.mono hs5)
                  have hs6 := hu6.size
                  clear hv2 hu5 hs5
                  go_wp2_with fail
                  refine (clone_nil _).mono ?_
                  rintro e w7 ⟨rfl, rfl⟩
                  go_wp2_with fail
                  refine (awake_any _).mono ?_
                  rintro e w7 ⟨rfl, hv2⟩
                  have hu7 := hu6.trans (hv2.mono hs6)
                  clear hv2 hu6 hs6
                  go_wp2
                  go_ret
                  exact ⟨rfl, hu7⟩
theorem walk (a : Option Addr) (len cap : Nat) (at_ : Int) (l : List Act4) (w : World) (hl : Acts w a len cap l) : Calls Try.prog 9 #[.slice a len cap, .int .i64 at_] w (True1 w) := by
  by_cases h : 60 < (len : Int) ∨ at_ < 0 ∨ (len : Int) < at_
  · exact walk_no a len cap at_ l w hl h
  · exact walk_yes a len cap at_ l w hl (by omega) (by omega) (by omega)

set_option maxRecDepth 100000 in
theorem lifted (os : Os) (started : os.Started) (H : Type) (enc : TypeId × Value → H) :
    ReturnsInHanded {} Try.checked os 9 .any (Rows.bankCloneSpec.pre6 enc Try.prog Try.f9 Rows.bankCloneRow.domain false) (Rows.bankCloneSpec.post enc Try.prog Try.f9 false true false false) := by
  refine returnsInHanded_of_change (C := Try.checked) own started (by kernel_rfl) Try.func9
    (ChangeSpec.witness6 (enc := enc) (C := Try.checked) false ⟨#[], #[.slice none 0 0, .int .i64 0], []⟩ 8 (by kernel_rfl) (by kernel_rfl) (by kernel_rfl) (by kernel_rfl)) ?_
  intro W base args ds gs before hval0 hW _ _
  have hval : ∀ (j : Nat) t v, Try.f9.params[j]? = some t → args[j]? = some v → Value.okWide Try.prog W .any base t v := hval0
  have hW' := hW
  obtain ⟨p, q, hA0, hV, rfl, _, _⟩ := hW
  have hA : DataW.TrodAll enc Try.prog W 0 (fun _ => true) true Try.f9.params.toList args.toList ds p := hA0
  rw [Try.params9] at hA hval
  obtain ⟨v0, vs0, d0, ds0, p0, q0, hargs, rfl, rfl, h0, r0⟩ := trodAll_cons hA
  obtain ⟨v1, vs1, d1, ds1, p1, q1, rfl, rfl, rfl, h1, r1⟩ := trodAll_cons r0
  obtain ⟨rfl, rfl, rfl⟩ := trodAll_nil r1
  obtain rfl : args = #[v0, v1] := by cases args; simp_all
  obtain ⟨rfl, rfl⟩ := trodVars_none hV
  have k0 := h0
  have lt0 : ∀ x ∈ p0, x.block < W.heap.size := by obtain ⟨m, hm⟩ := k0; exact DataW.trod_lt m _ _ _ hm
  obtain ⟨a0, len0, cap0, rfl⟩ := okWide_slice Try.underlying22 (hval 0 22 v0 rfl rfl)
  obtain ⟨l0, hl0⟩ := acts_of h0
  have k1 := h1
  have lt1 : ∀ x ∈ p1, x.block < W.heap.size := by obtain ⟨m, hm⟩ := k1; exact DataW.trod_lt m _ _ _ hm
  obtain ⟨a1, rfl, _, _, wf1⟩ := open_int Try.underlying3 (hval 1 3 v1 rfl rfl) h1
  clear hA0 hval0
  refine (walk a0 len0 cap0 a1 l0 W hl0).mono fun e W' ⟨he, bel⟩ => ?_
  subst he
  exact ⟨_, rfl, _, _, _, [], _, [], hW', trodAll_mk1 (shut_bool Try.underlying4 _), (trodAll_cons_mk (Below.trod laidOut (by kernel_rfl) (of_decide_eq_true (by kernel_rfl)) k0 bel lt0) (trodAll_cons_mk (Below.trod laidOut (by kernel_rfl) (of_decide_eq_true (by kernel_rfl)) k1 bel lt1) trodAll_mk0)), rfl, bel.frame _, fun h => by cases h⟩

theorem over : Rows.bankCloneRow.holds Try.pinned (OpenSpec.ofChange Rows.bankCloneSpec) :=
  OpenClaim.holds_of_wide 9 Try.f9 rfl rfl rfl rfl rfl rfl rfl ⟨rfl, rfl, rfl, rfl, rfl⟩ rfl rfl rfl rfl rfl (by kernel_rfl) Try.func9 (by kernel_rfl)
    (of_decide_eq_true (by kernel_rfl)) (by unfold Func.isWrapper; first | (rw [if_pos (by decide +kernel)]; kernel_rfl) | (rw [if_neg (by decide +kernel)]; exact ⟨rfl, rfl⟩))
    (fun os started H enc _ => lifted os started H enc)

theorem proved : Rows.BankCloneSaid := over
#print axioms proved
end Go.Proofs.Ytckeoonbmpfmeaa.bankClone
