/- The law BankLeaves returns true, whatever it is given. No condition. -/
import Derived.Test.YtckeoonbmpfmeaaDo
import Derived.ProofKit
import Derived.OpenShut
import Derived.ChangeOld
import Derived.Below
import Derived.Deep.RegionHeld3
import Derived.Deep.DeepCutAuto
namespace Go.Proofs.Ytckeoonbmpfmeaa.bankLeaves
open Go.ChangeShapes Go.WideShapes Go.ChangeAt Go.RowKit Go.Deep

theorem own : ownKnob Try.prog.godebug = none := by kernel_rfl
theorem laidOut : laidOutB Try.prog = true := by kernel_rfl

/-- What holds at the head of the outer loop. -/
def Rel (w : World) (b g len : Nat) (i : Value) (wr : World) : Prop :=
  ∃ (k : Nat) (xs : List Int) (t : Int), k ≤ len ∧ i = .int .i64 k ∧ Bk wr b g xs t ∧ xs.length = 6 ∧ 0 ≤ t ∧ t ≤ k ∧ Below w.heap.size w wr

/-- What holds as the words are written down. -/
def RelA (w : World) (b g wb : Nat) (xs : List Int) (t : Int) (i : Value) (wr : World) : Prop :=
  ∃ (k : Nat) (ys : List Int), k ≤ 6 ∧ i = .int .i64 k ∧ Bk wr b g xs t ∧ Row wr wb ys ∧ ys.length = 6 ∧ (∀ j, j < k → ys[j]? = xs[j]?) ∧ Below w.heap.size w wr

/-- Behind the reckoning of 'keeps'. -/
def CutRel (w : World) (b g wb : Nat) (ys zs : List Int) (r er t2 : Int) (c : Act4) (s11 : Value) (wx : World) : Prop :=
  ∃ kp : Bool, s11 = .bool kp ∧ (kp = true ↔ (¬ er = 0 ∨ c.k = 0 ∨ c.k = 2 ∧ r = 0)) ∧ Bk wx b g zs t2 ∧ Row wx wb ys ∧ Below w.heap.size w wx

/-- What holds as the words are held against what they were. -/
def RelB (w : World) (b g wb : Nat) (ys zs : List Int) (t2 : Int) (i : Value) (wr : World) : Prop :=
  ∃ (k : Nat), k ≤ 6 ∧ i = .int .i64 k ∧ Bk wr b g zs t2 ∧ Row wr wb ys ∧ Below w.heap.size w wr

/-- What stands while a word is held against what it was. -/
def SR (w : World) (b g wb ab o : Nat) (ys zs : List Int) (t2 v q : Int) (j : Nat) (w' : World) : Prop :=
  Bk w' b g zs t2 ∧ Row w' wb ys ∧ Below w.heap.size w w' ∧ w'.cell? ⟨wb, j, none⟩ = some (.int .u64 v) ∧ w'.cell? ⟨ab, o, none⟩ = some (.int .i64 q)
theorem SR.drew {w : World} {b g wb ab o : Nat} {ys zs : List Int} {t2 v q : Int} {j : Nat} {W : World} (h : SR w b g wb ab o ys zs t2 v q j W) : SR w b g wb ab o ys zs t2 v q j W.drew :=
  ⟨h.1.drew, h.2.1.drew, h.2.2.1.drew, h.2.2.2.1, h.2.2.2.2⟩
theorem SR.next {w : World} {b g wb ab o : Nat} {ys zs : List Int} {t2 v q : Int} {j : Nat} {W w9 : World} (h : SR w b g wb ab o ys zs t2 v q j W) (hab : ab < w.heap.size)
    (hk : Bk w9 b g zs t2) (hu : Below W.heap.size W w9) : SR w b g wb ab o ys zs t2 v q j w9 := by
  obtain ⟨_, h2, h3, h4, h5⟩ := h
  have hs := h3.size
  exact ⟨hk, h2.below hu, h3.trans (hu.mono hs), (hu.cell (p := ⟨wb, j, none⟩) h2.lt).trans h4, (hu.cell (p := ⟨ab, o, none⟩) (Nat.lt_of_lt_of_le hab hs)).trans h5⟩

/-- Behind the test of one word. -/
def CutB (w : World) (b g wb : Nat) (ys zs : List Int) (t2 : Int) (s : Value) (wx : World) : Prop :=
  s = .bool false ∧ Bk wx b g zs t2 ∧ Row wx wb ys ∧ Below w.heap.size w wx

/-- What an access leaves: how it differs, its count, its error. -/
theorem acc_leaves (c : Act4) (xs : List Int) (t : Int) (hl : xs.length = 6) :
    ((acc c xs t).e = 10 ∧ (c.a < 0 ∨ 6 ≤ c.a) ∧ (acc c xs t).xs = xs ∧ (acc c xs t).t = t) ∨
    ((acc c xs t).e = 0 ∧ 0 ≤ c.a ∧ c.a < 6 ∧ (acc c xs t).t = t + 1 ∧ (acc c xs t).xs.length = 6 ∧
      ((c.k = 0 ∨ c.k = 2 ∧ (acc c xs t).r = 0) → (acc c xs t).xs = xs) ∧ ∀ j : Nat, ¬ (j : Int) = c.a → (acc c xs t).xs[j]? = xs[j]?) := by
  unfold acc
  cases hw : word c.a xs with
  | none => exact .inl ⟨rfl, by have := word_none hw; omega, rfl, rfl⟩
  | some v =>
    obtain ⟨h0, _, h1⟩ := word_some hw
    right
    have hset : ∀ (u : Int) (j : Nat), ¬ (j : Int) = c.a → (xs.set c.a.toNat u)[j]? = xs[j]? := fun u j hj => by
      rw [List.getElem?_set_ne (by omega)]
    simp only
    split
    · exact ⟨rfl, h0, by omega, rfl, hl, fun _ => rfl, fun _ _ => rfl⟩
    · split
      · exact ⟨rfl, h0, by omega, rfl, by simpa using hl, fun h => by omega, hset _⟩
      · split
        · split
          · exact ⟨rfl, h0, by omega, rfl, by simpa using hl, fun h => by simp at h; omega, hset _⟩
          · exact ⟨rfl, h0, by omega, rfl, hl, fun _ => rfl, fun _ _ => rfl⟩
        · exact ⟨rfl, h0, by omega, rfl, by simpa using hl, fun h => by omega, hset _⟩

/-- The same, by 'keeps'. -/
theorem leaves_kp {c : Act4} {ys zs : List Int} {t r er t2 : Int} {kp : Bool}
    (h : (er = 10 ∧ (c.a < 0 ∨ 6 ≤ c.a) ∧ zs = ys ∧ t2 = t) ∨
      (er = 0 ∧ 0 ≤ c.a ∧ c.a < 6 ∧ t2 = t + 1 ∧ zs.length = 6 ∧ ((c.k = 0 ∨ c.k = 2 ∧ r = 0) → zs = ys) ∧ ∀ j : Nat, ¬ (j : Int) = c.a → zs[j]? = ys[j]?))
    (hkp : kp = true ↔ (¬ er = 0 ∨ c.k = 0 ∨ c.k = 2 ∧ r = 0)) (hl : ys.length = 6) :
    zs.length = 6 ∧ (kp = true → zs = ys) ∧ (∀ j : Nat, ¬ (j : Int) = c.a → zs[j]? = ys[j]?) ∧
      ((er = 10 ∧ (c.a < 0 ∨ 6 ≤ c.a) ∧ t2 = t) ∨ (er = 0 ∧ 0 ≤ c.a ∧ c.a < 6 ∧ t2 = t + 1)) := by
  rcases h with ⟨rfl, h1, rfl, rfl⟩ | ⟨rfl, h1, h2, rfl, h3, h4, h5⟩
  · exact ⟨hl, fun _ => rfl, fun _ _ => rfl, .inl ⟨rfl, h1, rfl⟩⟩
  · exact ⟨h3, fun hk => h4 (by have := hkp.1 hk; simpa using this), h5, .inr ⟨rfl, h1, h2, rfl⟩⟩

set_option maxRecDepth 100000 in
set_option maxHeartbeats 1000000 in
theorem walk (a : Option Addr) (len cap : Nat) (l : List Act4) (w : World) (hl : Acts w a len cap l) : Calls Try.prog 8 #[.slice a len cap] w (True1 w) := by
  have hmax := hl.1.len.2
  unfold maxLen at hmax
  by_cases hbig : 100 < (len : Int)
  · go_enter Try.func8, Try.ntmps8
    go_wp2_with fail
    refine (new_ok 6 w (by omega) (by omega)).mono ?_
    rintro e w1 ⟨b, g, hb, hg, rfl, hk1, hu1⟩
    have hs1 := hu1.size
    go_wp2_with fail
    refine (awake_any w1).mono ?_
    rintro e w7 ⟨rfl, hu7⟩
    have hu' := hu1.trans (hu7.mono hs1)
    clear hk1 hu1 hu7 hs1
    go_wp2
    go_ret
    exact ⟨rfl, hu'⟩
  · have hbig' : decide (100 < (len : Int)) = false := by simpa using hbig
    go_enter Try.func8, Try.ntmps8
    go_wp2_with fail
    refine (new_ok 6 w (by omega) (by omega)).mono ?_
    rintro e w1 ⟨b, g, hb, hg, rfl, hk1, hu1⟩
    go_wp2_with fail
    go_loopw [5] (fun i wr => Rel w b g len i wr) (fun i _ => len - (intOf i).toNat)
    case atStart => exact ⟨0, _, _, by omega, rfl, hk1, rfl, by omega, by omega, hu1⟩
    case round =>
      clear hk1 hu1
      obtain ⟨k, xs, t, hk, rfl, hk1, hxl, ht0, ht1, hu1⟩ := hrel
      have Hxl := Lib.hid hxl
      clear hxl
      have hs1 := hu1.size
      by_cases hlt : (k : Int) < len
      · obtain ⟨ab, off, c, ha, hlk, hok, hc0, hc1, hc2, hc3⟩ := hl.at (Below.refl _ _) (k := k) (by omega)
        have hab : ab < w.heap.size := World.block_lt_of_cell? _ _ hc0
        clear hlk
        have Hc := Lib.hid (And.intro hc0 (And.intro hc1 (And.intro hc2 hc3)))
        clear hc0 hc1 hc2 hc3
        subst ha
        go_wp2_with fail
        have hk2 := hk1.alloc (.cells #[.int .u64 0, .int .u64 0, .int .u64 0, .int .u64 0, .int .u64 0, .int .u64 0] 57)
        have hu2 := hu1.alloc hs1 (.cells #[.int .u64 0, .int .u64 0, .int .u64 0, .int .u64 0, .int .u64 0, .int .u64 0] 57)
        have hr2 : Row (wr.alloc (.cells #[.int .u64 0, .int .u64 0, .int .u64 0, .int .u64 0, .int .u64 0, .int .u64 0] 57)) wr.heap.size [0, 0, 0, 0, 0, 0] := ⟨57, by show (wr.heap.push _)[wr.heap.size]? = _; simp⟩
        have hwb : b ≠ wr.heap.size ∧ g ≠ wr.heap.size ∧ w.heap.size ≤ wr.heap.size := ⟨Nat.ne_of_lt hk1.ltb, Nat.ne_of_lt hk1.ltg, hs1⟩
        generalize wr.alloc (.cells #[.int .u64 0, .int .u64 0, .int .u64 0, .int .u64 0, .int .u64 0, .int .u64 0] 57) = wa at hk2 hu2 hr2 ⊢
        generalize wr.heap.size = wb at hr2 hwb ⊢
        obtain ⟨hwb1, hwb2, hwb3⟩ := hwb
        clear hk1 hu1 hs1
        go_loopw [7] (fun i wr => RelA w b g wb xs t i wr) (fun i _ => 6 - (intOf i).toNat)
        case atStart => exact ⟨0, _, by omega, rfl, hk2, hr2, rfl, fun j hj => by omega, hu2⟩
        case round =>
          clear hk2 hu2 hr2
          obtain ⟨j, ys, hj, rfl, hk1, hr1, hyl, hys, hu1⟩ := hrel
          have Hy := Lib.hid (And.intro hyl hys)
          clear hyl hys
          have hs1 := hu1.size
          by_cases hlj : (j : Int) < 6
          · obtain ⟨v, hv⟩ : ∃ v, xs[j]? = some v := ⟨xs[j]'(by have := Hxl.out; omega), List.getElem?_eq_getElem _⟩
            have Hv := Lib.hid hv
            clear hv
            go_wp2_with fail
            refine (peek_in b g _ _ v j _ hk1 Hv.out).mono ?_
            rintro e w3 ⟨rfl, hk3, hu3⟩
            have hr3 := hr1.below hu3
            have hu := hu1.trans (hu3.mono hs1)
            have hs3 := hu.size
            clear hk1 hu1 hr1 hu3 hs1
            have hcj := hr3.cell (i := j) (v := ys[j]'(by have := Hy.out.1; omega)) (List.getElem?_eq_getElem _)
            have hfj := hr3.frozen j
            go_wp2_with fail
            go_roundw
            case rel =>
              refine ⟨j + 1, ys.set j v, by omega, by go_num, hk3.setFar (p := ⟨wb, j, none⟩) hwb1 hwb2 _, hr3.put j v, by rw [List.length_set]; exact Hy.out.1, fun q hq => ?_, hu.setCell (p := ⟨wb, j, none⟩) hwb3 _⟩
              have hy1 := Hy.out.1
              by_cases hqj : q = j
              · rw [hqj, Hv.out, List.getElem?_set_self (by omega)]
              · rw [List.getElem?_set_ne (by omega)]; exact Hy.out.2 q (by omega)
            case measure => simp [intOf]; omega
          · obtain rfl : ys = xs := by
              apply List.ext_getElem?
              intro q
              by_cases hq : q < 6
              · exact Hy.out.2 q (by omega)
              · rw [List.getElem?_eq_none (by have := Hy.out.1; omega), List.getElem?_eq_none (by have := Hxl.out; omega)]
            clear Hy
            go_wp2_with fail
            refine (touches_any b g _ _ _ hk1).mono ?_
            rintro e w3 ⟨rfl, rfl⟩
            obtain ⟨hc0, hc1, hc2, hc3⟩ := Hc.out
            rw [← hu1.cell (p := ⟨ab, off + k * 4, none⟩) hab] at hc0
            rw [← hu1.cell (p := ⟨ab, off + k * 4 + 1, none⟩) hab] at hc1
            rw [← hu1.cell (p := ⟨ab, off + k * 4 + 2, none⟩) hab] at hc2
            rw [← hu1.cell (p := ⟨ab, off + k * 4 + 3, none⟩) hab] at hc3
            go_wp2_with fail
            refine (do_any b g ys t c _ hk1 hok (by omega) (by omega)).mono ?_
            rintro e w4 ⟨rfl, hk4, hu4'⟩
            have hu4 := Below.own hu1 hu4' hs1 hb hg
            have hr4 := hr1.upd hu4' (by rintro (h | h) <;> omega)
            clear hk1 hr1 hu1 hu4' hs1 hc0 hc1 hc2 hc3
            have HA := Lib.hid (acc_leaves c ys t Hxl.out)
            generalize acc c ys t = o at hk4 HA ⊢
            obtain ⟨r, er, zs, t2⟩ := o
            simp only at hk4
            obtain ⟨hc0, hc1, hc2, hc3⟩ := Hc.out
            rw [← hu4.cell (p := ⟨ab, off + k * 4, none⟩) hab] at hc0
            rw [← hu4.cell (p := ⟨ab, off + k * 4 + 1, none⟩) hab] at hc1
            clear hc2 hc3
            go_upto_region 14 with (fail)
            go_cut [11] (fun s11 wx => CutRel w b g wb ys zs r er t2 c s11 wx)
            case first =>
              by_cases h1 : er = 0
              · subst h1
                by_cases h2 : c.k = 0
                · rw [h2] at hc0
                  go_wp2_with fail
                  go_meet
                  exact ⟨true, rfl, by simp [h2], hk4, hr4, hu4⟩
                · have h2' : (c.k == 0) = false := by simp [h2]
                  by_cases h3 : c.k = 2
                  · rw [h3] at hc0
                    by_cases h4 : r = 0
                    · subst h4
                      go_wp2_with fail
                      go_meet
                      exact ⟨true, rfl, by simp [h3], hk4, hr4, hu4⟩
                    · have h4' : (r == 0) = false := by simp [h4]
                      go_wp2_with fail
                      go_meet
                      exact ⟨false, rfl, by simp [h3, h4], hk4, hr4, hu4⟩
                  · have h3' : (c.k == 2) = false := by simp [h3]
                    go_wp2_with fail
                    go_meet
                    exact ⟨false, rfl, by simp [h2, h3], hk4, hr4, hu4⟩
              · have h1' : (er != 0) = true := by simp [h1]
                go_wp2_with fail
                go_meet
                exact ⟨true, rfl, by simp [h1], hk4, hr4, hu4⟩
            case rest =>
              clear hk4 hr4 hu4 hc0 hc1
              obtain ⟨kp, rfl, hkp, hk4, hr4, hu4⟩ := hcut
              have HK := Lib.hid (leaves_kp HA.out hkp Hxl.out)
              clear HA hkp
              go_wp2_with fail
              go_loopw [12] (fun i wr => RelB w b g wb ys zs t2 i wr) (fun i _ => 6 - (intOf i).toNat)
              case atStart => exact ⟨0, by omega, rfl, hk4, hr4, hu4⟩
              case round =>
                clear hk4 hr4 hu4
                obtain ⟨j, hj, rfl, hk4, hr4, hu4⟩ := hrel
                have hs4 := hu4.size
                by_cases hlj : (j : Int) < 6
                · obtain ⟨u, hu⟩ : ∃ u, zs[j]? = some u := ⟨zs[j]'(by have := HK.out.1; omega), List.getElem?_eq_getElem _⟩
                  obtain ⟨v, hv⟩ : ∃ v, ys[j]? = some v := ⟨ys[j]'(by have := Hxl.out; omega), List.getElem?_eq_getElem _⟩
                  have Hu := Lib.hid hu
                  have Hv := Lib.hid hv
                  clear hu hv
                  have hcj := hr4.cell Hv.out
                  have hca := Hc.out.2.1
                  rw [← hu4.cell (p := ⟨ab, off + k * 4 + 1, none⟩) hab] at hca
                  have hlt6 : (j : Int) < 6 := hlj
                  go_upto_region 18 with (fail)
                  go_cut [107] (fun s wx => CutB w b g wb ys zs t2 s wx)
                  case first =>
                    by_cases huv : u = v
                    · subst huv
                      refine wp_region_held_drew (S := fun w' => SR w b g wb ab (off + k * 4 + 1) ys zs t2 u c.a j w') (by kernel_rfl) (SR.drew ⟨hk4, hr4, hu4, hcj, hca⟩) (fun hHeld => ?_)
                      refine wpAnyH_take (i := 0) (v := ?v1) rfl (by kernel_rfl) (by kernel_rfl) (by kernel_rfl) (fun _ _ _ h => h) (Or.inl ⟨by rfl, ?y1⟩) hHeld ?r1
                      case y1 => (intro w hSw; obtain ⟨_, _, _, hSa, hSb⟩ := hSw; go_simp; try with_reducible rfl)
                      simp only [List.getElem_toArray, List.getElem_cons_zero, List.getElem_cons_succ, Act.put, List.setIfInBounds_toArray, List.set_cons_zero, List.set_cons_succ]
                      refine wpAnyH_take (i := 1) (v := ?v2) rfl (by kernel_rfl) (by kernel_rfl) (by kernel_rfl) (fun _ _ _ h => h) (Or.inl ⟨by rfl, ?y2⟩) hHeld ?r2
                      case y2 => (intro w hSw; obtain ⟨_, _, _, hSa, hSb⟩ := hSw; go_simp; try with_reducible rfl)
                      simp only [List.getElem_toArray, List.getElem_cons_zero, List.getElem_cons_succ, Act.put, List.setIfInBounds_toArray, List.set_cons_zero, List.set_cons_succ]
                      refine wpAnyH_take (i := 3) (v := ?v3) rfl (by kernel_rfl) (by kernel_rfl) (by kernel_rfl) (fun _ _ _ h => h) (Or.inl ⟨by rfl, ?y3⟩) hHeld ?r3
                      case y3 => (intro w hSw; obtain ⟨_, _, _, hSa, hSb⟩ := hSw; go_simp; try with_reducible rfl)
                      simp only [List.getElem_toArray, List.getElem_cons_zero, List.getElem_cons_succ, Act.put, List.setIfInBounds_toArray, List.set_cons_zero, List.set_cons_succ]
                      refine wpAnyH_take (i := 4) (v := ?v4) rfl (by kernel_rfl) (by kernel_rfl) (by kernel_rfl) (fun _ _ _ h => h) (Or.inl ⟨by rfl, ?y4⟩) hHeld ?r4
                      case y4 => (intro w hSw; obtain ⟨_, _, _, hSa, hSb⟩ := hSw; go_simp; try with_reducible rfl)
                      simp only [List.getElem_toArray, List.getElem_cons_zero, List.getElem_cons_succ, Act.put, List.setIfInBounds_toArray, List.set_cons_zero, List.set_cons_succ]
                      refine wpAnyH_take (i := 5) (v := ?v5) rfl (by kernel_rfl) (by kernel_rfl) (by kernel_rfl) (fun _ _ _ h => h) (Or.inl ⟨by rfl, ?y5⟩) hHeld ?r5
                      case y5 => (intro w hSw; obtain ⟨_, _, _, hSa, hSb⟩ := hSw; go_simp; try with_reducible rfl)
                      simp only [List.getElem_toArray, List.getElem_cons_zero, List.getElem_cons_succ, Act.put, List.setIfInBounds_toArray, List.set_cons_zero, List.set_cons_succ]
                      refine wpAnyH_ready (rs := [2]) (by kernel_rfl) (by simp) (AllReadyH.cons rfl (fun K hK => ?_) AllReadyH.nil)
                      go_simp
                      refine (peek_in b g zs t2 u j _ hHeld.1 Hu.out).mono ?_
                      rintro e w9 ⟨rfl, hk9, hu9⟩
                      go_wp2_with fail
                      refine hK.out _ _ (SR.next hHeld hab hk9 hu9) (fun hHeld => ?_)
                      clear hK K
                      refine wpAnyH_take (i := 6) (v := ?v7) rfl (by kernel_rfl) (by kernel_rfl) (by kernel_rfl) (fun _ _ _ h => h) (Or.inl ⟨by rfl, ?y7⟩) hHeld ?r7
                      case y7 => (intro w hSw; obtain ⟨_, _, _, hSa, hSb⟩ := hSw; go_simp; try with_reducible rfl)
                      simp only [List.getElem_toArray, List.getElem_cons_zero, List.getElem_cons_succ, Act.put, List.setIfInBounds_toArray, List.set_cons_zero, List.set_cons_succ]
                      refine wpAnyH_take (i := 7) (v := ?v8) rfl (by kernel_rfl) (by kernel_rfl) (by kernel_rfl) (fun _ _ _ h => h) (Or.inl ⟨by rfl, ?y8⟩) hHeld ?r8
                      case y8 => (intro w hSw; obtain ⟨_, _, _, hSa, hSb⟩ := hSw; go_simp; try with_reducible rfl)
                      simp only [List.getElem_toArray, List.getElem_cons_zero, List.getElem_cons_succ, Act.put, List.setIfInBounds_toArray, List.set_cons_zero, List.set_cons_succ]
                      refine wpAnyH_take (i := 8) (v := undef) rfl (by kernel_rfl) (by kernel_rfl) (by kernel_rfl) (fun _ _ _ h => h) (Or.inr ⟨by rfl, rfl⟩) hHeld ?_
                      simp only [List.getElem_toArray, List.getElem_cons_zero, List.getElem_cons_succ, Act.put, List.setIfInBounds_toArray, List.set_cons_zero, List.set_cons_succ]
                      refine wpAnyH_take (i := 9) (v := undef) rfl (by kernel_rfl) (by kernel_rfl) (by kernel_rfl) (fun _ _ _ h => h) (Or.inr ⟨by rfl, rfl⟩) hHeld ?_
                      simp only [List.getElem_toArray, List.getElem_cons_zero, List.getElem_cons_succ, Act.put, List.setIfInBounds_toArray, List.set_cons_zero, List.set_cons_succ]
                      refine wpAnyH_take (i := 10) (v := undef) rfl (by kernel_rfl) (by kernel_rfl) (by kernel_rfl) (fun _ _ _ h => h) (Or.inr ⟨by rfl, rfl⟩) hHeld ?_
                      simp only [List.getElem_toArray, List.getElem_cons_zero, List.getElem_cons_succ, Act.put, List.setIfInBounds_toArray, List.set_cons_zero, List.set_cons_succ]
                      refine wpAnyH_take (i := 11) (v := undef) rfl (by kernel_rfl) (by kernel_rfl) (by kernel_rfl) (fun _ _ _ h => h) (Or.inr ⟨by rfl, rfl⟩) hHeld ?_
                      simp only [List.getElem_toArray, List.getElem_cons_zero, List.getElem_cons_succ, Act.put, List.setIfInBounds_toArray, List.set_cons_zero, List.set_cons_succ]
                      refine wpAnyH_take (i := 12) (v := undef) rfl (by kernel_rfl) (by kernel_rfl) (by kernel_rfl) (fun _ _ _ h => h) (Or.inr ⟨by rfl, rfl⟩) hHeld ?_
                      simp only [List.getElem_toArray, List.getElem_cons_zero, List.getElem_cons_succ, Act.put, List.setIfInBounds_toArray, List.set_cons_zero, List.set_cons_succ]
                      refine wpAnyH_take (i := 13) (v := undef) rfl (by kernel_rfl) (by kernel_rfl) (by kernel_rfl) (fun _ _ _ h => h) (Or.inr ⟨by rfl, rfl⟩) hHeld ?_
                      simp only [List.getElem_toArray, List.getElem_cons_zero, List.getElem_cons_succ, Act.put, List.setIfInBounds_toArray, List.set_cons_zero, List.set_cons_succ]
                      refine wpAnyH_take (i := 14) (v := undef) rfl (by kernel_rfl) (by kernel_rfl) (by kernel_rfl) (fun _ _ _ h => h) (Or.inr ⟨by rfl, rfl⟩) hHeld ?_
                      simp only [List.getElem_toArray, List.getElem_cons_zero, List.getElem_cons_succ, Act.put, List.setIfInBounds_toArray, List.set_cons_zero, List.set_cons_succ]
                      refine wpAnyH_take (i := 15) (v := undef) rfl (by kernel_rfl) (by kernel_rfl) (by kernel_rfl) (fun _ _ _ h => h) (Or.inr ⟨by rfl, rfl⟩) hHeld ?_
                      simp only [List.getElem_toArray, List.getElem_cons_zero, List.getElem_cons_succ, Act.put, List.setIfInBounds_toArray, List.set_cons_zero, List.set_cons_succ]
                      refine wpAnyH_take (i := 16) (v := undef) rfl (by kernel_rfl) (by kernel_rfl) (by kernel_rfl) (fun _ _ _ h => h) (Or.inr ⟨by rfl, rfl⟩) hHeld ?_
                      simp only [List.getElem_toArray, List.getElem_cons_zero, List.getElem_cons_succ, Act.put, List.setIfInBounds_toArray, List.set_cons_zero, List.set_cons_succ]
                      refine wpAnyH_take (i := 17) (v := undef) rfl (by kernel_rfl) (by kernel_rfl) (by kernel_rfl) (fun _ _ _ h => h) (Or.inr ⟨by rfl, rfl⟩) hHeld ?_
                      simp only [List.getElem_toArray, List.getElem_cons_zero, List.getElem_cons_succ, Act.put, List.setIfInBounds_toArray, List.set_cons_zero, List.set_cons_succ]
                      refine wpAnyH_take (i := 18) (v := ?v19) rfl (by kernel_rfl) (by kernel_rfl) (by kernel_rfl) (fun _ _ _ h => h) (Or.inl ⟨by rfl, ?y19⟩) hHeld ?r19
                      case y19 => (intro w hSw; obtain ⟨_, _, _, hSa, hSb⟩ := hSw; go_simp; try with_reducible rfl)
                      simp only [List.getElem_toArray, List.getElem_cons_zero, List.getElem_cons_succ, Act.put, List.setIfInBounds_toArray, List.set_cons_zero, List.set_cons_succ]
                      refine wpAnyH_done (by kernel_rfl) ?_ _
                      go_wp2_with fail
                      go_meet
                      exact ⟨rfl, hHeld.1, hHeld.2.1, hHeld.2.2.1⟩
                    · obtain ⟨q1, q2, q3, _⟩ := HK.out
                      have hkf : kp = false := by
                        cases kp with
                        | false => rfl
                        | true =>
                          have h1 := Hu.out
                          rw [q2 rfl, Hv.out] at h1
                          exact absurd (Option.some.inj h1).symm huv
                      have hja : (j : Int) = c.a := by
                        apply Classical.byContradiction
                        intro hn
                        have h1 := Hu.out
                        rw [q3 j hn, Hv.out] at h1
                        exact huv (Option.some.inj h1).symm
                      subst hkf
                      rw [← hja] at hca
                      have huv' : (u != v) = true := by simp [huv]
                      clear q1 q2 q3 huv
                      have Hja := Lib.hid hja
                      clear hja
                      refine wp_region_held_drew (S := fun w' => SR w b g wb ab (off + k * 4 + 1) ys zs t2 v (j : Int) j w') (by kernel_rfl) (SR.drew ⟨hk4, hr4, hu4, hcj, hca⟩) (fun hHeld => ?_)
                      refine wpAnyH_take (i := 0) (v := ?v20) rfl (by kernel_rfl) (by kernel_rfl) (by kernel_rfl) (fun _ _ _ h => h) (Or.inl ⟨by rfl, ?y20⟩) hHeld ?r20
                      case y20 => (intro w hSw; obtain ⟨_, _, _, hSa, hSb⟩ := hSw; go_simp; try with_reducible rfl)
                      simp only [List.getElem_toArray, List.getElem_cons_zero, List.getElem_cons_succ, Act.put, List.setIfInBounds_toArray, List.set_cons_zero, List.set_cons_succ]
                      refine wpAnyH_take (i := 1) (v := ?v21) rfl (by kernel_rfl) (by kernel_rfl) (by kernel_rfl) (fun _ _ _ h => h) (Or.inl ⟨by rfl, ?y21⟩) hHeld ?r21
                      case y21 => (intro w hSw; obtain ⟨_, _, _, hSa, hSb⟩ := hSw; go_simp; try with_reducible rfl)
                      simp only [List.getElem_toArray, List.getElem_cons_zero, List.getElem_cons_succ, Act.put, List.setIfInBounds_toArray, List.set_cons_zero, List.set_cons_succ]
                      refine wpAnyH_take (i := 3) (v := ?v22) rfl (by kernel_rfl) (by kernel_rfl) (by kernel_rfl) (fun _ _ _ h => h) (Or.inl ⟨by rfl, ?y22⟩) hHeld ?r22
                      case y22 => (intro w hSw; obtain ⟨_, _, _, hSa, hSb⟩ := hSw; go_simp; try with_reducible rfl)
                      simp only [List.getElem_toArray, List.getElem_cons_zero, List.getElem_cons_succ, Act.put, List.setIfInBounds_toArray, List.set_cons_zero, List.set_cons_succ]
                      refine wpAnyH_take (i := 4) (v := ?v23) rfl (by kernel_rfl) (by kernel_rfl) (by kernel_rfl) (fun _ _ _ h => h) (Or.inl ⟨by rfl, ?y23⟩) hHeld ?r23
                      case y23 => (intro w hSw; obtain ⟨_, _, _, hSa, hSb⟩ := hSw; go_simp; try with_reducible rfl)
                      simp only [List.getElem_toArray, List.getElem_cons_zero, List.getElem_cons_succ, Act.put, List.setIfInBounds_toArray, List.set_cons_zero, List.set_cons_succ]
                      refine wpAnyH_take (i := 5) (v := ?v24) rfl (by kernel_rfl) (by kernel_rfl) (by kernel_rfl) (fun _ _ _ h => h) (Or.inl ⟨by rfl, ?y24⟩) hHeld ?r24
                      case y24 => (intro w hSw; obtain ⟨_, _, _, hSa, hSb⟩ := hSw; go_simp; try with_reducible rfl)
                      simp only [List.getElem_toArray, List.getElem_cons_zero, List.getElem_cons_succ, Act.put, List.setIfInBounds_toArray, List.set_cons_zero, List.set_cons_succ]
                      refine wpAnyH_ready (rs := [2]) (by kernel_rfl) (by simp) (AllReadyH.cons rfl (fun K hK => ?_) AllReadyH.nil)
                      go_simp
                      refine (peek_in b g zs t2 u j _ hHeld.1 Hu.out).mono ?_
                      rintro e w9 ⟨rfl, hk9, hu9⟩
                      go_wp2_with fail
                      refine hK.out _ _ (SR.next hHeld hab hk9 hu9) (fun hHeld => ?_)
                      clear hK K
                      refine wpAnyH_take (i := 6) (v := ?v26) rfl (by kernel_rfl) (by kernel_rfl) (by kernel_rfl) (fun _ _ _ h => h) (Or.inl ⟨by rfl, ?y26⟩) hHeld ?r26
                      case y26 => (intro w hSw; obtain ⟨_, _, _, hSa, hSb⟩ := hSw; go_simp; try with_reducible rfl)
                      simp only [List.getElem_toArray, List.getElem_cons_zero, List.getElem_cons_succ, Act.put, List.setIfInBounds_toArray, List.set_cons_zero, List.set_cons_succ]
                      refine wpAnyH_take (i := 7) (v := ?v27) rfl (by kernel_rfl) (by kernel_rfl) (by kernel_rfl) (fun _ _ _ h => h) (Or.inl ⟨by rfl, ?y27⟩) hHeld ?r27
                      case y27 => (intro w hSw; obtain ⟨_, _, _, hSa, hSb⟩ := hSw; go_simp; try with_reducible rfl)
                      simp only [List.getElem_toArray, List.getElem_cons_zero, List.getElem_cons_succ, Act.put, List.setIfInBounds_toArray, List.set_cons_zero, List.set_cons_succ]
                      refine wpAnyH_take (i := 8) (v := ?v28) rfl (by kernel_rfl) (by kernel_rfl) (by kernel_rfl) (fun _ _ _ h => h) (Or.inl ⟨by rfl, ?y28⟩) hHeld ?r28
                      case y28 => (intro w hSw; obtain ⟨_, _, _, hSa, hSb⟩ := hSw; go_simp; try with_reducible rfl)
                      simp only [List.getElem_toArray, List.getElem_cons_zero, List.getElem_cons_succ, Act.put, List.setIfInBounds_toArray, List.set_cons_zero, List.set_cons_succ]
                      refine wpAnyH_take (i := 9) (v := ?v29) rfl (by kernel_rfl) (by kernel_rfl) (by kernel_rfl) (fun _ _ _ h => h) (Or.inl ⟨by rfl, ?y29⟩) hHeld ?r29
                      case y29 => (intro w hSw; obtain ⟨_, _, _, hSa, hSb⟩ := hSw; go_simp; try with_reducible rfl)
                      simp only [List.getElem_toArray, List.getElem_cons_zero, List.getElem_cons_succ, Act.put, List.setIfInBounds_toArray, List.set_cons_zero, List.set_cons_succ]
                      refine wpAnyH_take (i := 10) (v := ?v30) rfl (by kernel_rfl) (by kernel_rfl) (by kernel_rfl) (fun _ _ _ h => h) (Or.inl ⟨by rfl, ?y30⟩) hHeld ?r30
                      case y30 => (intro w hSw; obtain ⟨_, _, _, hSa, hSb⟩ := hSw; go_simp; try with_reducible rfl)
                      simp only [List.getElem_toArray, List.getElem_cons_zero, List.getElem_cons_succ, Act.put, List.setIfInBounds_toArray, List.set_cons_zero, List.set_cons_succ]
                      refine wpAnyH_take (i := 11) (v := ?v31) rfl (by kernel_rfl) (by kernel_rfl) (by kernel_rfl) (fun _ _ _ h => h) (Or.inl ⟨by rfl, ?y31⟩) hHeld ?r31
                      case y31 => (intro w hSw; obtain ⟨_, _, _, hSa, hSb⟩ := hSw; go_simp; try with_reducible rfl)
                      simp only [List.getElem_toArray, List.getElem_cons_zero, List.getElem_cons_succ, Act.put, List.setIfInBounds_toArray, List.set_cons_zero, List.set_cons_succ]
                      refine wpAnyH_take (i := 12) (v := ?v32) rfl (by kernel_rfl) (by kernel_rfl) (by kernel_rfl) (fun _ _ _ h => h) (Or.inl ⟨by rfl, ?y32⟩) hHeld ?r32
                      case y32 => (intro w hSw; obtain ⟨_, _, _, hSa, hSb⟩ := hSw; go_simp; try with_reducible rfl)
                      simp only [List.getElem_toArray, List.getElem_cons_zero, List.getElem_cons_succ, Act.put, List.setIfInBounds_toArray, List.set_cons_zero, List.set_cons_succ]
                      refine wpAnyH_take (i := 13) (v := ?v33) rfl (by kernel_rfl) (by kernel_rfl) (by kernel_rfl) (fun _ _ _ h => h) (Or.inl ⟨by rfl, ?y33⟩) hHeld ?r33
                      case y33 => (intro w hSw; obtain ⟨_, _, _, hSa, hSb⟩ := hSw; go_simp; try with_reducible rfl)
                      simp only [List.getElem_toArray, List.getElem_cons_zero, List.getElem_cons_succ, Act.put, List.setIfInBounds_toArray, List.set_cons_zero, List.set_cons_succ]
                      refine wpAnyH_take (i := 14) (v := ?v34) rfl (by kernel_rfl) (by kernel_rfl) (by kernel_rfl) (fun _ _ _ h => h) (Or.inl ⟨by rfl, ?y34⟩) hHeld ?r34
                      case y34 => (intro w hSw; obtain ⟨_, _, _, hSa, hSb⟩ := hSw; go_simp; try with_reducible rfl)
                      simp only [List.getElem_toArray, List.getElem_cons_zero, List.getElem_cons_succ, Act.put, List.setIfInBounds_toArray, List.set_cons_zero, List.set_cons_succ]
                      refine wpAnyH_take (i := 15) (v := ?v35) rfl (by kernel_rfl) (by kernel_rfl) (by kernel_rfl) (fun _ _ _ h => h) (Or.inl ⟨by rfl, ?y35⟩) hHeld ?r35
                      case y35 => (intro w hSw; obtain ⟨_, _, _, hSa, hSb⟩ := hSw; go_simp; try with_reducible rfl)
                      simp only [List.getElem_toArray, List.getElem_cons_zero, List.getElem_cons_succ, Act.put, List.setIfInBounds_toArray, List.set_cons_zero, List.set_cons_succ]
                      refine wpAnyH_take (i := 16) (v := ?v36) rfl (by kernel_rfl) (by kernel_rfl) (by kernel_rfl) (fun _ _ _ h => h) (Or.inl ⟨by rfl, ?y36⟩) hHeld ?r36
                      case y36 => (intro w hSw; obtain ⟨_, _, _, hSa, hSb⟩ := hSw; go_simp; try with_reducible rfl)
                      simp only [List.getElem_toArray, List.getElem_cons_zero, List.getElem_cons_succ, Act.put, List.setIfInBounds_toArray, List.set_cons_zero, List.set_cons_succ]
                      refine wpAnyH_take (i := 17) (v := ?v37) rfl (by kernel_rfl) (by kernel_rfl) (by kernel_rfl) (fun _ _ _ h => h) (Or.inl ⟨by rfl, ?y37⟩) hHeld ?r37
                      case y37 => (intro w hSw; obtain ⟨_, _, _, hSa, hSb⟩ := hSw; go_simp; try with_reducible rfl)
                      simp only [List.getElem_toArray, List.getElem_cons_zero, List.getElem_cons_succ, Act.put, List.setIfInBounds_toArray, List.set_cons_zero, List.set_cons_succ]
                      refine wpAnyH_take (i := 18) (v := ?v38) rfl (by kernel_rfl) (by kernel_rfl) (by kernel_rfl) (fun _ _ _ h => h) (Or.inl ⟨by rfl, ?y38⟩) hHeld ?r38
                      case y38 => (intro w hSw; obtain ⟨_, _, _, hSa, hSb⟩ := hSw; go_simp; try with_reducible rfl)
                      simp only [List.getElem_toArray, List.getElem_cons_zero, List.getElem_cons_succ, Act.put, List.setIfInBounds_toArray, List.set_cons_zero, List.set_cons_succ]
                      refine wpAnyH_done (by kernel_rfl) ?_ _
                      go_wp2_with fail
                      go_meet
                      exact ⟨rfl, hHeld.1, hHeld.2.1, hHeld.2.2.1⟩
                  case rest =>
                    clear hk4 hr4 hu4 hcj hca hs4
                    obtain ⟨rfl, hk4, hr4, hu4⟩ := hcut
                    go_wp2_with fail
                    go_roundw
                    case rel => exact ⟨j + 1, by omega, by go_num, hk4, hr4, hu4⟩
                    case measure => simp [intOf]; omega
                · obtain ⟨q1, _, _, q4⟩ := HK.out
                  clear HK
                  have hc1 := Hc.out.2.1
                  rw [← hu4.cell (p := ⟨ab, off + k * 4 + 1, none⟩) hab] at hc1
                  rcases q4 with ⟨rfl, q5, rfl⟩ | ⟨rfl, q5, q6, rfl⟩
                  · go_wp2_with fail
                    refine (touches_any b g _ _ _ hk4).mono ?_
                    rintro e w3 ⟨rfl, rfl⟩
                    by_cases hneg : c.a < 0
                    · have hd : decide (0 ≤ c.a) = false := by simp; omega
                      go_wp2_with fail
                      go_roundw
                      case rel => exact ⟨k + 1, zs, _, by omega, by go_num, hk4, q1, by omega, by omega, hu4⟩
                      case measure => simp [intOf]; omega
                    · have hd : decide (0 ≤ c.a) = true := by simp; omega
                      have hd' : decide (c.a < 6) = false := by simp; omega
                      go_wp2_with fail
                      go_roundw
                      case rel => exact ⟨k + 1, zs, _, by omega, by go_num, hk4, q1, by omega, by omega, hu4⟩
                      case measure => simp [intOf]; omega
                  · have hd : decide (0 ≤ c.a) = true := by simp; omega
                    have hd' : decide (c.a < 6) = true := by simp; omega
                    go_wp2_with fail
                    refine (touches_any b g _ _ _ hk4).mono ?_
                    rintro e w3 ⟨rfl, rfl⟩
                    go_wp2_with fail
                    go_roundw
                    case rel => exact ⟨k + 1, zs, _, by omega, by go_num, hk4, q1, by omega, by omega, hu4⟩
                    case measure => simp [intOf]; omega
      · go_wp2_with fail
        refine (awake_any _).mono ?_
        rintro e w7 ⟨rfl, hu7⟩
        have hu' := hu1.trans (hu7.mono hs1)
        clear hk1 hu1 hu7 hs1
        go_wp2
        go_ret
        exact ⟨rfl, hu'⟩
set_option maxRecDepth 100000 in
theorem lifted (os : Os) (started : os.Started) (H : Type) (enc : TypeId × Value → H) :
    ReturnsInHanded {} Try.checked os 8 .any (Rows.bankLeavesSpec.pre6 enc Try.prog Try.f8 Rows.bankLeavesRow.domain false) (Rows.bankLeavesSpec.post enc Try.prog Try.f8 false true false false) := by
  refine returnsInHanded_of_change (C := Try.checked) own started (by kernel_rfl) Try.func8
    (ChangeSpec.witness6 (enc := enc) (C := Try.checked) false ⟨#[], #[.slice none 0 0], []⟩ 8 (by kernel_rfl) (by kernel_rfl) (by kernel_rfl) (by kernel_rfl)) ?_
  intro W base args ds gs before hval0 hW _ _
  have hval : ∀ (j : Nat) t v, Try.f8.params[j]? = some t → args[j]? = some v → Value.okWide Try.prog W .any base t v := hval0
  have hW' := hW
  obtain ⟨p, q, hA0, hV, rfl, _, _⟩ := hW
  have hA : DataW.TrodAll enc Try.prog W 0 (fun _ => true) true Try.f8.params.toList args.toList ds p := hA0
  rw [Try.params8] at hA hval
  obtain ⟨v0, vs0, d0, ds0, p0, q0, hargs, rfl, rfl, h0, r0⟩ := trodAll_cons hA
  obtain ⟨rfl, rfl, rfl⟩ := trodAll_nil r0
  obtain rfl : args = #[v0] := by cases args; simp_all
  obtain ⟨rfl, rfl⟩ := trodVars_none hV
  have k0 := h0
  have lt0 : ∀ x ∈ p0, x.block < W.heap.size := by obtain ⟨m, hm⟩ := k0; exact DataW.trod_lt m _ _ _ hm
  obtain ⟨a0, len0, cap0, rfl⟩ := okWide_slice Try.underlying22 (hval 0 22 v0 rfl rfl)
  obtain ⟨l0, hl0⟩ := acts_of h0
  clear hA0 hval0
  refine (walk a0 len0 cap0 l0 W hl0).mono fun e W' ⟨he, bel⟩ => ?_
  subst he
  exact ⟨_, rfl, _, _, _, [], _, [], hW', trodAll_mk1 (shut_bool Try.underlying4 _), (trodAll_cons_mk (Below.trod laidOut (by kernel_rfl) (of_decide_eq_true (by kernel_rfl)) k0 bel lt0) trodAll_mk0), rfl, bel.frame _, fun h => by cases h⟩

theorem over : Rows.bankLeavesRow.holds Try.pinned (OpenSpec.ofChange Rows.bankLeavesSpec) :=
  OpenClaim.holds_of_wide 8 Try.f8 rfl rfl rfl rfl rfl rfl rfl ⟨rfl, rfl, rfl, rfl, rfl⟩ rfl rfl rfl rfl rfl (by kernel_rfl) Try.func8 (by kernel_rfl)
    (of_decide_eq_true (by kernel_rfl)) (by unfold Func.isWrapper; first | (rw [if_pos (by decide +kernel)]; kernel_rfl) | (rw [if_neg (by decide +kernel)]; exact ⟨rfl, rfl⟩))
    (fun os started H enc _ => lifted os started H enc)

theorem proved : Rows.BankLeavesSaid := over
#print axioms proved
end Go.Proofs.Ytckeoonbmpfmeaa.bankLeaves
