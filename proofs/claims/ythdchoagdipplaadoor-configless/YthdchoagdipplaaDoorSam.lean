/- config.Same, slices.Equal at topics, and the document's Same: their contracts. -/
import Derived.Test.YthdchoagdipplaaDoorAwk
import Derived.Test.YthdchoagdipplaaDoorChk
import Derived.BigQuiet
namespace Go.Proofs.YthdchoagdipplaaDoor
open Go.RowKit

theorem lists_ne {l m : List Tp} {k : Nat} {t u : Tp} (h1 : l[k]? = some t) (h2 : m[k]? = some u) (h : t ≠ u) : l ≠ m := fun e => by
  subst e
  rw [h1] at h2
  exact h (Option.some.inj h2)
theorem lists_eq {l m : List Tp} (hl : l.length = m.length) (h : ∀ (j : Nat) (t u : Tp), l[j]? = some t → m[j]? = some u → t = u) : l = m := by
  apply List.ext_getElem hl
  intro j h1 h2
  exact h j _ _ (List.getElem?_eq_getElem h1) (List.getElem?_eq_getElem h2)
def RelEq (w : World) (l m : List Tp) (i : Value) (wr : World) : Prop :=
  ∃ k : Nat, k ≤ l.length ∧ i = .int .i64 k ∧ (∀ (j : Nat) (t u : Tp), j < k → l[j]? = some t → m[j]? = some u → t = u) ∧ ∃ n, wr = w.drewN n
set_option maxHeartbeats 1000000 in
theorem equal_any (a b : Option Addr) (c d : Nat) (l m : List Tp) (w : World) (hl : Tps w.heap.size w a l) (hm : Tps w.heap.size w b m) (hn : l.length ≤ 100000) :
    Calls Tryd.prog 35 #[.slice a l.length c, .slice b m.length d] w (fun e w' => e = .returned (.bool (decide (l = m))) ∧ ∃ n, w' = w.drewN n) := by
  by_cases hlen : l.length = m.length
  · have hne : ((l.length : Int) != (m.length : Int)) = false := by simp [hlen]
    have HT := Lib.hid (And.intro hl hm)
    clear hl hm
    go_enter Tryd.func35, Tryd.ntmps35
    go_wp2
    go_loopw [13] (RelEq w l m) (fun i _ => l.length - (intOf i).toNat)
    case atStart => exact ⟨0, by omega, rfl, fun j t u hj => by omega, 0, rfl⟩
    case round =>
      obtain ⟨k, hk, rfl, hall, nd, rfl⟩ := hrel
      have Ha := Lib.hid hall
      clear hall
      by_cases hkl : k < l.length
      · have k0 : (k : Int) < (l.length : Int) := by omega
        have k1 : (k : Int) < (m.length : Int) := by omega
        obtain ⟨t, ht⟩ : ∃ t, l[k]? = some t := ⟨l[k], List.getElem?_eq_getElem hkl⟩
        obtain ⟨u, hu⟩ : ∃ u, m[k]? = some u := ⟨m[k]'(by omega), List.getElem?_eq_getElem (by omega)⟩
        obtain ⟨b1, o1, rfl, _, u0, u1, u2⟩ := HT.out.1 k t ht
        obtain ⟨b2, o2, rfl, _, v0, v1, v2⟩ := HT.out.2 k u hu
        have u0' : (w.drewN nd).cell? ⟨b1, o1 + k * 3, none⟩ = some (.string t.1) := u0
        have u1' : (w.drewN nd).cell? ⟨b1, o1 + k * 3 + 1, none⟩ = some (.int .i64 t.2.1) := u1
        have u2' : (w.drewN nd).cell? ⟨b1, o1 + k * 3 + 2, none⟩ = some (.int .i64 t.2.2) := u2
        have v0' : (w.drewN nd).cell? ⟨b2, o2 + k * 3, none⟩ = some (.string u.1) := v0
        have v1' : (w.drewN nd).cell? ⟨b2, o2 + k * 3 + 1, none⟩ = some (.int .i64 u.2.1) := v1
        have v2' : (w.drewN nd).cell? ⟨b2, o2 + k * 3 + 2, none⟩ = some (.int .i64 u.2.2) := v2
        clear u0 u1 u2 v0 v1 v2
        by_cases e : t = u
        · have heq : ∀ w, (Op.equalIn 10000 45 (.agg #[.string t.1, .int .i64 t.2.1, .int .i64 t.2.2]) (.agg #[.string u.1, .int .i64 u.2.1, .int .i64 u.2.2])).run Tryd.prog w = .ok true w := fun w => by
            have := eq45 t u w
            rw [decide_eq_true e] at this
            exact this
          have Ht := Lib.hid (And.intro ht (And.intro hu e))
          clear ht hu e
          generalize hW : w.drewN nd = W at *
          have HW := Lib.hid hW
          clear hW
          go_wp2_with fail
          go_quiet (fail)
          go_wp2
          go_roundw
          case rel =>
            refine ⟨k + 1, by omega, by go_num, fun j t' u' hj h1 h2 => ?_, nd + nq, by rw [← HW.out, World.drewN_drewN]⟩
            by_cases hjk : j < k
            · exact Ha.out j t' u' hjk h1 h2
            · obtain rfl : j = k := by omega
              rw [Ht.out.1] at h1
              rw [Ht.out.2.1] at h2
              cases h1
              cases h2
              exact Ht.out.2.2
          case measure => simp [intOf]; omega
        · have heq : ∀ w, (Op.equalIn 10000 45 (.agg #[.string t.1, .int .i64 t.2.1, .int .i64 t.2.2]) (.agg #[.string u.1, .int .i64 u.2.1, .int .i64 u.2.2])).run Tryd.prog w = .ok false w := fun w => by
            have := eq45 t u w
            rw [decide_eq_false e] at this
            exact this
          have Hr := Lib.hid (decide_eq_false (lists_ne ht hu e))
          clear ht hu e
          generalize hW : w.drewN nd = W at *
          have HW := Lib.hid hW
          clear hW
          go_wp2_with fail
          go_quiet (fail)
          go_wp2
          go_ret
          exact ⟨by rw [Hr.out]; rfl, nd + nq, by rw [← HW.out, World.drewN_drewN]⟩
      · have k0 : decide ((k : Int) < (l.length : Int)) = false := decide_eq_false (by omega)
        have Hr := Lib.hid (decide_eq_true (lists_eq hlen (fun j t u h1 h2 => Ha.out j t u (by have := (List.getElem?_eq_some_iff.1 h1).1; omega) h1 h2)))
        go_wp2
        go_ret
        exact ⟨by rw [Hr.out]; rfl, nd, rfl⟩
  · have hne : ((l.length : Int) != (m.length : Int)) = true := by
      rw [bne_iff_ne]
      omega
    have Hr := Lib.hid (decide_eq_false (fun e : l = m => hlen (by rw [e])))
    clear hlen hl hm
    go_enter Tryd.func35, Tryd.ntmps35
    go_wp2
    go_ret
    exact ⟨by rw [Hr.out]; rfl, 0, rfl⟩

/-- Two configs that are the same. -/
def smB (T R L T' R' L' : Int) (l l' : List Tp) : Bool := decide (T = T') && decide (R = R') && decide (L = L') && decide (l = l')
abbrev bx2 (T R L T' R' L' : Int) (a b : Option Addr) (n c m d : Nat) (w : World) : World :=
  (w.alloc (.cells #[.int .i64 T, .slice a n c, .int .i64 R, .int .i64 L] 24)).alloc (.cells #[.int .i64 T', .slice b m d, .int .i64 R', .int .i64 L'] 24)
theorem same_pre (T R L T' R' L' : Int) (a b : Option Addr) (n c m d : Nat) (w : World) :
    Blk (bx2 T R L T' R' L' a b n c m d w) w.heap.size (cfl T a n c R L) ∧ Blk (bx2 T R L T' R' L' a b n c m d w) (w.heap.size + 1) (cfl T' b m d R' L') ∧ Below w.heap.size w (bx2 T R L T' R' L' a b n c m d w) := by
  have b2 := Blk.new (w.alloc (.cells #[.int .i64 T, .slice a n c, .int .i64 R, .int .i64 L] 24)) #[.int .i64 T', .slice b m d, .int .i64 R', .int .i64 L'] 24
  simp only [World.size_alloc] at b2
  exact ⟨(Blk.new w #[.int .i64 T, .slice a n c, .int .i64 R, .int .i64 L] 24).alloc _, b2, ((Below.refl _ _).alloc (Nat.le_refl _) _).alloc (by simp) _⟩
set_option maxRecDepth 100000 in
set_option maxHeartbeats 1000000 in
theorem same_any (T R L T' R' L' : Int) (a b : Option Addr) (c d : Nat) (l m : List Tp) (w : World) (hl : Tps w.heap.size w a l) (hm : Tps w.heap.size w b m) (hn : l.length ≤ 100000) : Calls Tryd.prog 18 #[cfg T a l.length c R L, cfg T' b m.length d R' L'] w (Ret (.bool (smB T R L T' R' L' l m)) w) := by
  obtain ⟨hC, hD, hB⟩ := same_pre T R L T' R' L' a b l.length c m.length d w
  have c0 := hC.cell (i := 0) rfl
  have c1 := hC.cell (i := 1) rfl
  have c2 := hC.cell (i := 2) rfl
  have c3 := hC.cell (i := 3) rfl
  have d0 := hD.cell (i := 0) rfl
  have d1 := hD.cell (i := 1) rfl
  have d2 := hD.cell (i := 2) rfl
  have d3 := hD.cell (i := 3) rfl
  have HB := Lib.hid (And.intro hB (And.intro hl hm))
  clear hC hD hB hl hm
  by_cases e1 : T = T'
  · have q1 : (T == T') = true := by simpa using e1
    by_cases e2 : R = R'
    · have q2 : (R == R') = true := by simpa using e2
      by_cases e3 : L = L'
      · have q3 : (L == L') = true := by simpa using e3
        have HS : Hid (smB T R L T' R' L' l m = decide (l = m)) := Lib.hid (by unfold smB; simp [e1, e2, e3])
        clear e1 e2 e3
        go_enter Tryd.func18, Tryd.ntmps18
        go_wp2_with fail
        have hb := HB.out.1
        refine (equal_any a b c d l m (bx2 T R L T' R' L' a b l.length c m.length d w) ((HB.out.2.1.below hb).mono hb.size) ((HB.out.2.2.below hb).mono hb.size) hn).mono ?_
        rintro e w1 ⟨rfl, nd, rfl⟩
        clear hb c0 c1 c2 c3 d0 d1 d2 d3
        generalize decide (l = m) = q at *
        go_wp2
        go_ret
        exact ⟨by rw [HS.out]; rfl, belN HB.out.1 nd⟩
      · have q3 : (L == L') = false := by simpa using e3
        have HS : Hid (smB T R L T' R' L' l m = false) := Lib.hid (by unfold smB; simp [e3])
        clear e1 e2 e3
        go_enter Tryd.func18, Tryd.ntmps18
        go_wp2
        go_ret
        exact ⟨by rw [HS.out]; rfl, HB.out.1⟩
    · have q2 : (R == R') = false := by simpa using e2
      have HS : Hid (smB T R L T' R' L' l m = false) := Lib.hid (by unfold smB; simp [e2])
      clear e1 e2
      go_enter Tryd.func18, Tryd.ntmps18
      go_wp2
      go_ret
      exact ⟨by rw [HS.out]; rfl, HB.out.1⟩
  · have q1 : (T == T') = false := by simpa using e1
    have HS : Hid (smB T R L T' R' L' l m = false) := Lib.hid (by unfold smB; simp [e1])
    clear e1
    go_enter Tryd.func18, Tryd.ntmps18
    go_wp2
    go_ret
    exact ⟨by rw [HS.out]; rfl, HB.out.1⟩

def RelRs (w : World) (T R L T' R' L' : Int) (a b : Option Addr) (c d : Nat) (l m : List Tp) (i : Value) (wr : World) : Prop :=
  ∃ k : Nat, k ≤ l.length ∧ i = .int .i64 k ∧ (∀ (j : Nat) (t u : Tp), j < k → l[j]? = some t → m[j]? = some u → t = u) ∧ ∃ n, wr = (bx2 T R L T' R' L' a b l.length c m.length d w).drewN n
set_option maxRecDepth 100000 in
set_option maxHeartbeats 1000000 in
theorem rsame_any (T R L T' R' L' : Int) (a b : Option Addr) (c d : Nat) (l m : List Tp) (w : World) (hl : Tps w.heap.size w a l) (hm : Tps w.heap.size w b m) (hn : l.length ≤ 100000) : Calls Tryd.prog 19 #[cfg T a l.length c R L, cfg T' b m.length d R' L'] w (Ret (.bool (smB T R L T' R' L' l m)) w) := by
  obtain ⟨hC, hD, hB⟩ := same_pre T R L T' R' L' a b l.length c m.length d w
  have c0 := hC.cell (i := 0) rfl
  have c1 := hC.cell (i := 1) rfl
  have c2 := hC.cell (i := 2) rfl
  have c3 := hC.cell (i := 3) rfl
  have d0 := hD.cell (i := 0) rfl
  have d1 := hD.cell (i := 1) rfl
  have d2 := hD.cell (i := 2) rfl
  have d3 := hD.cell (i := 3) rfl
  have HB := Lib.hid (And.intro hB (And.intro hl hm))
  clear hC hD hB hl hm
  by_cases e1 : T = T'
  · have q1 : (T != T') = false := by simpa using e1
    by_cases e2 : R = R'
    · have q2 : (R != R') = false := by simpa using e2
      by_cases e3 : L = L'
      · have q3 : (L != L') = false := by simpa using e3
        by_cases hlen : l.length = m.length
        · have q4 : ((l.length : Int) != (m.length : Int)) = false := by simp [hlen]
          have HS : Hid (smB T R L T' R' L' l m = decide (l = m)) := Lib.hid (by unfold smB; simp [e1, e2, e3])
          have hb := HB.out.1
          have hl1 := HB.out.2.1.below hb
          have hm1 := HB.out.2.2.below hb
          have HT := Lib.hid (And.intro hl1 hm1)
          have Hlen := Lib.hid hlen
          clear e1 e2 e3 hl1 hm1 hb hlen
          go_enter Tryd.func19, Tryd.ntmps19
          go_wp2
          go_loopw [5] (RelRs w T R L T' R' L' a b c d l m) (fun i _ => l.length - (intOf i).toNat)
          case atStart => exact ⟨0, by omega, rfl, fun j t u hj => by omega, 0, rfl⟩
          case round =>
            obtain ⟨k, hk, rfl, hall, nd, rfl⟩ := hrel
            have Ha := Lib.hid hall
            clear hall q1 q2 q3 c0 c2 c3 d0 d2 d3
            have c1' : ((bx2 T R L T' R' L' a b l.length c m.length d w).drewN nd).cell? ⟨w.heap.size, 1, none⟩ = some (.slice a l.length c) := c1
            have d1' : ((bx2 T R L T' R' L' a b l.length c m.length d w).drewN nd).cell? ⟨w.heap.size + 1, 1, none⟩ = some (.slice b m.length d) := d1
            clear c1 d1
            by_cases hkl : k < l.length
            · have k0 : (k : Int) < (l.length : Int) := by omega
              have k1 : (k : Int) < (m.length : Int) := by have := Hlen.out; omega
              obtain ⟨t, ht⟩ : ∃ t, l[k]? = some t := ⟨l[k], List.getElem?_eq_getElem hkl⟩
              obtain ⟨u, hu⟩ : ∃ u, m[k]? = some u := ⟨m[k]'(by have := Hlen.out; omega), List.getElem?_eq_getElem (by have := Hlen.out; omega)⟩
              obtain ⟨b1, o1, rfl, _, u0, u1, u2⟩ := HT.out.1 k t ht
              obtain ⟨b2, o2, rfl, _, v0, v1, v2⟩ := HT.out.2 k u hu
              generalize hW0 : bx2 T R L T' R' L' (some ⟨b1, o1, none⟩) (some ⟨b2, o2, none⟩) l.length c m.length d w = W0 at *
              have u0' : (W0.drewN nd).cell? ⟨b1, o1 + k * 3, none⟩ = some (.string t.1) := u0
              have u1' : (W0.drewN nd).cell? ⟨b1, o1 + k * 3 + 1, none⟩ = some (.int .i64 t.2.1) := u1
              have u2' : (W0.drewN nd).cell? ⟨b1, o1 + k * 3 + 2, none⟩ = some (.int .i64 t.2.2) := u2
              have v0' : (W0.drewN nd).cell? ⟨b2, o2 + k * 3, none⟩ = some (.string u.1) := v0
              have v1' : (W0.drewN nd).cell? ⟨b2, o2 + k * 3 + 1, none⟩ = some (.int .i64 u.2.1) := v1
              have v2' : (W0.drewN nd).cell? ⟨b2, o2 + k * 3 + 2, none⟩ = some (.int .i64 u.2.2) := v2
              clear u0 u1 u2 v0 v1 v2
              by_cases e : t = u
              · have heq : ∀ w, (Op.equalIn 10000 45 (.agg #[.string t.1, .int .i64 t.2.1, .int .i64 t.2.2]) (.agg #[.string u.1, .int .i64 u.2.1, .int .i64 u.2.2])).run Tryd.prog w = .ok true w := fun w => by
                  have := eq45 t u w
                  rw [decide_eq_true e] at this
                  exact this
                have Ht := Lib.hid (And.intro ht (And.intro hu (And.intro e hW0)))
                clear ht hu e hW0
                generalize hW : W0.drewN nd = W at *
                have HW := Lib.hid hW
                clear hW
                go_wp2_with fail
                go_quiet (fail)
                go_wp2
                go_roundw
                case rel =>
                  refine ⟨k + 1, by omega, by go_num, fun j t' u' hj h1 h2 => ?_, nd + nq, by rw [← HW.out, World.drewN_drewN, ← Ht.out.2.2.2]⟩
                  by_cases hjk : j < k
                  · exact Ha.out j t' u' hjk h1 h2
                  · obtain rfl : j = k := by omega
                    rw [Ht.out.1] at h1
                    rw [Ht.out.2.1] at h2
                    cases h1
                    cases h2
                    exact Ht.out.2.2.1
                case measure => simp [intOf]; omega
              · have heq : ∀ w, (Op.equalIn 10000 45 (.agg #[.string t.1, .int .i64 t.2.1, .int .i64 t.2.2]) (.agg #[.string u.1, .int .i64 u.2.1, .int .i64 u.2.2])).run Tryd.prog w = .ok false w := fun w => by
                  have := eq45 t u w
                  rw [decide_eq_false e] at this
                  exact this
                have Hr := Lib.hid (decide_eq_false (lists_ne ht hu e))
                clear ht hu e hW0
                generalize hW : W0.drewN nd = W at *
                have HW := Lib.hid hW
                clear hW
                go_wp2_with fail
                go_quiet (fail)
                go_wp2
                go_ret
                exact ⟨by rw [HS.out, Hr.out]; rfl, belN (by rw [← HW.out]; exact belN HB.out.1 nd) nq⟩
            · have k0 : decide ((k : Int) < (l.length : Int)) = false := decide_eq_false (by omega)
              have Hr := Lib.hid (decide_eq_true (lists_eq Hlen.out (fun j t u h1 h2 => Ha.out j t u (by have := (List.getElem?_eq_some_iff.1 h1).1; omega) h1 h2)))
              go_wp2
              go_ret
              exact ⟨by rw [HS.out, Hr.out]; rfl, belN HB.out.1 nd⟩
        · have q4 : ((l.length : Int) != (m.length : Int)) = true := by
            rw [bne_iff_ne]
            omega
          have HS : Hid (smB T R L T' R' L' l m = false) := Lib.hid (by
            unfold smB
            rw [decide_eq_false (fun e : l = m => hlen (by rw [e]))]
            simp)
          clear e1 e2 e3 hlen
          go_enter Tryd.func19, Tryd.ntmps19
          go_wp2
          go_ret
          exact ⟨by rw [HS.out]; rfl, HB.out.1⟩
      · have q3 : (L != L') = true := by simpa using e3
        have HS : Hid (smB T R L T' R' L' l m = false) := Lib.hid (by unfold smB; simp [e3])
        clear e1 e2 e3
        go_enter Tryd.func19, Tryd.ntmps19
        go_wp2
        go_ret
        exact ⟨by rw [HS.out]; rfl, HB.out.1⟩
    · have q2 : (R != R') = true := by simpa using e2
      have HS : Hid (smB T R L T' R' L' l m = false) := Lib.hid (by unfold smB; simp [e2])
      clear e1 e2
      go_enter Tryd.func19, Tryd.ntmps19
      go_wp2
      go_ret
      exact ⟨by rw [HS.out]; rfl, HB.out.1⟩
  · have q1 : (T != T') = true := by simpa using e1
    have HS : Hid (smB T R L T' R' L' l m = false) := Lib.hid (by unfold smB; simp [e1])
    clear e1
    go_enter Tryd.func19, Tryd.ntmps19
    go_wp2
    go_ret
    exact ⟨by rw [HS.out]; rfl, HB.out.1⟩
end Go.Proofs.YthdchoagdipplaaDoor
