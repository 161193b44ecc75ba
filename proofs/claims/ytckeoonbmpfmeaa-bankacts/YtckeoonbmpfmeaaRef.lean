/- The document's bank (package aileronref01): contracts. It lies in memory as a bank does. -/
import Derived.Test.YtckeoonbmpfmeaaDo
namespace Go.Proofs.Ytckeoonbmpfmeaa
open Go.RowKit

theorem info31 : (Try.prog.info? 31).map (fun i => (i.zero, i.size, i.bytes)) = some (some (.int .u64 0), 1, 8) := by kernel_rfl
theorem make_row (n : Nat) (h : n ≤ 1048576) (w : World) :
    (Instr.makeSlice 37 (.int .i64 n) (.int .i64 n)).run Try.prog w = .ok (.slice (some ⟨w.heap.size, 0, none⟩) n n) (w.alloc (.cells (zeros n) 31)) := by
  obtain ⟨i, hi, he⟩ := Option.map_eq_some_iff.1 info31
  simp only [Prod.mk.injEq] at he
  obtain ⟨hz, hs, hb⟩ := he
  have hr := run_make (P := Try.prog) w 37 31 i _ Try.underlying37 hi hz .i64 .i64 n n (by omega) (by omega) (by rw [hb]; omega) (by omega)
  rw [hs] at hr
  simp only [Int.toNat_natCast, Nat.mul_one] at hr
  rw [show (Value.int .u64 0).cells = #[Value.int .u64 0] from rfl, made_zeros] at hr
  exact hr
theorem Bk.made' (w : World) (n : Nat) (T T' : TypeId) : Bk ((w.alloc (.cells (zeros n) T)).alloc (.cells #[.slice (some ⟨w.heap.size, 0, none⟩) n n, .int .i64 0] T')) (w.heap.size + 1) w.heap.size (List.replicate n 0) 0 := by
  refine ⟨⟨T', ?_⟩, ⟨T, ?_⟩, by omega, fun x hx => by rw [List.eq_of_mem_replicate hx]; exact u64_zero⟩
  · show ((w.heap.push _).push _)[w.heap.size + 1]? = _
    rw [Array.getElem?_push, if_pos (by simp), List.length_replicate]
  · show ((w.heap.push _).push _)[w.heap.size]? = _
    rw [Array.getElem?_push, if_neg (by simp), Array.getElem?_push, if_pos rfl]
    rfl

def RefNewPost (n : Nat) (w : World) (e : Ending) (w' : World) : Prop :=
  ∃ b g : Nat, w.heap.size ≤ b ∧ w.heap.size ≤ g ∧ e = .returned (.pointer (some ⟨b, 0, none⟩)) ∧ Bk w' b g (List.replicate n 0) 0 ∧ Below w.heap.size w w'

set_option maxHeartbeats 400000 in
theorem refnew_ok (n : Nat) (w : World) (h2 : n ≤ 1048576) : Calls Try.prog 13 #[.int .i64 n] w (RefNewPost n w) := by
  have hmk := make_row n h2
  have hB := Bk.made' w n 31 39
  have hu := ((Below.refl w.heap.size w).alloc (Nat.le_refl _) (.cells (zeros n) 31)).alloc (by simp) (.cells #[.slice (some ⟨w.heap.size, 0, none⟩) n n, .int .i64 0] 39)
  have HB := Lib.hid (And.intro hB hu)
  clear hB hu
  go_enter Try.func13, Try.ntmps13
  go_wp2
  go_ret
  exact ⟨w.heap.size + 1, w.heap.size, by omega, by omega, rfl, HB.out.1, HB.out.2⟩

set_option maxHeartbeats 400000 in
theorem refpeek_in (b g : Nat) (xs : List Int) (t v : Int) (a : Int) (w : World) (ha : 0 ≤ a) (hk : Bk w b g xs t) (hv : xs[a.toNat]? = some v) :
    Calls Try.prog 18 #[.pointer (some ⟨b, 0, none⟩), .int .i64 a] w fun e w' => e = .returned (.int .u64 v) ∧ w = w' := by
  have hi := lt_of_some hv
  have hlt : a < (xs.length : Int) := by omega
  have c0 := hk.c0
  have cg := hk.cg hv
  have Hv := Lib.hid hv
  clear hv
  go_enter Try.func18, Try.ntmps18
  go_wp2
  go_ret
  exact ⟨rfl, rfl⟩
set_option maxHeartbeats 400000 in
theorem refpeek_out (b g : Nat) (xs : List Int) (t : Int) (a : Int) (w : World) (hk : Bk w b g xs t) (ho : a < 0 ∨ (xs.length : Int) ≤ a) :
    Calls Try.prog 18 #[.pointer (some ⟨b, 0, none⟩), .int .i64 a] w fun e w' => e = .returned (.int .u64 0) ∧ w = w' := by
  have c0 := hk.c0
  by_cases h0 : a < 0
  · go_enter Try.func18, Try.ntmps18
    go_wp2
    go_ret
    exact ⟨rfl, rfl⟩
  · have h1 : (xs.length : Int) ≤ a := by omega
    go_enter Try.func18, Try.ntmps18
    go_wp2
    go_ret
    exact ⟨rfl, rfl⟩

set_option maxHeartbeats 1000000 in
theorem refdo_any (b g : Nat) (xs : List Int) (t : Int) (k a x y : Int) (w : World) (hk : Bk w b g xs t) (hx : U64 x) (ht : 0 ≤ t) (ht' : t ≤ 1000000) :
    Calls Try.prog 15 #[.pointer (some ⟨b, 0, none⟩), .int .i64 k, .int .i64 a, .int .u64 x, .int .u64 y] w (DoPost b g (acc ⟨k, a, x, y⟩ xs t) w) := by
  have c0 := hk.c0
  have c1 := hk.c1
  have f1 := hk.fb 1
  cases hw : word a xs with
  | none =>
    have ho := word_none hw
    have HA := Lib.hid (show acc ⟨k, a, x, y⟩ xs t = ⟨0, 10, xs, t⟩ by simp [acc, hw])
    clear hw
    by_cases h0 : a < 0
    · go_enter Try.func15, Try.ntmps15
      go_wp2
      go_ret2
      exact DoPost.mk' HA.out rfl hk (Upd.refl _ _)
    · have h1 : (xs.length : Int) ≤ a := by omega
      go_enter Try.func15, Try.ntmps15
      go_wp2
      go_ret2
      exact DoPost.mk' HA.out rfl hk (Upd.refl _ _)
  | some v =>
    obtain ⟨ha0, hv, hlt⟩ := word_some hw
    have hk1 := hk.touch (t + 1)
    have hu1 := (Upd.refl (Own b g) w).setCell (p := ⟨b, 1, none⟩) (.inl (.inl rfl)) (.int .i64 (t + 1))
    have c0' := hk1.c0
    have cg' := hk1.cg hv
    have fg' := hk1.fg a.toNat
    have Hv := Lib.hid hv
    have HW := Lib.hid hw
    clear hv hw
    by_cases h0 : k = 0
    · subst h0
      have HA := Lib.hid (show acc ⟨0, a, x, y⟩ xs t = ⟨v, 0, xs, t + 1⟩ by simp [acc, HW.out])
      go_enter Try.func15, Try.ntmps15
      go_wp2
      go_ret2
      exact DoPost.mk' HA.out rfl hk1 hu1
    · have h0' : (k == 0) = false := by simp [h0]
      by_cases h1 : k = 1
      · subst h1
        have HA := Lib.hid (show acc ⟨1, a, x, y⟩ xs t = ⟨0, 0, xs.set a.toNat x, t + 1⟩ by simp [acc, HW.out])
        go_enter Try.func15, Try.ntmps15
        go_wp2
        go_ret2
        exact DoPost.mk' HA.out rfl (hk1.put a.toNat x hx) (hu1.setCell (p := ⟨g, a.toNat, none⟩) (.inl (.inr rfl)) _)
      · have h1' : (k == 1) = false := by simp [h1]
        by_cases h2 : k = 2
        · subst h2
          by_cases hvy : v = y
          · subst hvy
            have HA := Lib.hid (show acc ⟨2, a, x, v⟩ xs t = ⟨1, 0, xs.set a.toNat x, t + 1⟩ by simp [acc, HW.out])
            go_enter Try.func15, Try.ntmps15
            go_wp2
            go_ret2
            exact DoPost.mk' HA.out rfl (hk1.put a.toNat x hx) (hu1.setCell (p := ⟨g, a.toNat, none⟩) (.inl (.inr rfl)) _)
          · have HA := Lib.hid (show acc ⟨2, a, x, y⟩ xs t = ⟨0, 0, xs, t + 1⟩ by simp [acc, HW.out, hvy])
            have hvy' : (v != y) = true := by simp [hvy]
            go_enter Try.func15, Try.ntmps15
            go_wp2
            go_ret2
            exact DoPost.mk' HA.out rfl hk1 hu1
        · have h2' : (k == 2) = false := by simp [h2]
          have HA := Lib.hid (show acc ⟨k, a, x, y⟩ xs t = ⟨v, 0, xs.set a.toNat (addw v x), t + 1⟩ by simp [acc, HW.out, h0, h1, h2])
          go_enter Try.func15, Try.ntmps15
          go_wp2
          go_ret2
          exact DoPost.mk' HA.out rfl (hk1.put a.toNat (addw v x) (u64_addw v x)) (hu1.setCell (p := ⟨g, a.toNat, none⟩) (.inl (.inr rfl)) _)
end Go.Proofs.Ytckeoonbmpfmeaa
