/- What each call of package bank does to the shared memory: contracts over the one translation. -/
import Derived.Test.YtflgggfomhifeaaAtom
import Derived.Test.YtflgggfomhifeaaMem
import Derived.WalkKit
import Derived.WalkSpells
import Derived.WalkLawsBesides
import Derived.Laws.LoneSync
import Derived.Lib.Hide
namespace Go.Proofs.Ytflgggfomhifeaa
open Go.RowKit

set_option maxHeartbeats 400000 in
theorem look_in (b g h n : Nat) (a : Int) (w : World)
    (c0 : w.cell? ⟨b, 0, none⟩ = some (.slice (some ⟨g, 0, none⟩) n n))
    (ca : w.cell? ⟨h, 0, none⟩ = some (.int .i64 a)) (h0 : 0 ≤ a) (h1 : a < n) :
    Calls Try.prog 36 #[.pointer (some ⟨b, 0, none⟩), .slice (some ⟨h, 0, none⟩) 1 1] w fun e w' => e = .returned (.int .i64 0) ∧ w = w' := by
  go_enter Try.func36, Try.ntmps36
  go_wp2
  go_loop [11] (fun i => ∃ k : Nat, k ≤ 1 ∧ i = .int .i64 k) (fun i => 1 - (intOf i).toNat)
  case atStart => exact ⟨0, by omega, rfl⟩
  case round =>
    obtain ⟨k, hk, rfl⟩ := hrel
    by_cases hlt : k = 0
    · subst hlt
      go_wp2
      go_round
      case rel => exact ⟨1, by omega, rfl⟩
      case measure => simp [intOf]
    · obtain rfl : k = 1 := by omega
      go_wp2
      go_ret
      exact ⟨rfl, rfl⟩

set_option maxHeartbeats 400000 in
theorem look_out (b g h n : Nat) (a : Int) (w : World)
    (c0 : w.cell? ⟨b, 0, none⟩ = some (.slice (some ⟨g, 0, none⟩) n n))
    (ca : w.cell? ⟨h, 0, none⟩ = some (.int .i64 a)) (ho : a < 0 ∨ (n : Int) ≤ a) :
    Calls Try.prog 36 #[.pointer (some ⟨b, 0, none⟩), .slice (some ⟨h, 0, none⟩) 1 1] w fun e w' => e = .returned (.int .i64 10) ∧ w = w' := by
  go_enter Try.func36, Try.ntmps36
  go_wp2
  go_loop [11] (fun i => i = .int .i64 0) (fun i => 1 - (intOf i).toNat)
  case atStart => rfl
  case round =>
    subst hrel
    by_cases hlt : a < 0
    · go_wp2
      go_ret
      exact ⟨rfl, rfl⟩
    · have hge : (n : Int) ≤ a := by omega
      go_wp2
      go_ret
      exact ⟨rfl, rfl⟩

set_option maxHeartbeats 400000 in
theorem look_nil (h : Nat) (w : World) :
    Calls Try.prog 36 #[.pointer none, .slice (some ⟨h, 0, none⟩) 1 1] w fun e w' => e = .returned (.int .i64 2) ∧ w = w' := by
  go_enter Try.func36, Try.ntmps36
  go_wp2
  go_ret
  exact ⟨rfl, rfl⟩

/-- The blocks of a bank. -/
def Own (b g : Nat) (k : Nat) : Prop := k = b ∨ k = g
theorem lt_of_some {xs : List Int} {i : Nat} {v : Int} (h : xs[i]? = some v) : i < xs.length := (List.getElem?_eq_some_iff.1 h).1
theorem wrap_touch {t : Int} (h0 : 0 ≤ t) (h1 : t ≤ 1000000) : wrap64 (t + 1) = t + 1 := by unfold wrap64; omega

set_option maxHeartbeats 400000 in
theorem load_in (b g : Nat) (xs : List Int) (t v : Int) (i : Nat) (w : World) (hk : Bk w b g xs t) (hv : xs[i]? = some v) (ht : 0 ≤ t) (ht' : t ≤ 1000000) :
    Calls Try.prog 41 #[.pointer (some ⟨b, 0, none⟩), .int .i64 i] w fun e w' =>
      e = .returned (.tuple #[.int .u64 v, .int .i64 0]) ∧ Bk w' b g xs (t + 1) ∧ Upd (Own b g) w w' := by
  have hi := lt_of_some hv
  have Hv := Lib.hid hv
  clear hv
  have hi' : (i : Int) < xs.length := by omega
  have lb := hk.ltb
  have lg := hk.ltg
  go_enter Try.func41, Try.ntmps41
  go_wp2_with fail
  refine (look_in b g _ xs.length (i : Int) _ (hk.alloc _).c0 (by simp) (by omega) (by omega)).mono ?_
  rintro e w1 ⟨rfl, rfl⟩
  have hk1 := hk.alloc (.cells #[.int .i64 (i : Int)] 3)
  have hu1 := (Upd.refl (Own b g) w).alloc (.cells #[.int .i64 (i : Int)] 3)
  generalize w.alloc (.cells #[.int .i64 (i : Int)] 3) = w1 at hk1 hu1 ⊢
  have lb1 := hk1.ltb
  have lg1 := hk1.ltg
  go_wp2_with fail
  refine (i64_add b 1 t 1 _ hk1.c1 (hk1.fb 1)).mono ?_
  rintro e w2 ⟨rfl, rfl⟩
  have hk2 := hk1.touch (wrap64 (t + 1))
  have hu2 := hu1.setCell (p := ⟨b, 1, none⟩) (.inl (.inl rfl)) (.int .i64 (wrap64 (t + 1)))
  generalize w1.setCell ⟨b, 1, none⟩ (.int .i64 (wrap64 (t + 1))) = w2 at hk2 hu2 ⊢
  rw [wrap_touch ht ht'] at hk2
  have c2 := hk2.c0
  go_wp2_with fail
  refine (u64_load g i v _ (hk2.cg Hv.out)).mono ?_
  rintro e w3 ⟨rfl, rfl⟩
  go_wp2
  go_ret2
  exact ⟨rfl, hk2, hu2⟩

set_option maxHeartbeats 400000 in
theorem store_in (b g : Nat) (xs : List Int) (t x v : Int) (i : Nat) (w : World) (hk : Bk w b g xs t) (hv : xs[i]? = some v) (ht : 0 ≤ t) (ht' : t ≤ 1000000) (hx : U64 x) :
    Calls Try.prog 15 #[.pointer (some ⟨b, 0, none⟩), .int .i64 i, .int .u64 x] w fun e w' =>
      e = .returned (.int .i64 0) ∧ Bk w' b g (xs.set i x) (t + 1) ∧ Upd (Own b g) w w' := by
  have hi := lt_of_some hv
  have Hv := Lib.hid hv
  clear hv
  have hi' : (i : Int) < xs.length := by omega
  have lb := hk.ltb
  have lg := hk.ltg
  go_enter Try.func15, Try.ntmps15
  go_wp2_with fail
  refine (look_in b g _ xs.length (i : Int) _ (hk.alloc _).c0 (by simp) (by omega) (by omega)).mono ?_
  rintro e w1 ⟨rfl, rfl⟩
  have hk1 := hk.alloc (.cells #[.int .i64 (i : Int)] 3)
  have hu1 := (Upd.refl (Own b g) w).alloc (.cells #[.int .i64 (i : Int)] 3)
  generalize w.alloc (.cells #[.int .i64 (i : Int)] 3) = w1 at hk1 hu1 ⊢
  have lb1 := hk1.ltb
  have lg1 := hk1.ltg
  go_wp2_with fail
  refine (i64_add b 1 t 1 _ hk1.c1 (hk1.fb 1)).mono ?_
  rintro e w2 ⟨rfl, rfl⟩
  have hk2 := hk1.touch (wrap64 (t + 1))
  have hu2 := hu1.setCell (p := ⟨b, 1, none⟩) (.inl (.inl rfl)) (.int .i64 (wrap64 (t + 1)))
  generalize w1.setCell ⟨b, 1, none⟩ (.int .i64 (wrap64 (t + 1))) = w2 at hk2 hu2 ⊢
  rw [wrap_touch ht ht'] at hk2
  have c2 := hk2.c0
  go_wp2_with fail
  refine (u64_store g i x _ _ (hk2.cg Hv.out) (hk2.fg i)).mono ?_
  rintro e w3 ⟨rfl, rfl⟩
  have hk3 := hk2.put i x hx
  have hu3 := hu2.setCell (p := ⟨g, i, none⟩) (.inl (.inr rfl)) (.int .u64 x)
  generalize w2.setCell ⟨g, i, none⟩ (.int .u64 x) = w3 at hk3 hu3 ⊢
  go_wp2
  go_ret
  exact ⟨rfl, hk3, hu3⟩

set_option maxHeartbeats 400000 in
theorem cas_hit (b g : Nat) (xs : List Int) (t x v : Int) (i : Nat) (w : World) (hk : Bk w b g xs t) (hv : xs[i]? = some v) (ht : 0 ≤ t) (ht' : t ≤ 1000000) (hx : U64 x) :
    Calls Try.prog 49 #[.pointer (some ⟨b, 0, none⟩), .int .i64 i, .int .u64 v, .int .u64 x] w fun e w' =>
      e = .returned (.tuple #[.bool true, .int .i64 0]) ∧ Bk w' b g (xs.set i x) (t + 1) ∧ Upd (Own b g) w w' := by
  have hi := lt_of_some hv
  have Hv := Lib.hid hv
  clear hv
  have hi' : (i : Int) < xs.length := by omega
  have lb := hk.ltb
  have lg := hk.ltg
  go_enter Try.func49, Try.ntmps49
  go_wp2_with fail
  refine (look_in b g _ xs.length (i : Int) _ (hk.alloc _).c0 (by simp) (by omega) (by omega)).mono ?_
  rintro e w1 ⟨rfl, rfl⟩
  have hk1 := hk.alloc (.cells #[.int .i64 (i : Int)] 3)
  have hu1 := (Upd.refl (Own b g) w).alloc (.cells #[.int .i64 (i : Int)] 3)
  generalize w.alloc (.cells #[.int .i64 (i : Int)] 3) = w1 at hk1 hu1 ⊢
  have lb1 := hk1.ltb
  have lg1 := hk1.ltg
  go_wp2_with fail
  refine (i64_add b 1 t 1 _ hk1.c1 (hk1.fb 1)).mono ?_
  rintro e w2 ⟨rfl, rfl⟩
  have hk2 := hk1.touch (wrap64 (t + 1))
  have hu2 := hu1.setCell (p := ⟨b, 1, none⟩) (.inl (.inl rfl)) (.int .i64 (wrap64 (t + 1)))
  generalize w1.setCell ⟨b, 1, none⟩ (.int .i64 (wrap64 (t + 1))) = w2 at hk2 hu2 ⊢
  rw [wrap_touch ht ht'] at hk2
  have c2 := hk2.c0
  go_wp2_with fail
  refine (u64_cas_hit g i v x _ (hk2.cg Hv.out) (hk2.fg i)).mono ?_
  rintro e w3 ⟨rfl, rfl⟩
  have hk3 := hk2.put i x hx
  have hu3 := hu2.setCell (p := ⟨g, i, none⟩) (.inl (.inr rfl)) (.int .u64 x)
  generalize w2.setCell ⟨g, i, none⟩ (.int .u64 x) = w3 at hk3 hu3 ⊢
  go_wp2
  go_ret2
  exact ⟨rfl, hk3, hu3⟩

set_option maxHeartbeats 400000 in
theorem cas_miss (b g : Nat) (xs : List Int) (t o x v : Int) (i : Nat) (w : World) (hk : Bk w b g xs t) (hv : xs[i]? = some v) (ht : 0 ≤ t) (ht' : t ≤ 1000000) (hne : ¬ v = o) :
    Calls Try.prog 49 #[.pointer (some ⟨b, 0, none⟩), .int .i64 i, .int .u64 o, .int .u64 x] w fun e w' =>
      e = .returned (.tuple #[.bool false, .int .i64 0]) ∧ Bk w' b g xs (t + 1) ∧ Upd (Own b g) w w' := by
  have hi := lt_of_some hv
  have Hv := Lib.hid hv
  clear hv
  have hi' : (i : Int) < xs.length := by omega
  have lb := hk.ltb
  have lg := hk.ltg
  go_enter Try.func49, Try.ntmps49
  go_wp2_with fail
  refine (look_in b g _ xs.length (i : Int) _ (hk.alloc _).c0 (by simp) (by omega) (by omega)).mono ?_
  rintro e w1 ⟨rfl, rfl⟩
  have hk1 := hk.alloc (.cells #[.int .i64 (i : Int)] 3)
  have hu1 := (Upd.refl (Own b g) w).alloc (.cells #[.int .i64 (i : Int)] 3)
  generalize w.alloc (.cells #[.int .i64 (i : Int)] 3) = w1 at hk1 hu1 ⊢
  have lb1 := hk1.ltb
  have lg1 := hk1.ltg
  go_wp2_with fail
  refine (i64_add b 1 t 1 _ hk1.c1 (hk1.fb 1)).mono ?_
  rintro e w2 ⟨rfl, rfl⟩
  have hk2 := hk1.touch (wrap64 (t + 1))
  have hu2 := hu1.setCell (p := ⟨b, 1, none⟩) (.inl (.inl rfl)) (.int .i64 (wrap64 (t + 1)))
  generalize w1.setCell ⟨b, 1, none⟩ (.int .i64 (wrap64 (t + 1))) = w2 at hk2 hu2 ⊢
  rw [wrap_touch ht ht'] at hk2
  have c2 := hk2.c0
  go_wp2_with fail
  refine (u64_cas_miss g i v o x _ (hk2.cg Hv.out) (hk2.fg i) hne).mono ?_
  rintro e w3 ⟨rfl, rfl⟩
  go_wp2
  go_ret2
  exact ⟨rfl, hk2, hu2⟩

set_option maxHeartbeats 400000 in
theorem peek_in (b g : Nat) (xs : List Int) (t v : Int) (i : Nat) (w : World) (hk : Bk w b g xs t) (hv : xs[i]? = some v) :
    Calls Try.prog 22 #[.pointer (some ⟨b, 0, none⟩), .int .i64 i] w fun e w' =>
      e = .returned (.int .u64 v) ∧ Bk w' b g xs t ∧ Below w.heap.size w w' := by
  have hi := lt_of_some hv
  have Hv := Lib.hid hv
  clear hv
  have hi' : (i : Int) < xs.length := by omega
  have lb := hk.ltb
  have lg := hk.ltg
  go_enter Try.func22, Try.ntmps22
  go_wp2_with fail
  refine (look_in b g _ xs.length (i : Int) _ (hk.alloc _).c0 (by simp) (by omega) (by omega)).mono ?_
  rintro e w1 ⟨rfl, rfl⟩
  have hk1 := hk.alloc (.cells #[.int .i64 (i : Int)] 3)
  have hu1 := (Below.refl w.heap.size w).alloc (Nat.le_refl _) (.cells #[.int .i64 (i : Int)] 3)
  generalize w.alloc (.cells #[.int .i64 (i : Int)] 3) = w1 at hk1 hu1 ⊢
  have lb1 := hk1.ltb
  have lg1 := hk1.ltg
  have c1 := hk1.c0
  go_wp2_with fail
  refine (u64_load g i v _ (hk1.cg Hv.out)).mono ?_
  rintro e w3 ⟨rfl, rfl⟩
  go_wp2
  go_ret
  exact ⟨rfl, hk1, hu1⟩

set_option maxHeartbeats 400000 in
theorem load_out (b g : Nat) (xs : List Int) (t a : Int) (w : World) (hk : Bk w b g xs t) (ho : a < 0 ∨ (xs.length : Int) ≤ a) :
    Calls Try.prog 41 #[.pointer (some ⟨b, 0, none⟩), .int .i64 a] w fun e w' =>
      e = .returned (.tuple #[.int .u64 0, .int .i64 10]) ∧ Bk w' b g xs t ∧ Below w.heap.size w w' := by
  have lb := hk.ltb
  have lg := hk.ltg
  go_enter Try.func41, Try.ntmps41
  go_wp2_with fail
  refine (look_out b g _ xs.length a _ (hk.alloc _).c0 (by simp) ho).mono ?_
  rintro e w1 ⟨rfl, rfl⟩
  have hk1 := hk.alloc (.cells #[.int .i64 a] 3)
  have hu1 := (Below.refl w.heap.size w).alloc (Nat.le_refl _) (.cells #[.int .i64 a] 3)
  generalize w.alloc (.cells #[.int .i64 a] 3) = w1 at hk1 hu1 ⊢
  go_wp2
  go_ret2
  exact ⟨rfl, hk1, hu1⟩

set_option maxHeartbeats 400000 in
theorem load_nil (a : Int) (w : World) :
    Calls Try.prog 41 #[.pointer none, .int .i64 a] w fun e w' =>
      e = .returned (.tuple #[.int .u64 0, .int .i64 2]) ∧ Below w.heap.size w w' := by
  go_enter Try.func41, Try.ntmps41
  go_wp2_with fail
  refine (look_nil _ _).mono ?_
  rintro e w1 ⟨rfl, rfl⟩
  have hu1 := (Below.refl w.heap.size w).alloc (Nat.le_refl _) (.cells #[.int .i64 a] 3)
  generalize w.alloc (.cells #[.int .i64 a] 3) = w1 at hu1 ⊢
  go_wp2
  go_ret2
  exact ⟨rfl, hu1⟩

set_option maxHeartbeats 400000 in
theorem store_out (b g : Nat) (xs : List Int) (t a x : Int) (w : World) (hk : Bk w b g xs t) (ho : a < 0 ∨ (xs.length : Int) ≤ a) :
    Calls Try.prog 15 #[.pointer (some ⟨b, 0, none⟩), .int .i64 a, .int .u64 x] w fun e w' =>
      e = .returned (.int .i64 10) ∧ Bk w' b g xs t ∧ Below w.heap.size w w' := by
  have lb := hk.ltb
  have lg := hk.ltg
  go_enter Try.func15, Try.ntmps15
  go_wp2_with fail
  refine (look_out b g _ xs.length a _ (hk.alloc _).c0 (by simp) ho).mono ?_
  rintro e w1 ⟨rfl, rfl⟩
  have hk1 := hk.alloc (.cells #[.int .i64 a] 3)
  have hu1 := (Below.refl w.heap.size w).alloc (Nat.le_refl _) (.cells #[.int .i64 a] 3)
  generalize w.alloc (.cells #[.int .i64 a] 3) = w1 at hk1 hu1 ⊢
  go_wp2
  go_ret
  exact ⟨rfl, hk1, hu1⟩

set_option maxHeartbeats 400000 in
theorem store_nil (a x : Int) (w : World) :
    Calls Try.prog 15 #[.pointer none, .int .i64 a, .int .u64 x] w fun e w' =>
      e = .returned (.int .i64 2) ∧ Below w.heap.size w w' := by
  go_enter Try.func15, Try.ntmps15
  go_wp2_with fail
  refine (look_nil _ _).mono ?_
  rintro e w1 ⟨rfl, rfl⟩
  have hu1 := (Below.refl w.heap.size w).alloc (Nat.le_refl _) (.cells #[.int .i64 a] 3)
  generalize w.alloc (.cells #[.int .i64 a] 3) = w1 at hu1 ⊢
  go_wp2
  go_ret
  exact ⟨rfl, hu1⟩

set_option maxHeartbeats 400000 in
theorem cas_out (b g : Nat) (xs : List Int) (t a o x : Int) (w : World) (hk : Bk w b g xs t) (ho : a < 0 ∨ (xs.length : Int) ≤ a) :
    Calls Try.prog 49 #[.pointer (some ⟨b, 0, none⟩), .int .i64 a, .int .u64 o, .int .u64 x] w fun e w' =>
      e = .returned (.tuple #[.bool false, .int .i64 10]) ∧ Bk w' b g xs t ∧ Below w.heap.size w w' := by
  have lb := hk.ltb
  have lg := hk.ltg
  go_enter Try.func49, Try.ntmps49
  go_wp2_with fail
  refine (look_out b g _ xs.length a _ (hk.alloc _).c0 (by simp) ho).mono ?_
  rintro e w1 ⟨rfl, rfl⟩
  have hk1 := hk.alloc (.cells #[.int .i64 a] 3)
  have hu1 := (Below.refl w.heap.size w).alloc (Nat.le_refl _) (.cells #[.int .i64 a] 3)
  generalize w.alloc (.cells #[.int .i64 a] 3) = w1 at hk1 hu1 ⊢
  go_wp2
  go_ret2
  exact ⟨rfl, hk1, hu1⟩

set_option maxHeartbeats 400000 in
theorem cas_nil (a o x : Int) (w : World) :
    Calls Try.prog 49 #[.pointer none, .int .i64 a, .int .u64 o, .int .u64 x] w fun e w' =>
      e = .returned (.tuple #[.bool false, .int .i64 2]) ∧ Below w.heap.size w w' := by
  go_enter Try.func49, Try.ntmps49
  go_wp2_with fail
  refine (look_nil _ _).mono ?_
  rintro e w1 ⟨rfl, rfl⟩
  have hu1 := (Below.refl w.heap.size w).alloc (Nat.le_refl _) (.cells #[.int .i64 a] 3)
  generalize w.alloc (.cells #[.int .i64 a] 3) = w1 at hu1 ⊢
  go_wp2
  go_ret2
  exact ⟨rfl, hu1⟩

set_option maxHeartbeats 400000 in
theorem peek_out (b g : Nat) (xs : List Int) (t a : Int) (w : World) (hk : Bk w b g xs t) (ho : a < 0 ∨ (xs.length : Int) ≤ a) :
    Calls Try.prog 22 #[.pointer (some ⟨b, 0, none⟩), .int .i64 a] w fun e w' =>
      e = .returned (.int .u64 0) ∧ Bk w' b g xs t ∧ Below w.heap.size w w' := by
  have lb := hk.ltb
  have lg := hk.ltg
  go_enter Try.func22, Try.ntmps22
  go_wp2_with fail
  refine (look_out b g _ xs.length a _ (hk.alloc _).c0 (by simp) ho).mono ?_
  rintro e w1 ⟨rfl, rfl⟩
  have hk1 := hk.alloc (.cells #[.int .i64 a] 3)
  have hu1 := (Below.refl w.heap.size w).alloc (Nat.le_refl _) (.cells #[.int .i64 a] 3)
  generalize w.alloc (.cells #[.int .i64 a] 3) = w1 at hk1 hu1 ⊢
  go_wp2
  go_ret
  exact ⟨rfl, hk1, hu1⟩

set_option maxHeartbeats 400000 in
theorem peek_nil (a : Int) (w : World) :
    Calls Try.prog 22 #[.pointer none, .int .i64 a] w fun e w' =>
      e = .returned (.int .u64 0) ∧ Below w.heap.size w w' := by
  go_enter Try.func22, Try.ntmps22
  go_wp2_with fail
  refine (look_nil _ _).mono ?_
  rintro e w1 ⟨rfl, rfl⟩
  have hu1 := (Below.refl w.heap.size w).alloc (Nat.le_refl _) (.cells #[.int .i64 a] 3)
  generalize w.alloc (.cells #[.int .i64 a] 3) = w1 at hu1 ⊢
  go_wp2
  go_ret
  exact ⟨rfl, hu1⟩

set_option maxHeartbeats 400000 in
theorem len_any (b g : Nat) (xs : List Int) (t : Int) (w : World) (hk : Bk w b g xs t) :
    Calls Try.prog 30 #[.pointer (some ⟨b, 0, none⟩)] w fun e w' => e = .returned (.int .i64 xs.length) ∧ w = w' := by
  have c0 := hk.c0
  go_enter Try.func30, Try.ntmps30
  go_wp2
  go_ret
  exact ⟨rfl, rfl⟩

set_option maxHeartbeats 400000 in
theorem len_nil (w : World) : Calls Try.prog 30 #[.pointer none] w fun e w' => e = .returned (.int .i64 0) ∧ w = w' := by
  go_enter Try.func30, Try.ntmps30
  go_wp2
  go_ret
  exact ⟨rfl, rfl⟩

set_option maxHeartbeats 400000 in
theorem touches_any (b g : Nat) (xs : List Int) (t : Int) (w : World) (hk : Bk w b g xs t) :
    Calls Try.prog 31 #[.pointer (some ⟨b, 0, none⟩)] w fun e w' => e = .returned (.int .i64 t) ∧ w = w' := by
  go_enter Try.func31, Try.ntmps31
  go_wp2_with fail
  refine (i64_load b 1 t _ hk.c1).mono ?_
  rintro e w1 ⟨rfl, rfl⟩
  go_wp2
  go_ret
  exact ⟨rfl, rfl⟩

set_option maxHeartbeats 400000 in
theorem touches_nil (w : World) : Calls Try.prog 31 #[.pointer none] w fun e w' => e = .returned (.int .i64 0) ∧ w = w' := by
  go_enter Try.func31, Try.ntmps31
  go_wp2
  go_ret
  exact ⟨rfl, rfl⟩

set_option maxHeartbeats 400000 in
theorem new_bad (n : Int) (w : World) (h : n < 1 ∨ 1048576 < n) :
    Calls Try.prog 9 #[.int .i64 n] w fun e w' => e = .returned (.tuple #[.pointer none, .int .i64 10]) ∧ w = w' := by
  by_cases h1 : n < 1
  · go_enter Try.func9, Try.ntmps9
    go_wp2
    go_ret2
    exact ⟨rfl, rfl⟩
  · have h2 : 1048576 < n := by omega
    go_enter Try.func9, Try.ntmps9
    go_wp2
    go_ret2
    exact ⟨rfl, rfl⟩
theorem load_at (b g : Nat) (xs : List Int) (t v : Int) (a : Int) (w : World) (ha : 0 ≤ a) (hk : Bk w b g xs t) (hv : xs[a.toNat]? = some v) (ht : 0 ≤ t) (ht' : t ≤ 1000000) :
    Calls Try.prog 41 #[.pointer (some ⟨b, 0, none⟩), .int .i64 a] w fun e w' =>
      e = .returned (.tuple #[.int .u64 v, .int .i64 0]) ∧ Bk w' b g xs (t + 1) ∧ Upd (Own b g) w w' := by
  obtain ⟨i, rfl⟩ := Int.eq_ofNat_of_zero_le ha
  rw [Int.toNat_natCast] at hv
  exact load_in b g xs t v i w hk hv ht ht'

theorem store_at (b g : Nat) (xs : List Int) (t x v : Int) (a : Int) (w : World) (ha : 0 ≤ a) (hk : Bk w b g xs t) (hv : xs[a.toNat]? = some v) (ht : 0 ≤ t) (ht' : t ≤ 1000000) (hx : U64 x) :
    Calls Try.prog 15 #[.pointer (some ⟨b, 0, none⟩), .int .i64 a, .int .u64 x] w fun e w' =>
      e = .returned (.int .i64 0) ∧ Bk w' b g (xs.set a.toNat x) (t + 1) ∧ Upd (Own b g) w w' := by
  obtain ⟨i, rfl⟩ := Int.eq_ofNat_of_zero_le ha
  rw [Int.toNat_natCast] at hv
  exact store_in b g xs t x v i w hk hv ht ht' hx

theorem cas_hit_at (b g : Nat) (xs : List Int) (t x v : Int) (a : Int) (w : World) (ha : 0 ≤ a) (hk : Bk w b g xs t) (hv : xs[a.toNat]? = some v) (ht : 0 ≤ t) (ht' : t ≤ 1000000) (hx : U64 x) :
    Calls Try.prog 49 #[.pointer (some ⟨b, 0, none⟩), .int .i64 a, .int .u64 v, .int .u64 x] w fun e w' =>
      e = .returned (.tuple #[.bool true, .int .i64 0]) ∧ Bk w' b g (xs.set a.toNat x) (t + 1) ∧ Upd (Own b g) w w' := by
  obtain ⟨i, rfl⟩ := Int.eq_ofNat_of_zero_le ha
  rw [Int.toNat_natCast] at hv
  exact cas_hit b g xs t x v i w hk hv ht ht' hx

theorem cas_miss_at (b g : Nat) (xs : List Int) (t o x v : Int) (a : Int) (w : World) (ha : 0 ≤ a) (hk : Bk w b g xs t) (hv : xs[a.toNat]? = some v) (ht : 0 ≤ t) (ht' : t ≤ 1000000) (hne : ¬ v = o) :
    Calls Try.prog 49 #[.pointer (some ⟨b, 0, none⟩), .int .i64 a, .int .u64 o, .int .u64 x] w fun e w' =>
      e = .returned (.tuple #[.bool false, .int .i64 0]) ∧ Bk w' b g xs (t + 1) ∧ Upd (Own b g) w w' := by
  obtain ⟨i, rfl⟩ := Int.eq_ofNat_of_zero_le ha
  rw [Int.toNat_natCast] at hv
  exact cas_miss b g xs t o x v i w hk hv ht ht' hne

theorem peek_at (b g : Nat) (xs : List Int) (t v : Int) (a : Int) (w : World) (ha : 0 ≤ a) (hk : Bk w b g xs t) (hv : xs[a.toNat]? = some v) :
    Calls Try.prog 22 #[.pointer (some ⟨b, 0, none⟩), .int .i64 a] w fun e w' =>
      e = .returned (.int .u64 v) ∧ Bk w' b g xs t ∧ Below w.heap.size w w' := by
  obtain ⟨i, rfl⟩ := Int.eq_ofNat_of_zero_le ha
  rw [Int.toNat_natCast] at hv
  exact peek_in b g xs t v i w hk hv
end Go.Proofs.Ytflgggfomhifeaa
