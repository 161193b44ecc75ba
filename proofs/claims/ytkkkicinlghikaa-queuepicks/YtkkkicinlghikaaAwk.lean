/- The chapter's examples. -/
import Derived.Test.YtkkkicinlghikaaPck
import Derived.Test.YtkkkicinlghikaaTak
namespace Go.Proofs.Ytkkkicinlghikaa
open Go.RowKit

/-- A cursor in a block, and what was there is as it was. -/
def Cb (w0 : World) (b : Nat) (n c g l : Int) (W : World) : Prop := Blk W b (cuL n c g l) ∧ Below w0.heap.size w0 W
theorem Cb.next {w0 W W' : World} {b : Nat} {n c g l : Int} (h : Cb w0 b n c g l W) (u : Below W.heap.size W W') : Cb w0 b n c g l W' := ⟨h.1.low u, h.2.trans (u.mono h.2.size)⟩
theorem Cb.drew {w0 W : World} {b : Nat} {n c g l : Int} (h : Cb w0 b n c g l W) : Cb w0 b n c g l W.drew := ⟨h.1.drew, h.2.drew⟩
theorem Cb.alloc {w0 W : World} {b : Nat} {n c g l : Int} (h : Cb w0 b n c g l W) (o : Obj) : Cb w0 b n c g l (W.alloc o) := ⟨h.1.alloc o, h.2.alloc h.2.size o⟩
theorem Cb.new {w0 W : World} (h : Below w0.heap.size w0 W) (n c g l : Int) : Cb w0 W.heap.size n c g l (W.alloc (cuO n c g l)) := ⟨(cuN W n c g l).1, h.alloc h.size _⟩
theorem Cb.cells {w0 W : World} {b : Nat} {n c g l : Int} (h : Cb w0 b n c g l W) :
    W.cell? ⟨b, 0, none⟩ = some (.int .u64 n) ∧ W.cell? ⟨b, 1, none⟩ = some (.int .i64 c) ∧ W.cell? ⟨b, 2, none⟩ = some (.int .u64 g) ∧ W.cell? ⟨b, 3, none⟩ = some (.int .u64 l) :=
  ⟨h.1.cell (i := 0) rfl, h.1.cell (i := 1) rfl, h.1.cell (i := 2) rfl, h.1.cell (i := 3) rfl⟩
theorem fm_get {α : Type} (f : α → List Value) (m : Nat) (hf : ∀ a, (f a).length = m) : ∀ (l : List α) (j i : Nat) (a : α), l[j]? = some a → i < m → (l.flatMap f)[j * m + i]? = (f a)[i]? := by
  intro l
  induction l with
  | nil => intro j i a h; simp at h
  | cons x xs ih =>
    intro j i a h hi
    rw [List.flatMap_cons]
    cases j with
    | zero =>
      simp only [List.getElem?_cons_zero, Option.some.injEq] at h
      subst h
      rw [Nat.zero_mul, Nat.zero_add, List.getElem?_append_left (by rw [hf]; exact hi)]
    | succ j =>
      rw [List.getElem?_cons_succ] at h
      rw [List.getElem?_append_right (by rw [hf, Nat.succ_mul]; omega), hf, show (j + 1) * m + i - m = j * m + i by rw [Nat.succ_mul]; omega]
      exact ih j i a h hi
theorem Sbs.of_blk {W : World} {b : Nat} {l : List Sb} (h : Blk W b (l.flatMap sbL)) : Sbs W.heap.size W (some ⟨b, 0, none⟩) l := fun j s hj => by
  have k := fun i (hi : i < 6) => fm_get sbL 6 (fun _ => rfl) l j i s hj hi
  refine ⟨b, 0, rfl, h.lt, ?_, ?_, ?_, ?_, ?_, ?_⟩
  · rw [Nat.zero_add]; exact h.cell ((k 0 (by omega)).trans rfl)
  · rw [Nat.zero_add]; exact h.cell ((k 1 (by omega)).trans rfl)
  · rw [Nat.zero_add]; exact h.cell ((k 2 (by omega)).trans rfl)
  · rw [Nat.zero_add]; exact h.cell ((k 3 (by omega)).trans rfl)
  · rw [Nat.zero_add]; exact h.cell ((k 4 (by omega)).trans rfl)
  · rw [Nat.zero_add]; exact h.cell ((k 5 (by omega)).trans rfl)
theorem Gns.of_blk {W : World} {b : Nat} {l : List Int} (h : Blk W b (l.map (Value.int .u64))) : Gns W.heap.size W (some ⟨b, 0, none⟩) l := fun j x hj => by
  refine ⟨b, 0, rfl, h.lt, ?_⟩
  rw [Nat.zero_add]
  exact h.cell (by rw [List.getElem?_map, hj]; rfl)
/-- The example's subscriptions, and newest generations. -/
def exL : List Sb := [⟨0, 1, 5, 2, 0, 0⟩, ⟨0, 3, 5, 2, 0, 0⟩, ⟨0, 3, 5, 2, 0, 0⟩]
def exG : List Int := [5, 4, 5]
theorem ex_pk : pkV exL exG = .tuple #[.int .i64 2, .int .i64 0] := by
  have h1 : flt exL exG = 0 := by decide
  have h2 : pk exL exG = 2 := by decide
  unfold pkV
  rw [if_pos h1, h2]
theorem pick_ex (W : World) : Calls Try.prog 22 #[.slice (some ⟨W.heap.size, 0, none⟩) 3 3, .slice (some ⟨W.heap.size + 1, 0, none⟩) 3 3]
    ((W.alloc (.cells #[.int .i64 0, .int .i64 1, .int .u64 5, .int .i64 2, .int .u64 0, .int .u64 0, .int .i64 0, .int .i64 3, .int .u64 5, .int .i64 2, .int .u64 0, .int .u64 0, .int .i64 0, .int .i64 3, .int .u64 5, .int .i64 2, .int .u64 0, .int .u64 0] 56)).alloc (.cells #[.int .u64 5, .int .u64 4, .int .u64 5] 22))
    (fun e w' => e = .returned (.tuple #[.int .i64 2, .int .i64 0]) ∧ Below W.heap.size W w') := by
  have hb := ((Below.refl W.heap.size W).alloc (Nat.le_refl _) (.cells #[.int .i64 0, .int .i64 1, .int .u64 5, .int .i64 2, .int .u64 0, .int .u64 0, .int .i64 0, .int .i64 3, .int .u64 5, .int .i64 2, .int .u64 0, .int .u64 0, .int .i64 0, .int .i64 3, .int .u64 5, .int .i64 2, .int .u64 0, .int .u64 0] 56)).alloc (by simp) (.cells #[.int .u64 5, .int .u64 4, .int .u64 5] 22)
  have h1 : Blk ((W.alloc (.cells #[.int .i64 0, .int .i64 1, .int .u64 5, .int .i64 2, .int .u64 0, .int .u64 0, .int .i64 0, .int .i64 3, .int .u64 5, .int .i64 2, .int .u64 0, .int .u64 0, .int .i64 0, .int .i64 3, .int .u64 5, .int .i64 2, .int .u64 0, .int .u64 0] 56)).alloc (.cells #[.int .u64 5, .int .u64 4, .int .u64 5] 22)) W.heap.size (exL.flatMap sbL) := (Blk.new W _ 56).alloc _
  have h2 : Blk ((W.alloc (.cells #[.int .i64 0, .int .i64 1, .int .u64 5, .int .i64 2, .int .u64 0, .int .u64 0, .int .i64 0, .int .i64 3, .int .u64 5, .int .i64 2, .int .u64 0, .int .u64 0, .int .i64 0, .int .i64 3, .int .u64 5, .int .i64 2, .int .u64 0, .int .u64 0] 56)).alloc (.cells #[.int .u64 5, .int .u64 4, .int .u64 5] 22)) (W.heap.size + 1) (exG.map (Value.int .u64)) := by
    simpa [exG] using Blk.new (W.alloc (.cells #[.int .i64 0, .int .i64 1, .int .u64 5, .int .i64 2, .int .u64 0, .int .u64 0, .int .i64 0, .int .i64 3, .int .u64 5, .int .i64 2, .int .u64 0, .int .u64 0, .int .i64 0, .int .i64 3, .int .u64 5, .int .i64 2, .int .u64 0, .int .u64 0] 56)) #[.int .u64 5, .int .u64 4, .int .u64 5] 22
  have hp := pick_any _ _ 3 3 exL exG _ (Sbs.of_blk h1) (Gns.of_blk h2) (by decide) (by decide) (by decide) (by decide)
  rw [ex_pk] at hp
  exact hp.mono fun e w' ⟨h, u⟩ => ⟨h, hb.trans (u.mono hb.size)⟩
attribute [local go_sem] eql27 neq27
set_option maxRecDepth 100000 in
set_option maxHeartbeats 1000000 in
theorem awake_any (w0 : World) : Calls Try.prog 10 #[] w0 (Ret (.bool true) w0) := by
  have n0 := Lib.hid (fun w => new_ok 4 2 ⟨by decide, by decide⟩ ⟨by decide, by decide⟩ w)
  have hR : Rgt 5 2 := ⟨by decide, by decide, by decide, by decide⟩
  have h5 : Gen 5 := ⟨by decide, by decide⟩
  have h8 : Gen 8 := ⟨by decide, by decide⟩
  have hW : W64 0 := ⟨by decide, by decide⟩
  have k5 := Lib.hid (fun w => (show Calls Try.prog 16 #[cu 5 2 0 0, .int .u64 5] w (Ret (.int .i64 1) w) from count_ok 5 2 0 0 5 hR h5 w))
  have k8 := Lib.hid (fun w => (show Calls Try.prog 16 #[cu 5 2 0 0, .int .u64 8] w (Ret (.int .i64 2) w) from count_ok 5 2 0 0 8 hR h8 w))
  have s8 := Lib.hid (fun w => (show Calls Try.prog 15 #[cu 5 2 0 0, .int .u64 8] w (Ret (.tuple #[cu 7 2 0 2, .int .i64 0]) w) from see_ok 5 2 0 0 8 hR hW h8 w))
  have t8 := Lib.hid (fun w => (show Calls Try.prog 13 #[cu 5 2 0 0, .int .u64 8] w (Ret (.tuple #[.int .u64 7, cu 8 2 1 2, .int .i64 0]) w) from take_ok 5 2 0 0 8 hR hW h8 (by decide) w))
  have q1 : same4 5 2 0 0 5 2 0 0 = true := by decide
  have q2 : same4 7 2 0 2 7 2 0 2 = true := by decide
  have q3 : same4 8 2 1 2 8 2 1 2 = true := by decide
  clear hR h5 h8 hW
  go_enter Try.func10, Try.ntmps10
  go_wp2_with fail
  refine (n0.out _).mono ?_
  rintro e w1 ⟨rfl, hb⟩
  have H1 := Lib.hid hb
  have H1 := Lib.hid (Cb.new H1.out 5 2 0 0)
  obtain ⟨c0, c1, c2, c3⟩ := H1.out.cells
  clear hb
  go_wp2_with fail
  refine (k5.out _).mono ?_
  rintro e w2 ⟨rfl, hb⟩
  have H2 := Lib.hid (H1.out.next hb)
  clear hb H1 c0 c1 c2 c3
  obtain ⟨c0, c1, c2, c3⟩ := H2.out.cells
  go_wp2_with fail
  refine (k8.out _).mono ?_
  rintro e w3 ⟨rfl, hb⟩
  have H3 := Lib.hid (H2.out.next hb)
  clear hb H2 c0 c1 c2 c3
  obtain ⟨c0, c1, c2, c3⟩ := H3.out.cells
  go_wp2_with fail
  refine (s8.out _).mono ?_
  rintro e w4 ⟨rfl, hb⟩
  have H4 := Lib.hid (H3.out.next hb)
  have D4 := Lib.hid (Cb.new H4.out.2 7 2 0 2)
  have H5 := Lib.hid (H4.out.alloc (cuO 7 2 0 2))
  clear hb H3 c0 c1 c2 c3 H4
  obtain ⟨c0, c1, c2, c3⟩ := H5.out.cells
  go_wp2_with fail
  refine (t8.out _).mono ?_
  rintro e w5 ⟨rfl, hb⟩
  have H6 := Lib.hid ((H5.out.next hb).alloc (cuO 8 2 1 2))
  have D6 := Lib.hid ((D4.out.next hb).alloc (cuO 8 2 1 2))
  have E6 := Lib.hid (Cb.new (H5.out.next hb).2 8 2 1 2)
  clear hb H5 D4 c0 c1 c2 c3
  obtain ⟨W6, hW6⟩ : ∃ W6, w5.alloc (cuO 8 2 1 2) = W6 := ⟨_, rfl⟩
  rw [hW6] at H6 D6 E6
  obtain ⟨c0, c1, c2, c3⟩ := H6.out.cells
  obtain ⟨d0, d1, d2, d3⟩ := D6.out.cells
  obtain ⟨e0, e1, e2, e3⟩ := E6.out.cells
  go_wp2_with fail
  refine (pick_ex W6).mono ?_
  rintro e w7 ⟨rfl, hb⟩
  go_wp2
  go_ret
  exact ⟨rfl, H6.out.2.trans (hb.mono H6.out.2.size)⟩
end Go.Proofs.Ytkkkicinlghikaa
