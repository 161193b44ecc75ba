/- A cursor beside a queue: the memory of QueueActs. -/
import Derived.Test.YtkkkicinlghikaaSuW
import Derived.Test.YtkkkicinlghikaaQuM
namespace Go.Proofs.Ytkkkicinlghikaa
open Go.RowKit

/-- So many generations from one on. -/
def seg (a : Int) (k : Nat) : List Int := (List.range k).map (fun i : Nat => a + i)
theorem seg_len (a : Int) (k : Nat) : (seg a k).length = k := by simp [seg]
theorem seg_end (a : Int) (k : Nat) : seg a (k + 1) = seg a k ++ [a + k] := by simp [seg, List.range_succ]
theorem seg_cons (a : Int) (k : Nat) : seg a (k + 1) = a :: seg (a + 1) k := by
  simp only [seg, List.range_succ_eq_map, List.map_cons, List.map_map]
  refine congr (congrArg List.cons (by simp)) (List.map_congr_left fun i _ => ?_)
  simp only [Function.comp_apply]
  push_cast
  omega
theorem seg_tail (a : Int) (k : Nat) : (seg a (k + 1)).tail = seg (a + 1) k := by rw [seg_cons]; rfl
theorem pop_any (qb : Nat) (r : Int) (v : Value) (k : Nat) (y : Int) (xs : List Int) (g l : Int) (w : World) (hQ : Qu w qb r v (k + 1) (y :: xs) g l) (hk : k ≤ 1000) (hg0 : 0 ≤ g) (hg1 : g < 18446744073709551615) :
    Calls Try.prog 14 #[.pointer (some ⟨qb, 0, none⟩)] w (PopPost qb r v k y xs g l w) := by
  obtain ⟨b, cap, rfl, hc, _, _, _, h5⟩ := hQ.shape
  have hl := hQ.len
  by_cases h1 : cap = 1
  · refine pop_from qb r b cap k y xs g l w hQ hk hg0 hg1 ⟨b, 0, none⟩ (if_pos h1) (fun j z hj => ?_)
    have : xs = [] := List.eq_nil_of_length_eq_zero (by simp at hl; omega)
    subst this
    simp at hj
  · refine pop_from qb r b cap k y xs g l w hQ hk hg0 hg1 ⟨b, 1, none⟩ (if_neg h1) (fun j z hj => ?_)
    rw [add0, Nat.add_comm]
    exact h5 (j + 1) z (by rw [List.getElem?_cons_succ]; exact hj)
/-- A cursor in its block, a queue in its own. -/
structure AM (w : World) (cb qb : Nat) (r n g ls : Int) (k : Nat) (xs : List Int) (got lost : Int) (v : Value) (W : World) : Prop where
  c : Cs w [(cb, n, r, g, ls)] W
  q : Qu W qb r v k xs got lost
  s : ∀ p, v.ownBlock = some p → w.heap.size ≤ p ∧ p ≠ cb
  h : w.heap.size ≤ cb ∧ w.heap.size ≤ qb ∧ qb ≠ cb
section
variable {w W W' : World} {cb qb : Nat} {r n g ls : Int} {k : Nat} {xs : List Int} {got lost : Int} {v : Value}
theorem Qu.low (h : Qu W qb r v k xs g ls) (u : Below W.heap.size W W') : Qu W' qb r v k xs g ls :=
  ⟨h.b.low u, owns_blocks h.o (fun _ hp => u.block _ (own_lt h.o hp)), h.n⟩
theorem AM.next (h : AM w cb qb r n g ls k xs got lost v W) (u : Below W.heap.size W W') : AM w cb qb r n g ls k xs got lost v W' := ⟨h.c.next u, h.q.low u, h.s, h.h⟩
theorem AM.upd (h : AM w cb qb r n g ls k xs got lost v W) {v' : Value} {k' : Nat} {xs' : List Int} {got' lost' : Int} (hq : Qu W' qb r v' k' xs' got' lost') (hu : Upd (Qs qb v) W W')
    (hf : v'.ownBlock = v.ownBlock ∨ ∀ p, v'.ownBlock = some p → W.heap.size ≤ p ∧ p < W'.heap.size) : AM w cb qb r n g ls k' xs' got' lost' v' W' := by
  have hB : Below w.heap.size W W' := hu.below h.c.1.size (fun j hj => by
    rcases hj with rfl | hj
    · exact h.h.2.1
    · exact (h.s j hj).1)
  have hcb := (h.c.blk 0 rfl).lt
  refine ⟨⟨h.c.1.trans hB, fun j b n' c' g' l' hj => ?_⟩, hq, fun p hp => ?_, h.h⟩
  · cases j with
    | zero =>
      simp only [List.getElem?_cons_zero, Option.some.injEq, Prod.mk.injEq] at hj
      obtain ⟨rfl, rfl, rfl, rfl, rfl⟩ := hj
      exact (h.c.blk 0 rfl).of_block (hu.block _ hcb (fun c => by
        rcases c with c | c
        · exact h.h.2.2 c.symm
        · exact (h.s _ c).2 rfl))
    | succ j => simp at hj
  · rcases hf with hf | hf
    · exact h.s p (hf ▸ hp)
    · have h1 := hf p hp
      have h2 := h.c.1.size
      exact ⟨by omega, by omega⟩
theorem AM.cur (h : AM w cb qb r n g ls k xs got lost v W) (n' g' ls' : Int) : AM w cb qb r n' g' ls' k xs got lost v
    ((((W.setCell ⟨cb, 0, none⟩ (.int .u64 n')).setCell ⟨cb, 1, none⟩ (.int .i64 r)).setCell ⟨cb, 2, none⟩ (.int .u64 g')).setCell ⟨cb, 3, none⟩ (.int .u64 ls')) :=
  ⟨h.c.put0 h.h.1 (fun x hx => by simp at hx) n' r g' ls',
   ⟨(((h.q.b.setFar h.h.2.2 _).setFar h.h.2.2 _).setFar h.h.2.2 _).setFar h.h.2.2 _,
    owns_blocks (owns_blocks (owns_blocks (owns_blocks h.q.o (fun p hp => Below.heap_setCell _ _ _ _ (h.s p hp).2)) (fun p hp => Below.heap_setCell _ _ _ _ (h.s p hp).2)) (fun p hp => Below.heap_setCell _ _ _ _ (h.s p hp).2)) (fun p hp => Below.heap_setCell _ _ _ _ (h.s p hp).2), h.q.n⟩, h.s, h.h⟩
end
/-- How many are queued, as a count. -/
def kq (n r x : Int) : Nat := (qd n r x).toNat
section
variable {r beg x la n g ls : Int} {k : Nat}
theorem SuI.kq (h : SuI r beg x la n g ls k) : qd n r x = (kq n r x : Int) := by
  have := h.lsum
  unfold Go.Proofs.Ytkkkicinlghikaa.kq
  omega
theorem SuI.low (h : SuI r beg x la n g ls k) : SuI r beg x beg n g ls k := by
  obtain ⟨h1, h2, h3, h4, h5, h6, h7, h8, h9, h10, h11, h12, h13, h14⟩ := h
  exact ⟨h1, h2, h3, h4, h5, h6, h7, h8, h9, h10, h11, h12, by omega, by omega⟩
/-- A Push while there is room. -/
theorem SuI.push1 (h : SuI r beg x la n g ls k) (h2 : SuI r beg (x + 1) la n g ls k) (hr : (Go.Proofs.Ytkkkicinlghikaa.kq n r x : Int) < r) :
    Go.Proofs.Ytkkkicinlghikaa.kq n r (x + 1) = Go.Proofs.Ytkkkicinlghikaa.kq n r x + 1 ∧ lo n r (x + 1) = lo n r x ∧ x + 1 = n + lo n r x + Go.Proofs.Ytkkkicinlghikaa.kq n r x := by
  have e1 := h.kq
  have e2 := h2.kq
  have a1 := h.lq
  have a2 := h2.lq
  have s1 := h.lsum
  omega
/-- A Push that drops one. -/
theorem SuI.push2 (h : SuI r beg x la n g ls k) (h2 : SuI r beg (x + 1) la n g ls k) (hr : ¬ (Go.Proofs.Ytkkkicinlghikaa.kq n r x : Int) < r) :
    (Go.Proofs.Ytkkkicinlghikaa.kq n r x : Int) = r ∧ Go.Proofs.Ytkkkicinlghikaa.kq n r (x + 1) = Go.Proofs.Ytkkkicinlghikaa.kq n r x ∧ lo n r (x + 1) = lo n r x + 1 ∧ x + 1 = n + lo n r x + Go.Proofs.Ytkkkicinlghikaa.kq n r x := by
  have e1 := h.kq
  have e2 := h2.kq
  have a1 := h.lq
  have a2 := h2.lq
  have s1 := h.lsum
  omega
end
/-- The cursor and the queue agree. -/
def AI (w : World) (cb qb : Nat) (r n g ls x : Int) (v : Value) (W : World) : Prop := AM w cb qb r n g ls (kq n r x) (seg (n + lo n r x) (kq n r x)) g (ls + lo n r x) v W
section
variable {w W : World} {cb qb : Nat} {r beg x la n g ls : Int} {k : Nat} {v : Value}
theorem kq_lt (h : SuI r beg x la n g ls k) : kq n r x ≤ 15 := by
  have e1 := h.kq
  have s1 := h.lsum
  have r2 := h.r2
  omega
theorem push_AI (h : SuI r beg x la n g ls k) (h2 : SuI r beg (x + 1) la n g ls k) (hA : AI w cb qb r n g ls x v W) :
    Calls Try.prog 12 #[.pointer (some ⟨qb, 0, none⟩), .int .u64 (x + 1)] W (fun e W' => e = .returned (.tuple #[]) ∧ ∃ v', AI w cb qb r n g ls (x + 1) v' W') := by
  unfold AI at hA ⊢
  have hk := kq_lt h
  by_cases hr : (kq n r x : Int) < r
  · obtain ⟨e1, e2, e3⟩ := h.push1 h2 hr
    rw [e1, e2, seg_end, ← e3]
    refine (push_room qb r v _ _ g _ (x + 1) W hA.q (by omega) hr).mono ?_
    rintro e W' ⟨rfl, v', hq, hu, hf⟩
    exact ⟨rfl, v', hA.upd hq hu hf⟩
  · obtain ⟨e0, e1, e2, e3⟩ := h.push2 h2 hr
    rw [e1, e2]
    have s1 := h.lsum
    have s2 := h.xb
    have s3 := h.r1
    have s4 := h.l0
    have s5 := h.g0
    have s6 := h.b0
    refine (push_full qb r v _ _ g _ (x + 1) W hA.q (by omega) e0 (by omega) (by omega) (by omega)).mono ?_
    rintro e W' ⟨rfl, v', hq, hu, hf⟩
    refine ⟨rfl, v', ?_⟩
    have hs : (seg (n + lo n r x) (kq n r x) ++ [x + 1]).tail = seg (n + (lo n r x + 1)) (kq n r x) := by
      rw [e3, ← seg_end, seg_tail, Int.add_assoc]
    rw [hs] at hq
    rw [← Int.add_assoc ls]
    exact hA.upd hq hu hf
theorem pop_AI0 (h : SuI r beg x la n g ls k) (hq : qd n r x = 0) (hA : AI w cb qb r n g ls x v W) : Calls Try.prog 14 #[.pointer (some ⟨qb, 0, none⟩)] W (Pur (.tuple #[.int .u64 0, .bool false]) W) := by
  have e := h.kq
  have e0 : kq n r x = 0 := by omega
  have hQ := hA.q
  rw [e0] at hQ
  exact pop_none qb r v _ g _ W hQ
/-- What is there behind a Pop. -/
def Pd (w : World) (cb qb : Nat) (r n g ls x : Int) (v : Value) (W : World) : Prop := AM w cb qb r n g ls (kq n r x - 1) (seg (n + lo n r x + 1) (kq n r x - 1)) (g + 1) (ls + lo n r x) v W
theorem pop_AI (h : SuI r beg x la n g ls k) (hq : qd n r x ≠ 0) (hA : AI w cb qb r n g ls x v W) :
    Calls Try.prog 14 #[.pointer (some ⟨qb, 0, none⟩)] W (fun e W' => e = .returned (.tuple #[.int .u64 (n + lo n r x), .bool true]) ∧ ∃ v', Pd w cb qb r n g ls x v' W' ∧ Upd (Qs qb v) W W') := by
  have e := h.kq
  obtain ⟨j, hj⟩ : ∃ j, kq n r x = j + 1 := ⟨kq n r x - 1, by omega⟩
  have hk := kq_lt h
  unfold AI at hA
  unfold Pd
  rw [hj] at hA ⊢
  rw [seg_cons] at hA
  have s1 := h.lsum
  have s2 := h.xb
  have s5 := h.g0
  have s6 := h.b0
  have s7 := h.l0
  refine (pop_any qb r v j _ _ g _ W hA.q (by omega) h.g0 (by omega)).mono ?_
  rintro e W' ⟨rfl, v', hq', hu, hf⟩
  exact ⟨rfl, v', hA.upd hq' hu (.inr hf), hu⟩
theorem Pd.cur (h : SuI r beg x la n g ls k) (hk : k < 200) (hq : qd n r x ≠ 0) (hA : Pd w cb qb r n g ls x v W) :
    AI w cb qb r (n + lo n r x + 1) (g + 1) (ls + lo n r x) x v ((((W.setCell ⟨cb, 0, none⟩ (.int .u64 (n + lo n r x + 1))).setCell ⟨cb, 1, none⟩ (.int .i64 r)).setCell ⟨cb, 2, none⟩ (.int .u64 (g + 1))).setCell ⟨cb, 3, none⟩ (.int .u64 (ls + lo n r x))) := by
  have ht := h.take hk hq
  have e1 := h.kq
  have e2 := ht.kq
  have e3 := h.qtake hk hq
  have e4 : kq (n + lo n r x + 1) r x = kq n r x - 1 := by omega
  have e5 : lo (n + lo n r x + 1) r x = 0 := by
    have := ht.lq
    have := h.lsum
    have := h.lq
    omega
  unfold AI
  rw [e4, e5, Int.add_zero, Int.add_zero]
  exact AM.cur hA _ _ _
theorem AI.seen (h : SuI r beg x la n g ls k) (hA : AI w cb qb r n g ls x v W) :
    AI w cb qb r (n + lo n r x) g (ls + lo n r x) x v ((((W.setCell ⟨cb, 0, none⟩ (.int .u64 (n + lo n r x))).setCell ⟨cb, 1, none⟩ (.int .i64 r)).setCell ⟨cb, 2, none⟩ (.int .u64 g)).setCell ⟨cb, 3, none⟩ (.int .u64 (ls + lo n r x))) := by
  have e4 : kq (n + lo n r x) r x = kq n r x := by unfold kq; rw [h.seenq]
  unfold AI at hA ⊢
  rw [e4, h.seen0, Int.add_zero, Int.add_zero]
  exact AM.cur hA _ _ _
theorem AI.next {W' : World} (hA : AI w cb qb r n g ls x v W) (u : Below W.heap.size W W') : AI w cb qb r n g ls x v W' := AM.next hA u
theorem AI.start (h : SuI r beg beg beg (beg + 1) 0 0 0) (hC : Cs w [(cb, beg + 1, r, 0, 0)] W) (hcb : w.heap.size ≤ cb) :
    AI w cb W.heap.size r (beg + 1) 0 0 beg (.slice none 0 0) (W.alloc (.cells #[.int .i64 r, .slice none 0 0, .int .u64 0, .int .u64 0] 34)) := by
  have e1 := h.kq
  have e2 := h.lq
  have e3 := h.r1
  have e4 : kq (beg + 1) r beg = 0 := by omega
  have e5 : lo (beg + 1) r beg = 0 := by omega
  have hlt := (hC.blk 0 rfl).lt
  unfold AI
  rw [e4, e5]
  exact ⟨hC.alloc _, ⟨Blk.new W _ 34, World.ownsRow_nil _ _ _ _, fun p hp => (by cases hp)⟩, fun p hp => (by cases hp), hcb, hC.1.size, by omega⟩
end
end Go.Proofs.Ytkkkicinlghikaa
