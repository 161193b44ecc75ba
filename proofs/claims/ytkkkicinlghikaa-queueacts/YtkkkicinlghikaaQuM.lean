/- The document's queue in memory: Push and Pop. -/
import Derived.Test.YtkkkicinlghikaaSub
import Derived.Test.YtkkkicinlghikaaLaP
import Derived.Maps.AppendAt
namespace Go.Proofs.Ytkkkicinlghikaa
open Go.RowKit

abbrev quL (r : Int) (v : Value) (g l : Int) : List Value := [.int .i64 r, v, .int .u64 g, .int .u64 l]
/-- A queue that lies in a block: its room, its slice, what it holds, what it gave and dropped. -/
structure Qu (W : World) (qb : Nat) (r : Int) (v : Value) (k : Nat) (xs : List Int) (g l : Int) : Prop where
  b : Blk W qb (quL r v g l)
  o : W.ownsRow 0 22 1 v k (xs.map (Value.int .u64))
  n : ∀ p, v.ownBlock = some p → p ≠ qb
theorem Qu.len {W : World} {qb : Nat} {r : Int} {v : Value} {k : Nat} {xs : List Int} {g l : Int} (h : Qu W qb r v k xs g l) : xs.length = k := by
  have := h.o.1
  simpa using this
theorem Qu.drewN {W : World} {qb : Nat} {r : Int} {v : Value} {k : Nat} {xs : List Int} {g l : Int} (h : Qu W qb r v k xs g l) (n : Nat) : Qu (W.drewN n) qb r v k xs g l := ⟨h.b, h.o, h.n⟩
/-- Which blocks a queue's call turns. -/
def Qs (qb : Nat) (v : Value) (j : Nat) : Prop := j = qb ∨ v.ownBlock = some j
theorem info22 : ∃ i : TypeInfo, Try.prog.info? 22 = some i ∧ i.zero = some (.int .u64 0) ∧ i.size = 1 ∧ i.bytes = 8 := by
  cases hi : Try.prog.info? 22 with
  | none =>
    have h : (Try.prog.info? 22).map (fun i => (i.zero, i.size, i.bytes)) = some (some (.int .u64 0), 1, 8) := by kernel_rfl
    rw [hi] at h
    cases h
  | some i =>
    have h : (Try.prog.info? 22).map (fun i => (i.zero, i.size, i.bytes)) = some (some (.int .u64 0), 1, 8) := by kernel_rfl
    rw [hi] at h
    simp only [Option.map_some, Option.some.injEq, Prod.mk.injEq] at h
    exact ⟨i, rfl, h.1, h.2.1, h.2.2⟩
/-- Append to a slice of numbers that the call owns. -/
theorem app22 (W : World) (v : Value) (k : Nat) (xs : List Int) (hown : W.ownsRow 0 22 1 v k (xs.map (Value.int .u64))) (a : Addr) (m c : Nat) (ys : List Int) (hl : ys.length = m)
    (hc : ∀ j y, ys[j]? = some y → W.cell? (a.add j) = some (.int .u64 y)) (hk : k + m ≤ 100000) :
    ∃ v' W', (Builtin.append_ #[32, 32] 32 #[v, .slice (some a) m c]).run Try.prog W = .ok v' W' ∧ W'.ownsRow 0 22 1 v' (k + m) ((xs ++ ys).map (Value.int .u64)) ∧ W.grownBy W' v.ownBlock ∧ (v'.ownBlock = v.ownBlock ∨ v'.ownBlock = some W.heap.size) := by
  obtain ⟨i, hi, hz, hs, hb⟩ := info22
  obtain ⟨v', W', h1, h2, h3, _, h5⟩ := run_append_own_at (P := Try.prog) (w := W) 0 32 32 22 i (.int .u64 0) 1 8 Try.underlying32 hi hz hs hb rfl (by decide) v k (xs.map (Value.int .u64)) hown a m c (ys.map (Value.int .u64)) (by simpa using hl)
    (fun j u hj => by
      rw [List.getElem?_map] at hj
      cases hy : ys[j]? with
      | none => rw [hy] at hj; cases hj
      | some y =>
        rw [hy] at hj
        cases hj
        exact hc j y hy)
    (fun u hu => by
      obtain ⟨y, _, rfl⟩ := List.mem_map.1 hu
      rfl) (by simp only [maxLen]; omega) (by omega) (Nat.zero_le _)
  exact ⟨v', W', h1, by rw [List.map_append]; exact h2, h3, h5⟩
theorem alloc_cell (w : World) (x : Int) : ∀ j y, [x][j]? = some y → (w.alloc (.cells #[.int .u64 x] 22)).cell? ((⟨w.heap.size, 0, none⟩ : Addr).add j) = some (.int .u64 y) := fun j y h => by
  match j, h with
  | 0, h =>
    cases h
    exact (Blk.new w #[.int .u64 x] 22).cell (i := 0) rfl
/-- The first step of a Push: what the append makes. -/
structure Ap (w : World) (qb : Nat) (r : Int) (v : Value) (k : Nat) (xs : List Int) (g l x : Int) (v1 : Value) (W2 W3 : World) : Prop where
  run : (Builtin.append_ #[32, 32] 32 #[v, .slice (some ⟨w.heap.size, 0, none⟩) 1 1]).run Try.prog (w.alloc (.cells #[.int .u64 x] 22)) = .ok v1 W2
  b2 : Blk W2 qb (quL r v g l)
  w3 : W2.setCell ⟨qb, 1, none⟩ v1 = W3
  q3 : Qu W3 qb r v1 (k + 1) (xs ++ [x]) g l
  u3 : Upd (Qs qb v) w W3
  f3 : v1.ownBlock = v.ownBlock ∨ ∀ p, v1.ownBlock = some p → w.heap.size ≤ p ∧ p < W3.heap.size
theorem own_lt {W : World} {v : Value} {k : Nat} {xs : List Value} (h : W.ownsRow 0 22 1 v k xs) {p : Nat} (hp : v.ownBlock = some p) : p < W.heap.size := (h.lt p hp).2
theorem upd_grown {S : Nat → Prop} {a w w' : World} {row : Option Nat} (h : Upd S a w) (hg : w.grownBy w' row) (hr : ∀ p, row = some p → S p ∨ a.heap.size ≤ p) : Upd S a w' :=
  ⟨hg.os.trans h.os, hg.tape.trans h.tape, hg.output.trans h.output, Nat.le_trans h.size hg.size, fun i hi hn => (hg.block i (Nat.lt_of_lt_of_le hi h.size) (fun e => by
    rcases hr i e.symm with c | c
    · exact hn c
    · omega)).trans (h.block i hi hn)⟩
theorem ap_any (w : World) (qb : Nat) (r : Int) (v : Value) (k : Nat) (xs : List Int) (g l x : Int) (hQ : Qu w qb r v k xs g l) (hk : k ≤ 1000) : ∃ v1 W2 W3, Ap w qb r v k xs g l x v1 W2 W3 := by
  obtain ⟨v1, W2, h1, h2, h3, h4⟩ := app22 (w.alloc (.cells #[.int .u64 x] 22)) v k xs (hQ.o.alloc _) ⟨w.heap.size, 0, none⟩ 1 1 [x] rfl (alloc_cell w x) (by omega)
  have hql := hQ.b.lt
  have hb2 : Blk W2 qb (quL r v g l) := (hQ.b.alloc _).of_block (h3.block qb (by simp; omega) (fun e => hQ.n qb e.symm rfl))
  have hn1 : ∀ p, v1.ownBlock = some p → p ≠ qb := fun p hp => by
    rcases h4 with h4 | h4
    · exact hQ.n p (h4 ▸ hp)
    · have : p = w.heap.size + 1 := by rw [h4] at hp; simpa using hp.symm
      omega
  refine ⟨v1, W2, _, h1, hb2, rfl, ⟨hb2.put 1 v1, ?_, hn1⟩, ?_, ?_⟩
  · exact owns_blocks h2 (fun p hp => Below.heap_setCell _ _ _ _ (hn1 p hp))
  · exact (upd_grown ((Upd.refl _ w).alloc _) h3 (fun p hp => .inl (.inr hp))).setCell (.inl (.inl rfl)) _
  · rcases h4 with h4 | h4
    · exact .inl h4
    · refine .inr fun p hp => ?_
      have e : p = w.heap.size + 1 := by rw [h4] at hp; simpa using hp.symm
      have := own_lt h2 hp
      exact ⟨by omega, by simpa [World.setCell] using this⟩
/-- The slice of one that holds something. -/
theorem Qu.shape {W : World} {qb : Nat} {r : Int} {v : Value} {k : Nat} {xs : List Int} {g l : Int} (h : Qu W qb r v (k + 1) xs g l) : ∃ b cap, v = .slice (some ⟨b, 0, none⟩) (k + 1) cap ∧ k + 1 ≤ cap ∧ cap ≤ maxLen ∧ b ≠ qb ∧ b < W.heap.size ∧
    ∀ j y, xs[j]? = some y → W.cell? ⟨b, j, none⟩ = some (.int .u64 y) := by
  have hc := fun (g : Nat) (hg : v.ownBlock = some g) => World.ownsRow.cells h.o hg
  obtain ⟨h1, h2⟩ := h.o
  rcases h2 with ⟨_, c⟩ | ⟨b, cap, cur, rfl, _, hg, hkc, hcm, hcs, htk⟩
  · omega
  · refine ⟨b, cap, rfl, hkc, hcm, h.n b rfl, (Array.getElem?_eq_some_iff.1 hg).1, fun j y hy => ?_⟩
    have := hc b rfl j (.int .u64 y) (by rw [List.getElem?_map, hy]; rfl)
    have e : (⟨b, 0, none⟩ : Addr).add j = ⟨b, j, none⟩ := by
      unfold Addr.add
      split <;> simp_all
    rw [e] at this
    exact this
set_option maxRecDepth 100000 in
set_option maxHeartbeats 1000000 in
theorem push_room (qb : Nat) (r : Int) (v : Value) (k : Nat) (xs : List Int) (g l x : Int) (w : World) (hQ : Qu w qb r v k xs g l) (hk : k ≤ 1000) (hr : (k : Int) < r) :
    Calls Try.prog 12 #[.pointer (some ⟨qb, 0, none⟩), .int .u64 x] w (fun e w' => e = .returned (.tuple #[]) ∧ ∃ v', Qu w' qb r v' (k + 1) (xs ++ [x]) g l ∧ Upd (Qs qb v) w w' ∧ (v'.ownBlock = v.ownBlock ∨ ∀ p, v'.ownBlock = some p → w.heap.size ≤ p ∧ p < w'.heap.size)) := by
  obtain ⟨v1, W2, W3, hA⟩ := ap_any w qb r v k xs g l x hQ hk
  obtain ⟨b1, cap1, rfl, _⟩ := hA.q3.shape
  have HA := Lib.hid hA
  have c1 := (hQ.b.alloc (.cells #[.int .u64 x] 22)).cell (i := 1) rfl
  have c1x := hQ.b.cell (i := 1) rfl
  have d1 := hA.b2.cell (i := 1) rfl
  have f1 := hA.b2.frozen 1
  have hv3 := hA.w3
  have e0 := hA.q3.b.cell (i := 0) rfl
  have e1 := hA.q3.b.cell (i := 1) rfl
  have hl : decide (r < (k : Int) + 1) = false := decide_eq_false (by omega)
  clear hA hQ
  go_enter Try.func12, Try.ntmps12
  go_wp2_with (at_builtin; refine wpList_append_run _ rfl _ _ 32 32 rfl _ _ rfl rfl HA.out.run ?_)
  go_quiet (fail)
  go_wp2
  go_end0
  exact ⟨rfl, _, HA.out.q3.drewN _, HA.out.u3.drewN _, HA.out.f3⟩
theorem owns_empty (W : World) : (W.alloc (.cells #[] 22)).ownsRow 0 22 1 (.slice (some ⟨W.heap.size, 0, none⟩) 0 0) 0 (([] : List Int).map (Value.int .u64)) :=
  World.ownsRow_made W #[] 0 (Nat.zero_le _) (by simp only [maxLen]; omega) rfl
/-- A copy of all but the first, stored into the queue. -/
structure Cp (W : World) (qb : Nat) (r : Int) (v : Value) (k : Nat) (ys : List Int) (g l : Int) (a : Addr) (c : Nat) (v5 : Value) (W6 W7 : World) : Prop where
  run : (Builtin.append_ #[32, 32] 32 #[.slice (some ⟨W.heap.size, 0, none⟩) 0 0, .slice (some a) k c]).run Try.prog (W.alloc (.cells #[] 22)) = .ok v5 W6
  b6 : Blk W6 qb (quL r v g l)
  w7 : W6.setCell ⟨qb, 1, none⟩ v5 = W7
  q7 : Qu W7 qb r v5 k ys g l
  u7 : Upd (Qs qb v) W W7
  f7 : ∀ p, v5.ownBlock = some p → W.heap.size ≤ p ∧ p < W7.heap.size
theorem cp_any (W : World) (qb : Nat) (r : Int) (v : Value) (n k : Nat) (xs ys : List Int) (g l : Int) (hQ : Qu W qb r v n xs g l) (a : Addr) (c : Nat) (hys : ys.length = k) (hk : k ≤ 1000)
    (hc : ∀ j y, ys[j]? = some y → W.cell? (a.add j) = some (.int .u64 y)) : ∃ v5 W6 W7, Cp W qb r v k ys g l a c v5 W6 W7 := by
  obtain ⟨v5, W6, h1, h2, h3, h4⟩ := app22 (W.alloc (.cells #[] 22)) (.slice (some ⟨W.heap.size, 0, none⟩) 0 0) 0 [] (owns_empty W) a k c ys hys (fun j y hj => (World.cell?_of_block (Below.heap_alloc _ _ _ (World.block_lt_of_cell? _ _ (hc j y hj)))).trans (hc j y hj)) (by omega)
  have hql := hQ.b.lt
  have hb6 : Blk W6 qb (quL r v g l) := (hQ.b.alloc _).of_block (h3.block qb (by simp; omega) (fun e => by
    have : qb = W.heap.size := by simpa [Value.ownBlock] using e
    omega))
  have hge : ∀ p, v5.ownBlock = some p → W.heap.size ≤ p := fun p hp => by
    rcases h4 with h4 | h4
    · have : W.heap.size = p := by rw [h4] at hp; simpa [Value.ownBlock] using hp
      omega
    · have : p = W.heap.size + 1 := by rw [h4] at hp; simpa using hp.symm
      omega
  rw [Nat.zero_add, List.nil_append] at h2
  refine ⟨v5, W6, _, h1, hb6, rfl, ⟨hb6.put 1 v5, ?_, fun p hp => by have := hge p hp; omega⟩, ?_, ?_⟩
  · exact owns_blocks h2 (fun p hp => Below.heap_setCell _ _ _ _ (by have := hge p hp; show p ≠ qb; omega))
  · exact (upd_grown ((Upd.refl _ W).alloc _) h3 (fun p hp => .inr (by
      have : W.heap.size = p := by simpa [Value.ownBlock] using hp
      omega))).setCell (.inl (.inl rfl)) _
  · intro p hp
    have := own_lt h2 hp
    exact ⟨hge p hp, by simpa [World.setCell] using this⟩
theorem Qu.slice {W : World} {qb : Nat} {r : Int} {v : Value} {k : Nat} {xs : List Int} {g l : Int} (h : Qu W qb r v k xs g l) : ∃ a c, v = .slice a k c := by
  rcases h.o.2 with ⟨rfl, rfl⟩ | ⟨b, cap, cur, rfl, _⟩
  · exact ⟨none, 0, rfl⟩
  · exact ⟨_, _, rfl⟩
theorem add0 (b o j : Nat) : (⟨b, o, none⟩ : Addr).add j = ⟨b, o + j, none⟩ := by
  unfold Addr.add
  split <;> simp_all
theorem Upd.qs {qb : Nat} {v v1 : Value} {a b c : World} (h : Upd (Qs qb v) a b) (k : Upd (Qs qb v1) b c) (hf : v1.ownBlock = v.ownBlock ∨ ∀ p, v1.ownBlock = some p → a.heap.size ≤ p) : Upd (Qs qb v) a c :=
  ⟨k.os.trans h.os, k.tape.trans h.tape, k.output.trans h.output, Nat.le_trans h.size k.size, fun i hi hn => (k.block i (Nat.lt_of_lt_of_le hi h.size) (fun c => by
    rcases c with c | c
    · exact hn (.inl c)
    · rcases hf with hf | hf
      · exact hn (.inr (hf ▸ c))
      · have := hf i c
        omega)).trans (h.block i hi hn)⟩
set_option maxRecDepth 100000 in
set_option maxHeartbeats 1000000 in
theorem push_full (qb : Nat) (r : Int) (v : Value) (k : Nat) (xs : List Int) (g l x : Int) (w : World) (hQ : Qu w qb r v k xs g l) (hk : k ≤ 1000) (hr : (k : Int) = r) (hk1 : 1 ≤ k) (hl0 : 0 ≤ l) (hl1 : l < 18446744073709551615) :
    Calls Try.prog 12 #[.pointer (some ⟨qb, 0, none⟩), .int .u64 x] w (fun e w' => e = .returned (.tuple #[]) ∧ ∃ v', Qu w' qb r v' k (xs ++ [x]).tail g (l + 1) ∧ Upd (Qs qb v) w w' ∧ (v'.ownBlock = v.ownBlock ∨ ∀ p, v'.ownBlock = some p → w.heap.size ≤ p ∧ p < w'.heap.size)) := by
  have Hr := Lib.hid hr
  obtain ⟨v1, W2, W3, hA⟩ := ap_any w qb r v k xs g l x hQ hk
  obtain ⟨b1, cap1, rfl, h1, h2, h3, h4, h5⟩ := hA.q3.shape
  have HA := Lib.hid hA
  have H5 := Lib.hid (And.intro h5 (And.intro h3 h4))
  have c1 := (hQ.b.alloc (.cells #[.int .u64 x] 22)).cell (i := 1) rfl
  have c1x := hQ.b.cell (i := 1) rfl
  have d1 := hA.b2.cell (i := 1) rfl
  have f1 := hA.b2.frozen 1
  have hv3 := hA.w3
  have e0 := hA.q3.b.cell (i := 0) rfl
  have e1 := hA.q3.b.cell (i := 1) rfl
  have hl : decide (r < (k : Int) + 1) = true := decide_eq_true (by omega)
  have hcap : ¬ cap1 = 1 := by omega
  clear hr hA hQ h3 h4 h5
  go_enter Try.func12, Try.ntmps12
  go_wp2_with (at_builtin; refine wpList_append_run _ rfl _ _ 32 32 rfl _ _ rfl rfl HA.out.run ?_)
  go_quiet (fail)
  have HQ4 := Lib.hid (show Qu (W3.drewN nq) qb r (.slice (some ⟨b1, 0, none⟩) (k + 1) cap1) (k + 1) (xs ++ [x]) g l from HA.out.q3.drewN _)
  have HU4 := Lib.hid (show Upd (Qs qb v) w (W3.drewN nq) from HA.out.u3.drewN _)
  have HF4 := Lib.hid (show (Value.slice (some ⟨b1, 0, none⟩) (k + 1) cap1).ownBlock = v.ownBlock ∨ ∀ p, (Value.slice (some ⟨b1, 0, none⟩) (k + 1) cap1).ownBlock = some p → w.heap.size ≤ p from by
    rcases HA.out.f3 with h | h
    · exact .inl h
    · exact .inr (fun p hp => (h p hp).1))
  have H5' := Lib.hid (show ∀ j y, ((xs ++ [x]).drop 1)[j]? = some y → (W3.drewN nq).cell? ((⟨b1, 1, none⟩ : Addr).add j) = some (.int .u64 y) from fun j y hj => by
    rw [add0]
    exact H5.out.1 (1 + j) y (by rw [List.getElem?_drop] at hj; exact hj))
  have hsz : W3.heap.size = (W3.drewN nq).heap.size := rfl
  rw [hsz] at *
  generalize W3.drewN nq = W4 at *
  clear HA H5 c1 c1x d1 f1 hv3 e0 e1 hl
  obtain ⟨v5, W6, W7, hC⟩ := cp_any W4 qb r _ (k + 1) k (xs ++ [x]) ((xs ++ [x]).drop 1) g l HQ4.out ⟨b1, 1, none⟩ (cap1 - 1) (by have := HQ4.out.len; simp at this ⊢; omega) (by omega) H5'.out
  obtain ⟨a5, c5, rfl⟩ := hC.q7.slice
  have HC := Lib.hid hC
  have c1 := (HQ4.out.b.alloc (.cells #[] 22)).cell (i := 1) rfl
  have d1 := hC.b6.cell (i := 1) rfl
  have f1 := hC.b6.frozen 1
  have hv7 := hC.w7
  have e3 := hC.q7.b.cell (i := 3) rfl
  have f3 := hC.q7.b.frozen 3
  clear hC
  go_wp2_with (at_builtin; refine wpList_append_run _ rfl _ _ 32 32 rfl _ _ rfl rfl HC.out.run ?_)
  go_end0
  have hq := HC.out.q7
  rw [List.drop_one] at hq
  exact ⟨rfl, _, ⟨hq.b.put 3 _, owns_blocks hq.o (fun p hp => Below.heap_setCell _ _ _ _ (hq.n p hp)), hq.n⟩, (HU4.out.qs HC.out.u7 HF4.out).setCell (.inl (.inl rfl)) _, .inr (fun p hp => by
    have h := HC.out.f7 p hp
    have h2 := HU4.out.size
    exact ⟨by omega, by simpa [World.setCell] using h.2⟩)⟩
set_option maxRecDepth 100000 in
set_option maxHeartbeats 1000000 in
theorem pop_none (qb : Nat) (r : Int) (v : Value) (xs : List Int) (g l : Int) (w : World) (hQ : Qu w qb r v 0 xs g l) :
    Calls Try.prog 14 #[.pointer (some ⟨qb, 0, none⟩)] w (Pur (.tuple #[.int .u64 0, .bool false]) w) := by
  obtain ⟨a5, c5, rfl⟩ := hQ.slice
  have c1 := hQ.b.cell (i := 1) rfl
  clear hQ
  go_enter Try.func14, Try.ntmps14
  go_wp2
  go_ret2
  exact ⟨rfl, rfl⟩
/-- What a Pop of one that holds something leaves. -/
def PopPost (qb : Nat) (r : Int) (v : Value) (k : Nat) (y : Int) (xs : List Int) (g l : Int) (w : World) (e : Ending) (w' : World) : Prop :=
  e = .returned (.tuple #[.int .u64 y, .bool true]) ∧ ∃ v', Qu w' qb r v' k xs (g + 1) l ∧ Upd (Qs qb v) w w' ∧ ∀ p, v'.ownBlock = some p → w.heap.size ≤ p ∧ p < w'.heap.size
theorem pop_from (qb : Nat) (r : Int) (b1 : Nat) (cap1 : Nat) (k : Nat) (y : Int) (xs : List Int) (g l : Int) (w : World) (hQ : Qu w qb r (.slice (some ⟨b1, 0, none⟩) (k + 1) cap1) (k + 1) (y :: xs) g l) (hk : k ≤ 1000) (hg0 : 0 ≤ g) (hg1 : g < 18446744073709551615)
    (a : Addr) (ha : (if cap1 = 1 then some ⟨b1, 0, none⟩ else some ⟨b1, 1, none⟩ : Option Addr) = some a) (hc : ∀ j z, xs[j]? = some z → w.cell? (a.add j) = some (.int .u64 z)) :
    Calls Try.prog 14 #[.pointer (some ⟨qb, 0, none⟩)] w (PopPost qb r (.slice (some ⟨b1, 0, none⟩) (k + 1) cap1) k y xs g l w) := by
  obtain ⟨v5, W6, W7, hC⟩ := cp_any w qb r _ (k + 1) k (y :: xs) xs g l hQ a (cap1 - 1) (by have := hQ.len; simpa using this) hk hc
  obtain ⟨a5, c5, rfl⟩ := hC.q7.slice
  have HC := Lib.hid hC
  obtain ⟨b2, cap2, e2, hcap, _, _, _, h5⟩ := hQ.shape
  simp only [Value.slice.injEq, Option.some.injEq, Addr.mk.injEq, and_true, true_and] at e2
  obtain ⟨rfl, rfl⟩ := e2
  have y0 := h5 0 y rfl
  have c1 := (hQ.b.alloc (.cells #[] 22)).cell (i := 1) rfl
  have c1x := hQ.b.cell (i := 1) rfl
  have d1 := hC.b6.cell (i := 1) rfl
  have f1 := hC.b6.frozen 1
  have hv7 := hC.w7
  have e3 := hC.q7.b.cell (i := 2) rfl
  have f3 := hC.q7.b.frozen 2
  have hkk : ((k : Int) + 1 == 0) = false := by simp; omega
  clear hC h5 hQ hc
  by_cases hc1 : cap1 = 1
  · rw [if_pos hc1] at ha
    cases ha
    subst hc1
    obtain rfl : k = 0 := by omega
    go_enter Try.func14, Try.ntmps14
    go_wp2_with (at_builtin; refine wpList_append_run _ rfl _ _ 32 32 rfl _ _ rfl rfl HC.out.run ?_)
    go_ret2
    have hq := HC.out.q7
    exact ⟨rfl, _, ⟨hq.b.put 2 _, owns_blocks hq.o (fun p hp => Below.heap_setCell _ _ _ _ (hq.n p hp)), hq.n⟩, HC.out.u7.setCell (.inl (.inl rfl)) _, fun p hp => by
      have h := HC.out.f7 p hp
      exact ⟨h.1, by simpa [World.setCell] using h.2⟩⟩
  · rw [if_neg hc1] at ha
    cases ha
    go_enter Try.func14, Try.ntmps14
    go_wp2_with (at_builtin; refine wpList_append_run _ rfl _ _ 32 32 rfl _ _ rfl rfl HC.out.run ?_)
    go_ret2
    have hq := HC.out.q7
    exact ⟨rfl, _, ⟨hq.b.put 2 _, owns_blocks hq.o (fun p hp => Below.heap_setCell _ _ _ _ (hq.n p hp)), hq.n⟩, HC.out.u7.setCell (.inl (.inl rfl)) _, fun p hp => by
      have h := HC.out.f7 p hp
      exact ⟨h.1, by simpa [World.setCell] using h.2⟩⟩
end Go.Proofs.Ytkkkicinlghikaa
