/- The iterator over a plan's words: its contract. -/
import Derived.Test.YtdnjoflahiffhaaItM
import Derived.RangeFuncNested
import Derived.RangeFuncBound
import Derived.RangeFuncCalls
import Derived.RangeFuncLeaves
import Derived.Shelf.Abstract
import Derived.Shelf.RegionOpen
import Derived.OwnWalkIn
import Derived.TacticsInMore
import Derived.LoopNIn
import Derived.LoopIn
namespace Go.Proofs.Ytdnjoflahiffhaa
open Go.RowKit Go.Shelf

attribute [local go_sem] Oper.semAt_some

theorem hnot : ∀ (x : Bool) (w : World), (Op.unary .not (.bool x)).run Try.prog w = .ok (.bool (!x)) w := fun _ _ => rfl
abbrev It.enc (x : It) : Array Value := #[.agg #[.int .i64 x.1, .int .i64 x.2.1], .int .i64 x.2.2]

/-- Each cell reads as it did. -/
def KC (W W' : World) : Prop := ∀ p v, W.cell? p = some v → W'.cell? p = some v
theorem KC.refl (W : World) : KC W W := fun _ _ h => h
theorem KC.trans {A B C : World} (h : KC A B) (k : KC B C) : KC A C := fun p v e => k p v (h p v e)
theorem KC.alloc (W : World) (o : Obj) : KC W (W.alloc o) := fun p v h => by
  rw [World.cell?_of_block (w := W) (Below.heap_alloc W o _ (World.block_lt_of_cell? _ _ h))]
  exact h
theorem KC.put (W : World) (l : Nat) (o o' : Obj) (h : W.heap[l]? = some o) (ho : o.isCells = false) : KC W (W.putObj l o') := fun p v hp => by
  have hne : p.block ≠ l := fun e => by
    unfold World.cell? at hp
    rw [e, h] at hp
    cases o <;> simp [Obj.isCells] at ho hp
  rw [World.cell?_of_block (w := W) ((grownBy_putObj' W l o').block p.block (World.block_lt_of_cell? _ _ hp) (by simpa using hne))]
  exact hp
theorem KC.below {W W' : World} (h : Below W.heap.size W W') : KC W W' := fun p v hp => by
  rw [h.cell (World.block_lt_of_cell? _ _ hp)]
  exact hp

/-- At the head of the iterator's loop. -/
def RelT (rg lg ln : Int) (ss : List Sp) (J : List It → World → Prop) (W : World) (i : Value) (wr : World) : Prop :=
  ∃ (k : Nat) (pre : List It), k ≤ ss.length ∧ i = .int .i64 k ∧ thg rg lg ln ss = pre ++ its k (ss.drop k) ∧ pre.length = 2 + 3 * k ∧ J pre wr ∧ KC W wr

set_option maxRecDepth 100000 in
set_option maxHeartbeats 2000000 in
theorem things1_in (F : Fence) (n : Nat) (h38 : F.fn 38) (hro : F.round = none) (hn : 1 ≤ n) (l Bs n₀ ca : Nat) (rg lg ln : Int) (aa : Option Addr) (ss : List Sp) (hl80 : ss.length ≤ 80) (hss : ∀ s ∈ ss, 0 ≤ s.2.2.2.1 * s.2.2.2.2 ∧ s.2.2.2.1 * s.2.2.2.2 ≤ 100000) (J Jx : List It → World → Prop) (W : World) (hJ : AbidesFrom W.heap.size J)
    (hY : ∀ pre x W, J pre W → pre.length < 2 + 3 * ss.length → YieldAt F (n - 1) Try.prog l (It.enc x) W fun e W' =>
      (e = .returned (.bool true) ∧ J (pre ++ [x]) W' ∧ KC W W') ∨ (e = .returned (.bool false) ∧ Jx (pre ++ [x]) W'))
    (c0 : W.cell? ⟨Bs, 0, none⟩ = some (.int .i64 rg)) (c1 : W.cell? ⟨Bs, 1, none⟩ = some (.int .i64 lg)) (c2 : W.cell? ⟨Bs, 2, none⟩ = some (.int .i64 ln)) (c3 : W.cell? ⟨Bs, 3, none⟩ = some (.slice aa ss.length ca)) (hS : Sps n₀ W aa ss) (h0 : J [] W) :
    CallsIn F n Try.prog 38 #[.func (.yield l) #[] #[], .pointer (some ⟨Bs, 0, none⟩)] W fun e W' => (∃ v, e = .returned v) ∧
      ((∃ ys, ys = thg rg lg ln ss ∧ J ys W') ∨ (∃ pre, pre <+: thg rg lg ln ss ∧ Jx pre W')) := by
  have hnot := hnot
  have HS := Lib.hid (And.intro hS hss)
  clear hS hss
  have e1 : Hid (thg rg lg ln ss = [(rg, 1, -1)] ++ ((lg, ln, -2) :: its 0 ss)) := Lib.hid rfl
  have e2 : Hid (thg rg lg ln ss = [(rg, 1, -1)] ++ [(lg, ln, -2)] ++ its 0 ss) := Lib.hid rfl
  refine callsIn_of_wp Try.func38 rfl h38 ?_ hro
  simp only [Try.ntmps38, List.size_toArray, List.length_cons, List.length_nil, Nat.reduceAdd, Nat.reduceSub, Array.replicate_succ, Array.replicate_zero, List.push_toArray, List.append_toArray, List.nil_append, List.cons_append]
  obtain ⟨fn, tmps, assign, body, hy, hR⟩ := hY [] (rg, 1, -1) W h0 (by show 0 < _; omega)
  simp only [It.enc] at hy
  gi_wp2
  refine hR.mono ?_
  rintro e W1 (⟨rfl, hJ1, hk1⟩ | ⟨rfl, hJx1⟩)
  case inr =>
    clear hY hR
    gi_wp2
    refine ⟨fun f h => (by cases h), ?_⟩
    gi_wp2
    refine bodyPost_ret (results_none rfl _ _ _) rfl ?_
    exact ⟨⟨_, rfl⟩, .inr ⟨_, by rw [e1.out]; exact List.prefix_append _ _, hJx1⟩⟩
  have hk1' := hk1
  replace c1 := hk1 _ _ c1
  replace c2 := hk1 _ _ c2
  replace c3 := hk1 _ _ c3
  clear hR hy c0 fn tmps assign body hk1
  obtain ⟨fn, tmps, assign, body, hy, hR⟩ := hY _ (lg, ln, -2) W1 hJ1 (by show 1 < _; omega)
  simp only [It.enc] at hy
  gi_wp2
  refine hR.mono ?_
  rintro e W2 (⟨rfl, hJ2, hk2⟩ | ⟨rfl, hJx2⟩)
  case inr =>
    clear hY hR
    gi_wp2
    refine bodyPost_ret (results_none rfl _ _ _) rfl ?_
    exact ⟨⟨_, rfl⟩, .inr ⟨_, by rw [e2.out]; exact List.prefix_append _ _, hJx2⟩⟩
  replace c3 := hk2 _ _ c3
  have HK := Lib.hid (KC.trans hk1' hk2)
  have HJ2 := Lib.hid hJ2
  have HY := Lib.hid hY
  clear hR hy c1 c2 fn tmps assign body hk2 hk1' hJ1 hJ2 hY h0 e1
  gi_wp2_with fail
  clear c3
  gi_loopw [24] (RelT rg lg ln ss J W) (fun i _ => ss.length - (intOf i).toNat)
  case atStart => exact ⟨0, _, Nat.zero_le _, rfl, e2.out, rfl, HJ2.out, HK.out⟩
  case round =>
    clear HJ2 HK e2
    obtain ⟨k, pre, hk, rfl, hth, hpl, hJs, hKC⟩ := hrel
    have Hth := Lib.hid (And.intro hth hpl)
    clear hth hpl
    by_cases hkl : k < ss.length
    · obtain ⟨s, hs⟩ : ∃ s, ss[k]? = some s := ⟨ss[k], List.getElem?_eq_getElem hkl⟩
      obtain ⟨b, off, rfl, _, u0, u1, u2, u3, u4⟩ := HS.out.1 k s hs
      replace u0 := hKC _ _ u0
      replace u1 := hKC _ _ u1
      replace u2 := hKC _ _ u2
      replace u3 := hKC _ _ u3
      replace u4 := hKC _ _ u4
      have hm := HS.out.2 s (List.mem_of_getElem? hs)
      have hdr := (drop_at hs).1
      have Hs := Lib.hid (And.intro hs hdr)
      clear hs hdr
      obtain ⟨o, q, f, x, d⟩ := s
      have hth3 : thg rg lg ln ss = pre ++ [(o, 1, (k : Int))] ++ [(q, 1, (k : Int))] ++ [(f, x * d, (k : Int))] ++ its ((k + 1 : Nat) : Int) (ss.drop (k + 1)) := by
        rw [Hth.out.1, Hs.out.2]
        simp [its]
      have Hth3 := Lib.hid hth3
      clear hth3
      have k0 : (k : Int) < ss.length := by omega
      have hm : 0 ≤ x * d ∧ x * d ≤ 100000 := hm
      have hw : wrap64 (x * d) = x * d := by unfold wrap64; omega
      have hJa : J pre (wr.alloc (.cells #[.int .i64 o, .int .i64 q, .int .i64 f, .int .i64 x, .int .i64 d] 43)) := hJ pre wr _ none hJs (World.grownBy_alloc wr _ none) (fun r e => by cases e)
      have hN := Blk.new wr #[.int .i64 o, .int .i64 q, .int .i64 f, .int .i64 x, .int .i64 d] 43
      have hKa := KC.trans hKC (KC.alloc wr (.cells #[.int .i64 o, .int .i64 q, .int .i64 f, .int .i64 x, .int .i64 d] 43))
      obtain ⟨fn, tmps, assign, body, hy, hR⟩ := HY.out pre (o, 1, (k : Int)) _ hJa (by rw [Hth.out.2]; omega)
      simp only [It.enc] at hy
      have HN := Lib.hid (And.intro hN hKa)
      clear hN hKa hKC hJs hJa
      gi_wp2
      clear u0 u1 u2 u3 u4
      refine hR.mono ?_
      rintro e V1 (⟨rfl, hJ1, hk1⟩ | ⟨rfl, hJx1⟩)
      case inr =>
        clear hR hy
        gi_wp2
        refine ⟨fun f h => (by cases h), ?_⟩
        gi_wp2
        refine bodyPost_ret (results_none rfl _ _ _) rfl ?_
        exact ⟨⟨_, rfl⟩, .inr ⟨_, by rw [Hth3.out, List.append_assoc, List.append_assoc]; exact List.prefix_append _ _, hJx1⟩⟩
      have d1 := hk1 _ _ (HN.out.1.cell (i := 1) rfl)
      have d2 := hk1 _ _ (HN.out.1.cell (i := 2) rfl)
      have d3 := hk1 _ _ (HN.out.1.cell (i := 3) rfl)
      have d4 := hk1 _ _ (HN.out.1.cell (i := 4) rfl)
      have HK1 := Lib.hid (KC.trans HN.out.2 hk1)
      clear hR hy fn tmps assign body hk1 HN
      obtain ⟨fn, tmps, assign, body, hy, hR⟩ := HY.out _ (q, 1, (k : Int)) V1 hJ1 (by rw [List.length_append, Hth.out.2]; show _ + 1 < _; omega)
      simp only [It.enc] at hy
      clear hJ1
      gi_wp2
      refine hR.mono ?_
      rintro e V2 (⟨rfl, hJ2, hk2⟩ | ⟨rfl, hJx2⟩)
      case inr =>
        clear hR hy
        gi_wp2
        refine ⟨fun f h => (by cases h), ?_⟩
        gi_wp2
        refine bodyPost_ret (results_none rfl _ _ _) rfl ?_
        exact ⟨⟨_, rfl⟩, .inr ⟨_, by rw [Hth3.out, List.append_assoc (pre ++ [(o, 1, (k : Int))] ++ [(q, 1, (k : Int))])]; exact List.prefix_append _ _, hJx2⟩⟩
      replace d2 := hk2 _ _ d2
      replace d3 := hk2 _ _ d3
      replace d4 := hk2 _ _ d4
      have HK2 := Lib.hid (KC.trans HK1.out hk2)
      clear hR hy fn tmps assign body hk2 d1 HK1
      obtain ⟨fn, tmps, assign, body, hy, hR⟩ := HY.out _ (f, x * d, (k : Int)) V2 hJ2 (by rw [List.length_append, List.length_append, Hth.out.2]; show _ + 1 + 1 < _; omega)
      simp only [It.enc] at hy
      clear hJ2
      gi_wp2
      refine hR.mono ?_
      rintro e V3 (⟨rfl, hJ3, hk3⟩ | ⟨rfl, hJx3⟩)
      case inr =>
        clear hR hy
        gi_wp2
        refine bodyPost_ret (results_none rfl _ _ _) rfl ?_
        exact ⟨⟨_, rfl⟩, .inr ⟨_, by rw [Hth3.out]; exact List.prefix_append _ _, hJx3⟩⟩
      have HK3 := Lib.hid (And.intro hJ3 (KC.trans HK2.out hk3))
      clear hR hy fn tmps assign body hk3 d2 d3 d4 HK2 hJ3
      gi_wp2
      go_roundw
      case rel => exact ⟨k + 1, _, by omega, by go_num, Hth3.out, by rw [List.length_append, List.length_append, List.length_append, Hth.out.2]; show _ + 1 + 1 + 1 = _; omega, HK3.out.1, HK3.out.2⟩
      case measure => simp [intOf]; omega
    · obtain rfl : k = ss.length := by omega
      have k0 : decide ((ss.length : Int) < (ss.length : Int)) = false := decide_eq_false (by omega)
      have hfin : thg rg lg ln ss = pre := by
        rw [Hth.out.1]
        simp [its]
      have Hfin := Lib.hid (And.intro hfin hJs)
      clear hfin hJs
      gi_wp2
      go_end0
      exact ⟨⟨_, rfl⟩, .inl ⟨_, Hfin.out.1.symm, Hfin.out.2⟩⟩

set_option maxHeartbeats 1000000 in
/-- things(): the plan is boxed, the function captures the box. -/
theorem things_in (F : Fence) (n : Nat) (h25 : F.fn 25) (hro : F.round = none) (rg lg ln z : Int) (a : Option Addr) (len cap : Nat) (w : World) :
    CallsIn F n Try.prog 25 #[plv rg lg ln (.slice a len cap) z] w fun e w' => e = .returned (.func (.func 38) #[] #[.pointer (some ⟨w.heap.size, 0, none⟩)]) ∧ w' = w.alloc (.cells #[.int .i64 rg, .int .i64 lg, .int .i64 ln, .slice a len cap, .int .i64 z] 29) := by
  refine callsIn_of_wp Try.func25 rfl h25 ?_ hro
  simp only [Try.ntmps25, List.size_toArray, List.length_cons, List.length_nil, Nat.reduceAdd, Nat.reduceSub, Array.replicate_succ, Array.replicate_zero, List.push_toArray, List.append_toArray, List.nil_append, List.cons_append]
  gi_wp2
  go_ret
  exact ⟨rfl, rfl⟩

theorem things_stops (F : Fence) (n : Nat) (h38 : F.fn 38) (hro : F.round = none) (hn : 1 ≤ n) (Bs n₀ ca : Nat) (rg lg ln z : Int) (aa : Option Addr) (ss : List Sp) (hl80 : ss.length ≤ 80) (hss : ∀ s ∈ ss, 0 ≤ s.2.2.2.1 * s.2.2.2.2 ∧ s.2.2.2.1 * s.2.2.2.2 ≤ 100000) (w : World)
    (hB : Blk w Bs (plc rg lg ln (.slice aa ss.length ca) z)) (hn₀ : n₀ ≤ w.heap.size) (hS : Sps n₀ w aa ss) :
    SeqStopsK F n Try.prog 38 #[.pointer (some ⟨Bs, 0, none⟩)] It.enc KC (fun ys => ys = thg rg lg ln ss) (fun pre => pre <+: thg rg lg ln ss) (2 + 3 * ss.length) w := fun l J Jx W hW hJ _ hY h0 =>
  things1_in F n h38 hro hn l Bs n₀ ca rg lg ln aa ss hl80 hss J Jx W hJ hY (KC.below hW _ _ (hB.cell (i := 0) rfl)) (KC.below hW _ _ (hB.cell (i := 1) rfl)) (KC.below hW _ _ (hB.cell (i := 2) rfl)) (KC.below hW _ _ (hB.cell (i := 3) rfl)) (hS.below (hW.mono hn₀)) h0
end Go.Proofs.Ytdnjoflahiffhaa
