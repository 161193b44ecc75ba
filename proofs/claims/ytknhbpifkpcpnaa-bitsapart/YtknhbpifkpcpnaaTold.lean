/- bits.told and bits.Split: their contracts. -/
import Derived.Test.YtknhbpifkpcpnaaRRow
namespace Go.Proofs.Ytknhbpifkpcpnaa
open Go.RowKit Go.Shelf

attribute [local go_sem] Oper.semAt_some

/-- The number of a field, 0 of one that may not be. -/
def gtI (a n : Int) (x : Nat) : Nat := if May a n then gt a.toNat n.toNat x else 0
theorem may_split {a n : Int} (h : May a n) : ∃ p q : Nat, a = p ∧ n = q ∧ 1 ≤ q ∧ p + q ≤ 64 := by
  obtain ⟨h1, h2, h3, h4⟩ := h
  exact ⟨a.toNat, n.toNat, by omega, by omega, by omega, by omega⟩
theorem get_any (a n : Int) (x : Nat) (w : World) (hx : W64 x) : Calls Try.prog 16 #[fld a n, .int .u64 x] w (Ret (.int .u64 (gtI a n x)) w) := by
  unfold gtI
  by_cases h : May a n
  · rw [if_pos h]
    obtain ⟨p, q, rfl, rfl, h1, h2⟩ := may_split h
    exact get_in p q x w h1 h2 hx
  · rw [if_neg h]
    exact get_out a n _ w h

theorem info24 : (Try.prog.info? 24).map (fun i => (i.zero, i.size, i.bytes)) = some (some (.int .u64 0), 1, 8) := by kernel_rfl

/-- The cells of words in a row. -/
def wcl (l : List Nat) : List Value := l.map fun (x : Nat) => Value.int .u64 (x : Int)
theorem wcl_snoc (l : List Nat) (x : Nat) : wcl (l ++ [x]) = wcl l ++ [.int .u64 x] := by simp [wcl]

/-- What Split leaves. -/
def SplitPost (zs : List Int) (x : Nat) (w : World) (e : Ending) (W' : World) : Prop :=
  ∃ v, e = .returned (.tuple #[v, .int .i64 (rowE 0 zs)]) ∧ Below w.heap.size w W' ∧ (rowE 0 zs ≠ 0 → v = .slice none 0 0) ∧
    (rowE 0 zs = 0 → W'.ownsRow w.heap.size 24 1 v (rowF 0 zs).length (wcl ((rowF 0 zs).map fun y => gtI y.1 y.2 x)))

/-- Between two rounds of told: w as it began, its blocks from s on. -/
def TI (w : World) (x : Nat) (pre : List It) (W : World) : Prop :=
  Boxed W w.heap.size 24 (.int .u64 x) ∧ Boxed W (w.heap.size + 1) 70 (.func (.func 16) #[] #[]) ∧
  Boxed W (w.heap.size + 1 + 1) 56 (.slice none 0 0) ∧ Boxed W (w.heap.size + 1 + 1 + 1) 36 (.int .i64 0) ∧
  (∃ v, Boxed W (w.heap.size + 1 + 1 + 1 + 1) 56 v ∧ W.ownsRow (w.heap.size + 6) 24 1 v pre.length (wcl (pre.map fun y => gtI y.1 y.2.1 x)) ∧ ∃ a l c, v = .slice a l c) ∧ (∀ y ∈ pre, y.2.2 = 0) ∧ Below w.heap.size w W
def TX (w : World) (c : Code) (pre : List It) (W : World) : Prop :=
  c = .ret ∧ ∃ p x, pre = p ++ [x] ∧ x.2.2 ≠ 0 ∧ Boxed W (w.heap.size + 1 + 1) 56 (.slice none 0 0) ∧ Boxed W (w.heap.size + 1 + 1 + 1) 36 (.int .i64 x.2.2) ∧ Below w.heap.size w W

theorem TI.own (w : World) (x : Nat) (B : Nat) (hB : w.heap.size ≤ B) : OwnFrom B (TI w x) := by
  rintro pre X Y row ⟨a1, a2, b1, b2, ⟨v, b3, ho, hv⟩, hz, hb⟩ hg hr
  have hr' := fun r e => (hr r e).2
  exact ⟨box_keep a1 hg hr', box_keep a2 hg hr', box_keep b1 hg hr', box_keep b2 hg hr', ⟨v, box_keep b3 hg hr', owns_keep ho hg hr', hv⟩, hz, hb.grown hg hb.size (fun k e => Nat.le_trans hB (hr k e).1)⟩
theorem TX.own (w : World) (B : Nat) (hB : w.heap.size ≤ B) (c : Code) : OwnFrom B (TX w c) := by
  rintro pre X Y row ⟨hc, p, x, hp, hx, b1, b2, hb⟩ hg hr
  have hr' := fun r e => (hr r e).2
  exact ⟨hc, p, x, hp, hx, box_keep b1 hg hr', box_keep b2 hg hr', hb.grown hg hb.size (fun k e => Nat.le_trans hB (hr k e).1)⟩

/-- An append whose run is known, as one operation inside a fence. -/
theorem oper_appended {F : Fence} {n : Nat} {P : Program} {w w' : World} {o : Oper} {a : Act} {K : Act → World → Prop} {Q : Exit → Act → World → Prop} {v u v' : Value}
    (s x : Operand) (t : TypeId) (ty : TypeId) (hop : o.op = Op.call { callee := Callee.builtin Builtin.append, args := #[s, x], argTypes := #[t, t] }) (hty : o.type = ty) (hs : a.eval s = v) (hx : a.eval x = u)
    (hrun : (Builtin.append_ #[t, t] ty #[v, u]).run P w = .ok v' w') (hK : K (a.put o.dst v') w') : o.wpIn F n P a w K Q := by
  subst hty
  unfold Oper.wpIn
  refine ⟨by simp [Oper.about, hop, resolve, Target.leads, Sem.run_pure], ?_⟩
  rw [Oper.semAt_plain F _ _ (by rw [hop]; intro c hc'; cases hc')]
  simp [execOp, hop, resolve, invoke, builtin, hs, hx, hrun, Result.andThen]
  exact hK

theorem owns_mono {W : World} {b b' : Nat} {e : TypeId} {size k : Nat} {v : Value} {xs : List Value} (h : W.ownsRow b e size v k xs) (hb : b' ≤ b) : W.ownsRow b' e size v k xs := by
  refine ⟨h.1, ?_⟩
  rcases h.2 with h2 | ⟨g, cap, cur, hv, hg, r⟩
  · exact .inl h2
  · exact .inr ⟨g, cap, cur, hv, Nat.le_trans hb hg, r⟩

theorem owns_low {W W' : World} {b : Nat} {e : TypeId} {size k : Nat} {v : Value} {xs : List Value} (h : W.ownsRow b e size v k xs) (u : Below W.heap.size W W') : W'.ownsRow b e size v k xs := by
  refine ⟨h.1, ?_⟩
  rcases h.2 with h2 | ⟨g, cap, cur, hv, hg, hh, r⟩
  · exact .inl h2
  · exact .inr ⟨g, cap, cur, hv, hg, (u.block g (Array.getElem?_eq_some_iff.1 hh).1).trans hh, r⟩

theorem res37 (tmps : Array Value) (W : World) (s : Nat) (v : Value) (e : Int) (h2 : tmps.getD 6 undef = .pointer (some ⟨s, 0, none⟩)) (h3 : tmps.getD 7 undef = .pointer (some ⟨s + 1, 0, none⟩))
    (c2 : W.cell? ⟨s, 0, none⟩ = some v) (c3 : W.cell? ⟨s + 1, 0, none⟩ = some (.int .i64 e)) : (results Try.f37 tmps).run Try.prog W = .ok (.tuple #[v, .int .i64 e]) W := by
  have h2' : tmps[6]?.getD undef = .pointer (some ⟨s, 0, none⟩) := by simpa using h2
  have h3' : tmps[7]?.getD undef = .pointer (some ⟨s + 1, 0, none⟩) := by simpa using h3
  simp [results, h2', h3', go_sem, c2, c3]

/-- What a round's append leaves, ahead of the store. -/
structure Step (w W : World) (x : Nat) (pre : List It) (a n : Int) (v : Value) (w3 : World) (g' cap' : Nat) (w4 : World) : Prop where
  cell : w4.cell? ⟨w.heap.size + 1 + 1 + 1 + 1, 0, none⟩ = some v
  frozen : w4.frozen? ⟨w.heap.size + 1 + 1 + 1 + 1, 0, none⟩ = false
  box : Boxed (w4.setCell ⟨w.heap.size + 1 + 1 + 1 + 1, 0, none⟩ (.slice (some ⟨g', 0, none⟩) (pre.length + 1) cap')) (w.heap.size + 1 + 1 + 1 + 1) 56 (.slice (some ⟨g', 0, none⟩) (pre.length + 1) cap')
  row : (w4.setCell ⟨w.heap.size + 1 + 1 + 1 + 1, 0, none⟩ (.slice (some ⟨g', 0, none⟩) (pre.length + 1) cap')).ownsRow (w.heap.size + 6) 24 1 (.slice (some ⟨g', 0, none⟩) (pre.length + 1) cap') (pre.length + 1) (wcl (pre.map fun y => gtI y.1 y.2.1 x) ++ [.int .u64 (gtI a n x)])
  others : KeepsOthers W (w4.setCell ⟨w.heap.size + 1 + 1 + 1 + 1, 0, none⟩ (.slice (some ⟨g', 0, none⟩) (pre.length + 1) cap'))
  far : ∀ B t u, Boxed W B t u → B < w.heap.size + 1 + 1 + 1 + 1 → Boxed (w4.setCell ⟨w.heap.size + 1 + 1 + 1 + 1, 0, none⟩ (.slice (some ⟨g', 0, none⟩) (pre.length + 1) cap')) B t u
  below : Below w.heap.size w (w4.setCell ⟨w.heap.size + 1 + 1 + 1 + 1, 0, none⟩ (.slice (some ⟨g', 0, none⟩) (pre.length + 1) cap'))
  round : Below w.heap.size W (w4.setCell ⟨w.heap.size + 1 + 1 + 1 + 1, 0, none⟩ (.slice (some ⟨g', 0, none⟩) (pre.length + 1) cap'))

theorem step {w W w3 : World} {x : Nat} {pre : List It} {v : Value} (a n : Int) (ho : W.ownsRow (w.heap.size + 6) 24 1 v pre.length (wcl (pre.map fun y => gtI y.1 y.2.1 x)))
    (c3 : Boxed W (w.heap.size + 1 + 1 + 1 + 1) 56 v) (hb : Below w.heap.size w W) (h6 : w.heap.size + 6 ≤ W.heap.size) (hml : pre.length + 1 ≤ maxLen) (h80 : pre.length ≤ 80) (hb3 : Below W.drew.heap.size W.drew w3) :
    ∃ g' cap' w4, (Builtin.append_ #[56, 56] 56 #[v, .slice (some ⟨w3.heap.size, 0, none⟩) 1 1]).run Try.prog (w3.alloc (.cells #[.int .u64 (gtI a n x)] 24)) = .ok (.slice (some ⟨g', 0, none⟩) (pre.length + 1) cap') w4 ∧ Step w W x pre a n v w3 g' cap' w4 := by
  obtain ⟨i0, hi, hz0, hz1, hz2⟩ := info_parts info24
  have hb3' : Below W.heap.size W w3 := ⟨hb3.os, hb3.tape, hb3.output, hb3.size, hb3.block⟩
  have ho3 := owns_low ho hb3'
  have c3' : Boxed w3 (w.heap.size + 1 + 1 + 1 + 1) 56 v := (hb3'.block _ c3.lt).trans c3
  have hs3 := hb3'.size
  have hsw := hb.size
  obtain ⟨v', w4, hrun, hown', hgrow, _⟩ := run_append_own (P := Try.prog) (w3.alloc (.cells #[.int .u64 (gtI a n x)] 24)) (w.heap.size + 6) 56 56 24 i0 (.int .u64 0) 1 8 Try.underlying56 hi hz0 hz1 hz2 rfl (by decide)
    v pre.length _ (ho3.alloc _) ⟨w3.heap.size, 0, none⟩ 1 1 [.int .u64 (gtI a n x)] rfl (cell_one_new _ _ _) (by simp [Value.oneCell']) hml (by omega) (by simp; omega)
  obtain ⟨g', cap', rfl⟩ := ownsRow_succ hown'
  obtain ⟨hv1, hv2, hr2, hk2, hb2⟩ := c3'.appended (by decide) (owns_mono ho3 (Nat.le_add_right _ 6)) (by omega) (by omega) (owns_mono hown' (Nat.le_add_right _ 6)) hgrow
  refine ⟨g', cap', w4, hrun, hv1.cell, hv1.frozen, hv2, ?_, ?_, ?_, ?_, ?_⟩
  · exact owns_set hown' hv1 (by decide) _
  · refine KeepsOthers.trans ⟨hs3, fun k o hk ho => ?_⟩ hk2
    exact (hb3'.block k (Array.getElem?_eq_some_iff.1 hk).1).trans hk
  · intro B t u hB hlt
    have h3 : Boxed w3 B t u := (hb3'.block _ hB.lt).trans hB
    refine Boxed.other ((h3.alloc _).kept hgrow ?_) (by omega) _
    intro e
    have := (ho3.lt B e.symm).1
    omega
  · exact hb.trans ((hb3'.mono hsw).trans hb2)
  · exact (hb3'.mono hsw).trans hb2

/-- The operations of the round's one long statement, as the translation has them. -/
def opsT : Array Oper :=
  #[{ dst := some 18, op := Op.load 56 (Operand.tmp 8), type := 56, pos := "bits.go:109", after := #[], guard := none },
    { dst := some 19, op := Op.load 70 (Operand.tmp 5), type := 70, pos := "bits.go:109", after := #[], guard := none },
    { dst := some 20, op := Op.load 23 (Operand.tmp 9), type := 23, pos := "bits.go:109", after := #[], guard := none },
    { dst := some 21, op := Op.load 24 (Operand.tmp 4), type := 24, pos := "bits.go:109", after := #[], guard := none },
    { dst := some 22, op := Op.call { callee := Callee.value (Operand.tmp 19), args := #[Operand.tmp 20, Operand.tmp 21], argTypes := #[23, 24] }, type := 24, pos := "bits.go:109",
      after := #[{ on := 1, ground := Ground.data }, { on := 2, ground := Ground.data }, { on := 3, ground := Ground.data }], guard := none },
    { dst := some 23, op := Op.buildSlice 56 1 #[(0, Operand.tmp 22)], type := 56, pos := "bits.go:109", after := #[{ on := 4, ground := Ground.data }], guard := none },
    { dst := some 24, op := Op.call { callee := Callee.builtin Builtin.append, args := #[Operand.tmp 18, Operand.tmp 23], argTypes := #[56, 56] }, type := 56, pos := "bits.go:109",
      after := #[{ on := 0, ground := Ground.data }, { on := 5, ground := Ground.data }, { on := 4, ground := Ground.chain }], guard := none },
    { dst := none, op := Op.store 56 (Operand.tmp 8) (Operand.tmp 24), type := 0, pos := "bits.go:109",
      after := #[{ on := 6, ground := Ground.data }, { on := 6, ground := Ground.chain }, { on := 0, ground := Ground.phase }, { on := 1, ground := Ground.phase }, { on := 2, ground := Ground.phase }, { on := 3, ground := Ground.phase }, { on := 4, ground := Ground.phase }, { on := 5, ground := Ground.phase }, { on := 6, ground := Ground.phase }], guard := none }]

set_option maxRecDepth 100000 in
set_option maxHeartbeats 4000000 in
theorem told_any (a : Option Addr) (len cap : Nat) (zs : List Int) (x : Nat) (hx : W64 x) (hlen : len = zs.length) (hl80 : zs.length ≤ 80) (w : World) (hI : Ints w.heap.size w a zs) :
    Calls Try.prog 37 #[.slice a len cap, .int .u64 x, .func (.func 16) #[] #[]] w (SplitPost zs x w) := by
  obtain ⟨i0, hi, hz0, hz1, hz2⟩ := info_parts info24
  subst hlen
  refine (callsIn_wide (n := 4)).1 ?_
  refine callsIn_of_wp_marks Try.func37 rfl trivial ?_ rfl
  simp only [Try.ntmps37, List.size_toArray, List.length_cons, List.length_nil, Nat.reduceAdd, Nat.reduceSub, Array.replicate_succ, Array.replicate_zero, List.push_toArray, List.append_toArray, List.nil_append, List.cons_append]
  gi_wp2_with (refine ⟨trivial, ?_⟩; gi_at_call 36; refine (fields_in Fence.wide _ trivial rfl _ _ _ _).mono ?_; rintro e w' ⟨rfl, rfl⟩)
  have a1 := (((((Boxed.new w 24 (.int .u64 x)).alloc (.cells #[.func (.func 16) #[] #[]] 70)).alloc (.cells #[.slice none 0 0] 56)).alloc (.cells #[.int .i64 0] 36)).alloc (.cells #[.slice none 0 0] 56)).alloc (.cells #[.slice a zs.length cap] 48)
  have a2 := ((((Boxed.new (w.alloc (.cells #[.int .u64 x] 24)) 70 (.func (.func 16) #[] #[])).alloc (.cells #[.slice none 0 0] 56)).alloc (.cells #[.int .i64 0] 36)).alloc (.cells #[.slice none 0 0] 56)).alloc (.cells #[.slice a zs.length cap] 48)
  have b1 := (((Boxed.new ((w.alloc (.cells #[.int .u64 x] 24)).alloc (.cells #[.func (.func 16) #[] #[]] 70)) 56 (.slice none 0 0)).alloc (.cells #[.int .i64 0] 36)).alloc (.cells #[.slice none 0 0] 56)).alloc (.cells #[.slice a zs.length cap] 48)
  have b2 := ((Boxed.new (((w.alloc (.cells #[.int .u64 x] 24)).alloc (.cells #[.func (.func 16) #[] #[]] 70)).alloc (.cells #[.slice none 0 0] 56)) 36 (.int .i64 0)).alloc (.cells #[.slice none 0 0] 56)).alloc (.cells #[.slice a zs.length cap] 48)
  have b3 := (Boxed.new ((((w.alloc (.cells #[.int .u64 x] 24)).alloc (.cells #[.func (.func 16) #[] #[]] 70)).alloc (.cells #[.slice none 0 0] 56)).alloc (.cells #[.int .i64 0] 36)) 56 (.slice none 0 0)).alloc (.cells #[.slice a zs.length cap] 48)
  have b4 := Boxed.new (((((w.alloc (.cells #[.int .u64 x] 24)).alloc (.cells #[.func (.func 16) #[] #[]] 70)).alloc (.cells #[.slice none 0 0] 56)).alloc (.cells #[.int .i64 0] 36)).alloc (.cells #[.slice none 0 0] 56)) 48 (.slice a zs.length cap)
  have hB0 := ((((((Below.refl w.heap.size w).alloc (Nat.le_refl _) (.cells #[.int .u64 x] 24)).alloc (by simp) (.cells #[.func (.func 16) #[] #[]] 70)).alloc (by simp; omega) (.cells #[.slice none 0 0] 56)).alloc (by simp; omega) (.cells #[.int .i64 0] 36)).alloc (by simp; omega) (.cells #[.slice none 0 0] 56)).alloc (by simp; omega) (.cells #[.slice a zs.length cap] 48)
  have hsz : ((((((w.alloc (.cells #[.int .u64 x] 24)).alloc (.cells #[.func (.func 16) #[] #[]] 70)).alloc (.cells #[.slice none 0 0] 56)).alloc (.cells #[.int .i64 0] 36)).alloc (.cells #[.slice none 0 0] 56)).alloc (.cells #[.slice a zs.length cap] 48)).heap.size = w.heap.size + 6 := by simp
  simp only [World.size_alloc] at a2 b1 b2 b3 b4
  obtain ⟨W0, hW0⟩ : ∃ W0, (((((w.alloc (.cells #[.int .u64 x] 24)).alloc (.cells #[.func (.func 16) #[] #[]] 70)).alloc (.cells #[.slice none 0 0] 56)).alloc (.cells #[.int .i64 0] 36)).alloc (.cells #[.slice none 0 0] 56)).alloc (.cells #[.slice a zs.length cap] 48) = W0 := ⟨_, rfl⟩
  rw [hW0] at a1 a2 b1 b2 b3 b4 hB0 hsz ⊢
  clear hW0
  refine wpIn_rangeFunc_ownH rfl (by omega) (gf := 38) (lb := #[.pointer (some ⟨w.heap.size + 1 + 1 + 1 + 1 + 1, 0, none⟩)]) rfl trivial (enters_of Try.func38 (by kernel_rfl) rfl)
    (fields_stops Fence.wide 3 trivial rfl (by omega) (w.heap.size + 1 + 1 + 1 + 1 + 1) w.heap.size zs.length cap a zs rfl hl80 W0 (by omega) (by omega) b4.cell (hI.below hB0)) belowK_t (belowK_b (by omega)) (Below.refl _ _) (fun _ => rfl)
    (TI w x) (TX w) (TI.own w x _ (by omega)) (TX.own w _ (by omega))
    ⟨a1, a2, b1, b2, ⟨_, b3, World.ownsRow_nil _ _ _ _, _, _, _, rfl⟩, by simp, hB0⟩
    (fun y a' W => ∃ Bx, w.heap.size + 1 + 1 + 1 + 1 < Bx ∧ Bx < W.heap.size ∧ W.heap[Bx]? = some (.cells #[.int .i64 y.1, .int .i64 y.2.1] 23) ∧ a' = { tmps := #[.slice a zs.length cap, .int .u64 x, .func (.func 16) #[] #[], undef, .pointer (some ⟨w.heap.size, 0, none⟩), .pointer (some ⟨w.heap.size + 1, 0, none⟩), .pointer (some ⟨w.heap.size + 1 + 1, 0, none⟩), .pointer (some ⟨w.heap.size + 1 + 1 + 1, 0, none⟩), .pointer (some ⟨w.heap.size + 1 + 1 + 1 + 1, 0, none⟩), .pointer (some ⟨Bx, 0, none⟩), .int .i64 y.2.2, .slice a zs.length cap, .func (.func 38) #[] #[.pointer (some ⟨w.heap.size + 1 + 1 + 1 + 1 + 1, 0, none⟩)], fld y.1 y.2.1, .int .i64 y.2.2, undef, undef, undef, undef, undef, undef, undef, undef, undef, undef, undef], defers := [] })
    (fun y a' _ X Y row hs hg hr => by obtain ⟨Bx, h1, h1', h2, h3⟩ := hs; exact ⟨Bx, h1, Nat.lt_of_lt_of_le h1' hg.size, cells_keep h2 hg (fun r e => (hr r e).2), h3⟩)
    ?assign ?body ?done ?stop
  case assign =>
    rintro l pre y W K ⟨p1, p2, c1, c2, ⟨v, c3, ho, hv⟩, hz, hb⟩ hK
    gi_wp2
    exact hK _ _ ((KeepsOthers.alloc _ _).from _) ((Below.refl _ W).alloc hb.size _) ⟨p1.alloc _, p2.alloc _, c1.alloc _, c2.alloc _, ⟨v, c3.alloc _, ho.alloc _, hv⟩, hz, hb.alloc hb.size _⟩ ⟨W.heap.size, c3.lt, by simp, World.alloc_heap_new W _, rfl⟩
  case body =>
    rintro l pre y a' W hl ⟨r, hr⟩ ⟨p1, p2, c1, c2, ⟨v, c3, ho, a3, l3, k3, rfl⟩, hz, hb⟩ ⟨Bx, hBx, hBl, bX, rfl⟩ hlt
    have e1 := p1.cell
    have e2 := p2.cell
    have d1 := c1.cell
    have d2 := c2.cell
    have d3 := c3.cell
    have f1 := c1.frozen
    have f2 := c2.frozen
    have f3 := c3.frozen
    have dx0 : W.cell? ⟨Bx, 0, none⟩ = some (.int .i64 y.1) := by simp [World.cell?, bX]
    have dx1 : W.cell? ⟨Bx, 1, none⟩ = some (.int .i64 y.2.1) := by simp [World.cell?, bX]
    have Ho := Lib.hid ho
    have Hz := Lib.hid hz
    clear ho hz
    have hs := hb.size
    have hml : pre.length + 1 ≤ maxLen := by
      have : 100 ≤ maxLen := by decide
      omega
    have h6 : w.heap.size + 6 ≤ W.heap.size := by
      have := (Array.getElem?_eq_some_iff.1 hr).1
      omega
    have h80 : pre.length ≤ 80 := by omega
    by_cases hy : y.2.2 = 0
    · gi_wp2
      have hmx : Try.prog.follows Departure.mixedOrders = true := by kernel_rfl
      have fin : ∀ (g' cap' : Nat) (w3 w4 : World), Step w W x pre y.1 y.2.1 (.slice a3 l3 k3) w3 g' cap' w4 →
          KeepsFrom W0.heap.size W (w4.setCell ⟨w.heap.size + 1 + 1 + 1 + 1, 0, none⟩ (.slice (some ⟨g', 0, none⟩) (pre.length + 1) cap')) ∧ Below w.heap.size W (w4.setCell ⟨w.heap.size + 1 + 1 + 1 + 1, 0, none⟩ (.slice (some ⟨g', 0, none⟩) (pre.length + 1) cap')) ∧
          TI w x (pre ++ [y]) (w4.setCell ⟨w.heap.size + 1 + 1 + 1 + 1, 0, none⟩ (.slice (some ⟨g', 0, none⟩) (pre.length + 1) cap')) := by
        intro g' cap' w3 w4 hq
        refine ⟨hq.others.from _, hq.round, hq.far _ _ _ p1 (by omega), hq.far _ _ _ p2 (by omega), hq.far _ _ _ c1 (by omega), hq.far _ _ _ c2 (by omega), ⟨_, hq.box, ?_, _, _, _, rfl⟩, fun z hz => ?_, hq.below⟩
        · rw [List.map_append, List.length_append]
          simp only [List.map_cons, List.map_nil, List.length_cons, List.length_nil]
          rw [wcl_snoc]
          exact hq.row
        · rcases List.mem_append.1 hz with hz | hz
          · exact Hz.out z hz
          · rw [List.mem_singleton.1 hz]; exact hy
      have Fin := Lib.hid fin
      clear fin
      have stA : wpAnyIn (Fence.wide.inRound l) (4 - 1 - 1) Try.prog .any opsT (Exit.inBlock 1 (ownPostG W0.heap.size (Below w.heap.size) (TI w x) (TX w) (pre ++ [y]) W)) 4 #[true, true, true, true, false, false, false, false]
          { tmps := #[.slice a zs.length cap, .int .u64 x, .func (.func 16) #[] #[], undef, .pointer (some ⟨w.heap.size, 0, none⟩), .pointer (some ⟨w.heap.size + 1, 0, none⟩), .pointer (some ⟨w.heap.size + 1 + 1, 0, none⟩), .pointer (some ⟨w.heap.size + 1 + 1 + 1, 0, none⟩), .pointer (some ⟨w.heap.size + 1 + 1 + 1 + 1, 0, none⟩), .pointer (some ⟨Bx, 0, none⟩), .int .i64 0, .slice a zs.length cap, .func (.func 38) #[] #[.pointer (some ⟨w.heap.size + 1 + 1 + 1 + 1 + 1, 0, none⟩)], fld y.1 y.2.1, .int .i64 0, .int .i64 0, .bool false, undef, .slice a3 l3 k3, .func (.func 16) #[] #[], .agg #[.int .i64 y.1, .int .i64 y.2.1], .int .u64 x, undef, undef, undef, undef], defers := [] } W.drew := by
        unfold opsT
        refine wpAnyIn_ready (rs := [4]) (by kernel_rfl) (by simp) ?_
        refine AllReadyIn.cons rfl (fun K hK => ?_) ?_
        · go_simp
          refine ⟨trivial, ?_⟩
          gi_at_call 16
          refine (CallsIn.inRound l (callsIn_wide.2 (get_any _ _ x _ hx))).mono ?_
          rintro e w3 ⟨rfl, hb3⟩
          have d3' := (Below.cell hb3 (p := ⟨w.heap.size + 1 + 1 + 1 + 1, 0, none⟩) c3.lt).trans d3
          have d3'' := (((Below.refl w3.heap.size w3).alloc (Nat.le_refl _) (.cells #[.int .u64 (gtI y.1 y.2.1 x)] 24)).cell (p := ⟨w.heap.size + 1 + 1 + 1 + 1, 0, none⟩) (Nat.lt_of_lt_of_le c3.lt hb3.size)).trans d3'
          refine hK _ _ ?_
          clear hK K
          refine wpAnyIn_ready (rs := [5]) (by kernel_rfl) (by simp) ?_
          refine AllReadyIn.cons rfl (fun K hK => ?_) ?_
          · go_simp
            refine hK _ _ ?_
            clear hK K
            refine wpAnyIn_ready (rs := [6]) (by kernel_rfl) (by simp) ?_
            refine AllReadyIn.cons rfl (fun K hK => ?_) ?_
            · rw [if_pos (by rfl)]
              obtain ⟨g', cap', w4, hrun, hq⟩ := step y.1 y.2.1 Ho.out c3 hb h6 hml h80 hb3
              refine oper_appended (.tmp 18) (.tmp 23) 56 56 rfl rfl rfl rfl hrun ?_
              have hc1 := hq.cell
              have hf1 := hq.frozen
              refine hK _ _ ?_
              clear hK K
              simp only [Act.put, List.setIfInBounds_toArray, List.set_cons_zero, List.set_cons_succ]
              refine wpAnyIn_ready (rs := [7]) (by kernel_rfl) (by simp) ?_
              refine AllReadyIn.cons rfl (fun K hK => ?_) ?_
              · go_simp
                refine hK _ _ ?_
                clear hK K
                refine wpAnyIn_done (by kernel_rfl) ?_ _
                gi_wp2
                exact Fin.out _ _ _ _ hq
              exact AllReadyIn.nil
            exact AllReadyIn.nil
          exact AllReadyIn.nil
        exact AllReadyIn.nil
      have stB : wpAnyIn (Fence.wide.inRound l) (4 - 1 - 1) Try.prog .any opsT (Exit.inBlock 1 (ownPostG W0.heap.size (Below w.heap.size) (TI w x) (TX w) (pre ++ [y]) W)) 5 #[false, true, true, true, false, false, false, false]
          { tmps := #[.slice a zs.length cap, .int .u64 x, .func (.func 16) #[] #[], undef, .pointer (some ⟨w.heap.size, 0, none⟩), .pointer (some ⟨w.heap.size + 1, 0, none⟩), .pointer (some ⟨w.heap.size + 1 + 1, 0, none⟩), .pointer (some ⟨w.heap.size + 1 + 1 + 1, 0, none⟩), .pointer (some ⟨w.heap.size + 1 + 1 + 1 + 1, 0, none⟩), .pointer (some ⟨Bx, 0, none⟩), .int .i64 0, .slice a zs.length cap, .func (.func 38) #[] #[.pointer (some ⟨w.heap.size + 1 + 1 + 1 + 1 + 1, 0, none⟩)], fld y.1 y.2.1, .int .i64 0, .int .i64 0, .bool false, undef, undef, .func (.func 16) #[] #[], .agg #[.int .i64 y.1, .int .i64 y.2.1], .int .u64 x, undef, undef, undef, undef], defers := [] } W.drew := by
        unfold opsT
        refine wpAnyIn_ready (rs := [0, 4]) (by kernel_rfl) (by simp) ?_
        refine AllReadyIn.cons rfl (fun K hK => ?_) ?_
        · go_simp
          refine hK _ _ ?_
          clear hK K
          exact stA
        refine AllReadyIn.cons rfl (fun K hK => ?_) ?_
        · go_simp
          refine ⟨trivial, ?_⟩
          gi_at_call 16
          refine (CallsIn.inRound l (callsIn_wide.2 (get_any _ _ x _ hx))).mono ?_
          rintro e w3 ⟨rfl, hb3⟩
          have d3' := (Below.cell hb3 (p := ⟨w.heap.size + 1 + 1 + 1 + 1, 0, none⟩) c3.lt).trans d3
          have d3'' := (((Below.refl w3.heap.size w3).alloc (Nat.le_refl _) (.cells #[.int .u64 (gtI y.1 y.2.1 x)] 24)).cell (p := ⟨w.heap.size + 1 + 1 + 1 + 1, 0, none⟩) (Nat.lt_of_lt_of_le c3.lt hb3.size)).trans d3'
          refine hK _ _ ?_
          clear hK K
          refine wpAnyIn_ready (rs := [0, 5]) (by kernel_rfl) (by simp) ?_
          refine AllReadyIn.cons rfl (fun K hK => ?_) ?_
          · go_simp
            refine hK _ _ ?_
            clear hK K
            refine wpAnyIn_ready (rs := [5]) (by kernel_rfl) (by simp) ?_
            refine AllReadyIn.cons rfl (fun K hK => ?_) ?_
            · go_simp
              refine hK _ _ ?_
              clear hK K
              refine wpAnyIn_ready (rs := [6]) (by kernel_rfl) (by simp) ?_
              refine AllReadyIn.cons rfl (fun K hK => ?_) ?_
              · rw [if_pos (by rfl)]
                obtain ⟨g', cap', w4, hrun, hq⟩ := step y.1 y.2.1 Ho.out c3 hb h6 hml h80 hb3
                refine oper_appended (.tmp 18) (.tmp 23) 56 56 rfl rfl rfl rfl hrun ?_
                have hc1 := hq.cell
                have hf1 := hq.frozen
                refine hK _ _ ?_
                clear hK K
                simp only [Act.put, List.setIfInBounds_toArray, List.set_cons_zero, List.set_cons_succ]
                refine wpAnyIn_ready (rs := [7]) (by kernel_rfl) (by simp) ?_
                refine AllReadyIn.cons rfl (fun K hK => ?_) ?_
                · go_simp
                  refine hK _ _ ?_
                  clear hK K
                  refine wpAnyIn_done (by kernel_rfl) ?_ _
                  gi_wp2
                  exact Fin.out _ _ _ _ hq
                exact AllReadyIn.nil
              exact AllReadyIn.nil
            exact AllReadyIn.nil
          refine AllReadyIn.cons rfl (fun K hK => ?_) ?_
          · go_simp
            refine hK _ _ ?_
            clear hK K
            refine wpAnyIn_ready (rs := [0]) (by kernel_rfl) (by simp) ?_
            refine AllReadyIn.cons rfl (fun K hK => ?_) ?_
            · go_simp
              refine hK _ _ ?_
              clear hK K
              refine wpAnyIn_ready (rs := [6]) (by kernel_rfl) (by simp) ?_
              refine AllReadyIn.cons rfl (fun K hK => ?_) ?_
              · rw [if_pos (by rfl)]
                obtain ⟨g', cap', w4, hrun, hq⟩ := step y.1 y.2.1 Ho.out c3 hb h6 hml h80 hb3
                refine oper_appended (.tmp 18) (.tmp 23) 56 56 rfl rfl rfl rfl hrun ?_
                have hc1 := hq.cell
                have hf1 := hq.frozen
                refine hK _ _ ?_
                clear hK K
                simp only [Act.put, List.setIfInBounds_toArray, List.set_cons_zero, List.set_cons_succ]
                refine wpAnyIn_ready (rs := [7]) (by kernel_rfl) (by simp) ?_
                refine AllReadyIn.cons rfl (fun K hK => ?_) ?_
                · go_simp
                  refine hK _ _ ?_
                  clear hK K
                  refine wpAnyIn_done (by kernel_rfl) ?_ _
                  gi_wp2
                  exact Fin.out _ _ _ _ hq
                exact AllReadyIn.nil
              exact AllReadyIn.nil
            exact AllReadyIn.nil
          exact AllReadyIn.nil
        exact AllReadyIn.nil
      refine wpIn_region_any hmx ?_
      change wpAnyIn _ _ _ _ _ _ _ _ _ (World.drew _)
      refine wpAnyIn_ready (rs := [0, 1, 2, 3]) (by kernel_rfl) (by simp) ?_
      refine AllReadyIn.cons rfl (fun K hK => ?_) ?_
      · go_simp
        refine hK _ _ ?_
        clear hK K
        refine wpAnyIn_ready (rs := [1, 2, 3]) (by kernel_rfl) (by simp) ?_
        refine AllReadyIn.cons rfl (fun K hK => ?_) ?_
        · go_simp
          refine hK _ _ ?_
          clear hK K
          refine wpAnyIn_ready (rs := [2, 3]) (by kernel_rfl) (by simp) ?_
          refine AllReadyIn.cons rfl (fun K hK => ?_) ?_
          · go_simp
            refine hK _ _ ?_
            clear hK K
            refine wpAnyIn_ready (rs := [3]) (by kernel_rfl) (by simp) ?_
            refine AllReadyIn.cons rfl (fun K hK => ?_) ?_
            · go_simp
              refine hK _ _ ?_
              clear hK K
              exact stA
            exact AllReadyIn.nil
          refine AllReadyIn.cons rfl (fun K hK => ?_) ?_
          · go_simp
            refine hK _ _ ?_
            clear hK K
            refine wpAnyIn_ready (rs := [2]) (by kernel_rfl) (by simp) ?_
            refine AllReadyIn.cons rfl (fun K hK => ?_) ?_
            · go_simp
              refine hK _ _ ?_
              clear hK K
              exact stA
            exact AllReadyIn.nil
          exact AllReadyIn.nil
        refine AllReadyIn.cons rfl (fun K hK => ?_) ?_
        · go_simp
          refine hK _ _ ?_
          clear hK K
          refine wpAnyIn_ready (rs := [1, 3]) (by kernel_rfl) (by simp) ?_
          refine AllReadyIn.cons rfl (fun K hK => ?_) ?_
          · go_simp
            refine hK _ _ ?_
            clear hK K
            refine wpAnyIn_ready (rs := [3]) (by kernel_rfl) (by simp) ?_
            refine AllReadyIn.cons rfl (fun K hK => ?_) ?_
            · go_simp
              refine hK _ _ ?_
              clear hK K
              exact stA
            exact AllReadyIn.nil
          refine AllReadyIn.cons rfl (fun K hK => ?_) ?_
          · go_simp
            refine hK _ _ ?_
            clear hK K
            refine wpAnyIn_ready (rs := [1]) (by kernel_rfl) (by simp) ?_
            refine AllReadyIn.cons rfl (fun K hK => ?_) ?_
            · go_simp
              refine hK _ _ ?_
              clear hK K
              exact stA
            exact AllReadyIn.nil
          exact AllReadyIn.nil
        refine AllReadyIn.cons rfl (fun K hK => ?_) ?_
        · go_simp
          refine hK _ _ ?_
          clear hK K
          refine wpAnyIn_ready (rs := [1, 2]) (by kernel_rfl) (by simp) ?_
          refine AllReadyIn.cons rfl (fun K hK => ?_) ?_
          · go_simp
            refine hK _ _ ?_
            clear hK K
            refine wpAnyIn_ready (rs := [2]) (by kernel_rfl) (by simp) ?_
            refine AllReadyIn.cons rfl (fun K hK => ?_) ?_
            · go_simp
              refine hK _ _ ?_
              clear hK K
              exact stA
            exact AllReadyIn.nil
          refine AllReadyIn.cons rfl (fun K hK => ?_) ?_
          · go_simp
            refine hK _ _ ?_
            clear hK K
            refine wpAnyIn_ready (rs := [1]) (by kernel_rfl) (by simp) ?_
            refine AllReadyIn.cons rfl (fun K hK => ?_) ?_
            · go_simp
              refine hK _ _ ?_
              clear hK K
              exact stA
            exact AllReadyIn.nil
          exact AllReadyIn.nil
        exact AllReadyIn.nil
      refine AllReadyIn.cons rfl (fun K hK => ?_) ?_
      · go_simp
        refine hK _ _ ?_
        clear hK K
        refine wpAnyIn_ready (rs := [0, 2, 3]) (by kernel_rfl) (by simp) ?_
        refine AllReadyIn.cons rfl (fun K hK => ?_) ?_
        · go_simp
          refine hK _ _ ?_
          clear hK K
          refine wpAnyIn_ready (rs := [2, 3]) (by kernel_rfl) (by simp) ?_
          refine AllReadyIn.cons rfl (fun K hK => ?_) ?_
          · go_simp
            refine hK _ _ ?_
            clear hK K
            refine wpAnyIn_ready (rs := [3]) (by kernel_rfl) (by simp) ?_
            refine AllReadyIn.cons rfl (fun K hK => ?_) ?_
            · go_simp
              refine hK _ _ ?_
              clear hK K
              exact stA
            exact AllReadyIn.nil
          refine AllReadyIn.cons rfl (fun K hK => ?_) ?_
          · go_simp
            refine hK _ _ ?_
            clear hK K
            refine wpAnyIn_ready (rs := [2]) (by kernel_rfl) (by simp) ?_
            refine AllReadyIn.cons rfl (fun K hK => ?_) ?_
            · go_simp
              refine hK _ _ ?_
              clear hK K
              exact stA
            exact AllReadyIn.nil
          exact AllReadyIn.nil
        refine AllReadyIn.cons rfl (fun K hK => ?_) ?_
        · go_simp
          refine hK _ _ ?_
          clear hK K
          refine wpAnyIn_ready (rs := [0, 3]) (by kernel_rfl) (by simp) ?_
          refine AllReadyIn.cons rfl (fun K hK => ?_) ?_
          · go_simp
            refine hK _ _ ?_
            clear hK K
            refine wpAnyIn_ready (rs := [3]) (by kernel_rfl) (by simp) ?_
            refine AllReadyIn.cons rfl (fun K hK => ?_) ?_
            · go_simp
              refine hK _ _ ?_
              clear hK K
              exact stA
            exact AllReadyIn.nil
          refine AllReadyIn.cons rfl (fun K hK => ?_) ?_
          · go_simp
            refine hK _ _ ?_
            clear hK K
            exact stB
          exact AllReadyIn.nil
        refine AllReadyIn.cons rfl (fun K hK => ?_) ?_
        · go_simp
          refine hK _ _ ?_
          clear hK K
          refine wpAnyIn_ready (rs := [0, 2]) (by kernel_rfl) (by simp) ?_
          refine AllReadyIn.cons rfl (fun K hK => ?_) ?_
          · go_simp
            refine hK _ _ ?_
            clear hK K
            refine wpAnyIn_ready (rs := [2]) (by kernel_rfl) (by simp) ?_
            refine AllReadyIn.cons rfl (fun K hK => ?_) ?_
            · go_simp
              refine hK _ _ ?_
              clear hK K
              exact stA
            exact AllReadyIn.nil
          refine AllReadyIn.cons rfl (fun K hK => ?_) ?_
          · go_simp
            refine hK _ _ ?_
            clear hK K
            exact stB
          exact AllReadyIn.nil
        exact AllReadyIn.nil
      refine AllReadyIn.cons rfl (fun K hK => ?_) ?_
      · go_simp
        refine hK _ _ ?_
        clear hK K
        refine wpAnyIn_ready (rs := [0, 1, 3]) (by kernel_rfl) (by simp) ?_
        refine AllReadyIn.cons rfl (fun K hK => ?_) ?_
        · go_simp
          refine hK _ _ ?_
          clear hK K
          refine wpAnyIn_ready (rs := [1, 3]) (by kernel_rfl) (by simp) ?_
          refine AllReadyIn.cons rfl (fun K hK => ?_) ?_
          · go_simp
            refine hK _ _ ?_
            clear hK K
            refine wpAnyIn_ready (rs := [3]) (by kernel_rfl) (by simp) ?_
            refine AllReadyIn.cons rfl (fun K hK => ?_) ?_
            · go_simp
              refine hK _ _ ?_
              clear hK K
              exact stA
            exact AllReadyIn.nil
          refine AllReadyIn.cons rfl (fun K hK => ?_) ?_
          · go_simp
            refine hK _ _ ?_
            clear hK K
            refine wpAnyIn_ready (rs := [1]) (by kernel_rfl) (by simp) ?_
            refine AllReadyIn.cons rfl (fun K hK => ?_) ?_
            · go_simp
              refine hK _ _ ?_
              clear hK K
              exact stA
            exact AllReadyIn.nil
          exact AllReadyIn.nil
        refine AllReadyIn.cons rfl (fun K hK => ?_) ?_
        · go_simp
          refine hK _ _ ?_
          clear hK K
          refine wpAnyIn_ready (rs := [0, 3]) (by kernel_rfl) (by simp) ?_
          refine AllReadyIn.cons rfl (fun K hK => ?_) ?_
          · go_simp
            refine hK _ _ ?_
            clear hK K
            refine wpAnyIn_ready (rs := [3]) (by kernel_rfl) (by simp) ?_
            refine AllReadyIn.cons rfl (fun K hK => ?_) ?_
            · go_simp
              refine hK _ _ ?_
              clear hK K
              exact stA
            exact AllReadyIn.nil
          refine AllReadyIn.cons rfl (fun K hK => ?_) ?_
          · go_simp
            refine hK _ _ ?_
            clear hK K
            exact stB
          exact AllReadyIn.nil
        refine AllReadyIn.cons rfl (fun K hK => ?_) ?_
        · go_simp
          refine hK _ _ ?_
          clear hK K
          refine wpAnyIn_ready (rs := [0, 1]) (by kernel_rfl) (by simp) ?_
          refine AllReadyIn.cons rfl (fun K hK => ?_) ?_
          · go_simp
            refine hK _ _ ?_
            clear hK K
            refine wpAnyIn_ready (rs := [1]) (by kernel_rfl) (by simp) ?_
            refine AllReadyIn.cons rfl (fun K hK => ?_) ?_
            · go_simp
              refine hK _ _ ?_
              clear hK K
              exact stA
            exact AllReadyIn.nil
          refine AllReadyIn.cons rfl (fun K hK => ?_) ?_
          · go_simp
            refine hK _ _ ?_
            clear hK K
            exact stB
          exact AllReadyIn.nil
        exact AllReadyIn.nil
      refine AllReadyIn.cons rfl (fun K hK => ?_) ?_
      · go_simp
        refine hK _ _ ?_
        clear hK K
        refine wpAnyIn_ready (rs := [0, 1, 2]) (by kernel_rfl) (by simp) ?_
        refine AllReadyIn.cons rfl (fun K hK => ?_) ?_
        · go_simp
          refine hK _ _ ?_
          clear hK K
          refine wpAnyIn_ready (rs := [1, 2]) (by kernel_rfl) (by simp) ?_
          refine AllReadyIn.cons rfl (fun K hK => ?_) ?_
          · go_simp
            refine hK _ _ ?_
            clear hK K
            refine wpAnyIn_ready (rs := [2]) (by kernel_rfl) (by simp) ?_
            refine AllReadyIn.cons rfl (fun K hK => ?_) ?_
            · go_simp
              refine hK _ _ ?_
              clear hK K
              exact stA
            exact AllReadyIn.nil
          refine AllReadyIn.cons rfl (fun K hK => ?_) ?_
          · go_simp
            refine hK _ _ ?_
            clear hK K
            refine wpAnyIn_ready (rs := [1]) (by kernel_rfl) (by simp) ?_
            refine AllReadyIn.cons rfl (fun K hK => ?_) ?_
            · go_simp
              refine hK _ _ ?_
              clear hK K
              exact stA
            exact AllReadyIn.nil
          exact AllReadyIn.nil
        refine AllReadyIn.cons rfl (fun K hK => ?_) ?_
        · go_simp
          refine hK _ _ ?_
          clear hK K
          refine wpAnyIn_ready (rs := [0, 2]) (by kernel_rfl) (by simp) ?_
          refine AllReadyIn.cons rfl (fun K hK => ?_) ?_
          · go_simp
            refine hK _ _ ?_
            clear hK K
            refine wpAnyIn_ready (rs := [2]) (by kernel_rfl) (by simp) ?_
            refine AllReadyIn.cons rfl (fun K hK => ?_) ?_
            · go_simp
              refine hK _ _ ?_
              clear hK K
              exact stA
            exact AllReadyIn.nil
          refine AllReadyIn.cons rfl (fun K hK => ?_) ?_
          · go_simp
            refine hK _ _ ?_
            clear hK K
            exact stB
          exact AllReadyIn.nil
        refine AllReadyIn.cons rfl (fun K hK => ?_) ?_
        · go_simp
          refine hK _ _ ?_
          clear hK K
          refine wpAnyIn_ready (rs := [0, 1]) (by kernel_rfl) (by simp) ?_
          refine AllReadyIn.cons rfl (fun K hK => ?_) ?_
          · go_simp
            refine hK _ _ ?_
            clear hK K
            refine wpAnyIn_ready (rs := [1]) (by kernel_rfl) (by simp) ?_
            refine AllReadyIn.cons rfl (fun K hK => ?_) ?_
            · go_simp
              refine hK _ _ ?_
              clear hK K
              exact stA
            exact AllReadyIn.nil
          refine AllReadyIn.cons rfl (fun K hK => ?_) ?_
          · go_simp
            refine hK _ _ ?_
            clear hK K
            exact stB
          exact AllReadyIn.nil
        exact AllReadyIn.nil
      exact AllReadyIn.nil
    · gi_wp2
      exact ⟨((KeepsOthers.setCell _ _ _).trans (KeepsOthers.setCell _ _ _)).from _, rfl, pre, y, rfl, hy, (c1.set _).other (by omega) _, (c2.other (by omega) _).set _,
        (hb.setCell (p := ⟨w.heap.size + 1 + 1, 0, none⟩) (by simp; omega) _).setCell (p := ⟨w.heap.size + 1 + 1 + 1, 0, none⟩) (by simp; omega) _⟩
  case done =>
    rintro D ys W hD rfl ⟨p1, p2, c1, c2, ⟨v, c3, ho, a3, l3, k3, rfl⟩, hz, hb⟩ hK
    have d1 := c1.cell
    have d2 := c2.cell
    have d3 := c3.cell
    have f1 := c1.frozen
    have f2 := c2.frozen
    obtain ⟨e1, e2⟩ := items_ok zs 0 hz
    have He := Lib.hid (And.intro e1 e2)
    have Ho := Lib.hid ho
    clear e1 e2 ho hz
    gi_wp2
    have g1 : Boxed ((W.setCell ⟨w.heap.size + 1 + 1, 0, none⟩ (.slice a3 l3 k3)).setCell ⟨w.heap.size + 1 + 1 + 1, 0, none⟩ (.int .i64 0)) (w.heap.size + 1 + 1) 56 (.slice a3 l3 k3) := (c1.set _).other (by omega) _
    have g2 : Boxed ((W.setCell ⟨w.heap.size + 1 + 1, 0, none⟩ (.slice a3 l3 k3)).setCell ⟨w.heap.size + 1 + 1 + 1, 0, none⟩ (.int .i64 0)) (w.heap.size + 1 + 1 + 1) 36 (.int .i64 0) := (c2.other (by omega) _).set _
    have g3 : ((W.setCell ⟨w.heap.size + 1 + 1, 0, none⟩ (.slice a3 l3 k3)).setCell ⟨w.heap.size + 1 + 1 + 1, 0, none⟩ (.int .i64 0)).ownsRow (w.heap.size + 6) 24 1 (.slice a3 l3 k3) (items 0 zs).length (wcl ((items 0 zs).map fun y => gtI y.1 y.2.1 x)) :=
      owns_set (owns_set Ho.out c1 (by decide) _) (c2.other (by omega) _) (by decide) _
    have g4 : Below w.heap.size w ((W.setCell ⟨w.heap.size + 1 + 1, 0, none⟩ (.slice a3 l3 k3)).setCell ⟨w.heap.size + 1 + 1 + 1, 0, none⟩ (.int .i64 0)) :=
      (hb.setCell (p := ⟨w.heap.size + 1 + 1, 0, none⟩) (by simp; omega) _).setCell (p := ⟨w.heap.size + 1 + 1 + 1, 0, none⟩) (by simp; omega) _
    have hK' := ((KeepsOthers.setCell W ⟨w.heap.size + 1 + 1, 0, none⟩ (.slice a3 l3 k3)).trans (KeepsOthers.setCell _ ⟨w.heap.size + 1 + 1 + 1, 0, none⟩ (.int .i64 0))).same D _ hK rfl
    generalize (W.setCell ⟨w.heap.size + 1 + 1, 0, none⟩ (.slice a3 l3 k3)).setCell ⟨w.heap.size + 1 + 1 + 1, 0, none⟩ (.int .i64 0) = W5 at *
    refine ⟨by simp, .inl ⟨_, _, rfl, run_takeDeferred hK', ?_⟩⟩
    have k1 := (box_keep g1 (grownBy_putObj' _ D (.deferred none)) (fun r e => by cases e; exact ⟨_, hK', rfl⟩)).cell
    have k2 := (box_keep g2 (grownBy_putObj' _ D (.deferred none)) (fun r e => by cases e; exact ⟨_, hK', rfl⟩)).cell
    have k3' := owns_mono (ownsRow_putObj g3 (.deferred none) hK' rfl) (Nat.le_add_right _ 6)
    have hm : (items 0 zs).map (fun y => gtI y.1 y.2.1 x) = (rowF 0 zs).map fun y => gtI y.1 y.2 x := by rw [← He.out.2]; simp
    rw [hm, show (items 0 zs).length = (rowF 0 zs).length by rw [← He.out.2]; simp] at k3'
    refine ⟨.tuple #[.slice a3 l3 k3, .int .i64 0], ?_, _, by rw [He.out.1], g4.trans (belowK_b (w := w) (Nat.le_refl _) _ D _ _ (by omega) hK' rfl rfl), fun h => absurd He.out.1 h, fun _ => k3'⟩
    exact res37 _ _ _ _ _ rfl rfl k1 k2
  case stop =>
    rintro D c pre W hD hpre ⟨rfl, p, x, rfl, hx, c1, c2, hb⟩ hK
    have he := items_bad zs 0 p x hpre hx
    have He := Lib.hid he
    have Hx := Lib.hid hx
    clear he hx
    have d1 := c1.cell
    have d2 := c2.cell
    gi_wp2
    refine ⟨by simp, .inl ⟨_, _, rfl, run_takeDeferred hK, ?_⟩⟩
    have k1 := (box_keep c1 (grownBy_putObj' _ D (.deferred none)) (fun r e => by cases e; exact ⟨_, hK, rfl⟩)).cell
    have k2 := (box_keep c2 (grownBy_putObj' _ D (.deferred none)) (fun r e => by cases e; exact ⟨_, hK, rfl⟩)).cell
    refine ⟨.tuple #[.slice none 0 0, .int .i64 x.2.2], ?_, _, by rw [He.out], hb.trans (belowK_b (w := w) (Nat.le_refl _) _ D _ _ (by omega) hK rfl rfl), fun _ => rfl, fun h => absurd (He.out.symm.trans h) Hx.out⟩
    exact res37 _ _ _ _ _ rfl rfl k1 k2

end Go.Proofs.Ytknhbpifkpcpnaa
