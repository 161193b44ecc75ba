/- bits.Row: its contract. -/
import Derived.Test.YtknhbpifkpcpnaaIter
namespace Go.Proofs.Ytknhbpifkpcpnaa
open Go.RowKit Go.Shelf

attribute [local go_sem] Oper.semAt_some

/-- The error of lengths, and the fields of the right ones ahead of it. -/
def rowE (t : Int) : List Int → Int
  | [] => 0
  | n :: r => if n < 1 ∨ 64 < n then 10 else if 64 - t < n then 12 else rowE (t + n) r
def rowF (t : Int) : List Int → List (Int × Int)
  | [] => []
  | n :: r => if n < 1 ∨ 64 < n then [] else if 64 - t < n then [] else (t, n) :: rowF (t + n) r
/-- The cells of fields in a row. -/
def fcl (l : List (Int × Int)) : List Value := l.flatMap fun x => fcells x.1 x.2
theorem fcl_len : ∀ l : List (Int × Int), (fcl l).length = l.length * 2
  | [] => rfl
  | x :: r => by
    have := fcl_len r
    simp [fcl] at this ⊢
    omega
theorem fcl_snoc (l : List (Int × Int)) (x : Int × Int) : fcl (l ++ [x]) = fcl l ++ fcells x.1 x.2 := by simp [fcl]

theorem items_ok : ∀ (zs : List Int) (t : Int), (∀ x ∈ items t zs, x.2.2 = 0) → rowE t zs = 0 ∧ (items t zs).map (fun x => (x.1, x.2.1)) = rowF t zs
  | [], _, _ => ⟨rfl, rfl⟩
  | n :: r, t, h => by
    unfold items at h ⊢
    unfold rowE rowF
    split at h
    · exact absurd (h _ List.mem_cons_self) (by decide)
    · rename_i h1
      split at h
      · exact absurd (h _ List.mem_cons_self) (by decide)
      · rename_i h2
        obtain ⟨e1, e2⟩ := items_ok r (t + n) (fun x hx => h x (List.mem_cons_of_mem _ hx))
        simp only [h1, h2, if_false]
        exact ⟨e1, by simp [e2]⟩
theorem items_bad : ∀ (zs : List Int) (t : Int) (p : List It) (x : It), (p ++ [x]) <+: items t zs → x.2.2 ≠ 0 → rowE t zs = x.2.2
  | [], _, p, x, h, _ => by
    simp [items] at h
  | n :: r, t, p, x, h, hx => by
    unfold items at h
    unfold rowE
    split at h
    · rename_i h1
      simp only [h1, if_true]
      cases p with
      | nil =>
        simp [List.cons_prefix_cons] at h
        rw [h]
      | cons y p' =>
        simp [List.cons_prefix_cons] at h
    · rename_i h1
      split at h
      · rename_i h2
        simp only [h1, h2, if_true, if_false]
        cases p with
        | nil =>
          simp [List.cons_prefix_cons] at h
          rw [h]
        | cons y p' =>
          simp [List.cons_prefix_cons] at h
      · rename_i h2
        simp only [h1, h2, if_false]
        cases p with
        | nil =>
          simp [List.cons_prefix_cons] at h
          rw [h] at hx
          exact absurd rfl hx
        | cons y p' =>
          simp only [List.cons_append, List.cons_prefix_cons] at h
          exact items_bad r (t + n) p' x h.2 hx

theorem info23 : (Try.prog.info? 23).map (fun i => (i.zero, i.size, i.bytes)) = some (some (.agg #[.int .i64 0, .int .i64 0]), 2, 16) := by kernel_rfl

/-- What Row leaves. -/
def RowPost (zs : List Int) (w : World) (e : Ending) (W' : World) : Prop :=
  ∃ v, e = .returned (.tuple #[v, .int .i64 (rowE 0 zs)]) ∧ Below w.heap.size w W' ∧ (rowE 0 zs ≠ 0 → v = .slice none 0 0) ∧
    (rowE 0 zs = 0 → W'.ownsRow w.heap.size 23 2 v (rowF 0 zs).length (fcl (rowF 0 zs)))

theorem box_keep {X Y : World} {row : Option Nat} {B : Nat} {t : TypeId} {v : Value} (h : Boxed X B t v) (hg : X.grownBy Y row) (hr : ∀ r, row = some r → ∃ o : Obj, X.heap[r]? = some o ∧ o.isCells = false) : Boxed Y B t v :=
  boxed_own B t (fun (_ : Unit) => v) () X Y row h hg hr
/-- A block of cells is kept where only blocks that are no cells turn. -/
theorem cells_keep {X Y : World} {row : Option Nat} {B : Nat} {t : TypeId} {c : Array Value} (h : X.heap[B]? = some (.cells c t)) (hg : X.grownBy Y row) (hr : ∀ r, row = some r → ∃ o : Obj, X.heap[r]? = some o ∧ o.isCells = false) : Y.heap[B]? = some (.cells c t) :=
  (hg.block B (Array.getElem?_eq_some_iff.1 h).1 (fun e => by obtain ⟨o, ho, hc⟩ := hr B e.symm; rw [h] at ho; cases ho; cases hc)).trans h
theorem owns_keep {X Y : World} {row : Option Nat} {base : Nat} {e : TypeId} {size : Nat} {v : Value} {k : Nat} {xs : List Value} (h : X.ownsRow base e size v k xs) (hg : X.grownBy Y row) (hr : ∀ r, row = some r → ∃ o : Obj, X.heap[r]? = some o ∧ o.isCells = false) : Y.ownsRow base e size v k xs := by
  refine h.kept hg ?_
  rcases h.2 with ⟨rfl, _⟩ | ⟨g, cap, cur, rfl, _, hgb, _⟩
  · exact .inl rfl
  · refine .inr fun e' => ?_
    obtain ⟨o, ho, hc⟩ := hr g (by simpa [Value.ownBlock] using e'.symm)
    rw [hgb] at ho; cases ho; cases hc
theorem owns_set {W : World} {B : Nat} {t e : TypeId} {base size k : Nat} {u v : Value} {xs : List Value} (h : W.ownsRow base e size v k xs) (b : Boxed W B t u) (hte : t ≠ e) (u' : Value) : (W.setCell ⟨B, 0, none⟩ u').ownsRow base e size v k xs :=
  h.kept (grownBy_setCell' W B u') (.inr (b.not_row hte h).symm)
theorem cell_two_new (w : World) (x y : Value) (t : TypeId) : ∀ j u, [x, y][j]? = some u → (w.alloc (.cells #[x, y] t)).cell? ((⟨w.heap.size, 0, none⟩ : Addr).add j) = some u := by
  intro j u hj
  match j, hj with
  | 0, hj => simp at hj; subst hj; simp [Addr.add]
  | 1, hj => simp at hj; subst hj; simp [Addr.add]
  | j + 2, hj => simp at hj

theorem res26 (tmps : Array Value) (W : World) (s : Nat) (v : Value) (e : Int) (h2 : tmps.getD 2 undef = .pointer (some ⟨s, 0, none⟩)) (h3 : tmps.getD 3 undef = .pointer (some ⟨s + 1, 0, none⟩))
    (c2 : W.cell? ⟨s, 0, none⟩ = some v) (c3 : W.cell? ⟨s + 1, 0, none⟩ = some (.int .i64 e)) : (results Try.f26 tmps).run Try.prog W = .ok (.tuple #[v, .int .i64 e]) W := by
  have h2' : tmps[2]?.getD undef = .pointer (some ⟨s, 0, none⟩) := by simpa using h2
  have h3' : tmps[3]?.getD undef = .pointer (some ⟨s + 1, 0, none⟩) := by simpa using h3
  simp [results, h2', h3', go_sem, c2, c3]

/-- Between two rounds of Row. -/
def RI (w : World) (pre : List It) (W : World) : Prop :=
  Boxed W w.heap.size 50 (.slice none 0 0) ∧ Boxed W (w.heap.size + 1) 36 (.int .i64 0) ∧
  (∃ v, Boxed W (w.heap.size + 1 + 1) 50 v ∧ W.ownsRow w.heap.size 23 2 v pre.length (fcl (pre.map fun x => (x.1, x.2.1))) ∧ ∃ a l c, v = .slice a l c) ∧ (∀ x ∈ pre, x.2.2 = 0) ∧ Below w.heap.size w W
/-- A round of Row has returned. -/
def RX (w : World) (c : Code) (pre : List It) (W : World) : Prop :=
  c = .ret ∧ ∃ p x, pre = p ++ [x] ∧ x.2.2 ≠ 0 ∧ Boxed W w.heap.size 50 (.slice none 0 0) ∧ Boxed W (w.heap.size + 1) 36 (.int .i64 x.2.2) ∧ Below w.heap.size w W

theorem RI.own (w : World) (B : Nat) (hB : w.heap.size ≤ B) : OwnFrom B (RI w) := by
  rintro pre X Y row ⟨b1, b2, ⟨v, b3, ho, hv⟩, hz, hb⟩ hg hr
  have hr' := fun r e => (hr r e).2
  exact ⟨box_keep b1 hg hr', box_keep b2 hg hr', ⟨v, box_keep b3 hg hr', owns_keep ho hg hr', hv⟩, hz, hb.grown hg hb.size (fun k e => Nat.le_trans hB (hr k e).1)⟩
theorem RX.own (w : World) (B : Nat) (hB : w.heap.size ≤ B) (c : Code) : OwnFrom B (RX w c) := by
  rintro pre X Y row ⟨hc, p, x, hp, hx, b1, b2, hb⟩ hg hr
  have hr' := fun r e => (hr r e).2
  exact ⟨hc, p, x, hp, hx, box_keep b1 hg hr', box_keep b2 hg hr', hb.grown hg hb.size (fun k e => Nat.le_trans hB (hr k e).1)⟩

set_option maxRecDepth 100000 in
set_option maxHeartbeats 2000000 in
theorem row_in (F : Fence) (n : Nat) (h26 : F.fn 26) (h36 : F.fn 36) (h38 : F.fn 38) (hro : F.round = none) (hn : 3 ≤ n) (a : Option Addr) (len cap : Nat) (zs : List Int) (hlen : len = zs.length) (hl80 : zs.length ≤ 80) (w : World) (hI : Ints w.heap.size w a zs) :
    CallsIn F n Try.prog 26 #[.slice a len cap] w (RowPost zs w) := by
  have h1 : 1 ≤ n := by omega
  obtain ⟨i0, hi, hz0, hz1, hz2⟩ := info_parts info23
  subst hlen
  refine callsIn_of_wp_marks Try.func26 rfl h26 ?_ hro
  simp only [Try.ntmps26, List.size_toArray, List.length_cons, List.length_nil, Nat.reduceAdd, Nat.reduceSub, Array.replicate_succ, Array.replicate_zero, List.push_toArray, List.append_toArray, List.nil_append, List.cons_append]
  gi_wp2_with (gi_at_call 36; refine (fields_in F (n - 1) h36 hro _ _ _ _).mono ?_; rintro e w' ⟨rfl, rfl⟩)
  have b1 := (((Boxed.new w 50 (.slice none 0 0)).alloc (.cells #[.int .i64 0] 36)).alloc (.cells #[.slice none 0 0] 50)).alloc (.cells #[.slice a zs.length cap] 48)
  have b2 := ((Boxed.new (w.alloc (.cells #[.slice none 0 0] 50)) 36 (.int .i64 0)).alloc (.cells #[.slice none 0 0] 50)).alloc (.cells #[.slice a zs.length cap] 48)
  have b3 := (Boxed.new ((w.alloc (.cells #[.slice none 0 0] 50)).alloc (.cells #[.int .i64 0] 36)) 50 (.slice none 0 0)).alloc (.cells #[.slice a zs.length cap] 48)
  have b4 := Boxed.new (((w.alloc (.cells #[.slice none 0 0] 50)).alloc (.cells #[.int .i64 0] 36)).alloc (.cells #[.slice none 0 0] 50)) 48 (.slice a zs.length cap)
  simp only [World.size_alloc] at b2 b3 b4
  have hB0 : Below w.heap.size w ((((w.alloc (.cells #[.slice none 0 0] 50)).alloc (.cells #[.int .i64 0] 36)).alloc (.cells #[.slice none 0 0] 50)).alloc (.cells #[.slice a zs.length cap] 48)) := ((((Below.refl _ w).alloc (Nat.le_refl _) _).alloc (by simp) _).alloc (by simp; omega) _).alloc (by simp; omega) _
  have hsz : ((((w.alloc (.cells #[.slice none 0 0] 50)).alloc (.cells #[.int .i64 0] 36)).alloc (.cells #[.slice none 0 0] 50)).alloc (.cells #[.slice a zs.length cap] 48)).heap.size = w.heap.size + 4 := by simp
  obtain ⟨W0, hW0⟩ : ∃ W0, (((w.alloc (.cells #[.slice none 0 0] 50)).alloc (.cells #[.int .i64 0] 36)).alloc (.cells #[.slice none 0 0] 50)).alloc (.cells #[.slice a zs.length cap] 48) = W0 := ⟨_, rfl⟩
  rw [hW0] at b1 b2 b3 b4 hB0 hsz ⊢
  clear hW0
  refine wpIn_rangeFunc_ownH hro h1 (gf := 38) (lb := #[.pointer (some ⟨w.heap.size + 1 + 1 + 1, 0, none⟩)]) rfl h38 (enters_of Try.func38 (by kernel_rfl) rfl)
    (fields_stops F (n - 1) h38 hro (by omega) (w.heap.size + 1 + 1 + 1) w.heap.size zs.length cap a zs rfl hl80 W0 (by omega) (by omega) b4.cell (hI.below hB0)) belowK_t (belowK_b (by omega)) (Below.refl _ _) (fun _ => rfl)
    (RI w) (RX w) (RI.own w _ (by omega)) (RX.own w _ (by omega))
    ⟨b1, b2, ⟨_, b3, World.ownsRow_nil _ _ _ _, _, _, _, rfl⟩, by simp, hB0⟩
    (fun x a' W => ∃ Bx, w.heap.size + 1 + 1 < Bx ∧ W.heap[Bx]? = some (.cells #[.int .i64 x.1, .int .i64 x.2.1] 23) ∧ a' = { tmps := #[.slice a zs.length cap, undef, .pointer (some ⟨w.heap.size, 0, none⟩), .pointer (some ⟨w.heap.size + 1, 0, none⟩), .pointer (some ⟨w.heap.size + 1 + 1, 0, none⟩), .pointer (some ⟨Bx, 0, none⟩), .int .i64 x.2.2, .slice a zs.length cap, .func (.func 38) #[] #[.pointer (some ⟨w.heap.size + 1 + 1 + 1, 0, none⟩)], fld x.1 x.2.1, .int .i64 x.2.2, undef, undef, undef, undef, undef, undef, undef, undef], defers := [] })
    (fun x a' _ X Y row hs hg hr => by obtain ⟨Bx, h1, h2, h3⟩ := hs; exact ⟨Bx, h1, cells_keep h2 hg (fun r e => (hr r e).2), h3⟩)
    ?assign ?body ?done ?stop
  case assign =>
    rintro l pre x W K ⟨c1, c2, ⟨v, c3, ho, hv⟩, hz, hb⟩ hK
    gi_wp2
    exact hK _ _ ((KeepsOthers.alloc _ _).from _) ((Below.refl _ W).alloc hb.size _) ⟨c1.alloc _, c2.alloc _, ⟨v, c3.alloc _, ho.alloc _, hv⟩, hz, hb.alloc hb.size _⟩ ⟨W.heap.size, c3.lt, World.alloc_heap_new W _, rfl⟩
  case body =>
    rintro l pre x a' W hl ⟨r, hr⟩ ⟨c1, c2, ⟨v, c3, ho, a3, l3, k3, rfl⟩, hz, hb⟩ ⟨Bx, hBx, bX, rfl⟩ hlt
    have d1 := c1.cell
    have d2 := c2.cell
    have d3 := c3.cell
    have f1 := c1.frozen
    have f2 := c2.frozen
    have f3 := c3.frozen
    have dx0 : W.cell? ⟨Bx, 0, none⟩ = some (.int .i64 x.1) := by simp [World.cell?, bX]
    have dx1 : W.cell? ⟨Bx, 1, none⟩ = some (.int .i64 x.2.1) := by simp [World.cell?, bX]
    have Ho := Lib.hid ho
    have Hz := Lib.hid hz
    clear ho hz
    have h1' : 1 ≤ n - 1 - 1 := by omega
    have hs := hb.size
    have hml : pre.length + 1 ≤ maxLen := by
      have : 100 ≤ maxLen := by decide
      omega
    gi_wp2_with (gi_at_builtin; refine wpListIn_append_own _ rfl _ _ 50 rfl w.heap.size 23 i0 (.agg #[.int .i64 0, .int .i64 0]) 2 16 Try.underlying50 hi hz0 hz1 hz2 rfl (by decide) _ _ _ rfl (Ho.out.alloc _) ⟨W.heap.size, 0, none⟩ 1 1 (fcells x.1 x.2.1) rfl rfl (cell_two_new _ _ _ _) (by simp [Value.oneCell']) hml (by omega) (by simp; omega) ?_; intro v' w1 hown' hgrow _; obtain ⟨g', cap', rfl⟩ := ownsRow_succ hown'; obtain ⟨hv1, hv2, hr2, hk2, hb2⟩ := c3.appended (by decide) Ho.out hb.size (by omega) hown' hgrow; have hc1 := hv1.cell; have hf1 := hv1.frozen)
    · have hx : x.2.2 ≠ 0 := by
        have h : (x.2.2 != 0) = true := by assumption
        simpa using h
      exact ⟨((KeepsOthers.setCell _ _ _).trans (KeepsOthers.setCell _ _ _)).from _, rfl, pre, x, rfl, hx, (c1.set _).other (by omega) _, (c2.other (by omega) _).set _,
        (hb.setCell (p := ⟨w.heap.size, 0, none⟩) (by simp) _).setCell (p := ⟨w.heap.size + 1, 0, none⟩) (by simp) _⟩
    · have hx : x.2.2 = 0 := by
        have h : (x.2.2 != 0) = false := by assumption
        simpa using h
      have e1 : Boxed w1 w.heap.size 50 (.slice none 0 0) := (c1.alloc _).kept hgrow (c1.not_row (by decide) Ho.out)
      have e2 : Boxed w1 (w.heap.size + 1) 36 (.int .i64 0) := (c2.alloc _).kept hgrow (c2.not_row (by decide) Ho.out)
      refine ⟨hk2.from _, hb2, e1.other (by omega) _, e2.other (by omega) _, ⟨_, hv2, ?_, _, _, _, rfl⟩, fun y hy => ?_, hb.trans hb2⟩
      · rw [List.map_append, List.length_append]
        simp only [List.map_cons, List.map_nil, List.length_cons, List.length_nil]
        rw [fcl_snoc]
        exact hr2
      · rcases List.mem_append.1 hy with hy | hy
        · exact Hz.out y hy
        · rw [List.mem_singleton.1 hy]; exact hx
  case done =>
    rintro D ys W hD rfl ⟨c1, c2, ⟨v, c3, ho, a3, l3, k3, rfl⟩, hz, hb⟩ hK
    have d1 := c1.cell
    have d2 := c2.cell
    have d3 := c3.cell
    have f1 := c1.frozen
    have f2 := c2.frozen
    obtain ⟨e1, e2⟩ := items_ok zs 0 hz
    have He := Lib.hid (And.intro e1 e2)
    have Ho := Lib.hid ho
    clear e1 e2 ho hz
    gi_wp2
    have g1 : Boxed ((W.setCell ⟨w.heap.size, 0, none⟩ (.slice a3 l3 k3)).setCell ⟨w.heap.size + 1, 0, none⟩ (.int .i64 0)) w.heap.size 50 (.slice a3 l3 k3) := (c1.set _).other (by omega) _
    have g2 : Boxed ((W.setCell ⟨w.heap.size, 0, none⟩ (.slice a3 l3 k3)).setCell ⟨w.heap.size + 1, 0, none⟩ (.int .i64 0)) (w.heap.size + 1) 36 (.int .i64 0) := (c2.other (by omega) _).set _
    have g3 : ((W.setCell ⟨w.heap.size, 0, none⟩ (.slice a3 l3 k3)).setCell ⟨w.heap.size + 1, 0, none⟩ (.int .i64 0)).ownsRow w.heap.size 23 2 (.slice a3 l3 k3) (items 0 zs).length (fcl ((items 0 zs).map fun x => (x.1, x.2.1))) :=
      owns_set (owns_set Ho.out c1 (by decide) _) (c2.other (by omega) _) (by decide) _
    have g4 : Below w.heap.size w ((W.setCell ⟨w.heap.size, 0, none⟩ (.slice a3 l3 k3)).setCell ⟨w.heap.size + 1, 0, none⟩ (.int .i64 0)) :=
      (hb.setCell (p := ⟨w.heap.size, 0, none⟩) (by simp) _).setCell (p := ⟨w.heap.size + 1, 0, none⟩) (by simp) _
    have hK' := ((KeepsOthers.setCell W ⟨w.heap.size, 0, none⟩ (.slice a3 l3 k3)).trans (KeepsOthers.setCell _ ⟨w.heap.size + 1, 0, none⟩ (.int .i64 0))).same D _ hK rfl
    generalize (W.setCell ⟨w.heap.size, 0, none⟩ (.slice a3 l3 k3)).setCell ⟨w.heap.size + 1, 0, none⟩ (.int .i64 0) = W5 at *
    refine ⟨by simp, .inl ⟨_, _, rfl, run_takeDeferred hK', ?_⟩⟩
    have k1 := (box_keep g1 (grownBy_putObj' _ D (.deferred none)) (fun r e => by cases e; exact ⟨_, hK', rfl⟩)).cell
    have k2 := (box_keep g2 (grownBy_putObj' _ D (.deferred none)) (fun r e => by cases e; exact ⟨_, hK', rfl⟩)).cell
    have k3' := ownsRow_putObj g3 (.deferred none) hK' rfl
    rw [He.out.2, show (items 0 zs).length = (rowF 0 zs).length by rw [← He.out.2]; simp] at k3'
    refine ⟨.tuple #[.slice a3 l3 k3, .int .i64 0], ?_, _, by rw [He.out.1], g4.trans (belowK_b (w := w) (Nat.le_refl _) _ D _ _ (by omega) hK' rfl rfl), fun h => absurd He.out.1 h, fun _ => k3'⟩
    exact res26 _ _ _ _ _ rfl rfl k1 k2
  case stop =>
    rintro D c pre W hD hpre ⟨rfl, p, x, rfl, hx, c1, c2, hb⟩ hK
    have he := items_bad zs 0 p x hpre hx
    have He := Lib.hid he
    have Hx := Lib.hid hx
    clear he hx
    have d1 := c1.cell
    have d2 := c2.cell
    gi_wp2
    refine ⟨by simp, .inl ⟨_, _, rfl, run_takeDeferred hK, ?_⟩⟩
    have k1 := (box_keep c1 (grownBy_putObj' _ D (.deferred none)) (fun r e => by cases e; exact ⟨_, hK, rfl⟩)).cell
    have k2 := (box_keep c2 (grownBy_putObj' _ D (.deferred none)) (fun r e => by cases e; exact ⟨_, hK, rfl⟩)).cell
    refine ⟨.tuple #[.slice none 0 0, .int .i64 x.2.2], ?_, _, by rw [He.out], hb.trans (belowK_b (w := w) (Nat.le_refl _) _ D _ _ (by omega) hK rfl rfl), fun _ => rfl, fun h => absurd (He.out.symm.trans h) Hx.out⟩
    exact res26 _ _ _ _ _ rfl rfl k1 k2
end Go.Proofs.Ytknhbpifkpcpnaa
