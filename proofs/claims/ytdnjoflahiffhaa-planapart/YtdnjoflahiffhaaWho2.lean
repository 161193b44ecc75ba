/- plan's Whose: its contract. -/
import Derived.Test.YtdnjoflahiffhaaWho
namespace Go.Proofs.Ytdnjoflahiffhaa
open Go.RowKit Go.Shelf

attribute [local go_sem] Oper.semAt_some

theorem box_keep {X Y : World} {row : Option Nat} {B : Nat} {t : TypeId} {v : Value} (h : Boxed X B t v) (hg : X.grownBy Y row) (hr : ∀ r, row = some r → ∃ o : Obj, X.heap[r]? = some o ∧ o.isCells = false) : Boxed Y B t v :=
  boxed_own B t (fun (_ : Unit) => v) () X Y row h hg hr
theorem cells_keep {X Y : World} {row : Option Nat} {B : Nat} {t : TypeId} {c : Array Value} (h : X.heap[B]? = some (.cells c t)) (hg : X.grownBy Y row) (hr : ∀ r, row = some r → ∃ o : Obj, X.heap[r]? = some o ∧ o.isCells = false) : Y.heap[B]? = some (.cells c t) :=
  (hg.block B (Array.getElem?_eq_some_iff.1 h).1 (fun e => by obtain ⟨o, ho, hc⟩ := hr B e.symm; rw [h] at ho; cases ho; cases hc)).trans h

/-- Between two rounds of Whose. -/
def WI (w : World) (p : Int) (pre : List It) (W : World) : Prop :=
  Boxed W (w.heap.size + 1) 3 (.int .i64 p) ∧ Boxed W (w.heap.size + 1 + 1) 3 (.int .i64 0) ∧ (∀ y ∈ pre, hasW y p = false) ∧ Below w.heap.size w W
/-- A round has returned. -/
def WX (w : World) (p : Int) (c : Code) (pre : List It) (W : World) : Prop :=
  c = .ret ∧ ∃ q x, pre = q ++ [x] ∧ (∀ y ∈ q, hasW y p = false) ∧ hasW x p = true ∧ Boxed W (w.heap.size + 1 + 1) 3 (.int .i64 x.2.2) ∧ Below w.heap.size w W
theorem WI.own (w : World) (p : Int) (B : Nat) (hB : w.heap.size ≤ B) : OwnFrom B (WI w p) := by
  rintro pre X Y row ⟨b1, b2, hz, hb⟩ hg hr
  have hr' := fun r e => (hr r e).2
  exact ⟨box_keep b1 hg hr', box_keep b2 hg hr', hz, hb.grown hg hb.size (fun k e => Nat.le_trans hB (hr k e).1)⟩
theorem WX.own (w : World) (p : Int) (B : Nat) (hB : w.heap.size ≤ B) (c : Code) : OwnFrom B (WX w p c) := by
  rintro pre X Y row ⟨hc, q, x, hp, hq, hx, b2, hb⟩ hg hr
  have hr' := fun r e => (hr r e).2
  exact ⟨hc, q, x, hp, hq, hx, box_keep b2 hg hr', hb.grown hg hb.size (fun k e => Nat.le_trans hB (hr k e).1)⟩
theorem res18 (tmps : Array Value) (W : World) (s : Nat) (v : Value) (h2 : tmps.getD 4 undef = .pointer (some ⟨s, 0, none⟩)) (c2 : W.cell? ⟨s, 0, none⟩ = some v) : (results Try.f18 tmps).run Try.prog W = .ok v W := by
  have h2' : tmps[4]?.getD undef = .pointer (some ⟨s, 0, none⟩) := by simpa using h2
  simp [results, h2', go_sem, c2]
theorem keeps_below {W W' : World} (h : Below W.heap.size W W') : KeepsOthers W W' := ⟨h.size, fun k o hk _ => (h.block k (Array.getElem?_eq_some_iff.1 hk).1).trans hk⟩
/-- Numbers of stretches that may be. -/
def okI (x : It) : Prop := 0 ≤ x.1 ∧ x.1 ≤ 10000000 ∧ 0 ≤ x.2.1 ∧ x.2.1 ≤ 10000000

set_option maxRecDepth 100000 in
set_option maxHeartbeats 4000000 in
theorem whose_any (rg lg ln z p : Int) (aa : Option Addr) (ca : Nat) (ss : List Sp) (hl80 : ss.length ≤ 80) (hss : ∀ s ∈ ss, 0 ≤ s.2.2.2.1 * s.2.2.2.2 ∧ s.2.2.2.1 * s.2.2.2.2 ≤ 100000) (hok : ∀ x ∈ thg rg lg ln ss, okI x) (w : World) (hS : Sps w.heap.size w aa ss) :
    Calls Try.prog 18 #[plv rg lg ln (.slice aa ss.length ca) z, .int .i64 p] w (Ret (.int .i64 (who (thg rg lg ln ss) p)) w) := by
  refine (callsIn_wide (n := 4)).1 ?_
  refine callsIn_of_wp_marks Try.func18 rfl trivial ?_ rfl
  simp only [Try.ntmps18, List.size_toArray, List.length_cons, List.length_nil, Nat.reduceAdd, Nat.reduceSub, Array.replicate_succ, Array.replicate_zero, List.push_toArray, List.append_toArray, List.nil_append, List.cons_append]
  gi_wp2_with (refine ⟨trivial, ?_⟩; gi_at_call 25; refine (things_in Fence.wide _ trivial rfl _ _ _ _ _ _ _ _).mono ?_; rintro e w' ⟨rfl, rfl⟩)
  have b1 := ((Boxed.new (w.alloc (.cells #[.int .i64 rg, .int .i64 lg, .int .i64 ln, .slice aa ss.length ca, .int .i64 z] 29)) 3 (.int .i64 p)).alloc (.cells #[.int .i64 0] 3)).alloc (.cells #[.int .i64 rg, .int .i64 lg, .int .i64 ln, .slice aa ss.length ca, .int .i64 z] 29)
  have b2 := (Boxed.new ((w.alloc (.cells #[.int .i64 rg, .int .i64 lg, .int .i64 ln, .slice aa ss.length ca, .int .i64 z] 29)).alloc (.cells #[.int .i64 p] 3)) 3 (.int .i64 0)).alloc (.cells #[.int .i64 rg, .int .i64 lg, .int .i64 ln, .slice aa ss.length ca, .int .i64 z] 29)
  have b4 := Blk.new (((w.alloc (.cells #[.int .i64 rg, .int .i64 lg, .int .i64 ln, .slice aa ss.length ca, .int .i64 z] 29)).alloc (.cells #[.int .i64 p] 3)).alloc (.cells #[.int .i64 0] 3)) #[.int .i64 rg, .int .i64 lg, .int .i64 ln, .slice aa ss.length ca, .int .i64 z] 29
  have hB0 := ((((Below.refl w.heap.size w).alloc (Nat.le_refl _) (.cells #[.int .i64 rg, .int .i64 lg, .int .i64 ln, .slice aa ss.length ca, .int .i64 z] 29)).alloc (by simp) (.cells #[.int .i64 p] 3)).alloc (by simp; omega) (.cells #[.int .i64 0] 3)).alloc (by simp; omega) (.cells #[.int .i64 rg, .int .i64 lg, .int .i64 ln, .slice aa ss.length ca, .int .i64 z] 29)
  have hsz : ((((w.alloc (.cells #[.int .i64 rg, .int .i64 lg, .int .i64 ln, .slice aa ss.length ca, .int .i64 z] 29)).alloc (.cells #[.int .i64 p] 3)).alloc (.cells #[.int .i64 0] 3)).alloc (.cells #[.int .i64 rg, .int .i64 lg, .int .i64 ln, .slice aa ss.length ca, .int .i64 z] 29)).heap.size = w.heap.size + 4 := by simp
  simp only [World.size_alloc] at b1 b2 b4
  obtain ⟨W0, hW0⟩ : ∃ W0, ((((w.alloc (.cells #[.int .i64 rg, .int .i64 lg, .int .i64 ln, .slice aa ss.length ca, .int .i64 z] 29)).alloc (.cells #[.int .i64 p] 3)).alloc (.cells #[.int .i64 0] 3)).alloc (.cells #[.int .i64 rg, .int .i64 lg, .int .i64 ln, .slice aa ss.length ca, .int .i64 z] 29)) = W0 := ⟨_, rfl⟩
  rw [hW0] at b1 b2 b4 hB0 hsz ⊢
  clear hW0
  have Hok := Lib.hid hok
  clear hok
  refine wpIn_rangeFunc_ownH rfl (by omega) (gf := 38) (lb := #[.pointer (some ⟨w.heap.size + 1 + 1 + 1, 0, none⟩)]) rfl trivial (enters_of Try.func38 (by kernel_rfl) rfl)
    (things_stops Fence.wide 3 trivial rfl (by omega) (w.heap.size + 1 + 1 + 1) w.heap.size ca rg lg ln z aa ss hl80 hss W0 b4 (by omega) (hS.below hB0)) KC.trans (fun W l o o' _ h ho _ => KC.put W l o o' h ho) (Below.refl _ _) (fun _ => rfl)
    (WI w p) (WX w p) (WI.own w p _ (by omega)) (WX.own w p _ (by omega))
    ⟨b1, b2, by simp, hB0⟩
    (fun x a' W => ∃ Bx, w.heap.size + 1 + 1 < Bx ∧ Bx < W.heap.size ∧ W.heap[Bx]? = some (.cells #[.int .i64 x.1, .int .i64 x.2.1] 72) ∧ a' = { tmps := #[plv rg lg ln (.slice aa ss.length ca) z, .int .i64 p, .pointer (some ⟨w.heap.size, 0, none⟩), .pointer (some ⟨w.heap.size + 1, 0, none⟩), .pointer (some ⟨w.heap.size + 1 + 1, 0, none⟩), .pointer (some ⟨Bx, 0, none⟩), .int .i64 x.2.2, plv rg lg ln (.slice aa ss.length ca) z, .func (.func 38) #[] #[.pointer (some ⟨w.heap.size + 1 + 1 + 1, 0, none⟩)], .agg #[.int .i64 x.1, .int .i64 x.2.1], .int .i64 x.2.2, undef, undef, undef, undef], defers := [] })
    (fun x a' _ X Y row hs hg hr => by obtain ⟨Bx, h1, h1', h2, h3⟩ := hs; exact ⟨Bx, h1, Nat.lt_of_lt_of_le h1' hg.size, cells_keep h2 hg (fun r e => (hr r e).2), h3⟩)
    ?assign ?body ?done ?stop
  case assign =>
    rintro l pre x W K ⟨c1, c2, hz, hb⟩ hK
    gi_wp2
    exact hK _ _ ((KeepsOthers.alloc _ _).from _) (KC.alloc _ _) ⟨c1.alloc _, c2.alloc _, hz, hb.alloc hb.size _⟩ ⟨W.heap.size, c2.lt, by simp, World.alloc_heap_new W _, rfl⟩
  case body =>
    rintro l pre x a' W hl ⟨r, hr⟩ ⟨c1, c2, hz, hb⟩ ⟨Bx, hBx, hBl, bX, rfl⟩ hlt
    have d1 := c1.cell
    have d2 := c2.cell
    have f2 := c2.frozen
    have dx0 : W.cell? ⟨Bx, 0, none⟩ = some (.int .i64 x.1) := by simp [World.cell?, bX]
    have dx1 : W.cell? ⟨Bx, 1, none⟩ = some (.int .i64 x.2.1) := by simp [World.cell?, bX]
    have Hz := Lib.hid hz
    clear hz
    gi_wp2_with (refine ⟨trivial, ?_⟩; gi_at_call 26; refine (CallsIn.inRound l (callsIn_wide.2 (has_any x p _))).mono ?_; rintro e w3 ⟨rfl, hb3⟩; have g2 : Boxed w3 (w.heap.size + 1 + 1) 3 (.int .i64 0) := (hb3.block _ c2.lt).trans c2; have g2c := g2.cell; have g2f := g2.frozen)
    · have hx : hasW x p = true := by assumption
      exact ⟨((keeps_below hb3).trans (KeepsOthers.setCell _ _ _)).from _, rfl, pre, x, rfl, Hz.out, hx, g2.set _, (hb.trans (hb3.mono hb.size)).setCell (p := ⟨w.heap.size + 1 + 1, 0, none⟩) (by show w.heap.size ≤ w.heap.size + 1 + 1; omega) _⟩
    · have hx : hasW x p = false := by assumption
      refine ⟨(keeps_below hb3).from _, KC.below hb3, (hb3.block _ c1.lt).trans c1, g2, fun y hy => ?_, hb.trans (hb3.mono hb.size)⟩
      rcases List.mem_append.1 hy with hy | hy
      · exact Hz.out y hy
      · rw [List.mem_singleton.1 hy]; exact hx
  case done =>
    rintro D ys W hD rfl ⟨c1, c2, hz, hb⟩ hK
    have d2 := c2.cell
    have f2 := c2.frozen
    have hw : who (thg rg lg ln ss) p = -3 := who_none _ _ (fun x hx => by
      have h := Hok.out x hx
      rw [← hasW_B h.1 h.2.1 h.2.2.1 h.2.2.2]
      exact hz x hx)
    have Hw := Lib.hid hw
    clear hw hz
    gi_wp2
    have g2 : Boxed (W.setCell ⟨w.heap.size + 1 + 1, 0, none⟩ (.int .i64 (-3))) (w.heap.size + 1 + 1) 3 (.int .i64 (-3)) := c2.set _
    have g4 : Below w.heap.size w (W.setCell ⟨w.heap.size + 1 + 1, 0, none⟩ (.int .i64 (-3))) := hb.setCell (p := ⟨w.heap.size + 1 + 1, 0, none⟩) (by show w.heap.size ≤ w.heap.size + 1 + 1; omega) _
    have hK' := (KeepsOthers.setCell W ⟨w.heap.size + 1 + 1, 0, none⟩ (.int .i64 (-3))).same D _ hK rfl
    generalize W.setCell ⟨w.heap.size + 1 + 1, 0, none⟩ (.int .i64 (-3)) = W5 at *
    refine ⟨by simp, .inl ⟨_, _, rfl, run_takeDeferred hK', ?_⟩⟩
    have k1 := (box_keep g2 (grownBy_putObj' _ D (.deferred none)) (fun r e => by cases e; exact ⟨_, hK', rfl⟩)).cell
    refine ⟨.int .i64 (-3), ?_, by rw [Hw.out], g4.trans (belowK_b (w := w) (Nat.le_refl _) _ D _ _ (by omega) hK' rfl rfl)⟩
    exact res18 _ _ _ _ rfl k1
  case stop =>
    rintro D c pre W hD hpre ⟨rfl, q, x, rfl, hq, hx, c2, hb⟩ hK
    have hin : ∀ y ∈ q ++ [x], okI y := fun y hy => Hok.out y (hpre.subset hy)
    have hw : who (thg rg lg ln ss) p = x.2.2 := by
      obtain ⟨t, ht⟩ := hpre
      rw [← ht, List.append_assoc]
      refine who_at q t x p (fun y hy => ?_) ?_
      · have h := hin y (List.mem_append_left _ hy)
        rw [← hasW_B h.1 h.2.1 h.2.2.1 h.2.2.2]
        exact hq y hy
      · have h := hin x (by simp)
        rw [← hasW_B h.1 h.2.1 h.2.2.1 h.2.2.2]
        exact hx
    rw [hw]
    clear hw hin hq hx
    gi_wp2
    refine ⟨by simp, .inl ⟨_, _, rfl, run_takeDeferred hK, ?_⟩⟩
    have k1 := (box_keep c2 (grownBy_putObj' _ D (.deferred none)) (fun r e => by cases e; exact ⟨_, hK, rfl⟩)).cell
    refine ⟨.int .i64 x.2.2, ?_, rfl, hb.trans (belowK_b (w := w) (Nat.le_refl _) _ D _ _ (by omega) hK rfl rfl)⟩
    exact res18 _ _ _ _ rfl k1
end Go.Proofs.Ytdnjoflahiffhaa
