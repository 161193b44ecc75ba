/- Stages of a snapshot's step; the closure that goes on to the next spot. -/
import Derived.Test.YtflgggfomhifeaaSnO
import Derived.Test.YtflgggfomhifeaaSml
import Derived.Test.YtflgggfomhifeaaFwd
import Derived.Deep.RegionHeld3
import Derived.BigQuiet
namespace Go.Proofs.Ytflgggfomhifeaa
open Go.RowKit

/-- Within a step: the snapshot, the bank, the cell that points to the snapshot; only theirs has turned. -/
structure Stg (w0 : World) (o gs g b bg m : Nat) (SS : List Sp) (xs : List Int) (x : NSt) (t : Int) (W : World) : Prop where
  n : NAt W o gs g SS x
  bk : Bk W b bg xs t
  bx : Blk W m [.pointer (some ⟨o, 0, none⟩)]
  up : Upd (OwnN o g b bg) w0 W
  ap : Apt o gs g b bg
  mm : m ≠ o ∧ m ≠ gs ∧ m ≠ g ∧ m ≠ b ∧ m ≠ bg
section
variable {w0 W W' : World} {o gs g b bg m : Nat} {SS : List Sp} {xs : List Int} {x : NSt} {t : Int}
theorem Stg.start {w : World} (h : NAt w o gs g SS x) (hB : Bk w b bg xs t) (ap : Apt o gs g b bg) (T : TypeId) : Stg w o gs g b bg w.heap.size SS xs x t (w.alloc (.cells #[.pointer (some ⟨o, 0, none⟩)] T)) :=
  ⟨h.alloc _, hB.alloc _, Blk.new w _ _, (Upd.refl _ w).alloc _, ap, by have := h.lto; omega, by have := h.lts; omega, by have := h.ltg; omega, by have := hB.ltb; omega, by have := hB.ltg; omega⟩
theorem Stg.put (h : Stg w0 o gs g b bg m SS xs x t W) (i : Nat) (v : Value) (y : NSt) (e : ∀ c, (ndc SS gs c g x).set i v = ndc SS gs c g y) (hr : ∀ (i : Nat) (v : Int), y.tl[i]? = some v → x.tl[i]? = some v) : Stg w0 o gs g b bg m SS xs y t (W.setCell ⟨o, i, none⟩ v) :=
  ⟨h.n.put i v y e hr, h.bk.setFar h.ap.1.symm h.ap.2.1.symm v, h.bx.setFar h.mm.1 v, h.up.setCell (.inl (.inl rfl)) v, h.ap, h.mm⟩
theorem Stg.drew (h : Stg w0 o gs g b bg m SS xs x t W) : Stg w0 o gs g b bg m SS xs x t W.drew := ⟨h.n.drew, h.bk.drew, h.bx.drew, h.up.drew, h.ap, h.mm⟩
theorem Stg.drewN (h : Stg w0 o gs g b bg m SS xs x t W) (n : Nat) : Stg w0 o gs g b bg m SS xs x t (W.drewN n) := ⟨h.n.drewN n, h.bk.drewN n, blkN h.bx n, h.up.drewN n, h.ap, h.mm⟩
theorem Stg.low (h : Stg w0 o gs g b bg m SS xs x t W) (u : Below W.heap.size W W') : Stg w0 o gs g b bg m SS xs x t W' :=
  ⟨h.n.below u, h.bk.below u, h.bx.low u, h.up.trans (Upd.of_below _ u), h.ap, h.mm⟩
theorem Stg.touch (h : Stg w0 o gs g b bg m SS xs x t W) {t' : Int} (hB : Bk W' b bg xs t') (u : Upd (Own b bg) W W') : Stg w0 o gs g b bg m SS xs x t' W' :=
  ⟨h.n.upd u (fun q => q.elim h.ap.1 h.ap.2.1) (fun q => q.elim h.ap.2.2.2.2.1 h.ap.2.2.2.2.2) (fun q => q.elim h.ap.2.2.1 h.ap.2.2.2.1), hB, h.bx.of_block (u.block m h.bx.lt (fun q => q.elim h.mm.2.2.2.1 h.mm.2.2.2.2)), h.up.trans (u.mono ownN_of), h.ap, h.mm⟩
theorem Stg.alloc (h : Stg w0 o gs g b bg m SS xs x t W) (c : Obj) : Stg w0 o gs g b bg m SS xs x t (W.alloc c) := h.low ((Below.refl _ W).alloc (Nat.le_refl _) c)
theorem Stg.app (h : Stg w0 o gs g b bg m SS xs x t W) (v : Int) (hi : x.tl.length < room SS) :
    Stg w0 o gs g b bg m SS xs { x with tl := x.tl ++ [v] } t ((W.setCell ⟨g, x.tl.length, none⟩ (.int .u64 v)).setCell ⟨o, 8, none⟩ (.slice (some ⟨g, 0, none⟩) (x.tl.length + 1) (room SS))) :=
  ⟨h.n.app v hi, (h.bk.setFar h.ap.2.2.1.symm h.ap.2.2.2.1.symm _).setFar h.ap.1.symm h.ap.2.1.symm _, (h.bx.setFar h.mm.2.2.1 _).setFar h.mm.1 _, (h.up.setCell (.inl (.inr (.inl rfl))) _).setCell (.inl (.inl rfl)) _, h.ap, h.mm⟩
theorem Stg.post {r : NSt × Int} (h : Stg w0 o gs g b bg m SS xs r.1 (t + r.2) W) : NdPost o gs g b bg SS xs r t w0 (.returned (.int .i64 r.1.how)) W := ⟨rfl, h.n, h.bk, h.up⟩
theorem Stg.box (h : Stg w0 o gs g b bg m SS xs x t W) : W.cell? ⟨m, 0, none⟩ = some (.pointer (some ⟨o, 0, none⟩)) := h.bx.cell rfl
theorem Stg.cell (h : Stg w0 o gs g b bg m SS xs x t W) {i : Nat} {v : Value} (hv : ∀ c, (ndc SS gs c g x)[i]? = some v) : W.cell? ⟨o, i, none⟩ = some v := h.n.cell hv
theorem append_run (h : NAt W o gs g SS x) (v : Int) (hi : x.tl.length < room SS) :
    (Builtin.append_ #[41, 41] 41 #[.slice (some ⟨g, 0, none⟩) x.tl.length (room SS), .slice (some ⟨W.heap.size, 0, none⟩) 1 1]).run Try.prog (W.alloc (.cells #[.int .u64 v] 42)) =
      .ok (.slice (some ⟨g, 0, none⟩) (x.tl.length + 1) (room SS)) ((W.alloc (.cells #[.int .u64 v] 42)).setCell ⟨g, x.tl.length, none⟩ (.int .u64 v)) := by
  obtain ⟨i, hi', he⟩ := Option.map_eq_some_iff.1 info49
  simp only [Prod.mk.injEq] at he
  obtain ⟨_, hs, _⟩ := he
  have hx := h.alloc (.cells #[.int .u64 v] 42)
  have hn := Blk.new W #[.int .u64 v] 42
  have hr := run_append_room_cells (P := Try.prog) (W.alloc (.cells #[.int .u64 v] 42)) 41 41 42 i Try.underlying41 hi' g 0 x.tl.length (room SS) ⟨W.heap.size, 0, none⟩ 1 1 [.int .u64 v] (by rw [hs]; rfl) (fun j u hu => by
    match j, hu with
    | 0, hu => cases hu; exact hn.cell rfl) (fun u hu => by
    simp only [List.mem_cons, List.not_mem_nil, or_false] at hu
    subst hu
    rfl) (by omega) (fun j hj => by
    obtain rfl : j = 0 := by simp at hj; exact hj
    rw [hs]
    simp only [Nat.zero_add, Nat.mul_one, Nat.add_zero]
    exact hx.room hi) (fun j _ => hx.frozeng _)
  rw [hs] at hr
  simp only [Nat.zero_add, Nat.mul_one, World.setCells] at hr
  exact hr
/-- What the closure reads. -/
def RC (o gs m c ln : Nat) (w' : World) : Prop := w'.cell? ⟨m, 0, none⟩ = some (.pointer (some ⟨o, 0, none⟩)) ∧ w'.cell? ⟨o, 0, none⟩ = some (.slice (some ⟨gs, 0, none⟩) ln c)
set_option maxRecDepth 100000 in
set_option maxHeartbeats 1000000 in
theorem another_last {how line left p bn : Int} {k n : Nat} {tl : List Int} (h : Stg w0 o gs g b bg m SS xs ⟨how, line, k, n, left, p, bn, tl⟩ t W) (hk : k + 1 = SS.length) (h64 : SS.length ≤ 64) :
    Calls Try.prog 40 #[.pointer (some ⟨m, 0, none⟩)] W (fun e W' => e = .returned (.bool false) ∧ Stg w0 o gs g b bg m SS xs ⟨how, line, 0, n, left, p, bn, tl⟩ t W') := by
  obtain ⟨c, hc⟩ := h.n.cells
  obtain ⟨ln, hln⟩ : ∃ ln, SS.length = ln := ⟨_, rfl⟩
  have hq : RC o gs m c ln W.drew := ⟨h.drew.box, by rw [← hln]; exact hc.drew.cell rfl⟩
  have h0 := h.drew
  have e3 := h0.cell (i := 3) (v := .int .i64 (k : Int)) (fun _ => rfl)
  have z3 := h0.n.frozen 3
  have lo := h0.n.lto
  have lm := h0.bx.lt
  have h1 := (h.put 3 (.int .i64 ((0 : Nat) : Int)) ⟨how, line, 0, n, left, p, bn, tl⟩ (fun _ => rfl) (fun _ _ q => q)).drew
  have hq1 : RC o gs m c ln (W.setCell ⟨o, 3, none⟩ (.int .i64 ((0 : Nat) : Int))).drew := ⟨h1.box, by rw [← hln]; exact (hc.put 3 _).drew.cell rfl⟩
  generalize hv1 : (W.setCell ⟨o, 3, none⟩ (.int .i64 ((0 : Nat) : Int))).drew = v1 at h1 hq1
  have H1 := Lib.hid h1
  have Hln := Lib.hid hln
  rw [hln] at hk h64
  have hl0 : ¬ ln = 0 := by omega
  have hwk : IntKind.i64.wrap ((k : Int) + 1) = (k : Int) + 1 := by rw [IntKind.wrap_i64]; omega
  have hl1 : (ln : Int) ≤ 64 := by omega
  have hm : (IntKind.i64.wrap ((k : Int) + 1)).tmod ln = ((0 : Nat) : Int) := by rw [hwk, show (k : Int) + 1 = ln by omega]; simp
  have hk0 : (0 : Int) ≤ k := by omega
  have hk1 : (k : Int) + 1 ≤ 64 := by omega
  have g0 := H1.out.box
  have lo1 := H1.out.n.lto
  have lm1 := H1.out.bx.lt
  have g3 := H1.out.cell (i := 3) (v := .int .i64 ((0 : Nat) : Int)) (fun _ => rfl)
  have Hm := Lib.hid hm
  clear h h0 h1 hc hln hm hwk
  go_enter Try.func40, Try.ntmps40
  go_wp2_with fail
  refine wp_region_held_drew (S := RC o gs m c ln) (by kernel_rfl) (hq) (fun hHeld => ?_)
  refine wpAnyH_take (i := 0) (v := ?v1) rfl (by kernel_rfl) (by kernel_rfl) (by kernel_rfl) (fun _ _ _ h => h) (Or.inl ⟨by rfl, ?y1⟩) hHeld ?r1
  case y1 => (intro w hSw; obtain ⟨q0, q1⟩ := hSw; go_simp; try with_reducible rfl)
  simp only [List.getElem_toArray, List.getElem_cons_zero, Act.put, List.setIfInBounds_toArray, List.set_cons_zero, List.set_cons_succ]
  refine wpAnyH_take (i := 1) (v := ?v2) rfl (by kernel_rfl) (by kernel_rfl) (by kernel_rfl) (fun _ _ _ h => h) (Or.inl ⟨by rfl, ?y2⟩) hHeld ?r2
  case y2 => (intro w hSw; obtain ⟨q0, q1⟩ := hSw; go_simp; try with_reducible rfl)
  simp only [List.getElem_toArray, List.getElem_cons_zero, List.getElem_cons_succ, Act.put, List.setIfInBounds_toArray, List.set_cons_zero, List.set_cons_succ]
  refine wpAnyH_take (i := 2) (v := ?v3) rfl (by kernel_rfl) (by kernel_rfl) (by kernel_rfl) (fun _ _ _ h => h) (Or.inl ⟨by rfl, ?y3⟩) hHeld ?r3
  case y3 => (intro w hSw; obtain ⟨q0, q1⟩ := hSw; go_simp; try with_reducible rfl)
  simp only [List.getElem_toArray, List.getElem_cons_zero, List.getElem_cons_succ, Act.put, List.setIfInBounds_toArray, List.set_cons_zero, List.set_cons_succ]
  refine wpAnyH_take (i := 3) (v := ?v4) rfl (by kernel_rfl) (by kernel_rfl) (by kernel_rfl) (fun _ _ _ h => h) (Or.inl ⟨by rfl, ?y4⟩) hHeld ?r4
  case y4 => (intro w hSw; obtain ⟨q0, q1⟩ := hSw; go_simp; try with_reducible rfl)
  simp only [List.getElem_toArray, List.getElem_cons_zero, List.getElem_cons_succ, Act.put, List.setIfInBounds_toArray, List.set_cons_zero, List.set_cons_succ]
  refine wpAnyH_take (i := 6) (v := ?v5) rfl (by kernel_rfl) (by kernel_rfl) (by kernel_rfl) (fun _ _ _ h => h) (Or.inl ⟨by rfl, ?y5⟩) hHeld ?r5
  case y5 => (intro w hSw; obtain ⟨q0, q1⟩ := hSw; go_simp; try with_reducible rfl)
  simp only [List.getElem_toArray, List.getElem_cons_zero, List.getElem_cons_succ, Act.put, List.setIfInBounds_toArray, List.set_cons_zero, List.set_cons_succ]
  refine wpAnyH_take (i := 7) (v := ?v6) rfl (by kernel_rfl) (by kernel_rfl) (by kernel_rfl) (fun _ _ _ h => h) (Or.inl ⟨by rfl, ?y6⟩) hHeld ?r6
  case y6 => (intro w hSw; obtain ⟨q0, q1⟩ := hSw; go_simp; try with_reducible rfl)
  simp only [List.getElem_toArray, List.getElem_cons_zero, List.getElem_cons_succ, Act.put, List.setIfInBounds_toArray, List.set_cons_zero, List.set_cons_succ]
  refine wpAnyH_take (i := 8) (v := ?v7) rfl (by kernel_rfl) (by kernel_rfl) (by kernel_rfl) (fun _ _ _ h => h) (Or.inl ⟨by rfl, ?y7⟩) hHeld ?r7
  case y7 => (intro w hSw; obtain ⟨q0, q1⟩ := hSw; go_simp; try with_reducible rfl)
  simp only [List.getElem_toArray, List.getElem_cons_zero, List.getElem_cons_succ, Act.put, List.setIfInBounds_toArray, List.set_cons_zero, List.set_cons_succ]
  refine wpAnyH_take (i := 9) (v := ?v8) rfl (by kernel_rfl) (by kernel_rfl) (by kernel_rfl) (fun _ _ _ h => h) (Or.inl ⟨by rfl, ?y8⟩) hHeld ?r8
  case y8 => (intro w hSw; obtain ⟨q0, q1⟩ := hSw; go_simp; try with_reducible rfl)
  simp only [List.getElem_toArray, List.getElem_cons_zero, List.getElem_cons_succ, Act.put, List.setIfInBounds_toArray, List.set_cons_zero, List.set_cons_succ]
  refine wpAnyH_take (i := 10) (v := ?v9) rfl (by kernel_rfl) (by kernel_rfl) (by kernel_rfl) (fun _ _ _ h => h) (Or.inl ⟨by rfl, ?y9⟩) hHeld ?r9
  case y9 => (intro w hSw; obtain ⟨q0, q1⟩ := hSw; go_simp; try with_reducible rfl)
  simp only [List.getElem_toArray, List.getElem_cons_zero, List.getElem_cons_succ, Act.put, List.setIfInBounds_toArray, List.set_cons_zero, List.set_cons_succ]
  refine wpAnyH_ready (rs := [4]) (by kernel_rfl) (by simp) (AllReadyH.cons rfl (fun K hK => ?_) AllReadyH.nil)
  go_simp
  skip
  refine hK.out _ _ (hq) (fun hHeld => ?_)
  clear hK K
  refine wpAnyH_take (i := 5) (v := ?v11) rfl (by kernel_rfl) (by kernel_rfl) (by kernel_rfl) (fun _ _ _ h => h) (Or.inl ⟨by rfl, ?y11⟩) hHeld ?r11
  case y11 => (intro w hSw; obtain ⟨q0, q1⟩ := hSw; go_simp; try with_reducible rfl)
  simp only [List.getElem_toArray, List.getElem_cons_zero, List.getElem_cons_succ, Act.put, List.setIfInBounds_toArray, List.set_cons_zero, List.set_cons_succ]
  refine wpAnyH_take (i := 11) (v := ?v12) rfl (by kernel_rfl) (by kernel_rfl) (by kernel_rfl) (fun _ _ _ h => h) (Or.inl ⟨by rfl, ?y12⟩) hHeld ?r12
  case y12 => (intro w hSw; obtain ⟨q0, q1⟩ := hSw; go_simp; try with_reducible rfl)
  simp only [List.getElem_toArray, List.getElem_cons_zero, List.getElem_cons_succ, Act.put, List.setIfInBounds_toArray, List.set_cons_zero, List.set_cons_succ]
  refine wpAnyH_take (i := 12) (v := ?v13) rfl (by kernel_rfl) (by kernel_rfl) (by kernel_rfl) (fun _ _ _ h => h) (Or.inl ⟨by rfl, ?y13⟩) hHeld ?r13
  case y13 => (intro w hSw; obtain ⟨q0, q1⟩ := hSw; go_simp; try with_reducible rfl)
  simp only [List.getElem_toArray, List.getElem_cons_zero, List.getElem_cons_succ, Act.put, List.setIfInBounds_toArray, List.set_cons_zero, List.set_cons_succ]
  refine wpAnyH_take (i := 13) (v := ?v14) rfl (by kernel_rfl) (by kernel_rfl) (by kernel_rfl) (fun _ _ _ h => h) (Or.inl ⟨by rfl, ?y14⟩) hHeld ?r14
  case y14 => (intro w hSw; obtain ⟨q0, q1⟩ := hSw; go_simp; try with_reducible rfl)
  simp only [List.getElem_toArray, List.getElem_cons_zero, List.getElem_cons_succ, Act.put, List.setIfInBounds_toArray, List.set_cons_zero, List.set_cons_succ]
  refine wpAnyH_ready (rs := [14]) (by kernel_rfl) (by simp) (AllReadyH.cons rfl (fun K hK => ?_) AllReadyH.nil)
  go_simp
  simp only [Hm.out]
  simp only [hv1]
  refine hK.out _ _ (hq1) (fun hHeld => ?_)
  clear hK K
  refine wpAnyH_done (by kernel_rfl) ?_ _
  go_wp2
  go_ret
  exact ⟨by simp, H1.out⟩
set_option maxRecDepth 100000 in
set_option maxHeartbeats 1000000 in
theorem another_mid {how line left p bn : Int} {k n : Nat} {tl : List Int} (h : Stg w0 o gs g b bg m SS xs ⟨how, line, k, n, left, p, bn, tl⟩ t W) (hk : k + 1 < SS.length) (h64 : SS.length ≤ 64) :
    Calls Try.prog 40 #[.pointer (some ⟨m, 0, none⟩)] W (fun e W' => e = .returned (.bool true) ∧ Stg w0 o gs g b bg m SS xs ⟨how, line, (k + 1), n, left, p, bn, tl⟩ t W') := by
  obtain ⟨c, hc⟩ := h.n.cells
  obtain ⟨ln, hln⟩ : ∃ ln, SS.length = ln := ⟨_, rfl⟩
  have hq : RC o gs m c ln W.drew := ⟨h.drew.box, by rw [← hln]; exact hc.drew.cell rfl⟩
  have h0 := h.drew
  have e3 := h0.cell (i := 3) (v := .int .i64 (k : Int)) (fun _ => rfl)
  have z3 := h0.n.frozen 3
  have lo := h0.n.lto
  have lm := h0.bx.lt
  have h1 := (h.put 3 (.int .i64 (((k + 1) : Nat) : Int)) ⟨how, line, (k + 1), n, left, p, bn, tl⟩ (fun _ => rfl) (fun _ _ q => q)).drew
  have hq1 : RC o gs m c ln (W.setCell ⟨o, 3, none⟩ (.int .i64 (((k + 1) : Nat) : Int))).drew := ⟨h1.box, by rw [← hln]; exact (hc.put 3 _).drew.cell rfl⟩
  generalize hv1 : (W.setCell ⟨o, 3, none⟩ (.int .i64 (((k + 1) : Nat) : Int))).drew = v1 at h1 hq1
  have H1 := Lib.hid h1
  have Hln := Lib.hid hln
  rw [hln] at hk h64
  have hl0 : ¬ ln = 0 := by omega
  have hwk : IntKind.i64.wrap ((k : Int) + 1) = (k : Int) + 1 := by rw [IntKind.wrap_i64]; omega
  have hl1 : (ln : Int) ≤ 64 := by omega
  have hm : (IntKind.i64.wrap ((k : Int) + 1)).tmod ln = ((k + 1 : Nat) : Int) := by rw [hwk, Int.tmod_eq_emod_of_nonneg (by omega), Int.emod_eq_of_lt (by omega) (by omega)]; push_cast; rfl
  have hk0 : (0 : Int) ≤ k := by omega
  have hk1 : (k : Int) + 1 ≤ 64 := by omega
  have g0 := H1.out.box
  have lo1 := H1.out.n.lto
  have lm1 := H1.out.bx.lt
  have g3 := H1.out.cell (i := 3) (v := .int .i64 (((k + 1) : Nat) : Int)) (fun _ => rfl)
  have Hm := Lib.hid hm
  clear h h0 h1 hc hln hm hwk
  go_enter Try.func40, Try.ntmps40
  go_wp2_with fail
  refine wp_region_held_drew (S := RC o gs m c ln) (by kernel_rfl) (hq) (fun hHeld => ?_)
  refine wpAnyH_take (i := 0) (v := ?v16) rfl (by kernel_rfl) (by kernel_rfl) (by kernel_rfl) (fun _ _ _ h => h) (Or.inl ⟨by rfl, ?y16⟩) hHeld ?r16
  case y16 => (intro w hSw; obtain ⟨q0, q1⟩ := hSw; go_simp; try with_reducible rfl)
  simp only [List.getElem_toArray, List.getElem_cons_zero, Act.put, List.setIfInBounds_toArray, List.set_cons_zero, List.set_cons_succ]
  refine wpAnyH_take (i := 1) (v := ?v17) rfl (by kernel_rfl) (by kernel_rfl) (by kernel_rfl) (fun _ _ _ h => h) (Or.inl ⟨by rfl, ?y17⟩) hHeld ?r17
  case y17 => (intro w hSw; obtain ⟨q0, q1⟩ := hSw; go_simp; try with_reducible rfl)
  simp only [List.getElem_toArray, List.getElem_cons_zero, List.getElem_cons_succ, Act.put, List.setIfInBounds_toArray, List.set_cons_zero, List.set_cons_succ]
  refine wpAnyH_take (i := 2) (v := ?v18) rfl (by kernel_rfl) (by kernel_rfl) (by kernel_rfl) (fun _ _ _ h => h) (Or.inl ⟨by rfl, ?y18⟩) hHeld ?r18
  case y18 => (intro w hSw; obtain ⟨q0, q1⟩ := hSw; go_simp; try with_reducible rfl)
  simp only [List.getElem_toArray, List.getElem_cons_zero, List.getElem_cons_succ, Act.put, List.setIfInBounds_toArray, List.set_cons_zero, List.set_cons_succ]
  refine wpAnyH_take (i := 3) (v := ?v19) rfl (by kernel_rfl) (by kernel_rfl) (by kernel_rfl) (fun _ _ _ h => h) (Or.inl ⟨by rfl, ?y19⟩) hHeld ?r19
  case y19 => (intro w hSw; obtain ⟨q0, q1⟩ := hSw; go_simp; try with_reducible rfl)
  simp only [List.getElem_toArray, List.getElem_cons_zero, List.getElem_cons_succ, Act.put, List.setIfInBounds_toArray, List.set_cons_zero, List.set_cons_succ]
  refine wpAnyH_take (i := 6) (v := ?v20) rfl (by kernel_rfl) (by kernel_rfl) (by kernel_rfl) (fun _ _ _ h => h) (Or.inl ⟨by rfl, ?y20⟩) hHeld ?r20
  case y20 => (intro w hSw; obtain ⟨q0, q1⟩ := hSw; go_simp; try with_reducible rfl)
  simp only [List.getElem_toArray, List.getElem_cons_zero, List.getElem_cons_succ, Act.put, List.setIfInBounds_toArray, List.set_cons_zero, List.set_cons_succ]
  refine wpAnyH_take (i := 7) (v := ?v21) rfl (by kernel_rfl) (by kernel_rfl) (by kernel_rfl) (fun _ _ _ h => h) (Or.inl ⟨by rfl, ?y21⟩) hHeld ?r21
  case y21 => (intro w hSw; obtain ⟨q0, q1⟩ := hSw; go_simp; try with_reducible rfl)
  simp only [List.getElem_toArray, List.getElem_cons_zero, List.getElem_cons_succ, Act.put, List.setIfInBounds_toArray, List.set_cons_zero, List.set_cons_succ]
  refine wpAnyH_take (i := 8) (v := ?v22) rfl (by kernel_rfl) (by kernel_rfl) (by kernel_rfl) (fun _ _ _ h => h) (Or.inl ⟨by rfl, ?y22⟩) hHeld ?r22
  case y22 => (intro w hSw; obtain ⟨q0, q1⟩ := hSw; go_simp; try with_reducible rfl)
  simp only [List.getElem_toArray, List.getElem_cons_zero, List.getElem_cons_succ, Act.put, List.setIfInBounds_toArray, List.set_cons_zero, List.set_cons_succ]
  refine wpAnyH_take (i := 9) (v := ?v23) rfl (by kernel_rfl) (by kernel_rfl) (by kernel_rfl) (fun _ _ _ h => h) (Or.inl ⟨by rfl, ?y23⟩) hHeld ?r23
  case y23 => (intro w hSw; obtain ⟨q0, q1⟩ := hSw; go_simp; try with_reducible rfl)
  simp only [List.getElem_toArray, List.getElem_cons_zero, List.getElem_cons_succ, Act.put, List.setIfInBounds_toArray, List.set_cons_zero, List.set_cons_succ]
  refine wpAnyH_take (i := 10) (v := ?v24) rfl (by kernel_rfl) (by kernel_rfl) (by kernel_rfl) (fun _ _ _ h => h) (Or.inl ⟨by rfl, ?y24⟩) hHeld ?r24
  case y24 => (intro w hSw; obtain ⟨q0, q1⟩ := hSw; go_simp; try with_reducible rfl)
  simp only [List.getElem_toArray, List.getElem_cons_zero, List.getElem_cons_succ, Act.put, List.setIfInBounds_toArray, List.set_cons_zero, List.set_cons_succ]
  refine wpAnyH_ready (rs := [4]) (by kernel_rfl) (by simp) (AllReadyH.cons rfl (fun K hK => ?_) AllReadyH.nil)
  go_simp
  skip
  refine hK.out _ _ (hq) (fun hHeld => ?_)
  clear hK K
  refine wpAnyH_take (i := 5) (v := ?v26) rfl (by kernel_rfl) (by kernel_rfl) (by kernel_rfl) (fun _ _ _ h => h) (Or.inl ⟨by rfl, ?y26⟩) hHeld ?r26
  case y26 => (intro w hSw; obtain ⟨q0, q1⟩ := hSw; go_simp; try with_reducible rfl)
  simp only [List.getElem_toArray, List.getElem_cons_zero, List.getElem_cons_succ, Act.put, List.setIfInBounds_toArray, List.set_cons_zero, List.set_cons_succ]
  refine wpAnyH_take (i := 11) (v := ?v27) rfl (by kernel_rfl) (by kernel_rfl) (by kernel_rfl) (fun _ _ _ h => h) (Or.inl ⟨by rfl, ?y27⟩) hHeld ?r27
  case y27 => (intro w hSw; obtain ⟨q0, q1⟩ := hSw; go_simp; try with_reducible rfl)
  simp only [List.getElem_toArray, List.getElem_cons_zero, List.getElem_cons_succ, Act.put, List.setIfInBounds_toArray, List.set_cons_zero, List.set_cons_succ]
  refine wpAnyH_take (i := 12) (v := ?v28) rfl (by kernel_rfl) (by kernel_rfl) (by kernel_rfl) (fun _ _ _ h => h) (Or.inl ⟨by rfl, ?y28⟩) hHeld ?r28
  case y28 => (intro w hSw; obtain ⟨q0, q1⟩ := hSw; go_simp; try with_reducible rfl)
  simp only [List.getElem_toArray, List.getElem_cons_zero, List.getElem_cons_succ, Act.put, List.setIfInBounds_toArray, List.set_cons_zero, List.set_cons_succ]
  refine wpAnyH_take (i := 13) (v := ?v29) rfl (by kernel_rfl) (by kernel_rfl) (by kernel_rfl) (fun _ _ _ h => h) (Or.inl ⟨by rfl, ?y29⟩) hHeld ?r29
  case y29 => (intro w hSw; obtain ⟨q0, q1⟩ := hSw; go_simp; try with_reducible rfl)
  simp only [List.getElem_toArray, List.getElem_cons_zero, List.getElem_cons_succ, Act.put, List.setIfInBounds_toArray, List.set_cons_zero, List.set_cons_succ]
  refine wpAnyH_ready (rs := [14]) (by kernel_rfl) (by simp) (AllReadyH.cons rfl (fun K hK => ?_) AllReadyH.nil)
  go_simp
  simp only [Hm.out]
  simp only [hv1]
  refine hK.out _ _ (hq1) (fun hHeld => ?_)
  clear hK K
  refine wpAnyH_done (by kernel_rfl) ?_ _
  go_wp2
  go_ret
  exact ⟨by simp, H1.out⟩
end
end Go.Proofs.Ytflgggfomhifeaa
