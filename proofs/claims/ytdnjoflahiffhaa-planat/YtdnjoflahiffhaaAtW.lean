/- The walk of the law PlanAt. -/
import Derived.Test.YtdnjoflahiffhaaAwk
namespace Go.Proofs.Ytdnjoflahiffhaa
open Go.RowKit

def PA (w : World) (o q f x d l0 l1 : Int) (W : World) : Prop :=
  Blk W w.heap.size (spc o q f x d) ∧ Blk W (w.heap.size + 1) [.int .i64 l0, .int .i64 l1] ∧ Blk W (w.heap.size + 1 + 1) (plc 0 l0 l1 (.slice none 0 0) 0) ∧ Below w.heap.size w W
theorem PA.next {w : World} {o q f x d l0 l1 : Int} {W W' : World} (h : PA w o q f x d l0 l1 W) (u : Below W.heap.size W W') : PA w o q f x d l0 l1 W' :=
  ⟨h.1.low u, h.2.1.low u, h.2.2.1.low u, h.2.2.2.trans (u.mono h.2.2.2.size)⟩

set_option maxRecDepth 100000 in
set_option maxHeartbeats 4000000 in
theorem at_law (o q f x d l0 l1 g : Int) (w : World) (hg : 0 ≤ g) (hg2 : g < 18446744073709551616) : Calls Try.prog 4 #[spv o q f x d, .agg #[.int .i64 l0, .int .i64 l1], .int .u64 g] w (Ret (.bool true) w) := by
  have hS : PA w o q f x d l0 l1 (((w.alloc (.cells #[.int .i64 o, .int .i64 q, .int .i64 f, .int .i64 x, .int .i64 d] 43)).alloc (.cells #[.int .i64 l0, .int .i64 l1] 44)).alloc (.cells #[.int .i64 0, .int .i64 l0, .int .i64 l1, .slice none 0 0, .int .i64 0] 29)).drew := by
    have b1 := Blk.new w #[.int .i64 o, .int .i64 q, .int .i64 f, .int .i64 x, .int .i64 d] 43
    have b2 := Blk.new (w.alloc (.cells #[.int .i64 o, .int .i64 q, .int .i64 f, .int .i64 x, .int .i64 d] 43)) #[.int .i64 l0, .int .i64 l1] 44
    have b3 := Blk.new ((w.alloc (.cells #[.int .i64 o, .int .i64 q, .int .i64 f, .int .i64 x, .int .i64 d] 43)).alloc (.cells #[.int .i64 l0, .int .i64 l1] 44)) #[.int .i64 0, .int .i64 l0, .int .i64 l1, .slice none 0 0, .int .i64 0] 29
    simp only [World.size_alloc] at b2 b3
    exact ⟨(b1.alloc _).alloc _, b2.alloc _, b3, belN ((((Below.refl w.heap.size w).alloc (Nat.le_refl _) _).alloc (by simp) _).alloc (by simp; omega) _) 1⟩
  have X0 := Lib.hid hS
  clear hS
  go_enter Try.func4, Try.ntmps4
  go_wp2_with fail
  trace_state
  refine wp_region_held_drew (S := PA w o q f x d l0 l1) (by kernel_rfl) (X0.out) (fun hHeld => ?_)
  refine wpAnyH_take (i := 0) (v := ?v1) rfl (by kernel_rfl) (by kernel_rfl) (by kernel_rfl) (fun _ _ _ h => h) (Or.inl ⟨by rfl, ?y1⟩) hHeld ?r1
  case y1 => (intro w hSw; have hc := hSw.1; have c0 := hc.cell (i := 0) rfl; have c1 := hc.cell (i := 1) rfl; have c2 := hc.cell (i := 2) rfl; have c3 := hc.cell (i := 3) rfl; have c4 := hc.cell (i := 4) rfl; have hd := hSw.2.1; have d0 := hd.cell (i := 0) rfl; have d1 := hd.cell (i := 1) rfl; have he := hSw.2.2.1; have e0 := he.cell (i := 0) rfl; have e1 := he.cell (i := 1) rfl; have e2 := he.cell (i := 2) rfl; have e3 := he.cell (i := 3) rfl; have e4 := he.cell (i := 4) rfl; clear hc hd he hSw; go_simp; try with_reducible rfl)
  simp only [List.getElem_toArray, List.getElem_cons_zero, Act.put, List.setIfInBounds_toArray, List.set_cons_zero, List.set_cons_succ]
  refine wpAnyH_take (i := 1) (v := ?v2) rfl (by kernel_rfl) (by kernel_rfl) (by kernel_rfl) (fun _ _ _ h => h) (Or.inl ⟨by rfl, ?y2⟩) hHeld ?r2
  case y2 => (intro w hSw; have hc := hSw.1; have c0 := hc.cell (i := 0) rfl; have c1 := hc.cell (i := 1) rfl; have c2 := hc.cell (i := 2) rfl; have c3 := hc.cell (i := 3) rfl; have c4 := hc.cell (i := 4) rfl; have hd := hSw.2.1; have d0 := hd.cell (i := 0) rfl; have d1 := hd.cell (i := 1) rfl; have he := hSw.2.2.1; have e0 := he.cell (i := 0) rfl; have e1 := he.cell (i := 1) rfl; have e2 := he.cell (i := 2) rfl; have e3 := he.cell (i := 3) rfl; have e4 := he.cell (i := 4) rfl; clear hc hd he hSw; go_simp; try with_reducible rfl)
  simp only [List.getElem_toArray, List.getElem_cons_zero, List.getElem_cons_succ, Act.put, List.setIfInBounds_toArray, List.set_cons_zero, List.set_cons_succ]
  refine wpAnyH_take (i := 3) (v := ?v3) rfl (by kernel_rfl) (by kernel_rfl) (by kernel_rfl) (fun _ _ _ h => h) (Or.inl ⟨by rfl, ?y3⟩) hHeld ?r3
  case y3 => (intro w hSw; have hc := hSw.1; have c0 := hc.cell (i := 0) rfl; have c1 := hc.cell (i := 1) rfl; have c2 := hc.cell (i := 2) rfl; have c3 := hc.cell (i := 3) rfl; have c4 := hc.cell (i := 4) rfl; have hd := hSw.2.1; have d0 := hd.cell (i := 0) rfl; have d1 := hd.cell (i := 1) rfl; have he := hSw.2.2.1; have e0 := he.cell (i := 0) rfl; have e1 := he.cell (i := 1) rfl; have e2 := he.cell (i := 2) rfl; have e3 := he.cell (i := 3) rfl; have e4 := he.cell (i := 4) rfl; clear hc hd he hSw; go_simp; try with_reducible rfl)
  simp only [List.getElem_toArray, List.getElem_cons_zero, List.getElem_cons_succ, Act.put, List.setIfInBounds_toArray, List.set_cons_zero, List.set_cons_succ]
  refine wpAnyH_take (i := 5) (v := ?v4) rfl (by kernel_rfl) (by kernel_rfl) (by kernel_rfl) (fun _ _ _ h => h) (Or.inl ⟨by rfl, ?y4⟩) hHeld ?r4
  case y4 => (intro w hSw; have hc := hSw.1; have c0 := hc.cell (i := 0) rfl; have c1 := hc.cell (i := 1) rfl; have c2 := hc.cell (i := 2) rfl; have c3 := hc.cell (i := 3) rfl; have c4 := hc.cell (i := 4) rfl; have hd := hSw.2.1; have d0 := hd.cell (i := 0) rfl; have d1 := hd.cell (i := 1) rfl; have he := hSw.2.2.1; have e0 := he.cell (i := 0) rfl; have e1 := he.cell (i := 1) rfl; have e2 := he.cell (i := 2) rfl; have e3 := he.cell (i := 3) rfl; have e4 := he.cell (i := 4) rfl; clear hc hd he hSw; go_simp; try with_reducible rfl)
  simp only [List.getElem_toArray, List.getElem_cons_zero, List.getElem_cons_succ, Act.put, List.setIfInBounds_toArray, List.set_cons_zero, List.set_cons_succ]
  refine wpAnyH_ready (rs := [2]) (by kernel_rfl) (by simp) (AllReadyH.cons rfl (fun K hK => ?_) AllReadyH.nil)
  go_simp
  refine (at_any o q f x d g _ hg hg2).mono ?_
  rintro e W1 ⟨rfl, hb1⟩
  have X1 := Lib.hid (X0.out.next hb1)
  clear hb1
  go_wp2_with fail
  refine hK.out _ _ (X1.out) (fun hHeld => ?_)
  clear hK K
  refine wpAnyH_ready (rs := [4]) (by kernel_rfl) (by simp) (AllReadyH.cons rfl (fun K hK => ?_) AllReadyH.nil)
  go_simp
  refine (plain_any o q f x d _).mono ?_
  rintro e W2 ⟨rfl, hb2⟩
  have X2 := Lib.hid (X1.out.next hb2)
  clear hb2
  go_wp2_with fail
  refine hK.out _ _ (X2.out) (fun hHeld => ?_)
  clear hK K
  refine wpAnyH_ready (rs := [6]) (by kernel_rfl) (by simp) (AllReadyH.cons rfl (fun K hK => ?_) AllReadyH.nil)
  go_simp
  refine (rat_any o q f x d g _ hg hg2).mono ?_
  rintro e W3 ⟨rfl, hb3⟩
  have X3 := Lib.hid (X2.out.next hb3)
  clear hb3
  go_wp2_with fail
  refine hK.out _ _ (X3.out) (fun hHeld => ?_)
  clear hK K
  refine wpAnyH_take (i := 7) (v := ?v8) rfl (by kernel_rfl) (by kernel_rfl) (by kernel_rfl) (fun _ _ _ h => h) (Or.inl ⟨by rfl, ?y8⟩) hHeld ?r8
  case y8 => (intro w hSw; have hc := hSw.1; have c0 := hc.cell (i := 0) rfl; have c1 := hc.cell (i := 1) rfl; have c2 := hc.cell (i := 2) rfl; have c3 := hc.cell (i := 3) rfl; have c4 := hc.cell (i := 4) rfl; have hd := hSw.2.1; have d0 := hd.cell (i := 0) rfl; have d1 := hd.cell (i := 1) rfl; have he := hSw.2.2.1; have e0 := he.cell (i := 0) rfl; have e1 := he.cell (i := 1) rfl; have e2 := he.cell (i := 2) rfl; have e3 := he.cell (i := 3) rfl; have e4 := he.cell (i := 4) rfl; clear hc hd he hSw; go_simp; try with_reducible rfl)
  simp only [List.getElem_toArray, List.getElem_cons_zero, List.getElem_cons_succ, Act.put, List.setIfInBounds_toArray, List.set_cons_zero, List.set_cons_succ]
  refine wpAnyH_take (i := 8) (v := ?v9) rfl (by kernel_rfl) (by kernel_rfl) (by kernel_rfl) (fun _ _ _ h => h) (Or.inl ⟨by rfl, ?y9⟩) hHeld ?r9
  case y9 => (intro w hSw; have hc := hSw.1; have c0 := hc.cell (i := 0) rfl; have c1 := hc.cell (i := 1) rfl; have c2 := hc.cell (i := 2) rfl; have c3 := hc.cell (i := 3) rfl; have c4 := hc.cell (i := 4) rfl; have hd := hSw.2.1; have d0 := hd.cell (i := 0) rfl; have d1 := hd.cell (i := 1) rfl; have he := hSw.2.2.1; have e0 := he.cell (i := 0) rfl; have e1 := he.cell (i := 1) rfl; have e2 := he.cell (i := 2) rfl; have e3 := he.cell (i := 3) rfl; have e4 := he.cell (i := 4) rfl; clear hc hd he hSw; go_simp; try with_reducible rfl)
  simp only [List.getElem_toArray, List.getElem_cons_zero, List.getElem_cons_succ, Act.put, List.setIfInBounds_toArray, List.set_cons_zero, List.set_cons_succ]
  refine wpAnyH_take (i := 9) (v := ?v10) rfl (by kernel_rfl) (by kernel_rfl) (by kernel_rfl) (fun _ _ _ h => h) (Or.inl ⟨by rfl, ?y10⟩) hHeld ?r10
  case y10 => (intro w hSw; have hc := hSw.1; have c0 := hc.cell (i := 0) rfl; have c1 := hc.cell (i := 1) rfl; have c2 := hc.cell (i := 2) rfl; have c3 := hc.cell (i := 3) rfl; have c4 := hc.cell (i := 4) rfl; have hd := hSw.2.1; have d0 := hd.cell (i := 0) rfl; have d1 := hd.cell (i := 1) rfl; have he := hSw.2.2.1; have e0 := he.cell (i := 0) rfl; have e1 := he.cell (i := 1) rfl; have e2 := he.cell (i := 2) rfl; have e3 := he.cell (i := 3) rfl; have e4 := he.cell (i := 4) rfl; clear hc hd he hSw; go_simp; try with_reducible rfl)
  simp only [List.getElem_toArray, List.getElem_cons_zero, List.getElem_cons_succ, Act.put, List.setIfInBounds_toArray, List.set_cons_zero, List.set_cons_succ]
  refine wpAnyH_take (i := 10) (v := ?v11) rfl (by kernel_rfl) (by kernel_rfl) (by kernel_rfl) (fun _ _ _ h => h) (Or.inl ⟨by rfl, ?y11⟩) hHeld ?r11
  case y11 => (intro w hSw; have hc := hSw.1; have c0 := hc.cell (i := 0) rfl; have c1 := hc.cell (i := 1) rfl; have c2 := hc.cell (i := 2) rfl; have c3 := hc.cell (i := 3) rfl; have c4 := hc.cell (i := 4) rfl; have hd := hSw.2.1; have d0 := hd.cell (i := 0) rfl; have d1 := hd.cell (i := 1) rfl; have he := hSw.2.2.1; have e0 := he.cell (i := 0) rfl; have e1 := he.cell (i := 1) rfl; have e2 := he.cell (i := 2) rfl; have e3 := he.cell (i := 3) rfl; have e4 := he.cell (i := 4) rfl; clear hc hd he hSw; go_simp; try with_reducible rfl)
  simp only [List.getElem_toArray, List.getElem_cons_zero, List.getElem_cons_succ, Act.put, List.setIfInBounds_toArray, List.set_cons_zero, List.set_cons_succ]
  refine wpAnyH_take (i := 12) (v := ?v12) rfl (by kernel_rfl) (by kernel_rfl) (by kernel_rfl) (fun _ _ _ h => h) (Or.inl ⟨by rfl, ?y12⟩) hHeld ?r12
  case y12 => (intro w hSw; have hc := hSw.1; have c0 := hc.cell (i := 0) rfl; have c1 := hc.cell (i := 1) rfl; have c2 := hc.cell (i := 2) rfl; have c3 := hc.cell (i := 3) rfl; have c4 := hc.cell (i := 4) rfl; have hd := hSw.2.1; have d0 := hd.cell (i := 0) rfl; have d1 := hd.cell (i := 1) rfl; have he := hSw.2.2.1; have e0 := he.cell (i := 0) rfl; have e1 := he.cell (i := 1) rfl; have e2 := he.cell (i := 2) rfl; have e3 := he.cell (i := 3) rfl; have e4 := he.cell (i := 4) rfl; clear hc hd he hSw; go_simp; try with_reducible rfl)
  simp only [List.getElem_toArray, List.getElem_cons_zero, List.getElem_cons_succ, Act.put, List.setIfInBounds_toArray, List.set_cons_zero, List.set_cons_succ]
  refine wpAnyH_take (i := 13) (v := ?v13) rfl (by kernel_rfl) (by kernel_rfl) (by kernel_rfl) (fun _ _ _ h => h) (Or.inl ⟨by rfl, ?y13⟩) hHeld ?r13
  case y13 => (intro w hSw; have hc := hSw.1; have c0 := hc.cell (i := 0) rfl; have c1 := hc.cell (i := 1) rfl; have c2 := hc.cell (i := 2) rfl; have c3 := hc.cell (i := 3) rfl; have c4 := hc.cell (i := 4) rfl; have hd := hSw.2.1; have d0 := hd.cell (i := 0) rfl; have d1 := hd.cell (i := 1) rfl; have he := hSw.2.2.1; have e0 := he.cell (i := 0) rfl; have e1 := he.cell (i := 1) rfl; have e2 := he.cell (i := 2) rfl; have e3 := he.cell (i := 3) rfl; have e4 := he.cell (i := 4) rfl; clear hc hd he hSw; go_simp; try with_reducible rfl)
  simp only [List.getElem_toArray, List.getElem_cons_zero, List.getElem_cons_succ, Act.put, List.setIfInBounds_toArray, List.set_cons_zero, List.set_cons_succ]
  refine wpAnyH_take (i := 14) (v := ?v14) rfl (by kernel_rfl) (by kernel_rfl) (by kernel_rfl) (fun _ _ _ h => h) (Or.inl ⟨by rfl, ?y14⟩) hHeld ?r14
  case y14 => (intro w hSw; have hc := hSw.1; have c0 := hc.cell (i := 0) rfl; have c1 := hc.cell (i := 1) rfl; have c2 := hc.cell (i := 2) rfl; have c3 := hc.cell (i := 3) rfl; have c4 := hc.cell (i := 4) rfl; have hd := hSw.2.1; have d0 := hd.cell (i := 0) rfl; have d1 := hd.cell (i := 1) rfl; have he := hSw.2.2.1; have e0 := he.cell (i := 0) rfl; have e1 := he.cell (i := 1) rfl; have e2 := he.cell (i := 2) rfl; have e3 := he.cell (i := 3) rfl; have e4 := he.cell (i := 4) rfl; clear hc hd he hSw; go_simp; try with_reducible rfl)
  simp only [List.getElem_toArray, List.getElem_cons_zero, List.getElem_cons_succ, Act.put, List.setIfInBounds_toArray, List.set_cons_zero, List.set_cons_succ]
  refine wpAnyH_take (i := 15) (v := ?v15) rfl (by kernel_rfl) (by kernel_rfl) (by kernel_rfl) (fun _ _ _ h => h) (Or.inl ⟨by rfl, ?y15⟩) hHeld ?r15
  case y15 => (intro w hSw; have hc := hSw.1; have c0 := hc.cell (i := 0) rfl; have c1 := hc.cell (i := 1) rfl; have c2 := hc.cell (i := 2) rfl; have c3 := hc.cell (i := 3) rfl; have c4 := hc.cell (i := 4) rfl; have hd := hSw.2.1; have d0 := hd.cell (i := 0) rfl; have d1 := hd.cell (i := 1) rfl; have he := hSw.2.2.1; have e0 := he.cell (i := 0) rfl; have e1 := he.cell (i := 1) rfl; have e2 := he.cell (i := 2) rfl; have e3 := he.cell (i := 3) rfl; have e4 := he.cell (i := 4) rfl; clear hc hd he hSw; go_simp; try with_reducible rfl)
  simp only [List.getElem_toArray, List.getElem_cons_zero, List.getElem_cons_succ, Act.put, List.setIfInBounds_toArray, List.set_cons_zero, List.set_cons_succ]
  refine wpAnyH_take (i := 16) (v := ?v16) rfl (by kernel_rfl) (by kernel_rfl) (by kernel_rfl) (fun _ _ _ h => h) (Or.inl ⟨by rfl, ?y16⟩) hHeld ?r16
  case y16 => (intro w hSw; have hc := hSw.1; have c0 := hc.cell (i := 0) rfl; have c1 := hc.cell (i := 1) rfl; have c2 := hc.cell (i := 2) rfl; have c3 := hc.cell (i := 3) rfl; have c4 := hc.cell (i := 4) rfl; have hd := hSw.2.1; have d0 := hd.cell (i := 0) rfl; have d1 := hd.cell (i := 1) rfl; have he := hSw.2.2.1; have e0 := he.cell (i := 0) rfl; have e1 := he.cell (i := 1) rfl; have e2 := he.cell (i := 2) rfl; have e3 := he.cell (i := 3) rfl; have e4 := he.cell (i := 4) rfl; clear hc hd he hSw; go_simp; try with_reducible rfl)
  simp only [List.getElem_toArray, List.getElem_cons_zero, List.getElem_cons_succ, Act.put, List.setIfInBounds_toArray, List.set_cons_zero, List.set_cons_succ]
  refine wpAnyH_ready (rs := [11]) (by kernel_rfl) (by simp) (AllReadyH.cons rfl (fun K hK => ?_) AllReadyH.nil)
  go_simp
  refine (ent_any 0 l0 l1 0 g none 0 0 _ hg).mono ?_
  rintro e W4 ⟨rfl, hb4⟩
  have X4 := Lib.hid (X3.out.next hb4)
  clear hb4
  go_wp2_with fail
  refine hK.out _ _ (X4.out) (fun hHeld => ?_)
  clear hK K
  refine wpAnyH_ready (rs := [17]) (by kernel_rfl) (by simp) (AllReadyH.cons rfl (fun K hK => ?_) AllReadyH.nil)
  go_simp
  refine (rent_any l0 l1 g _ hg hg2).mono ?_
  rintro e W5 ⟨rfl, hb5⟩
  have X5 := Lib.hid (X4.out.next hb5)
  clear hb5
  go_wp2_with fail
  refine hK.out _ _ (X5.out) (fun hHeld => ?_)
  clear hK K
  refine wpAnyH_take (i := 18) (v := ?v19) rfl (by kernel_rfl) (by kernel_rfl) (by kernel_rfl) (fun _ _ _ h => h) (Or.inl ⟨by rfl, ?y19⟩) hHeld ?r19
  case y19 => (intro w hSw; have hc := hSw.1; have c0 := hc.cell (i := 0) rfl; have c1 := hc.cell (i := 1) rfl; have c2 := hc.cell (i := 2) rfl; have c3 := hc.cell (i := 3) rfl; have c4 := hc.cell (i := 4) rfl; have hd := hSw.2.1; have d0 := hd.cell (i := 0) rfl; have d1 := hd.cell (i := 1) rfl; have he := hSw.2.2.1; have e0 := he.cell (i := 0) rfl; have e1 := he.cell (i := 1) rfl; have e2 := he.cell (i := 2) rfl; have e3 := he.cell (i := 3) rfl; have e4 := he.cell (i := 4) rfl; clear hc hd he hSw; go_simp; try with_reducible rfl)
  simp only [List.getElem_toArray, List.getElem_cons_zero, List.getElem_cons_succ, Act.put, List.setIfInBounds_toArray, List.set_cons_zero, List.set_cons_succ]
  refine wpAnyH_take (i := 19) (v := ?v20) rfl (by kernel_rfl) (by kernel_rfl) (by kernel_rfl) (fun _ _ _ h => h) (Or.inl ⟨by rfl, ?y20⟩) hHeld ?r20
  case y20 => (intro w hSw; have hc := hSw.1; have c0 := hc.cell (i := 0) rfl; have c1 := hc.cell (i := 1) rfl; have c2 := hc.cell (i := 2) rfl; have c3 := hc.cell (i := 3) rfl; have c4 := hc.cell (i := 4) rfl; have hd := hSw.2.1; have d0 := hd.cell (i := 0) rfl; have d1 := hd.cell (i := 1) rfl; have he := hSw.2.2.1; have e0 := he.cell (i := 0) rfl; have e1 := he.cell (i := 1) rfl; have e2 := he.cell (i := 2) rfl; have e3 := he.cell (i := 3) rfl; have e4 := he.cell (i := 4) rfl; clear hc hd he hSw; go_simp; try with_reducible rfl)
  simp only [List.getElem_toArray, List.getElem_cons_zero, List.getElem_cons_succ, Act.put, List.setIfInBounds_toArray, List.set_cons_zero, List.set_cons_succ]
  refine wpAnyH_take (i := 20) (v := ?v21) rfl (by kernel_rfl) (by kernel_rfl) (by kernel_rfl) (fun _ _ _ h => h) (Or.inl ⟨by rfl, ?y21⟩) hHeld ?r21
  case y21 => (intro w hSw; have hc := hSw.1; have c0 := hc.cell (i := 0) rfl; have c1 := hc.cell (i := 1) rfl; have c2 := hc.cell (i := 2) rfl; have c3 := hc.cell (i := 3) rfl; have c4 := hc.cell (i := 4) rfl; have hd := hSw.2.1; have d0 := hd.cell (i := 0) rfl; have d1 := hd.cell (i := 1) rfl; have he := hSw.2.2.1; have e0 := he.cell (i := 0) rfl; have e1 := he.cell (i := 1) rfl; have e2 := he.cell (i := 2) rfl; have e3 := he.cell (i := 3) rfl; have e4 := he.cell (i := 4) rfl; clear hc hd he hSw; go_simp; try with_reducible rfl)
  simp only [List.getElem_toArray, List.getElem_cons_zero, List.getElem_cons_succ, Act.put, List.setIfInBounds_toArray, List.set_cons_zero, List.set_cons_succ]
  refine wpAnyH_ready (rs := [21]) (by kernel_rfl) (by simp) (AllReadyH.cons rfl (fun K hK => ?_) AllReadyH.nil)
  go_simp
  refine (awake_any _).mono ?_
  rintro e W6 ⟨rfl, hb6⟩
  have X6 := Lib.hid (X5.out.next hb6)
  clear hb6
  go_wp2_with fail
  refine hK.out _ _ (X6.out) (fun hHeld => ?_)
  clear hK K
  refine wpAnyH_take (i := 22) (v := ?v23) rfl (by kernel_rfl) (by kernel_rfl) (by kernel_rfl) (fun _ _ _ h => h) (Or.inl ⟨by rfl, ?y23⟩) hHeld ?r23
  case y23 => (intro w hSw; have hc := hSw.1; have c0 := hc.cell (i := 0) rfl; have c1 := hc.cell (i := 1) rfl; have c2 := hc.cell (i := 2) rfl; have c3 := hc.cell (i := 3) rfl; have c4 := hc.cell (i := 4) rfl; have hd := hSw.2.1; have d0 := hd.cell (i := 0) rfl; have d1 := hd.cell (i := 1) rfl; have he := hSw.2.2.1; have e0 := he.cell (i := 0) rfl; have e1 := he.cell (i := 1) rfl; have e2 := he.cell (i := 2) rfl; have e3 := he.cell (i := 3) rfl; have e4 := he.cell (i := 4) rfl; clear hc hd he hSw; go_simp; try with_reducible rfl)
  simp only [List.getElem_toArray, List.getElem_cons_zero, List.getElem_cons_succ, Act.put, List.setIfInBounds_toArray, List.set_cons_zero, List.set_cons_succ]
  refine wpAnyH_take (i := 23) (v := ?v24) rfl (by kernel_rfl) (by kernel_rfl) (by kernel_rfl) (fun _ _ _ h => h) (Or.inl ⟨by rfl, ?y24⟩) hHeld ?r24
  case y24 => (intro w hSw; have hc := hSw.1; have c0 := hc.cell (i := 0) rfl; have c1 := hc.cell (i := 1) rfl; have c2 := hc.cell (i := 2) rfl; have c3 := hc.cell (i := 3) rfl; have c4 := hc.cell (i := 4) rfl; have hd := hSw.2.1; have d0 := hd.cell (i := 0) rfl; have d1 := hd.cell (i := 1) rfl; have he := hSw.2.2.1; have e0 := he.cell (i := 0) rfl; have e1 := he.cell (i := 1) rfl; have e2 := he.cell (i := 2) rfl; have e3 := he.cell (i := 3) rfl; have e4 := he.cell (i := 4) rfl; clear hc hd he hSw; go_simp; try with_reducible rfl)
  simp only [List.getElem_toArray, List.getElem_cons_zero, List.getElem_cons_succ, Act.put, List.setIfInBounds_toArray, List.set_cons_zero, List.set_cons_succ]
  refine wpAnyH_done (by kernel_rfl) ?_ _
  go_wp2
  go_ret
  exact ⟨rfl, X6.out.2.2.2⟩
end Go.Proofs.Ytdnjoflahiffhaa
