/- The walk of the law ConfigFinds. -/
import Derived.Test.YthdchoagdipplaaDoorChecksW
import Derived.Test.YthdchoagdipplaaDoorSam
import Derived.Deep.RegionHeld3
namespace Go.Proofs.YthdchoagdipplaaDoor
open Go.RowKit

theorem Bx.drew {w : World} {c : Nat} {T R L : Int} {a : Option Addr} {cap : Nat} {l : List Tp} {W : World} (h : Bx w c T R L a cap l W) : Bx w c T R L a cap l W.drew :=
  ⟨h.1, h.2.1, h.2.2.1, belN h.2.2.2 1⟩
/-- Two blocks. -/
def BB (c d : Nat) (vs us : List Value) (w : World) : Prop := Blk w c vs ∧ Blk w d us
theorem Bx.two (w : World) (T R L T' R' L' : Int) (a a' : Option Addr) (cap cap' : Nat) (l l' : List Tp) (hT : Tps w.heap.size w a l) (hT' : Tps w.heap.size w a' l') (hM : ML w) :
    Bx w w.heap.size T R L a cap l (bx2 T R L T' R' L' a a' l.length cap l'.length cap' w) ∧ Bx w (w.heap.size + 1) T' R' L' a' cap' l' (bx2 T R L T' R' L' a a' l.length cap l'.length cap' w) := by
  obtain ⟨h1, h2, h3⟩ := same_pre T R L T' R' L' a a' l.length cap l'.length cap' w
  exact ⟨⟨h1, hT.next h3, hM.next h3, h3⟩, ⟨h2, hT'.next h3, hM.next h3, h3⟩⟩

set_option maxRecDepth 100000 in
set_option maxHeartbeats 4000000 in
theorem finds_law (T R L : Int) (a : Option Addr) (cap : Nat) (l : List Tp) (T' R' L' : Int) (a' : Option Addr) (cap' : Nat) (l' : List Tp) (s : ByteArray) (w : World) (hT : Tps w.heap.size w a l) (hT' : Tps w.heap.size w a' l') (hM : ML w) :
    Calls Tryd.prog 5 #[cfg T a l.length cap R L, cfg T' a' l'.length cap' R' L', .string s] w (Ret (.bool true) w) := by
  have X0 := Lib.hid (Bx.two w T R L T' R' L' a a' cap cap' l l' hT hT' hM)
  have c0 := X0.out.1.1.cell (i := 0) rfl
  have c1 := X0.out.1.1.cell (i := 1) rfl
  have c2 := X0.out.1.1.cell (i := 2) rfl
  have c3 := X0.out.1.1.cell (i := 3) rfl
  clear hT hT' hM
  go_enter Tryd.func5, Tryd.ntmps5
  go_wp2_with fail
  refine (few_any T R L a cap l (bx2 T R L T' R' L' a a' l.length cap l'.length cap' w) X0.out.1.2.1).mono ?_
  rintro e W1 ⟨rfl, hb1⟩
  have X1 := Lib.hid (And.intro (X0.out.1.next hb1) (X0.out.2.next hb1))
  clear X0 hb1 c0 c1 c2 c3
  have d0 := X1.out.2.1.cell (i := 0) rfl
  have d1 := X1.out.2.1.cell (i := 1) rfl
  have d2 := X1.out.2.1.cell (i := 2) rfl
  have d3 := X1.out.2.1.cell (i := 3) rfl
  by_cases hf : few l = true
  · have hlc : l.length ≤ 100000 := by have := (few_spec hf).1; omega
    rw [hf]
    go_wp2_with fail
    refine (few_any T' R' L' a' cap' l' W1 X1.out.2.2.1).mono ?_
    rintro e W2 ⟨rfl, hb2⟩
    have X2 := Lib.hid (And.intro (X1.out.1.next hb2) (X1.out.2.next hb2))
    clear X1 hb2 d0 d1 d2 d3 hf
    by_cases hf2 : few l' = true
    · rw [hf2]
      clear hf2
      by_cases h100 : 100 < s.size
      · have hd : decide ((100 : Int) < (s.size : Int)) = true := decide_eq_true (by omega)
        go_wp2_with fail
        refine (awake_any W2 X2.out.1.2.2.1).mono ?_
        rintro e W3 ⟨rfl, hb3⟩
        have hfin := Lib.hid (X2.out.1.next hb3).2.2.2
        go_wp2
        go_ret
        exact ⟨rfl, hfin.out⟩
      · have hd : decide ((100 : Int) < (s.size : Int)) = false := decide_eq_false (by omega)
        have c0 := X2.out.1.1.cell (i := 0) rfl
        have c1 := X2.out.1.1.cell (i := 1) rfl
        have c2 := X2.out.1.1.cell (i := 2) rfl
        have c3 := X2.out.1.1.cell (i := 3) rfl
        go_wp2_with fail
        refine (find_any T R L a cap l s W2 X2.out.1.2.1 hlc).mono ?_
        rintro e W3 ⟨rfl, hb3⟩
        have X3 := Lib.hid (And.intro (X2.out.1.next hb3) (X2.out.2.next hb3))
        clear X2 hb3 c0 c1 c2 c3
        have c0 := X3.out.1.1.cell (i := 0) rfl
        have c1 := X3.out.1.1.cell (i := 1) rfl
        have c2 := X3.out.1.1.cell (i := 2) rfl
        have c3 := X3.out.1.1.cell (i := 3) rfl
        go_wp2_with fail
        refine (rfind_any T R L a cap l s W3 X3.out.1.2.1 hlc).mono ?_
        rintro e W4 ⟨rfl, hb4⟩
        have X4 := Lib.hid (And.intro (X3.out.1.next hb4) (X3.out.2.next hb4))
        clear X3 hb4 c0 c1 c2 c3
        have c0 := X4.out.1.1.cell (i := 0) rfl
        have c1 := X4.out.1.1.cell (i := 1) rfl
        have c2 := X4.out.1.1.cell (i := 2) rfl
        have c3 := X4.out.1.1.cell (i := 3) rfl
        have d0 := X4.out.2.1.cell (i := 0) rfl
        have d1 := X4.out.2.1.cell (i := 1) rfl
        have d2 := X4.out.2.1.cell (i := 2) rfl
        have d3 := X4.out.2.1.cell (i := 3) rfl
        by_cases hfn : fnd l s < l.length
        · have e1 : fdI l s = (fnd l s : Int) ∧ fdE l s = 0 ∧ fdR l s = (fnd l s : Int) := by simp [fdI, fdE, fdR, hfn]
          rw [e1.1, e1.2.1, e1.2.2]
          clear e1 hfn
          generalize fnd l s = ix at *
          have m0 : decide ((ix : Int) < 0) = false := decide_eq_false (by omega)
          have hcc : smB T R L T R L l l = true := by unfold smB; simp
          generalize hq : smB T R L T' R' L' l l' = q at *
          have hqq : (q == q) = true := by cases q <;> rfl
          go_wp2_with fail
          have Xd : Hid (Bx w w.heap.size T R L a cap l W4.drew ∧ Bx w (w.heap.size + 1) T' R' L' a' cap' l' W4.drew) := Lib.hid (And.intro (X4.out.1.drew) (X4.out.2.drew))
          clear X4 c0 c1 c2 c3 d0 d1 d2 d3
          refine wp_region_held_drew (S := BB w.heap.size (w.heap.size + 1) (cfl T a l.length cap R L) (cfl T' a' l'.length cap' R' L')) (by kernel_rfl) (⟨Xd.out.1.1, Xd.out.2.1⟩) (fun hHeld => ?_)
          refine wpAnyH_take (i := 0) (v := ?v1) rfl (by kernel_rfl) (by kernel_rfl) (by kernel_rfl) (fun _ _ _ h => h) (Or.inl ⟨by rfl, ?y1⟩) hHeld ?r1
          case y1 => (intro w hSw; obtain ⟨hc, hd⟩ := hSw; have c0 := hc.cell (i := 0) rfl; have c1 := hc.cell (i := 1) rfl; have c2 := hc.cell (i := 2) rfl; have c3 := hc.cell (i := 3) rfl; have d0 := hd.cell (i := 0) rfl; have d1 := hd.cell (i := 1) rfl; have d2 := hd.cell (i := 2) rfl; have d3 := hd.cell (i := 3) rfl; clear hc hd; go_simp; try with_reducible rfl)
          simp only [List.getElem_toArray, List.getElem_cons_zero, Act.put, List.setIfInBounds_toArray, List.set_cons_zero, List.set_cons_succ]
          refine wpAnyH_take (i := 1) (v := ?v2) rfl (by kernel_rfl) (by kernel_rfl) (by kernel_rfl) (fun _ _ _ h => h) (Or.inl ⟨by rfl, ?y2⟩) hHeld ?r2
          case y2 => (intro w hSw; obtain ⟨hc, hd⟩ := hSw; have c0 := hc.cell (i := 0) rfl; have c1 := hc.cell (i := 1) rfl; have c2 := hc.cell (i := 2) rfl; have c3 := hc.cell (i := 3) rfl; have d0 := hd.cell (i := 0) rfl; have d1 := hd.cell (i := 1) rfl; have d2 := hd.cell (i := 2) rfl; have d3 := hd.cell (i := 3) rfl; clear hc hd; go_simp; try with_reducible rfl)
          simp only [List.getElem_toArray, List.getElem_cons_zero, List.getElem_cons_succ, Act.put, List.setIfInBounds_toArray, List.set_cons_zero, List.set_cons_succ]
          refine wpAnyH_take (i := 3) (v := ?v3) rfl (by kernel_rfl) (by kernel_rfl) (by kernel_rfl) (fun _ _ _ h => h) (Or.inl ⟨by rfl, ?y3⟩) hHeld ?r3
          case y3 => (intro w hSw; obtain ⟨hc, hd⟩ := hSw; have c0 := hc.cell (i := 0) rfl; have c1 := hc.cell (i := 1) rfl; have c2 := hc.cell (i := 2) rfl; have c3 := hc.cell (i := 3) rfl; have d0 := hd.cell (i := 0) rfl; have d1 := hd.cell (i := 1) rfl; have d2 := hd.cell (i := 2) rfl; have d3 := hd.cell (i := 3) rfl; clear hc hd; go_simp; try with_reducible rfl)
          simp only [List.getElem_toArray, List.getElem_cons_zero, List.getElem_cons_succ, Act.put, List.setIfInBounds_toArray, List.set_cons_zero, List.set_cons_succ]
          refine wpAnyH_take (i := 4) (v := ?v4) rfl (by kernel_rfl) (by kernel_rfl) (by kernel_rfl) (fun _ _ _ h => h) (Or.inl ⟨by rfl, ?y4⟩) hHeld ?r4
          case y4 => (intro w hSw; obtain ⟨hc, hd⟩ := hSw; have c0 := hc.cell (i := 0) rfl; have c1 := hc.cell (i := 1) rfl; have c2 := hc.cell (i := 2) rfl; have c3 := hc.cell (i := 3) rfl; have d0 := hd.cell (i := 0) rfl; have d1 := hd.cell (i := 1) rfl; have d2 := hd.cell (i := 2) rfl; have d3 := hd.cell (i := 3) rfl; clear hc hd; go_simp; try with_reducible rfl)
          simp only [List.getElem_toArray, List.getElem_cons_zero, List.getElem_cons_succ, Act.put, List.setIfInBounds_toArray, List.set_cons_zero, List.set_cons_succ]
          refine wpAnyH_ready (rs := [2]) (by kernel_rfl) (by simp) (AllReadyH.cons rfl (fun K hK => ?_) AllReadyH.nil)
          go_simp
          refine (same_any T R L T' R' L' a a' cap cap' l l' _ Xd.out.1.2.1 Xd.out.2.2.1 hlc).mono ?_
          rintro e Wp ⟨rfl, hbp⟩
          have Xp := Lib.hid (And.intro (Xd.out.1.next hbp) (Xd.out.2.next hbp))
          clear hbp
          go_wp2_with fail
          refine hK.out _ _ (⟨Xp.out.1.1, Xp.out.2.1⟩) (fun hHeld => ?_)
          clear hK K
          refine wpAnyH_ready (rs := [5]) (by kernel_rfl) (by simp) (AllReadyH.cons rfl (fun K hK => ?_) AllReadyH.nil)
          go_simp
          refine (rsame_any T R L T' R' L' a a' cap cap' l l' _ Xp.out.1.2.1 Xp.out.2.2.1 hlc).mono ?_
          rintro e Wq ⟨rfl, hbq⟩
          have Xq := Lib.hid (And.intro (Xp.out.1.next hbq) (Xp.out.2.next hbq))
          clear hbq
          go_wp2_with fail
          refine hK.out _ _ (⟨Xq.out.1.1, Xq.out.2.1⟩) (fun hHeld => ?_)
          clear hK K
          refine wpAnyH_take (i := 6) (v := ?v7) rfl (by kernel_rfl) (by kernel_rfl) (by kernel_rfl) (fun _ _ _ h => h) (Or.inl ⟨by rfl, ?y7⟩) hHeld ?r7
          case y7 => (intro w hSw; obtain ⟨hc, hd⟩ := hSw; have c0 := hc.cell (i := 0) rfl; have c1 := hc.cell (i := 1) rfl; have c2 := hc.cell (i := 2) rfl; have c3 := hc.cell (i := 3) rfl; have d0 := hd.cell (i := 0) rfl; have d1 := hd.cell (i := 1) rfl; have d2 := hd.cell (i := 2) rfl; have d3 := hd.cell (i := 3) rfl; clear hc hd; go_simp; try with_reducible rfl)
          simp only [List.getElem_toArray, List.getElem_cons_zero, List.getElem_cons_succ, Act.put, List.setIfInBounds_toArray, List.set_cons_zero, List.set_cons_succ]
          refine wpAnyH_take (i := 7) (v := ?v8) rfl (by kernel_rfl) (by kernel_rfl) (by kernel_rfl) (fun _ _ _ h => h) (Or.inl ⟨by rfl, ?y8⟩) hHeld ?r8
          case y8 => (intro w hSw; obtain ⟨hc, hd⟩ := hSw; have c0 := hc.cell (i := 0) rfl; have c1 := hc.cell (i := 1) rfl; have c2 := hc.cell (i := 2) rfl; have c3 := hc.cell (i := 3) rfl; have d0 := hd.cell (i := 0) rfl; have d1 := hd.cell (i := 1) rfl; have d2 := hd.cell (i := 2) rfl; have d3 := hd.cell (i := 3) rfl; clear hc hd; go_simp; try with_reducible rfl)
          simp only [List.getElem_toArray, List.getElem_cons_zero, List.getElem_cons_succ, Act.put, List.setIfInBounds_toArray, List.set_cons_zero, List.set_cons_succ]
          refine wpAnyH_take (i := 8) (v := ?v9) rfl (by kernel_rfl) (by kernel_rfl) (by kernel_rfl) (fun _ _ _ h => h) (Or.inl ⟨by rfl, ?y9⟩) hHeld ?r9
          case y9 => (intro w hSw; obtain ⟨hc, hd⟩ := hSw; have c0 := hc.cell (i := 0) rfl; have c1 := hc.cell (i := 1) rfl; have c2 := hc.cell (i := 2) rfl; have c3 := hc.cell (i := 3) rfl; have d0 := hd.cell (i := 0) rfl; have d1 := hd.cell (i := 1) rfl; have d2 := hd.cell (i := 2) rfl; have d3 := hd.cell (i := 3) rfl; clear hc hd; go_simp; try with_reducible rfl)
          simp only [List.getElem_toArray, List.getElem_cons_zero, List.getElem_cons_succ, Act.put, List.setIfInBounds_toArray, List.set_cons_zero, List.set_cons_succ]
          refine wpAnyH_take (i := 9) (v := ?v10) rfl (by kernel_rfl) (by kernel_rfl) (by kernel_rfl) (fun _ _ _ h => h) (Or.inl ⟨by rfl, ?y10⟩) hHeld ?r10
          case y10 => (intro w hSw; obtain ⟨hc, hd⟩ := hSw; have c0 := hc.cell (i := 0) rfl; have c1 := hc.cell (i := 1) rfl; have c2 := hc.cell (i := 2) rfl; have c3 := hc.cell (i := 3) rfl; have d0 := hd.cell (i := 0) rfl; have d1 := hd.cell (i := 1) rfl; have d2 := hd.cell (i := 2) rfl; have d3 := hd.cell (i := 3) rfl; clear hc hd; go_simp; try with_reducible rfl)
          simp only [List.getElem_toArray, List.getElem_cons_zero, List.getElem_cons_succ, Act.put, List.setIfInBounds_toArray, List.set_cons_zero, List.set_cons_succ]
          refine wpAnyH_ready (rs := [10]) (by kernel_rfl) (by simp) (AllReadyH.cons rfl (fun K hK => ?_) AllReadyH.nil)
          go_simp
          refine (same_any T R L T R L a a cap cap l l _ Xq.out.1.2.1 Xq.out.1.2.1 hlc).mono ?_
          rintro e Wzq ⟨rfl, hbzq⟩
          have Xzq := Lib.hid (And.intro (Xq.out.1.next hbzq) (Xq.out.2.next hbzq))
          clear hbzq
          rw [hcc]
          go_wp2_with fail
          refine hK.out _ _ (⟨Xzq.out.1.1, Xzq.out.2.1⟩) (fun hHeld => ?_)
          clear hK K
          refine wpAnyH_take (i := 11) (v := ?v12) rfl (by kernel_rfl) (by kernel_rfl) (by kernel_rfl) (fun _ _ _ h => h) (Or.inl ⟨by rfl, ?y12⟩) hHeld ?r12
          case y12 => (intro w hSw; obtain ⟨hc, hd⟩ := hSw; have c0 := hc.cell (i := 0) rfl; have c1 := hc.cell (i := 1) rfl; have c2 := hc.cell (i := 2) rfl; have c3 := hc.cell (i := 3) rfl; have d0 := hd.cell (i := 0) rfl; have d1 := hd.cell (i := 1) rfl; have d2 := hd.cell (i := 2) rfl; have d3 := hd.cell (i := 3) rfl; clear hc hd; go_simp; try with_reducible rfl)
          simp only [List.getElem_toArray, List.getElem_cons_zero, List.getElem_cons_succ, Act.put, List.setIfInBounds_toArray, List.set_cons_zero, List.set_cons_succ]
          refine wpAnyH_take (i := 12) (v := ?v13) rfl (by kernel_rfl) (by kernel_rfl) (by kernel_rfl) (fun _ _ _ h => h) (Or.inl ⟨by rfl, ?y13⟩) hHeld ?r13
          case y13 => (intro w hSw; obtain ⟨hc, hd⟩ := hSw; have c0 := hc.cell (i := 0) rfl; have c1 := hc.cell (i := 1) rfl; have c2 := hc.cell (i := 2) rfl; have c3 := hc.cell (i := 3) rfl; have d0 := hd.cell (i := 0) rfl; have d1 := hd.cell (i := 1) rfl; have d2 := hd.cell (i := 2) rfl; have d3 := hd.cell (i := 3) rfl; clear hc hd; go_simp; try with_reducible rfl)
          simp only [List.getElem_toArray, List.getElem_cons_zero, List.getElem_cons_succ, Act.put, List.setIfInBounds_toArray, List.set_cons_zero, List.set_cons_succ]
          refine wpAnyH_ready (rs := [13]) (by kernel_rfl) (by simp) (AllReadyH.cons rfl (fun K hK => ?_) AllReadyH.nil)
          go_simp
          refine (awake_any _ Xzq.out.1.2.2.1).mono ?_
          rintro e Wv ⟨rfl, hbv⟩
          have Xv := Lib.hid (And.intro (Xzq.out.1.next hbv) (Xzq.out.2.next hbv))
          clear hbv
          go_wp2_with fail
          refine hK.out _ _ (⟨Xv.out.1.1, Xv.out.2.1⟩) (fun hHeld => ?_)
          clear hK K
          refine wpAnyH_take (i := 14) (v := ?v15) rfl (by kernel_rfl) (by kernel_rfl) (by kernel_rfl) (fun _ _ _ h => h) (Or.inl ⟨by rfl, ?y15⟩) hHeld ?r15
          case y15 => (intro w hSw; obtain ⟨hc, hd⟩ := hSw; have c0 := hc.cell (i := 0) rfl; have c1 := hc.cell (i := 1) rfl; have c2 := hc.cell (i := 2) rfl; have c3 := hc.cell (i := 3) rfl; have d0 := hd.cell (i := 0) rfl; have d1 := hd.cell (i := 1) rfl; have d2 := hd.cell (i := 2) rfl; have d3 := hd.cell (i := 3) rfl; clear hc hd; go_simp; try with_reducible rfl)
          simp only [List.getElem_toArray, List.getElem_cons_zero, List.getElem_cons_succ, Act.put, List.setIfInBounds_toArray, List.set_cons_zero, List.set_cons_succ]
          refine wpAnyH_take (i := 15) (v := ?v16) rfl (by kernel_rfl) (by kernel_rfl) (by kernel_rfl) (fun _ _ _ h => h) (Or.inl ⟨by rfl, ?y16⟩) hHeld ?r16
          case y16 => (intro w hSw; obtain ⟨hc, hd⟩ := hSw; have c0 := hc.cell (i := 0) rfl; have c1 := hc.cell (i := 1) rfl; have c2 := hc.cell (i := 2) rfl; have c3 := hc.cell (i := 3) rfl; have d0 := hd.cell (i := 0) rfl; have d1 := hd.cell (i := 1) rfl; have d2 := hd.cell (i := 2) rfl; have d3 := hd.cell (i := 3) rfl; clear hc hd; go_simp; try with_reducible rfl)
          simp only [List.getElem_toArray, List.getElem_cons_zero, List.getElem_cons_succ, Act.put, List.setIfInBounds_toArray, List.set_cons_zero, List.set_cons_succ]
          refine wpAnyH_done (by kernel_rfl) ?_ _
          go_wp2
          go_ret
          exact ⟨rfl, Xv.out.1.2.2.2⟩
        · have e1 : fdI l s = 0 ∧ fdE l s = 14 ∧ fdR l s = -1 := by simp [fdI, fdE, fdR, hfn]
          rw [e1.1, e1.2.1, e1.2.2]
          clear e1 hfn
          have hcc : smB T R L T R L l l = true := by unfold smB; simp
          generalize hq : smB T R L T' R' L' l l' = q at *
          have hqq : (q == q) = true := by cases q <;> rfl
          go_wp2_with fail
          have Xd : Hid (Bx w w.heap.size T R L a cap l W4.drew ∧ Bx w (w.heap.size + 1) T' R' L' a' cap' l' W4.drew) := Lib.hid (And.intro (X4.out.1.drew) (X4.out.2.drew))
          clear X4 c0 c1 c2 c3 d0 d1 d2 d3
          refine wp_region_held_drew (S := BB w.heap.size (w.heap.size + 1) (cfl T a l.length cap R L) (cfl T' a' l'.length cap' R' L')) (by kernel_rfl) (⟨Xd.out.1.1, Xd.out.2.1⟩) (fun hHeld => ?_)
          refine wpAnyH_take (i := 0) (v := ?v17) rfl (by kernel_rfl) (by kernel_rfl) (by kernel_rfl) (fun _ _ _ h => h) (Or.inl ⟨by rfl, ?y17⟩) hHeld ?r17
          case y17 => (intro w hSw; obtain ⟨hc, hd⟩ := hSw; have c0 := hc.cell (i := 0) rfl; have c1 := hc.cell (i := 1) rfl; have c2 := hc.cell (i := 2) rfl; have c3 := hc.cell (i := 3) rfl; have d0 := hd.cell (i := 0) rfl; have d1 := hd.cell (i := 1) rfl; have d2 := hd.cell (i := 2) rfl; have d3 := hd.cell (i := 3) rfl; clear hc hd; go_simp; try with_reducible rfl)
          simp only [List.getElem_toArray, List.getElem_cons_zero, Act.put, List.setIfInBounds_toArray, List.set_cons_zero, List.set_cons_succ]
          refine wpAnyH_take (i := 1) (v := ?v18) rfl (by kernel_rfl) (by kernel_rfl) (by kernel_rfl) (fun _ _ _ h => h) (Or.inl ⟨by rfl, ?y18⟩) hHeld ?r18
          case y18 => (intro w hSw; obtain ⟨hc, hd⟩ := hSw; have c0 := hc.cell (i := 0) rfl; have c1 := hc.cell (i := 1) rfl; have c2 := hc.cell (i := 2) rfl; have c3 := hc.cell (i := 3) rfl; have d0 := hd.cell (i := 0) rfl; have d1 := hd.cell (i := 1) rfl; have d2 := hd.cell (i := 2) rfl; have d3 := hd.cell (i := 3) rfl; clear hc hd; go_simp; try with_reducible rfl)
          simp only [List.getElem_toArray, List.getElem_cons_zero, List.getElem_cons_succ, Act.put, List.setIfInBounds_toArray, List.set_cons_zero, List.set_cons_succ]
          refine wpAnyH_take (i := 3) (v := ?v19) rfl (by kernel_rfl) (by kernel_rfl) (by kernel_rfl) (fun _ _ _ h => h) (Or.inl ⟨by rfl, ?y19⟩) hHeld ?r19
          case y19 => (intro w hSw; obtain ⟨hc, hd⟩ := hSw; have c0 := hc.cell (i := 0) rfl; have c1 := hc.cell (i := 1) rfl; have c2 := hc.cell (i := 2) rfl; have c3 := hc.cell (i := 3) rfl; have d0 := hd.cell (i := 0) rfl; have d1 := hd.cell (i := 1) rfl; have d2 := hd.cell (i := 2) rfl; have d3 := hd.cell (i := 3) rfl; clear hc hd; go_simp; try with_reducible rfl)
          simp only [List.getElem_toArray, List.getElem_cons_zero, List.getElem_cons_succ, Act.put, List.setIfInBounds_toArray, List.set_cons_zero, List.set_cons_succ]
          refine wpAnyH_take (i := 4) (v := ?v20) rfl (by kernel_rfl) (by kernel_rfl) (by kernel_rfl) (fun _ _ _ h => h) (Or.inl ⟨by rfl, ?y20⟩) hHeld ?r20
          case y20 => (intro w hSw; obtain ⟨hc, hd⟩ := hSw; have c0 := hc.cell (i := 0) rfl; have c1 := hc.cell (i := 1) rfl; have c2 := hc.cell (i := 2) rfl; have c3 := hc.cell (i := 3) rfl; have d0 := hd.cell (i := 0) rfl; have d1 := hd.cell (i := 1) rfl; have d2 := hd.cell (i := 2) rfl; have d3 := hd.cell (i := 3) rfl; clear hc hd; go_simp; try with_reducible rfl)
          simp only [List.getElem_toArray, List.getElem_cons_zero, List.getElem_cons_succ, Act.put, List.setIfInBounds_toArray, List.set_cons_zero, List.set_cons_succ]
          refine wpAnyH_ready (rs := [2]) (by kernel_rfl) (by simp) (AllReadyH.cons rfl (fun K hK => ?_) AllReadyH.nil)
          go_simp
          refine (same_any T R L T' R' L' a a' cap cap' l l' _ Xd.out.1.2.1 Xd.out.2.2.1 hlc).mono ?_
          rintro e Wp ⟨rfl, hbp⟩
          have Xp := Lib.hid (And.intro (Xd.out.1.next hbp) (Xd.out.2.next hbp))
          clear hbp
          go_wp2_with fail
          refine hK.out _ _ (⟨Xp.out.1.1, Xp.out.2.1⟩) (fun hHeld => ?_)
          clear hK K
          refine wpAnyH_ready (rs := [5]) (by kernel_rfl) (by simp) (AllReadyH.cons rfl (fun K hK => ?_) AllReadyH.nil)
          go_simp
          refine (rsame_any T R L T' R' L' a a' cap cap' l l' _ Xp.out.1.2.1 Xp.out.2.2.1 hlc).mono ?_
          rintro e Wq ⟨rfl, hbq⟩
          have Xq := Lib.hid (And.intro (Xp.out.1.next hbq) (Xp.out.2.next hbq))
          clear hbq
          go_wp2_with fail
          refine hK.out _ _ (⟨Xq.out.1.1, Xq.out.2.1⟩) (fun hHeld => ?_)
          clear hK K
          refine wpAnyH_take (i := 6) (v := ?v23) rfl (by kernel_rfl) (by kernel_rfl) (by kernel_rfl) (fun _ _ _ h => h) (Or.inl ⟨by rfl, ?y23⟩) hHeld ?r23
          case y23 => (intro w hSw; obtain ⟨hc, hd⟩ := hSw; have c0 := hc.cell (i := 0) rfl; have c1 := hc.cell (i := 1) rfl; have c2 := hc.cell (i := 2) rfl; have c3 := hc.cell (i := 3) rfl; have d0 := hd.cell (i := 0) rfl; have d1 := hd.cell (i := 1) rfl; have d2 := hd.cell (i := 2) rfl; have d3 := hd.cell (i := 3) rfl; clear hc hd; go_simp; try with_reducible rfl)
          simp only [List.getElem_toArray, List.getElem_cons_zero, List.getElem_cons_succ, Act.put, List.setIfInBounds_toArray, List.set_cons_zero, List.set_cons_succ]
          refine wpAnyH_take (i := 7) (v := ?v24) rfl (by kernel_rfl) (by kernel_rfl) (by kernel_rfl) (fun _ _ _ h => h) (Or.inl ⟨by rfl, ?y24⟩) hHeld ?r24
          case y24 => (intro w hSw; obtain ⟨hc, hd⟩ := hSw; have c0 := hc.cell (i := 0) rfl; have c1 := hc.cell (i := 1) rfl; have c2 := hc.cell (i := 2) rfl; have c3 := hc.cell (i := 3) rfl; have d0 := hd.cell (i := 0) rfl; have d1 := hd.cell (i := 1) rfl; have d2 := hd.cell (i := 2) rfl; have d3 := hd.cell (i := 3) rfl; clear hc hd; go_simp; try with_reducible rfl)
          simp only [List.getElem_toArray, List.getElem_cons_zero, List.getElem_cons_succ, Act.put, List.setIfInBounds_toArray, List.set_cons_zero, List.set_cons_succ]
          refine wpAnyH_take (i := 8) (v := ?v25) rfl (by kernel_rfl) (by kernel_rfl) (by kernel_rfl) (fun _ _ _ h => h) (Or.inl ⟨by rfl, ?y25⟩) hHeld ?r25
          case y25 => (intro w hSw; obtain ⟨hc, hd⟩ := hSw; have c0 := hc.cell (i := 0) rfl; have c1 := hc.cell (i := 1) rfl; have c2 := hc.cell (i := 2) rfl; have c3 := hc.cell (i := 3) rfl; have d0 := hd.cell (i := 0) rfl; have d1 := hd.cell (i := 1) rfl; have d2 := hd.cell (i := 2) rfl; have d3 := hd.cell (i := 3) rfl; clear hc hd; go_simp; try with_reducible rfl)
          simp only [List.getElem_toArray, List.getElem_cons_zero, List.getElem_cons_succ, Act.put, List.setIfInBounds_toArray, List.set_cons_zero, List.set_cons_succ]
          refine wpAnyH_take (i := 9) (v := ?v26) rfl (by kernel_rfl) (by kernel_rfl) (by kernel_rfl) (fun _ _ _ h => h) (Or.inl ⟨by rfl, ?y26⟩) hHeld ?r26
          case y26 => (intro w hSw; obtain ⟨hc, hd⟩ := hSw; have c0 := hc.cell (i := 0) rfl; have c1 := hc.cell (i := 1) rfl; have c2 := hc.cell (i := 2) rfl; have c3 := hc.cell (i := 3) rfl; have d0 := hd.cell (i := 0) rfl; have d1 := hd.cell (i := 1) rfl; have d2 := hd.cell (i := 2) rfl; have d3 := hd.cell (i := 3) rfl; clear hc hd; go_simp; try with_reducible rfl)
          simp only [List.getElem_toArray, List.getElem_cons_zero, List.getElem_cons_succ, Act.put, List.setIfInBounds_toArray, List.set_cons_zero, List.set_cons_succ]
          refine wpAnyH_ready (rs := [10]) (by kernel_rfl) (by simp) (AllReadyH.cons rfl (fun K hK => ?_) AllReadyH.nil)
          go_simp
          refine (same_any T R L T R L a a cap cap l l _ Xq.out.1.2.1 Xq.out.1.2.1 hlc).mono ?_
          rintro e Wzq ⟨rfl, hbzq⟩
          have Xzq := Lib.hid (And.intro (Xq.out.1.next hbzq) (Xq.out.2.next hbzq))
          clear hbzq
          rw [hcc]
          go_wp2_with fail
          refine hK.out _ _ (⟨Xzq.out.1.1, Xzq.out.2.1⟩) (fun hHeld => ?_)
          clear hK K
          refine wpAnyH_take (i := 11) (v := ?v28) rfl (by kernel_rfl) (by kernel_rfl) (by kernel_rfl) (fun _ _ _ h => h) (Or.inl ⟨by rfl, ?y28⟩) hHeld ?r28
          case y28 => (intro w hSw; obtain ⟨hc, hd⟩ := hSw; have c0 := hc.cell (i := 0) rfl; have c1 := hc.cell (i := 1) rfl; have c2 := hc.cell (i := 2) rfl; have c3 := hc.cell (i := 3) rfl; have d0 := hd.cell (i := 0) rfl; have d1 := hd.cell (i := 1) rfl; have d2 := hd.cell (i := 2) rfl; have d3 := hd.cell (i := 3) rfl; clear hc hd; go_simp; try with_reducible rfl)
          simp only [List.getElem_toArray, List.getElem_cons_zero, List.getElem_cons_succ, Act.put, List.setIfInBounds_toArray, List.set_cons_zero, List.set_cons_succ]
          refine wpAnyH_take (i := 12) (v := ?v29) rfl (by kernel_rfl) (by kernel_rfl) (by kernel_rfl) (fun _ _ _ h => h) (Or.inl ⟨by rfl, ?y29⟩) hHeld ?r29
          case y29 => (intro w hSw; obtain ⟨hc, hd⟩ := hSw; have c0 := hc.cell (i := 0) rfl; have c1 := hc.cell (i := 1) rfl; have c2 := hc.cell (i := 2) rfl; have c3 := hc.cell (i := 3) rfl; have d0 := hd.cell (i := 0) rfl; have d1 := hd.cell (i := 1) rfl; have d2 := hd.cell (i := 2) rfl; have d3 := hd.cell (i := 3) rfl; clear hc hd; go_simp; try with_reducible rfl)
          simp only [List.getElem_toArray, List.getElem_cons_zero, List.getElem_cons_succ, Act.put, List.setIfInBounds_toArray, List.set_cons_zero, List.set_cons_succ]
          refine wpAnyH_ready (rs := [13]) (by kernel_rfl) (by simp) (AllReadyH.cons rfl (fun K hK => ?_) AllReadyH.nil)
          go_simp
          refine (awake_any _ Xzq.out.1.2.2.1).mono ?_
          rintro e Wv ⟨rfl, hbv⟩
          have Xv := Lib.hid (And.intro (Xzq.out.1.next hbv) (Xzq.out.2.next hbv))
          clear hbv
          go_wp2_with fail
          refine hK.out _ _ (⟨Xv.out.1.1, Xv.out.2.1⟩) (fun hHeld => ?_)
          clear hK K
          refine wpAnyH_take (i := 14) (v := ?v31) rfl (by kernel_rfl) (by kernel_rfl) (by kernel_rfl) (fun _ _ _ h => h) (Or.inl ⟨by rfl, ?y31⟩) hHeld ?r31
          case y31 => (intro w hSw; obtain ⟨hc, hd⟩ := hSw; have c0 := hc.cell (i := 0) rfl; have c1 := hc.cell (i := 1) rfl; have c2 := hc.cell (i := 2) rfl; have c3 := hc.cell (i := 3) rfl; have d0 := hd.cell (i := 0) rfl; have d1 := hd.cell (i := 1) rfl; have d2 := hd.cell (i := 2) rfl; have d3 := hd.cell (i := 3) rfl; clear hc hd; go_simp; try with_reducible rfl)
          simp only [List.getElem_toArray, List.getElem_cons_zero, List.getElem_cons_succ, Act.put, List.setIfInBounds_toArray, List.set_cons_zero, List.set_cons_succ]
          refine wpAnyH_take (i := 15) (v := ?v32) rfl (by kernel_rfl) (by kernel_rfl) (by kernel_rfl) (fun _ _ _ h => h) (Or.inl ⟨by rfl, ?y32⟩) hHeld ?r32
          case y32 => (intro w hSw; obtain ⟨hc, hd⟩ := hSw; have c0 := hc.cell (i := 0) rfl; have c1 := hc.cell (i := 1) rfl; have c2 := hc.cell (i := 2) rfl; have c3 := hc.cell (i := 3) rfl; have d0 := hd.cell (i := 0) rfl; have d1 := hd.cell (i := 1) rfl; have d2 := hd.cell (i := 2) rfl; have d3 := hd.cell (i := 3) rfl; clear hc hd; go_simp; try with_reducible rfl)
          simp only [List.getElem_toArray, List.getElem_cons_zero, List.getElem_cons_succ, Act.put, List.setIfInBounds_toArray, List.set_cons_zero, List.set_cons_succ]
          refine wpAnyH_done (by kernel_rfl) ?_ _
          go_wp2
          go_ret
          exact ⟨rfl, Xv.out.1.2.2.2⟩
    · have hf' : few l' = false := by simpa using hf2
      rw [hf']
      go_wp2_with fail
      refine (awake_any W2 X2.out.1.2.2.1).mono ?_
      rintro e W3 ⟨rfl, hb3⟩
      have hfin := Lib.hid (X2.out.1.next hb3).2.2.2
      go_wp2
      go_ret
      exact ⟨rfl, hfin.out⟩
  · have hf' : few l = false := by simpa using hf
    rw [hf']
    go_wp2_with fail
    refine (awake_any W1 X1.out.1.2.2.1).mono ?_
    rintro e W3 ⟨rfl, hb3⟩
    have hfin := Lib.hid (X1.out.1.next hb3).2.2.2
    go_wp2
    go_ret
    exact ⟨rfl, hfin.out⟩
end Go.Proofs.YthdchoagdipplaaDoor
