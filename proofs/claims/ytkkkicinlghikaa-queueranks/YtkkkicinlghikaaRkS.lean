/- The walk of the law QueueRanks: one is picked. -/
import Derived.Test.YtkkkicinlghikaaRkM
namespace Go.Proofs.Ytkkkicinlghikaa
open Go.RowKit

set_option maxRecDepth 100000 in
set_option maxHeartbeats 4000000 in
theorem ranks_some (b off b' off' : Nat) (cap cap' : Nat) (l : List Sb) (gs : List Int) (n : Nat) (hn : l.length = n) (hm : gs.length = n) (w : World) (hR : Rk w (some ⟨b, off, none⟩) (some ⟨b', off', none⟩) l gs n w) (h40 : n ≤ 40)
    (hC : ∀ (k : Nat) (S : Sb) (x : Int), l[k]? = some S → gs[k]? = some x → ∀ w, Calls Try.prog 16 #[cu S.n S.c S.g S.l, .int .u64 x] w (Ret (.int .i64 (qd S.n S.c x)) w)) (hQ : ∀ (k : Nat) (S : Sb) (x : Int), l[k]? = some S → gs[k]? = some x → (qd S.n S.c x = 0 ↔ wvf l gs k = 0) ∧ 0 ≤ qd S.n S.c x)
    (p : Nat) (Sp : Sb) (xp : Int) (hp : l[p]? = some Sp) (hxp : gs[p]? = some xp) (hpn : p < n) (hqp : qd Sp.n Sp.c xp ≠ 0) (hV : ∀ j, j < n → wvf l gs j ≠ 0 → rkf l j ≤ Sp.rk ∧ (rkf l j = Sp.rk → p ≤ j)) (hP : Calls Try.prog 22 #[.slice (some ⟨b, off, none⟩) n cap, .slice (some ⟨b', off', none⟩) n cap'] w (Ret (.tuple #[.int .i64 p, .int .i64 0]) w)) :
    Calls Try.prog 8 #[.slice (some ⟨b, off, none⟩) n cap, .slice (some ⟨b', off', none⟩) n cap'] w (Ret (.bool true) w) := by
  have g1 : ¬ (40 : Int) < n := by omega
  have hn40 : (n : Int) ≤ 40 := by omega
  have Hn := Lib.hid (And.intro hn hm)
  have HR := Lib.hid hR
  have HCC := Lib.hid hC
  have HQ := Lib.hid hQ
  have HV := Lib.hid hV
  have HP := Lib.hid hP
  have hnn : ((n : Int) != n) = false := by simp
  have Hp := Lib.hid (And.intro hp hxp)
  have HC := Lib.hid (hC p Sp xp hp hxp)
  have hqp2 : (qd Sp.n Sp.c xp == 0) = false := by simpa using hqp
  have hpi : (p : Int) < n := by omega
  have h1 : decide ((p : Int) < -1) = false := decide_eq_false (by omega)
  have h2 : decide ((n : Int) ≤ p) = false := decide_eq_false (by omega)
  have h3 : decide ((0 : Int) ≤ p) = true := decide_eq_true (by omega)
  have h4 : decide ((p : Int) < 0) = false := decide_eq_false (by omega)
  clear hn hm hR h40 hC hQ hV hP hp hxp hqp
  obtain ⟨tpp, rkp, np, cp, gp, lp⟩ := Sp
  simp only at HC hqp2 HV
  generalize qd np cp xp = qp at HC hqp2
  go_enter Try.func8, Try.ntmps8
  go_wp2_with fail
  refine HP.out.mono ?_
  rintro e w1 ⟨rfl, hb⟩
  have H1 := Lib.hid (HR.out.next hb)
  clear hb HR HP
  go_wp2_with fail
  refine wp_region_held_drew (S := Rk w (some ⟨b, off, none⟩) (some ⟨b', off', none⟩) l gs n) (by kernel_rfl) (H1.out.drew) (fun hHeld => ?_)
  refine wpAnyH_take (i := 0) (v := ?v1) rfl (by kernel_rfl) (by kernel_rfl) (by kernel_rfl) (fun _ _ _ h => h) (Or.inl ⟨by rfl, ?y1⟩) hHeld ?r1
  case y1 => (intro w hSw; have G := (show SG b off b' off' p rkp np cp gp lp xp _ from Rk.at hSw Hp.out.1 Hp.out.2); have g1 := G.c1; have g2 := G.c2; have g3 := G.c3; have g4 := G.c4; have g5 := G.c5; have g6 := G.x0; clear G hSw; go_simp; try with_reducible rfl)
  simp only [List.getElem_toArray, List.getElem_cons_zero, Act.put, List.setIfInBounds_toArray, List.set_cons_zero, List.set_cons_succ]
  refine wpAnyH_take (i := 1) (v := ?v2) rfl (by kernel_rfl) (by kernel_rfl) (by kernel_rfl) (fun _ _ _ h => h) (Or.inl ⟨by rfl, ?y2⟩) hHeld ?r2
  case y2 => (intro w hSw; have G := (show SG b off b' off' p rkp np cp gp lp xp _ from Rk.at hSw Hp.out.1 Hp.out.2); have g1 := G.c1; have g2 := G.c2; have g3 := G.c3; have g4 := G.c4; have g5 := G.c5; have g6 := G.x0; clear G hSw; go_simp; try with_reducible rfl)
  simp only [List.getElem_toArray, List.getElem_cons_zero, List.getElem_cons_succ, Act.put, List.setIfInBounds_toArray, List.set_cons_zero, List.set_cons_succ]
  refine wpAnyH_take (i := 2) (v := ?v3) rfl (by kernel_rfl) (by kernel_rfl) (by kernel_rfl) (fun _ _ _ h => h) (Or.inl ⟨by rfl, ?y3⟩) hHeld ?r3
  case y3 => (intro w hSw; have G := (show SG b off b' off' p rkp np cp gp lp xp _ from Rk.at hSw Hp.out.1 Hp.out.2); have g1 := G.c1; have g2 := G.c2; have g3 := G.c3; have g4 := G.c4; have g5 := G.c5; have g6 := G.x0; clear G hSw; go_simp; try with_reducible rfl)
  simp only [List.getElem_toArray, List.getElem_cons_zero, List.getElem_cons_succ, Act.put, List.setIfInBounds_toArray, List.set_cons_zero, List.set_cons_succ]
  refine wpAnyH_take (i := 3) (v := ?v4) rfl (by kernel_rfl) (by kernel_rfl) (by kernel_rfl) (fun _ _ _ h => h) (Or.inl ⟨by rfl, ?y4⟩) hHeld ?r4
  case y4 => (intro w hSw; have G := (show SG b off b' off' p rkp np cp gp lp xp _ from Rk.at hSw Hp.out.1 Hp.out.2); have g1 := G.c1; have g2 := G.c2; have g3 := G.c3; have g4 := G.c4; have g5 := G.c5; have g6 := G.x0; clear G hSw; go_simp; try with_reducible rfl)
  simp only [List.getElem_toArray, List.getElem_cons_zero, List.getElem_cons_succ, Act.put, List.setIfInBounds_toArray, List.set_cons_zero, List.set_cons_succ]
  refine wpAnyH_take (i := 4) (v := ?v5) rfl (by kernel_rfl) (by kernel_rfl) (by kernel_rfl) (fun _ _ _ h => h) (Or.inl ⟨by rfl, ?y5⟩) hHeld ?r5
  case y5 => (intro w hSw; have G := (show SG b off b' off' p rkp np cp gp lp xp _ from Rk.at hSw Hp.out.1 Hp.out.2); have g1 := G.c1; have g2 := G.c2; have g3 := G.c3; have g4 := G.c4; have g5 := G.c5; have g6 := G.x0; clear G hSw; go_simp; try with_reducible rfl)
  simp only [List.getElem_toArray, List.getElem_cons_zero, List.getElem_cons_succ, Act.put, List.setIfInBounds_toArray, List.set_cons_zero, List.set_cons_succ]
  refine wpAnyH_take (i := 5) (v := ?v6) rfl (by kernel_rfl) (by kernel_rfl) (by kernel_rfl) (fun _ _ _ h => h) (Or.inl ⟨by rfl, ?y6⟩) hHeld ?r6
  case y6 => (intro w hSw; have G := (show SG b off b' off' p rkp np cp gp lp xp _ from Rk.at hSw Hp.out.1 Hp.out.2); have g1 := G.c1; have g2 := G.c2; have g3 := G.c3; have g4 := G.c4; have g5 := G.c5; have g6 := G.x0; clear G hSw; go_simp; try with_reducible rfl)
  simp only [List.getElem_toArray, List.getElem_cons_zero, List.getElem_cons_succ, Act.put, List.setIfInBounds_toArray, List.set_cons_zero, List.set_cons_succ]
  refine wpAnyH_take (i := 6) (v := ?v7) rfl (by kernel_rfl) (by kernel_rfl) (by kernel_rfl) (fun _ _ _ h => h) (Or.inl ⟨by rfl, ?y7⟩) hHeld ?r7
  case y7 => (intro w hSw; have G := (show SG b off b' off' p rkp np cp gp lp xp _ from Rk.at hSw Hp.out.1 Hp.out.2); have g1 := G.c1; have g2 := G.c2; have g3 := G.c3; have g4 := G.c4; have g5 := G.c5; have g6 := G.x0; clear G hSw; go_simp; try with_reducible rfl)
  simp only [List.getElem_toArray, List.getElem_cons_zero, List.getElem_cons_succ, Act.put, List.setIfInBounds_toArray, List.set_cons_zero, List.set_cons_succ]
  refine wpAnyH_take (i := 7) (v := .bool false) rfl (by kernel_rfl) (by kernel_rfl) (by kernel_rfl) (fun _ _ _ h => h) (Or.inl ⟨by rfl, ?y8⟩) hHeld ?r8
  case y8 => (intro w hSw; have G := (show SG b off b' off' p rkp np cp gp lp xp _ from Rk.at hSw Hp.out.1 Hp.out.2); have g1 := G.c1; have g2 := G.c2; have g3 := G.c3; have g4 := G.c4; have g5 := G.c5; have g6 := G.x0; clear G hSw; go_simp; try with_reducible rfl)
  simp only [List.getElem_toArray, List.getElem_cons_zero, List.getElem_cons_succ, Act.put, List.setIfInBounds_toArray, List.set_cons_zero, List.set_cons_succ]
  refine wpAnyH_take (i := 8) (v := .bool false) rfl (by kernel_rfl) (by kernel_rfl) (by kernel_rfl) (fun _ _ _ h => h) (Or.inl ⟨by rfl, ?y9⟩) hHeld ?r9
  case y9 => (intro w hSw; have G := (show SG b off b' off' p rkp np cp gp lp xp _ from Rk.at hSw Hp.out.1 Hp.out.2); have g1 := G.c1; have g2 := G.c2; have g3 := G.c3; have g4 := G.c4; have g5 := G.c5; have g6 := G.x0; clear G hSw; go_simp; try with_reducible rfl)
  simp only [List.getElem_toArray, List.getElem_cons_zero, List.getElem_cons_succ, Act.put, List.setIfInBounds_toArray, List.set_cons_zero, List.set_cons_succ]
  refine wpAnyH_take (i := 9) (v := ?v10) rfl (by kernel_rfl) (by kernel_rfl) (by kernel_rfl) (fun _ _ _ h => h) (Or.inl ⟨by rfl, ?y10⟩) hHeld ?r10
  case y10 => (intro w hSw; have G := (show SG b off b' off' p rkp np cp gp lp xp _ from Rk.at hSw Hp.out.1 Hp.out.2); have g1 := G.c1; have g2 := G.c2; have g3 := G.c3; have g4 := G.c4; have g5 := G.c5; have g6 := G.x0; clear G hSw; go_simp; try with_reducible rfl)
  simp only [List.getElem_toArray, List.getElem_cons_zero, List.getElem_cons_succ, Act.put, List.setIfInBounds_toArray, List.set_cons_zero, List.set_cons_succ]
  refine wpAnyH_take (i := 10) (v := ?v11) rfl (by kernel_rfl) (by kernel_rfl) (by kernel_rfl) (fun _ _ _ h => h) (Or.inl ⟨by rfl, ?y11⟩) hHeld ?r11
  case y11 => (intro w hSw; have G := (show SG b off b' off' p rkp np cp gp lp xp _ from Rk.at hSw Hp.out.1 Hp.out.2); have g1 := G.c1; have g2 := G.c2; have g3 := G.c3; have g4 := G.c4; have g5 := G.c5; have g6 := G.x0; clear G hSw; go_simp; try with_reducible rfl)
  simp only [List.getElem_toArray, List.getElem_cons_zero, List.getElem_cons_succ, Act.put, List.setIfInBounds_toArray, List.set_cons_zero, List.set_cons_succ]
  refine wpAnyH_take (i := 11) (v := ?v12) rfl (by kernel_rfl) (by kernel_rfl) (by kernel_rfl) (fun _ _ _ h => h) (Or.inl ⟨by rfl, ?y12⟩) hHeld ?r12
  case y12 => (intro w hSw; have G := (show SG b off b' off' p rkp np cp gp lp xp _ from Rk.at hSw Hp.out.1 Hp.out.2); have g1 := G.c1; have g2 := G.c2; have g3 := G.c3; have g4 := G.c4; have g5 := G.c5; have g6 := G.x0; clear G hSw; go_simp; try with_reducible rfl)
  simp only [List.getElem_toArray, List.getElem_cons_zero, List.getElem_cons_succ, Act.put, List.setIfInBounds_toArray, List.set_cons_zero, List.set_cons_succ]
  refine wpAnyH_take (i := 12) (v := ?v13) rfl (by kernel_rfl) (by kernel_rfl) (by kernel_rfl) (fun _ _ _ h => h) (Or.inl ⟨by rfl, ?y13⟩) hHeld ?r13
  case y13 => (intro w hSw; have G := (show SG b off b' off' p rkp np cp gp lp xp _ from Rk.at hSw Hp.out.1 Hp.out.2); have g1 := G.c1; have g2 := G.c2; have g3 := G.c3; have g4 := G.c4; have g5 := G.c5; have g6 := G.x0; clear G hSw; go_simp; try with_reducible rfl)
  simp only [List.getElem_toArray, List.getElem_cons_zero, List.getElem_cons_succ, Act.put, List.setIfInBounds_toArray, List.set_cons_zero, List.set_cons_succ]
  refine wpAnyH_take (i := 13) (v := .bool false) rfl (by kernel_rfl) (by kernel_rfl) (by kernel_rfl) (fun _ _ _ h => h) (Or.inl ⟨by rfl, ?y14⟩) hHeld ?r14
  case y14 => (intro w hSw; have G := (show SG b off b' off' p rkp np cp gp lp xp _ from Rk.at hSw Hp.out.1 Hp.out.2); have g1 := G.c1; have g2 := G.c2; have g3 := G.c3; have g4 := G.c4; have g5 := G.c5; have g6 := G.x0; clear G hSw; go_simp; try with_reducible rfl)
  simp only [List.getElem_toArray, List.getElem_cons_zero, List.getElem_cons_succ, Act.put, List.setIfInBounds_toArray, List.set_cons_zero, List.set_cons_succ]
  refine wpAnyH_take (i := 14) (v := .bool false) rfl (by kernel_rfl) (by kernel_rfl) (by kernel_rfl) (fun _ _ _ h => h) (Or.inl ⟨by rfl, ?y15⟩) hHeld ?r15
  case y15 => (intro w hSw; have G := (show SG b off b' off' p rkp np cp gp lp xp _ from Rk.at hSw Hp.out.1 Hp.out.2); have g1 := G.c1; have g2 := G.c2; have g3 := G.c3; have g4 := G.c4; have g5 := G.c5; have g6 := G.x0; clear G hSw; go_simp; try with_reducible rfl)
  simp only [List.getElem_toArray, List.getElem_cons_zero, List.getElem_cons_succ, Act.put, List.setIfInBounds_toArray, List.set_cons_zero, List.set_cons_succ]
  refine wpAnyH_take (i := 15) (v := ?v16) rfl (by kernel_rfl) (by kernel_rfl) (by kernel_rfl) (fun _ _ _ h => h) (Or.inl ⟨by rfl, ?y16⟩) hHeld ?r16
  case y16 => (intro w hSw; have G := (show SG b off b' off' p rkp np cp gp lp xp _ from Rk.at hSw Hp.out.1 Hp.out.2); have g1 := G.c1; have g2 := G.c2; have g3 := G.c3; have g4 := G.c4; have g5 := G.c5; have g6 := G.x0; clear G hSw; go_simp; try with_reducible rfl)
  simp only [List.getElem_toArray, List.getElem_cons_zero, List.getElem_cons_succ, Act.put, List.setIfInBounds_toArray, List.set_cons_zero, List.set_cons_succ]
  refine wpAnyH_take (i := 16) (v := ?v17) rfl (by kernel_rfl) (by kernel_rfl) (by kernel_rfl) (fun _ _ _ h => h) (Or.inl ⟨by rfl, ?y17⟩) hHeld ?r17
  case y17 => (intro w hSw; have G := (show SG b off b' off' p rkp np cp gp lp xp _ from Rk.at hSw Hp.out.1 Hp.out.2); have g1 := G.c1; have g2 := G.c2; have g3 := G.c3; have g4 := G.c4; have g5 := G.c5; have g6 := G.x0; clear G hSw; go_simp; try with_reducible rfl)
  simp only [List.getElem_toArray, List.getElem_cons_zero, List.getElem_cons_succ, Act.put, List.setIfInBounds_toArray, List.set_cons_zero, List.set_cons_succ]
  refine wpAnyH_take (i := 17) (v := .bool true) rfl (by kernel_rfl) (by kernel_rfl) (by kernel_rfl) (fun _ _ _ h => h) (Or.inl ⟨by rfl, ?y18⟩) hHeld ?r18
  case y18 => (intro w hSw; have G := (show SG b off b' off' p rkp np cp gp lp xp _ from Rk.at hSw Hp.out.1 Hp.out.2); have g1 := G.c1; have g2 := G.c2; have g3 := G.c3; have g4 := G.c4; have g5 := G.c5; have g6 := G.x0; clear G hSw; go_simp; try with_reducible rfl)
  simp only [List.getElem_toArray, List.getElem_cons_zero, List.getElem_cons_succ, Act.put, List.setIfInBounds_toArray, List.set_cons_zero, List.set_cons_succ]
  refine wpAnyH_take (i := 18) (v := ?v19) rfl (by kernel_rfl) (by kernel_rfl) (by kernel_rfl) (fun _ _ _ h => h) (Or.inl ⟨by rfl, ?y19⟩) hHeld ?r19
  case y19 => (intro w hSw; have G := (show SG b off b' off' p rkp np cp gp lp xp _ from Rk.at hSw Hp.out.1 Hp.out.2); have g1 := G.c1; have g2 := G.c2; have g3 := G.c3; have g4 := G.c4; have g5 := G.c5; have g6 := G.x0; clear G hSw; go_simp; try with_reducible rfl)
  simp only [List.getElem_toArray, List.getElem_cons_zero, List.getElem_cons_succ, Act.put, List.setIfInBounds_toArray, List.set_cons_zero, List.set_cons_succ]
  refine wpAnyH_take (i := 19) (v := ?v20) rfl (by kernel_rfl) (by kernel_rfl) (by kernel_rfl) (fun _ _ _ h => h) (Or.inl ⟨by rfl, ?y20⟩) hHeld ?r20
  case y20 => (intro w hSw; have G := (show SG b off b' off' p rkp np cp gp lp xp _ from Rk.at hSw Hp.out.1 Hp.out.2); have g1 := G.c1; have g2 := G.c2; have g3 := G.c3; have g4 := G.c4; have g5 := G.c5; have g6 := G.x0; clear G hSw; go_simp; try with_reducible rfl)
  simp only [List.getElem_toArray, List.getElem_cons_zero, List.getElem_cons_succ, Act.put, List.setIfInBounds_toArray, List.set_cons_zero, List.set_cons_succ]
  refine wpAnyH_take (i := 20) (v := ?v21) rfl (by kernel_rfl) (by kernel_rfl) (by kernel_rfl) (fun _ _ _ h => h) (Or.inl ⟨by rfl, ?y21⟩) hHeld ?r21
  case y21 => (intro w hSw; have G := (show SG b off b' off' p rkp np cp gp lp xp _ from Rk.at hSw Hp.out.1 Hp.out.2); have g1 := G.c1; have g2 := G.c2; have g3 := G.c3; have g4 := G.c4; have g5 := G.c5; have g6 := G.x0; clear G hSw; go_simp; try with_reducible rfl)
  simp only [List.getElem_toArray, List.getElem_cons_zero, List.getElem_cons_succ, Act.put, List.setIfInBounds_toArray, List.set_cons_zero, List.set_cons_succ]
  refine wpAnyH_take (i := 21) (v := ?v22) rfl (by kernel_rfl) (by kernel_rfl) (by kernel_rfl) (fun _ _ _ h => h) (Or.inl ⟨by rfl, ?y22⟩) hHeld ?r22
  case y22 => (intro w hSw; have G := (show SG b off b' off' p rkp np cp gp lp xp _ from Rk.at hSw Hp.out.1 Hp.out.2); have g1 := G.c1; have g2 := G.c2; have g3 := G.c3; have g4 := G.c4; have g5 := G.c5; have g6 := G.x0; clear G hSw; go_simp; try with_reducible rfl)
  simp only [List.getElem_toArray, List.getElem_cons_zero, List.getElem_cons_succ, Act.put, List.setIfInBounds_toArray, List.set_cons_zero, List.set_cons_succ]
  refine wpAnyH_take (i := 22) (v := ?v23) rfl (by kernel_rfl) (by kernel_rfl) (by kernel_rfl) (fun _ _ _ h => h) (Or.inl ⟨by rfl, ?y23⟩) hHeld ?r23
  case y23 => (intro w hSw; have G := (show SG b off b' off' p rkp np cp gp lp xp _ from Rk.at hSw Hp.out.1 Hp.out.2); have g1 := G.c1; have g2 := G.c2; have g3 := G.c3; have g4 := G.c4; have g5 := G.c5; have g6 := G.x0; clear G hSw; go_simp; try with_reducible rfl)
  simp only [List.getElem_toArray, List.getElem_cons_zero, List.getElem_cons_succ, Act.put, List.setIfInBounds_toArray, List.set_cons_zero, List.set_cons_succ]
  refine wpAnyH_take (i := 23) (v := ?v24) rfl (by kernel_rfl) (by kernel_rfl) (by kernel_rfl) (fun _ _ _ h => h) (Or.inl ⟨by rfl, ?y24⟩) hHeld ?r24
  case y24 => (intro w hSw; have G := (show SG b off b' off' p rkp np cp gp lp xp _ from Rk.at hSw Hp.out.1 Hp.out.2); have g1 := G.c1; have g2 := G.c2; have g3 := G.c3; have g4 := G.c4; have g5 := G.c5; have g6 := G.x0; clear G hSw; go_simp; try with_reducible rfl)
  simp only [List.getElem_toArray, List.getElem_cons_zero, List.getElem_cons_succ, Act.put, List.setIfInBounds_toArray, List.set_cons_zero, List.set_cons_succ]
  refine wpAnyH_take (i := 24) (v := ?v25) rfl (by kernel_rfl) (by kernel_rfl) (by kernel_rfl) (fun _ _ _ h => h) (Or.inl ⟨by rfl, ?y25⟩) hHeld ?r25
  case y25 => (intro w hSw; have G := (show SG b off b' off' p rkp np cp gp lp xp _ from Rk.at hSw Hp.out.1 Hp.out.2); have g1 := G.c1; have g2 := G.c2; have g3 := G.c3; have g4 := G.c4; have g5 := G.c5; have g6 := G.x0; clear G hSw; go_simp; try with_reducible rfl)
  simp only [List.getElem_toArray, List.getElem_cons_zero, List.getElem_cons_succ, Act.put, List.setIfInBounds_toArray, List.set_cons_zero, List.set_cons_succ]
  refine wpAnyH_take (i := 25) (v := ?v26) rfl (by kernel_rfl) (by kernel_rfl) (by kernel_rfl) (fun _ _ _ h => h) (Or.inl ⟨by rfl, ?y26⟩) hHeld ?r26
  case y26 => (intro w hSw; have G := (show SG b off b' off' p rkp np cp gp lp xp _ from Rk.at hSw Hp.out.1 Hp.out.2); have g1 := G.c1; have g2 := G.c2; have g3 := G.c3; have g4 := G.c4; have g5 := G.c5; have g6 := G.x0; clear G hSw; go_simp; try with_reducible rfl)
  simp only [List.getElem_toArray, List.getElem_cons_zero, List.getElem_cons_succ, Act.put, List.setIfInBounds_toArray, List.set_cons_zero, List.set_cons_succ]
  refine wpAnyH_take (i := 26) (v := ?v27) rfl (by kernel_rfl) (by kernel_rfl) (by kernel_rfl) (fun _ _ _ h => h) (Or.inl ⟨by rfl, ?y27⟩) hHeld ?r27
  case y27 => (intro w hSw; have G := (show SG b off b' off' p rkp np cp gp lp xp _ from Rk.at hSw Hp.out.1 Hp.out.2); have g1 := G.c1; have g2 := G.c2; have g3 := G.c3; have g4 := G.c4; have g5 := G.c5; have g6 := G.x0; clear G hSw; go_simp; try with_reducible rfl)
  simp only [List.getElem_toArray, List.getElem_cons_zero, List.getElem_cons_succ, Act.put, List.setIfInBounds_toArray, List.set_cons_zero, List.set_cons_succ]
  refine wpAnyH_take (i := 27) (v := ?v28) rfl (by kernel_rfl) (by kernel_rfl) (by kernel_rfl) (fun _ _ _ h => h) (Or.inl ⟨by rfl, ?y28⟩) hHeld ?r28
  case y28 => (intro w hSw; have G := (show SG b off b' off' p rkp np cp gp lp xp _ from Rk.at hSw Hp.out.1 Hp.out.2); have g1 := G.c1; have g2 := G.c2; have g3 := G.c3; have g4 := G.c4; have g5 := G.c5; have g6 := G.x0; clear G hSw; go_simp; try with_reducible rfl)
  simp only [List.getElem_toArray, List.getElem_cons_zero, List.getElem_cons_succ, Act.put, List.setIfInBounds_toArray, List.set_cons_zero, List.set_cons_succ]
  refine wpAnyH_ready (rs := [28]) (by kernel_rfl) (by simp) (AllReadyH.cons rfl (fun K hK => ?_) AllReadyH.nil)
  go_simp
  refine (HC.out _).mono ?_
  rintro e x1 ⟨rfl, hb⟩
  have X1 := Lib.hid (hHeld.next hb)
  clear hb
  go_wp2_with fail
  refine hK.out _ _ (X1.out) (fun hHeld => ?_)
  clear hK K
  refine wpAnyH_take (i := 29) (v := ?v30) rfl (by kernel_rfl) (by kernel_rfl) (by kernel_rfl) (fun _ _ _ h => h) (Or.inl ⟨by rfl, ?y30⟩) hHeld ?r30
  case y30 => (intro w hSw; have G := (show SG b off b' off' p rkp np cp gp lp xp _ from Rk.at hSw Hp.out.1 Hp.out.2); have g1 := G.c1; have g2 := G.c2; have g3 := G.c3; have g4 := G.c4; have g5 := G.c5; have g6 := G.x0; clear G hSw; go_simp; try with_reducible rfl)
  simp only [List.getElem_toArray, List.getElem_cons_zero, List.getElem_cons_succ, Act.put, List.setIfInBounds_toArray, List.set_cons_zero, List.set_cons_succ]
  refine wpAnyH_take (i := 30) (v := ?v31) rfl (by kernel_rfl) (by kernel_rfl) (by kernel_rfl) (fun _ _ _ h => h) (Or.inl ⟨by rfl, ?y31⟩) hHeld ?r31
  case y31 => (intro w hSw; have G := (show SG b off b' off' p rkp np cp gp lp xp _ from Rk.at hSw Hp.out.1 Hp.out.2); have g1 := G.c1; have g2 := G.c2; have g3 := G.c3; have g4 := G.c4; have g5 := G.c5; have g6 := G.x0; clear G hSw; go_simp; try with_reducible rfl)
  simp only [List.getElem_toArray, List.getElem_cons_zero, List.getElem_cons_succ, Act.put, List.setIfInBounds_toArray, List.set_cons_zero, List.set_cons_succ]
  refine wpAnyH_take (i := 31) (v := ?v32) rfl (by kernel_rfl) (by kernel_rfl) (by kernel_rfl) (fun _ _ _ h => h) (Or.inl ⟨by rfl, ?y32⟩) hHeld ?r32
  case y32 => (intro w hSw; have G := (show SG b off b' off' p rkp np cp gp lp xp _ from Rk.at hSw Hp.out.1 Hp.out.2); have g1 := G.c1; have g2 := G.c2; have g3 := G.c3; have g4 := G.c4; have g5 := G.c5; have g6 := G.x0; clear G hSw; go_simp; try with_reducible rfl)
  simp only [List.getElem_toArray, List.getElem_cons_zero, List.getElem_cons_succ, Act.put, List.setIfInBounds_toArray, List.set_cons_zero, List.set_cons_succ]
  refine wpAnyH_done (by kernel_rfl) ?_ _
  have HS := X1
  clear X1 hHeld HC hqp2 h1 h2 h3 H1
  go_wp2_with fail
  go_loopw [7] (fun i wr => RkRel w (some ⟨b, off, none⟩) (some ⟨b', off', none⟩) l gs n i wr) (fun i _ => n - (intOf i).toNat)
  case atStart => exact ⟨0, rfl, by omega, HS.out⟩
  case round =>
    obtain ⟨k, rfl, hk, hb⟩ := hrel
    have HK := Lib.hid hb
    clear hb
    by_cases hlt : (k : Int) < n
    · obtain ⟨S, hSk⟩ : ∃ S, l[k]? = some S := ⟨_, List.getElem?_eq_getElem (by have := Hn.out.1; omega)⟩
      obtain ⟨x, hxk⟩ : ∃ x, gs[k]? = some x := ⟨_, List.getElem?_eq_getElem (by have := Hn.out.2; omega)⟩
      have Hk := Lib.hid (And.intro hSk hxk)
      have HC := Lib.hid (HCC.out k S x hSk hxk)
      have hq := HQ.out k S x hSk hxk
      have hrk := rkf_at hSk
      clear hSk hxk
      obtain ⟨tp, rk, sn, sc, sg, sl⟩ := S
      simp only at HC hq hrk
      generalize qd sn sc x = q at HC hq
      by_cases hq0 : q = 0
      · have hz : decide (0 < q) = false := decide_eq_false (by omega)
        clear hq hq0 hrk
        go_wp2_with fail
        refine wp_region_held_drew (S := Rk w (some ⟨b, off, none⟩) (some ⟨b', off', none⟩) l gs n) (by kernel_rfl) (HK.out.drew) (fun hHeld => ?_)
        refine wpAnyH_take (i := 0) (v := ?v79) rfl (by kernel_rfl) (by kernel_rfl) (by kernel_rfl) (fun _ _ _ h => h) (Or.inl ⟨by rfl, ?y79⟩) hHeld ?r79
        case y79 => (intro w hSw; have G := (show SG b off b' off' k rk sn sc sg sl x _ from Rk.at hSw Hk.out.1 Hk.out.2); have g1 := G.c1; have g2 := G.c2; have g3 := G.c3; have g4 := G.c4; have g5 := G.c5; have g6 := G.x0; clear G hSw; go_simp; try with_reducible rfl)
        simp only [List.getElem_toArray, List.getElem_cons_zero, Act.put, List.setIfInBounds_toArray, List.set_cons_zero, List.set_cons_succ]
        refine wpAnyH_take (i := 1) (v := ?v80) rfl (by kernel_rfl) (by kernel_rfl) (by kernel_rfl) (fun _ _ _ h => h) (Or.inl ⟨by rfl, ?y80⟩) hHeld ?r80
        case y80 => (intro w hSw; have G := (show SG b off b' off' k rk sn sc sg sl x _ from Rk.at hSw Hk.out.1 Hk.out.2); have g1 := G.c1; have g2 := G.c2; have g3 := G.c3; have g4 := G.c4; have g5 := G.c5; have g6 := G.x0; clear G hSw; go_simp; try with_reducible rfl)
        simp only [List.getElem_toArray, List.getElem_cons_zero, List.getElem_cons_succ, Act.put, List.setIfInBounds_toArray, List.set_cons_zero, List.set_cons_succ]
        refine wpAnyH_take (i := 2) (v := ?v81) rfl (by kernel_rfl) (by kernel_rfl) (by kernel_rfl) (fun _ _ _ h => h) (Or.inl ⟨by rfl, ?y81⟩) hHeld ?r81
        case y81 => (intro w hSw; have G := (show SG b off b' off' k rk sn sc sg sl x _ from Rk.at hSw Hk.out.1 Hk.out.2); have g1 := G.c1; have g2 := G.c2; have g3 := G.c3; have g4 := G.c4; have g5 := G.c5; have g6 := G.x0; clear G hSw; go_simp; try with_reducible rfl)
        simp only [List.getElem_toArray, List.getElem_cons_zero, List.getElem_cons_succ, Act.put, List.setIfInBounds_toArray, List.set_cons_zero, List.set_cons_succ]
        refine wpAnyH_take (i := 3) (v := ?v82) rfl (by kernel_rfl) (by kernel_rfl) (by kernel_rfl) (fun _ _ _ h => h) (Or.inl ⟨by rfl, ?y82⟩) hHeld ?r82
        case y82 => (intro w hSw; have G := (show SG b off b' off' k rk sn sc sg sl x _ from Rk.at hSw Hk.out.1 Hk.out.2); have g1 := G.c1; have g2 := G.c2; have g3 := G.c3; have g4 := G.c4; have g5 := G.c5; have g6 := G.x0; clear G hSw; go_simp; try with_reducible rfl)
        simp only [List.getElem_toArray, List.getElem_cons_zero, List.getElem_cons_succ, Act.put, List.setIfInBounds_toArray, List.set_cons_zero, List.set_cons_succ]
        refine wpAnyH_take (i := 4) (v := ?v83) rfl (by kernel_rfl) (by kernel_rfl) (by kernel_rfl) (fun _ _ _ h => h) (Or.inl ⟨by rfl, ?y83⟩) hHeld ?r83
        case y83 => (intro w hSw; have G := (show SG b off b' off' k rk sn sc sg sl x _ from Rk.at hSw Hk.out.1 Hk.out.2); have g1 := G.c1; have g2 := G.c2; have g3 := G.c3; have g4 := G.c4; have g5 := G.c5; have g6 := G.x0; clear G hSw; go_simp; try with_reducible rfl)
        simp only [List.getElem_toArray, List.getElem_cons_zero, List.getElem_cons_succ, Act.put, List.setIfInBounds_toArray, List.set_cons_zero, List.set_cons_succ]
        refine wpAnyH_take (i := 5) (v := ?v84) rfl (by kernel_rfl) (by kernel_rfl) (by kernel_rfl) (fun _ _ _ h => h) (Or.inl ⟨by rfl, ?y84⟩) hHeld ?r84
        case y84 => (intro w hSw; have G := (show SG b off b' off' k rk sn sc sg sl x _ from Rk.at hSw Hk.out.1 Hk.out.2); have g1 := G.c1; have g2 := G.c2; have g3 := G.c3; have g4 := G.c4; have g5 := G.c5; have g6 := G.x0; clear G hSw; go_simp; try with_reducible rfl)
        simp only [List.getElem_toArray, List.getElem_cons_zero, List.getElem_cons_succ, Act.put, List.setIfInBounds_toArray, List.set_cons_zero, List.set_cons_succ]
        refine wpAnyH_take (i := 6) (v := ?v85) rfl (by kernel_rfl) (by kernel_rfl) (by kernel_rfl) (fun _ _ _ h => h) (Or.inl ⟨by rfl, ?y85⟩) hHeld ?r85
        case y85 => (intro w hSw; have G := (show SG b off b' off' k rk sn sc sg sl x _ from Rk.at hSw Hk.out.1 Hk.out.2); have g1 := G.c1; have g2 := G.c2; have g3 := G.c3; have g4 := G.c4; have g5 := G.c5; have g6 := G.x0; clear G hSw; go_simp; try with_reducible rfl)
        simp only [List.getElem_toArray, List.getElem_cons_zero, List.getElem_cons_succ, Act.put, List.setIfInBounds_toArray, List.set_cons_zero, List.set_cons_succ]
        refine wpAnyH_take (i := 7) (v := ?v86) rfl (by kernel_rfl) (by kernel_rfl) (by kernel_rfl) (fun _ _ _ h => h) (Or.inl ⟨by rfl, ?y86⟩) hHeld ?r86
        case y86 => (intro w hSw; have G := (show SG b off b' off' k rk sn sc sg sl x _ from Rk.at hSw Hk.out.1 Hk.out.2); have g1 := G.c1; have g2 := G.c2; have g3 := G.c3; have g4 := G.c4; have g5 := G.c5; have g6 := G.x0; clear G hSw; go_simp; try with_reducible rfl)
        simp only [List.getElem_toArray, List.getElem_cons_zero, List.getElem_cons_succ, Act.put, List.setIfInBounds_toArray, List.set_cons_zero, List.set_cons_succ]
        refine wpAnyH_take (i := 8) (v := ?v87) rfl (by kernel_rfl) (by kernel_rfl) (by kernel_rfl) (fun _ _ _ h => h) (Or.inl ⟨by rfl, ?y87⟩) hHeld ?r87
        case y87 => (intro w hSw; have G := (show SG b off b' off' k rk sn sc sg sl x _ from Rk.at hSw Hk.out.1 Hk.out.2); have g1 := G.c1; have g2 := G.c2; have g3 := G.c3; have g4 := G.c4; have g5 := G.c5; have g6 := G.x0; clear G hSw; go_simp; try with_reducible rfl)
        simp only [List.getElem_toArray, List.getElem_cons_zero, List.getElem_cons_succ, Act.put, List.setIfInBounds_toArray, List.set_cons_zero, List.set_cons_succ]
        refine wpAnyH_ready (rs := [9]) (by kernel_rfl) (by simp) (AllReadyH.cons rfl (fun K hK => ?_) AllReadyH.nil)
        go_simp
        refine (HC.out _).mono ?_
        rintro e x2 ⟨rfl, hb⟩
        have X2 := Lib.hid (hHeld.next hb)
        clear hb
        go_wp2_with fail
        refine hK.out _ _ (X2.out) (fun hHeld => ?_)
        clear hK K
        refine wpAnyH_take (i := 10) (v := ?v89) rfl (by kernel_rfl) (by kernel_rfl) (by kernel_rfl) (fun _ _ _ h => h) (Or.inl ⟨by rfl, ?y89⟩) hHeld ?r89
        case y89 => (intro w hSw; have G := (show SG b off b' off' k rk sn sc sg sl x _ from Rk.at hSw Hk.out.1 Hk.out.2); have g1 := G.c1; have g2 := G.c2; have g3 := G.c3; have g4 := G.c4; have g5 := G.c5; have g6 := G.x0; clear G hSw; go_simp; try with_reducible rfl)
        simp only [List.getElem_toArray, List.getElem_cons_zero, List.getElem_cons_succ, Act.put, List.setIfInBounds_toArray, List.set_cons_zero, List.set_cons_succ]
        refine wpAnyH_take (i := 11) (v := ?v90) rfl (by kernel_rfl) (by kernel_rfl) (by kernel_rfl) (fun _ _ _ h => h) (Or.inl ⟨by rfl, ?y90⟩) hHeld ?r90
        case y90 => (intro w hSw; have G := (show SG b off b' off' k rk sn sc sg sl x _ from Rk.at hSw Hk.out.1 Hk.out.2); have g1 := G.c1; have g2 := G.c2; have g3 := G.c3; have g4 := G.c4; have g5 := G.c5; have g6 := G.x0; clear G hSw; go_simp; try with_reducible rfl)
        simp only [List.getElem_toArray, List.getElem_cons_zero, List.getElem_cons_succ, Act.put, List.setIfInBounds_toArray, List.set_cons_zero, List.set_cons_succ]
        refine wpAnyH_take (i := 12) (v := undef) rfl (by kernel_rfl) (by kernel_rfl) (by kernel_rfl) (fun _ _ _ h => h) (Or.inr ⟨by rfl, rfl⟩) hHeld ?_
        simp only [List.getElem_toArray, List.getElem_cons_zero, List.getElem_cons_succ, Act.put, List.setIfInBounds_toArray, List.set_cons_zero, List.set_cons_succ]
        refine wpAnyH_take (i := 13) (v := undef) rfl (by kernel_rfl) (by kernel_rfl) (by kernel_rfl) (fun _ _ _ h => h) (Or.inr ⟨by rfl, rfl⟩) hHeld ?_
        simp only [List.getElem_toArray, List.getElem_cons_zero, List.getElem_cons_succ, Act.put, List.setIfInBounds_toArray, List.set_cons_zero, List.set_cons_succ]
        refine wpAnyH_take (i := 14) (v := undef) rfl (by kernel_rfl) (by kernel_rfl) (by kernel_rfl) (fun _ _ _ h => h) (Or.inr ⟨by rfl, rfl⟩) hHeld ?_
        simp only [List.getElem_toArray, List.getElem_cons_zero, List.getElem_cons_succ, Act.put, List.setIfInBounds_toArray, List.set_cons_zero, List.set_cons_succ]
        refine wpAnyH_take (i := 15) (v := undef) rfl (by kernel_rfl) (by kernel_rfl) (by kernel_rfl) (fun _ _ _ h => h) (Or.inr ⟨by rfl, rfl⟩) hHeld ?_
        simp only [List.getElem_toArray, List.getElem_cons_zero, List.getElem_cons_succ, Act.put, List.setIfInBounds_toArray, List.set_cons_zero, List.set_cons_succ]
        refine wpAnyH_take (i := 16) (v := undef) rfl (by kernel_rfl) (by kernel_rfl) (by kernel_rfl) (fun _ _ _ h => h) (Or.inr ⟨by rfl, rfl⟩) hHeld ?_
        simp only [List.getElem_toArray, List.getElem_cons_zero, List.getElem_cons_succ, Act.put, List.setIfInBounds_toArray, List.set_cons_zero, List.set_cons_succ]
        refine wpAnyH_take (i := 17) (v := undef) rfl (by kernel_rfl) (by kernel_rfl) (by kernel_rfl) (fun _ _ _ h => h) (Or.inr ⟨by rfl, rfl⟩) hHeld ?_
        simp only [List.getElem_toArray, List.getElem_cons_zero, List.getElem_cons_succ, Act.put, List.setIfInBounds_toArray, List.set_cons_zero, List.set_cons_succ]
        refine wpAnyH_take (i := 18) (v := undef) rfl (by kernel_rfl) (by kernel_rfl) (by kernel_rfl) (fun _ _ _ h => h) (Or.inr ⟨by rfl, rfl⟩) hHeld ?_
        simp only [List.getElem_toArray, List.getElem_cons_zero, List.getElem_cons_succ, Act.put, List.setIfInBounds_toArray, List.set_cons_zero, List.set_cons_succ]
        refine wpAnyH_take (i := 19) (v := undef) rfl (by kernel_rfl) (by kernel_rfl) (by kernel_rfl) (fun _ _ _ h => h) (Or.inr ⟨by rfl, rfl⟩) hHeld ?_
        simp only [List.getElem_toArray, List.getElem_cons_zero, List.getElem_cons_succ, Act.put, List.setIfInBounds_toArray, List.set_cons_zero, List.set_cons_succ]
        refine wpAnyH_take (i := 20) (v := undef) rfl (by kernel_rfl) (by kernel_rfl) (by kernel_rfl) (fun _ _ _ h => h) (Or.inr ⟨by rfl, rfl⟩) hHeld ?_
        simp only [List.getElem_toArray, List.getElem_cons_zero, List.getElem_cons_succ, Act.put, List.setIfInBounds_toArray, List.set_cons_zero, List.set_cons_succ]
        refine wpAnyH_take (i := 21) (v := undef) rfl (by kernel_rfl) (by kernel_rfl) (by kernel_rfl) (fun _ _ _ h => h) (Or.inr ⟨by rfl, rfl⟩) hHeld ?_
        simp only [List.getElem_toArray, List.getElem_cons_zero, List.getElem_cons_succ, Act.put, List.setIfInBounds_toArray, List.set_cons_zero, List.set_cons_succ]
        refine wpAnyH_take (i := 22) (v := undef) rfl (by kernel_rfl) (by kernel_rfl) (by kernel_rfl) (fun _ _ _ h => h) (Or.inr ⟨by rfl, rfl⟩) hHeld ?_
        simp only [List.getElem_toArray, List.getElem_cons_zero, List.getElem_cons_succ, Act.put, List.setIfInBounds_toArray, List.set_cons_zero, List.set_cons_succ]
        refine wpAnyH_take (i := 23) (v := undef) rfl (by kernel_rfl) (by kernel_rfl) (by kernel_rfl) (fun _ _ _ h => h) (Or.inr ⟨by rfl, rfl⟩) hHeld ?_
        simp only [List.getElem_toArray, List.getElem_cons_zero, List.getElem_cons_succ, Act.put, List.setIfInBounds_toArray, List.set_cons_zero, List.set_cons_succ]
        refine wpAnyH_take (i := 24) (v := undef) rfl (by kernel_rfl) (by kernel_rfl) (by kernel_rfl) (fun _ _ _ h => h) (Or.inr ⟨by rfl, rfl⟩) hHeld ?_
        simp only [List.getElem_toArray, List.getElem_cons_zero, List.getElem_cons_succ, Act.put, List.setIfInBounds_toArray, List.set_cons_zero, List.set_cons_succ]
        refine wpAnyH_take (i := 25) (v := undef) rfl (by kernel_rfl) (by kernel_rfl) (by kernel_rfl) (fun _ _ _ h => h) (Or.inr ⟨by rfl, rfl⟩) hHeld ?_
        simp only [List.getElem_toArray, List.getElem_cons_zero, List.getElem_cons_succ, Act.put, List.setIfInBounds_toArray, List.set_cons_zero, List.set_cons_succ]
        refine wpAnyH_take (i := 26) (v := undef) rfl (by kernel_rfl) (by kernel_rfl) (by kernel_rfl) (fun _ _ _ h => h) (Or.inr ⟨by rfl, rfl⟩) hHeld ?_
        simp only [List.getElem_toArray, List.getElem_cons_zero, List.getElem_cons_succ, Act.put, List.setIfInBounds_toArray, List.set_cons_zero, List.set_cons_succ]
        refine wpAnyH_take (i := 27) (v := undef) rfl (by kernel_rfl) (by kernel_rfl) (by kernel_rfl) (fun _ _ _ h => h) (Or.inr ⟨by rfl, rfl⟩) hHeld ?_
        simp only [List.getElem_toArray, List.getElem_cons_zero, List.getElem_cons_succ, Act.put, List.setIfInBounds_toArray, List.set_cons_zero, List.set_cons_succ]
        refine wpAnyH_take (i := 28) (v := undef) rfl (by kernel_rfl) (by kernel_rfl) (by kernel_rfl) (fun _ _ _ h => h) (Or.inr ⟨by rfl, rfl⟩) hHeld ?_
        simp only [List.getElem_toArray, List.getElem_cons_zero, List.getElem_cons_succ, Act.put, List.setIfInBounds_toArray, List.set_cons_zero, List.set_cons_succ]
        refine wpAnyH_take (i := 29) (v := undef) rfl (by kernel_rfl) (by kernel_rfl) (by kernel_rfl) (fun _ _ _ h => h) (Or.inr ⟨by rfl, rfl⟩) hHeld ?_
        simp only [List.getElem_toArray, List.getElem_cons_zero, List.getElem_cons_succ, Act.put, List.setIfInBounds_toArray, List.set_cons_zero, List.set_cons_succ]
        refine wpAnyH_take (i := 30) (v := undef) rfl (by kernel_rfl) (by kernel_rfl) (by kernel_rfl) (fun _ _ _ h => h) (Or.inr ⟨by rfl, rfl⟩) hHeld ?_
        simp only [List.getElem_toArray, List.getElem_cons_zero, List.getElem_cons_succ, Act.put, List.setIfInBounds_toArray, List.set_cons_zero, List.set_cons_succ]
        refine wpAnyH_take (i := 31) (v := undef) rfl (by kernel_rfl) (by kernel_rfl) (by kernel_rfl) (fun _ _ _ h => h) (Or.inr ⟨by rfl, rfl⟩) hHeld ?_
        simp only [List.getElem_toArray, List.getElem_cons_zero, List.getElem_cons_succ, Act.put, List.setIfInBounds_toArray, List.set_cons_zero, List.set_cons_succ]
        refine wpAnyH_take (i := 32) (v := undef) rfl (by kernel_rfl) (by kernel_rfl) (by kernel_rfl) (fun _ _ _ h => h) (Or.inr ⟨by rfl, rfl⟩) hHeld ?_
        simp only [List.getElem_toArray, List.getElem_cons_zero, List.getElem_cons_succ, Act.put, List.setIfInBounds_toArray, List.set_cons_zero, List.set_cons_succ]
        refine wpAnyH_take (i := 33) (v := undef) rfl (by kernel_rfl) (by kernel_rfl) (by kernel_rfl) (fun _ _ _ h => h) (Or.inr ⟨by rfl, rfl⟩) hHeld ?_
        simp only [List.getElem_toArray, List.getElem_cons_zero, List.getElem_cons_succ, Act.put, List.setIfInBounds_toArray, List.set_cons_zero, List.set_cons_succ]
        refine wpAnyH_take (i := 34) (v := undef) rfl (by kernel_rfl) (by kernel_rfl) (by kernel_rfl) (fun _ _ _ h => h) (Or.inr ⟨by rfl, rfl⟩) hHeld ?_
        simp only [List.getElem_toArray, List.getElem_cons_zero, List.getElem_cons_succ, Act.put, List.setIfInBounds_toArray, List.set_cons_zero, List.set_cons_succ]
        refine wpAnyH_take (i := 35) (v := undef) rfl (by kernel_rfl) (by kernel_rfl) (by kernel_rfl) (fun _ _ _ h => h) (Or.inr ⟨by rfl, rfl⟩) hHeld ?_
        simp only [List.getElem_toArray, List.getElem_cons_zero, List.getElem_cons_succ, Act.put, List.setIfInBounds_toArray, List.set_cons_zero, List.set_cons_succ]
        refine wpAnyH_take (i := 36) (v := undef) rfl (by kernel_rfl) (by kernel_rfl) (by kernel_rfl) (fun _ _ _ h => h) (Or.inr ⟨by rfl, rfl⟩) hHeld ?_
        simp only [List.getElem_toArray, List.getElem_cons_zero, List.getElem_cons_succ, Act.put, List.setIfInBounds_toArray, List.set_cons_zero, List.set_cons_succ]
        refine wpAnyH_take (i := 37) (v := undef) rfl (by kernel_rfl) (by kernel_rfl) (by kernel_rfl) (fun _ _ _ h => h) (Or.inr ⟨by rfl, rfl⟩) hHeld ?_
        simp only [List.getElem_toArray, List.getElem_cons_zero, List.getElem_cons_succ, Act.put, List.setIfInBounds_toArray, List.set_cons_zero, List.set_cons_succ]
        refine wpAnyH_take (i := 38) (v := undef) rfl (by kernel_rfl) (by kernel_rfl) (by kernel_rfl) (fun _ _ _ h => h) (Or.inr ⟨by rfl, rfl⟩) hHeld ?_
        simp only [List.getElem_toArray, List.getElem_cons_zero, List.getElem_cons_succ, Act.put, List.setIfInBounds_toArray, List.set_cons_zero, List.set_cons_succ]
        refine wpAnyH_take (i := 39) (v := undef) rfl (by kernel_rfl) (by kernel_rfl) (by kernel_rfl) (fun _ _ _ h => h) (Or.inr ⟨by rfl, rfl⟩) hHeld ?_
        simp only [List.getElem_toArray, List.getElem_cons_zero, List.getElem_cons_succ, Act.put, List.setIfInBounds_toArray, List.set_cons_zero, List.set_cons_succ]
        refine wpAnyH_take (i := 40) (v := undef) rfl (by kernel_rfl) (by kernel_rfl) (by kernel_rfl) (fun _ _ _ h => h) (Or.inr ⟨by rfl, rfl⟩) hHeld ?_
        simp only [List.getElem_toArray, List.getElem_cons_zero, List.getElem_cons_succ, Act.put, List.setIfInBounds_toArray, List.set_cons_zero, List.set_cons_succ]
        refine wpAnyH_take (i := 41) (v := undef) rfl (by kernel_rfl) (by kernel_rfl) (by kernel_rfl) (fun _ _ _ h => h) (Or.inr ⟨by rfl, rfl⟩) hHeld ?_
        simp only [List.getElem_toArray, List.getElem_cons_zero, List.getElem_cons_succ, Act.put, List.setIfInBounds_toArray, List.set_cons_zero, List.set_cons_succ]
        refine wpAnyH_take (i := 42) (v := undef) rfl (by kernel_rfl) (by kernel_rfl) (by kernel_rfl) (fun _ _ _ h => h) (Or.inr ⟨by rfl, rfl⟩) hHeld ?_
        simp only [List.getElem_toArray, List.getElem_cons_zero, List.getElem_cons_succ, Act.put, List.setIfInBounds_toArray, List.set_cons_zero, List.set_cons_succ]
        refine wpAnyH_take (i := 43) (v := undef) rfl (by kernel_rfl) (by kernel_rfl) (by kernel_rfl) (fun _ _ _ h => h) (Or.inr ⟨by rfl, rfl⟩) hHeld ?_
        simp only [List.getElem_toArray, List.getElem_cons_zero, List.getElem_cons_succ, Act.put, List.setIfInBounds_toArray, List.set_cons_zero, List.set_cons_succ]
        refine wpAnyH_take (i := 44) (v := undef) rfl (by kernel_rfl) (by kernel_rfl) (by kernel_rfl) (fun _ _ _ h => h) (Or.inr ⟨by rfl, rfl⟩) hHeld ?_
        simp only [List.getElem_toArray, List.getElem_cons_zero, List.getElem_cons_succ, Act.put, List.setIfInBounds_toArray, List.set_cons_zero, List.set_cons_succ]
        refine wpAnyH_take (i := 45) (v := ?v124) rfl (by kernel_rfl) (by kernel_rfl) (by kernel_rfl) (fun _ _ _ h => h) (Or.inl ⟨by rfl, ?y124⟩) hHeld ?r124
        case y124 => (intro w hSw; have G := (show SG b off b' off' k rk sn sc sg sl x _ from Rk.at hSw Hk.out.1 Hk.out.2); have g1 := G.c1; have g2 := G.c2; have g3 := G.c3; have g4 := G.c4; have g5 := G.c5; have g6 := G.x0; clear G hSw; go_simp; try with_reducible rfl)
        simp only [List.getElem_toArray, List.getElem_cons_zero, List.getElem_cons_succ, Act.put, List.setIfInBounds_toArray, List.set_cons_zero, List.set_cons_succ]
        refine wpAnyH_done (by kernel_rfl) ?_ _
        go_wp2_with fail
        go_roundw
        case rel => exact ⟨k + 1, by go_num, by omega, X2.out⟩
        case measure => simp [intOf]; omega
      · have hz : decide (0 < q) = true := decide_eq_true (by have := hq.2; omega)
        obtain ⟨hle, heq⟩ := HV.out k (by omega) (fun c => hq0 (hq.1.2 c))
        rw [hrk] at hle heq
        have hr1 : decide (rkp < rk) = false := decide_eq_false (by omega)
        by_cases hre : rk = rkp
        · have hr2 : (rk == rkp) = true := by simpa using hre
          have hkp : decide ((k : Int) < p) = false := decide_eq_false (by have := heq hre; omega)
          have hkp2 : decide (k < p) = false := decide_eq_false (by have := heq hre; omega)
          clear hq hq0 hrk hle heq hre
          go_wp2_with fail
          refine wp_region_held_drew (S := Rk w (some ⟨b, off, none⟩) (some ⟨b', off', none⟩) l gs n) (by kernel_rfl) (HK.out.drew) (fun hHeld => ?_)
          refine wpAnyH_take (i := 0) (v := ?v125) rfl (by kernel_rfl) (by kernel_rfl) (by kernel_rfl) (fun _ _ _ h => h) (Or.inl ⟨by rfl, ?y125⟩) hHeld ?r125
          case y125 => (intro w hSw; have G := (show SG b off b' off' k rk sn sc sg sl x _ from Rk.at hSw Hk.out.1 Hk.out.2); have g1 := G.c1; have g2 := G.c2; have g3 := G.c3; have g4 := G.c4; have g5 := G.c5; have g6 := G.x0; have P1 := (show SG b off b' off' p rkp np cp gp lp xp _ from Rk.at hSw Hp.out.1 Hp.out.2).c1; clear G hSw; go_simp; try with_reducible rfl)
          simp only [List.getElem_toArray, List.getElem_cons_zero, Act.put, List.setIfInBounds_toArray, List.set_cons_zero, List.set_cons_succ]
          refine wpAnyH_take (i := 1) (v := ?v126) rfl (by kernel_rfl) (by kernel_rfl) (by kernel_rfl) (fun _ _ _ h => h) (Or.inl ⟨by rfl, ?y126⟩) hHeld ?r126
          case y126 => (intro w hSw; have G := (show SG b off b' off' k rk sn sc sg sl x _ from Rk.at hSw Hk.out.1 Hk.out.2); have g1 := G.c1; have g2 := G.c2; have g3 := G.c3; have g4 := G.c4; have g5 := G.c5; have g6 := G.x0; have P1 := (show SG b off b' off' p rkp np cp gp lp xp _ from Rk.at hSw Hp.out.1 Hp.out.2).c1; clear G hSw; go_simp; try with_reducible rfl)
          simp only [List.getElem_toArray, List.getElem_cons_zero, List.getElem_cons_succ, Act.put, List.setIfInBounds_toArray, List.set_cons_zero, List.set_cons_succ]
          refine wpAnyH_take (i := 2) (v := ?v127) rfl (by kernel_rfl) (by kernel_rfl) (by kernel_rfl) (fun _ _ _ h => h) (Or.inl ⟨by rfl, ?y127⟩) hHeld ?r127
          case y127 => (intro w hSw; have G := (show SG b off b' off' k rk sn sc sg sl x _ from Rk.at hSw Hk.out.1 Hk.out.2); have g1 := G.c1; have g2 := G.c2; have g3 := G.c3; have g4 := G.c4; have g5 := G.c5; have g6 := G.x0; have P1 := (show SG b off b' off' p rkp np cp gp lp xp _ from Rk.at hSw Hp.out.1 Hp.out.2).c1; clear G hSw; go_simp; try with_reducible rfl)
          simp only [List.getElem_toArray, List.getElem_cons_zero, List.getElem_cons_succ, Act.put, List.setIfInBounds_toArray, List.set_cons_zero, List.set_cons_succ]
          refine wpAnyH_take (i := 3) (v := ?v128) rfl (by kernel_rfl) (by kernel_rfl) (by kernel_rfl) (fun _ _ _ h => h) (Or.inl ⟨by rfl, ?y128⟩) hHeld ?r128
          case y128 => (intro w hSw; have G := (show SG b off b' off' k rk sn sc sg sl x _ from Rk.at hSw Hk.out.1 Hk.out.2); have g1 := G.c1; have g2 := G.c2; have g3 := G.c3; have g4 := G.c4; have g5 := G.c5; have g6 := G.x0; have P1 := (show SG b off b' off' p rkp np cp gp lp xp _ from Rk.at hSw Hp.out.1 Hp.out.2).c1; clear G hSw; go_simp; try with_reducible rfl)
          simp only [List.getElem_toArray, List.getElem_cons_zero, List.getElem_cons_succ, Act.put, List.setIfInBounds_toArray, List.set_cons_zero, List.set_cons_succ]
          refine wpAnyH_take (i := 4) (v := ?v129) rfl (by kernel_rfl) (by kernel_rfl) (by kernel_rfl) (fun _ _ _ h => h) (Or.inl ⟨by rfl, ?y129⟩) hHeld ?r129
          case y129 => (intro w hSw; have G := (show SG b off b' off' k rk sn sc sg sl x _ from Rk.at hSw Hk.out.1 Hk.out.2); have g1 := G.c1; have g2 := G.c2; have g3 := G.c3; have g4 := G.c4; have g5 := G.c5; have g6 := G.x0; have P1 := (show SG b off b' off' p rkp np cp gp lp xp _ from Rk.at hSw Hp.out.1 Hp.out.2).c1; clear G hSw; go_simp; try with_reducible rfl)
          simp only [List.getElem_toArray, List.getElem_cons_zero, List.getElem_cons_succ, Act.put, List.setIfInBounds_toArray, List.set_cons_zero, List.set_cons_succ]
          refine wpAnyH_take (i := 5) (v := ?v130) rfl (by kernel_rfl) (by kernel_rfl) (by kernel_rfl) (fun _ _ _ h => h) (Or.inl ⟨by rfl, ?y130⟩) hHeld ?r130
          case y130 => (intro w hSw; have G := (show SG b off b' off' k rk sn sc sg sl x _ from Rk.at hSw Hk.out.1 Hk.out.2); have g1 := G.c1; have g2 := G.c2; have g3 := G.c3; have g4 := G.c4; have g5 := G.c5; have g6 := G.x0; have P1 := (show SG b off b' off' p rkp np cp gp lp xp _ from Rk.at hSw Hp.out.1 Hp.out.2).c1; clear G hSw; go_simp; try with_reducible rfl)
          simp only [List.getElem_toArray, List.getElem_cons_zero, List.getElem_cons_succ, Act.put, List.setIfInBounds_toArray, List.set_cons_zero, List.set_cons_succ]
          refine wpAnyH_take (i := 6) (v := ?v131) rfl (by kernel_rfl) (by kernel_rfl) (by kernel_rfl) (fun _ _ _ h => h) (Or.inl ⟨by rfl, ?y131⟩) hHeld ?r131
          case y131 => (intro w hSw; have G := (show SG b off b' off' k rk sn sc sg sl x _ from Rk.at hSw Hk.out.1 Hk.out.2); have g1 := G.c1; have g2 := G.c2; have g3 := G.c3; have g4 := G.c4; have g5 := G.c5; have g6 := G.x0; have P1 := (show SG b off b' off' p rkp np cp gp lp xp _ from Rk.at hSw Hp.out.1 Hp.out.2).c1; clear G hSw; go_simp; try with_reducible rfl)
          simp only [List.getElem_toArray, List.getElem_cons_zero, List.getElem_cons_succ, Act.put, List.setIfInBounds_toArray, List.set_cons_zero, List.set_cons_succ]
          refine wpAnyH_take (i := 7) (v := ?v132) rfl (by kernel_rfl) (by kernel_rfl) (by kernel_rfl) (fun _ _ _ h => h) (Or.inl ⟨by rfl, ?y132⟩) hHeld ?r132
          case y132 => (intro w hSw; have G := (show SG b off b' off' k rk sn sc sg sl x _ from Rk.at hSw Hk.out.1 Hk.out.2); have g1 := G.c1; have g2 := G.c2; have g3 := G.c3; have g4 := G.c4; have g5 := G.c5; have g6 := G.x0; have P1 := (show SG b off b' off' p rkp np cp gp lp xp _ from Rk.at hSw Hp.out.1 Hp.out.2).c1; clear G hSw; go_simp; try with_reducible rfl)
          simp only [List.getElem_toArray, List.getElem_cons_zero, List.getElem_cons_succ, Act.put, List.setIfInBounds_toArray, List.set_cons_zero, List.set_cons_succ]
          refine wpAnyH_take (i := 8) (v := ?v133) rfl (by kernel_rfl) (by kernel_rfl) (by kernel_rfl) (fun _ _ _ h => h) (Or.inl ⟨by rfl, ?y133⟩) hHeld ?r133
          case y133 => (intro w hSw; have G := (show SG b off b' off' k rk sn sc sg sl x _ from Rk.at hSw Hk.out.1 Hk.out.2); have g1 := G.c1; have g2 := G.c2; have g3 := G.c3; have g4 := G.c4; have g5 := G.c5; have g6 := G.x0; have P1 := (show SG b off b' off' p rkp np cp gp lp xp _ from Rk.at hSw Hp.out.1 Hp.out.2).c1; clear G hSw; go_simp; try with_reducible rfl)
          simp only [List.getElem_toArray, List.getElem_cons_zero, List.getElem_cons_succ, Act.put, List.setIfInBounds_toArray, List.set_cons_zero, List.set_cons_succ]
          refine wpAnyH_ready (rs := [9]) (by kernel_rfl) (by simp) (AllReadyH.cons rfl (fun K hK => ?_) AllReadyH.nil)
          go_simp
          refine (HC.out _).mono ?_
          rintro e x2 ⟨rfl, hb⟩
          have X2 := Lib.hid (hHeld.next hb)
          clear hb
          go_wp2_with fail
          refine hK.out _ _ (X2.out) (fun hHeld => ?_)
          clear hK K
          refine wpAnyH_take (i := 10) (v := ?v135) rfl (by kernel_rfl) (by kernel_rfl) (by kernel_rfl) (fun _ _ _ h => h) (Or.inl ⟨by rfl, ?y135⟩) hHeld ?r135
          case y135 => (intro w hSw; have G := (show SG b off b' off' k rk sn sc sg sl x _ from Rk.at hSw Hk.out.1 Hk.out.2); have g1 := G.c1; have g2 := G.c2; have g3 := G.c3; have g4 := G.c4; have g5 := G.c5; have g6 := G.x0; have P1 := (show SG b off b' off' p rkp np cp gp lp xp _ from Rk.at hSw Hp.out.1 Hp.out.2).c1; clear G hSw; go_simp; try with_reducible rfl)
          simp only [List.getElem_toArray, List.getElem_cons_zero, List.getElem_cons_succ, Act.put, List.setIfInBounds_toArray, List.set_cons_zero, List.set_cons_succ]
          refine wpAnyH_take (i := 11) (v := ?v136) rfl (by kernel_rfl) (by kernel_rfl) (by kernel_rfl) (fun _ _ _ h => h) (Or.inl ⟨by rfl, ?y136⟩) hHeld ?r136
          case y136 => (intro w hSw; have G := (show SG b off b' off' k rk sn sc sg sl x _ from Rk.at hSw Hk.out.1 Hk.out.2); have g1 := G.c1; have g2 := G.c2; have g3 := G.c3; have g4 := G.c4; have g5 := G.c5; have g6 := G.x0; have P1 := (show SG b off b' off' p rkp np cp gp lp xp _ from Rk.at hSw Hp.out.1 Hp.out.2).c1; clear G hSw; go_simp; try with_reducible rfl)
          simp only [List.getElem_toArray, List.getElem_cons_zero, List.getElem_cons_succ, Act.put, List.setIfInBounds_toArray, List.set_cons_zero, List.set_cons_succ]
          refine wpAnyH_take (i := 12) (v := ?v137) rfl (by kernel_rfl) (by kernel_rfl) (by kernel_rfl) (fun _ _ _ h => h) (Or.inl ⟨by rfl, ?y137⟩) hHeld ?r137
          case y137 => (intro w hSw; have G := (show SG b off b' off' k rk sn sc sg sl x _ from Rk.at hSw Hk.out.1 Hk.out.2); have g1 := G.c1; have g2 := G.c2; have g3 := G.c3; have g4 := G.c4; have g5 := G.c5; have g6 := G.x0; have P1 := (show SG b off b' off' p rkp np cp gp lp xp _ from Rk.at hSw Hp.out.1 Hp.out.2).c1; clear G hSw; go_simp; try with_reducible rfl)
          simp only [List.getElem_toArray, List.getElem_cons_zero, List.getElem_cons_succ, Act.put, List.setIfInBounds_toArray, List.set_cons_zero, List.set_cons_succ]
          refine wpAnyH_take (i := 13) (v := ?v138) rfl (by kernel_rfl) (by kernel_rfl) (by kernel_rfl) (fun _ _ _ h => h) (Or.inl ⟨by rfl, ?y138⟩) hHeld ?r138
          case y138 => (intro w hSw; have G := (show SG b off b' off' k rk sn sc sg sl x _ from Rk.at hSw Hk.out.1 Hk.out.2); have g1 := G.c1; have g2 := G.c2; have g3 := G.c3; have g4 := G.c4; have g5 := G.c5; have g6 := G.x0; have P1 := (show SG b off b' off' p rkp np cp gp lp xp _ from Rk.at hSw Hp.out.1 Hp.out.2).c1; clear G hSw; go_simp; try with_reducible rfl)
          simp only [List.getElem_toArray, List.getElem_cons_zero, List.getElem_cons_succ, Act.put, List.setIfInBounds_toArray, List.set_cons_zero, List.set_cons_succ]
          refine wpAnyH_take (i := 14) (v := ?v139) rfl (by kernel_rfl) (by kernel_rfl) (by kernel_rfl) (fun _ _ _ h => h) (Or.inl ⟨by rfl, ?y139⟩) hHeld ?r139
          case y139 => (intro w hSw; have G := (show SG b off b' off' k rk sn sc sg sl x _ from Rk.at hSw Hk.out.1 Hk.out.2); have g1 := G.c1; have g2 := G.c2; have g3 := G.c3; have g4 := G.c4; have g5 := G.c5; have g6 := G.x0; have P1 := (show SG b off b' off' p rkp np cp gp lp xp _ from Rk.at hSw Hp.out.1 Hp.out.2).c1; clear G hSw; go_simp; try with_reducible rfl)
          simp only [List.getElem_toArray, List.getElem_cons_zero, List.getElem_cons_succ, Act.put, List.setIfInBounds_toArray, List.set_cons_zero, List.set_cons_succ]
          refine wpAnyH_take (i := 15) (v := ?v140) rfl (by kernel_rfl) (by kernel_rfl) (by kernel_rfl) (fun _ _ _ h => h) (Or.inl ⟨by rfl, ?y140⟩) hHeld ?r140
          case y140 => (intro w hSw; have G := (show SG b off b' off' k rk sn sc sg sl x _ from Rk.at hSw Hk.out.1 Hk.out.2); have g1 := G.c1; have g2 := G.c2; have g3 := G.c3; have g4 := G.c4; have g5 := G.c5; have g6 := G.x0; have P1 := (show SG b off b' off' p rkp np cp gp lp xp _ from Rk.at hSw Hp.out.1 Hp.out.2).c1; clear G hSw; go_simp; try with_reducible rfl)
          simp only [List.getElem_toArray, List.getElem_cons_zero, List.getElem_cons_succ, Act.put, List.setIfInBounds_toArray, List.set_cons_zero, List.set_cons_succ]
          refine wpAnyH_take (i := 16) (v := ?v141) rfl (by kernel_rfl) (by kernel_rfl) (by kernel_rfl) (fun _ _ _ h => h) (Or.inl ⟨by rfl, ?y141⟩) hHeld ?r141
          case y141 => (intro w hSw; have G := (show SG b off b' off' k rk sn sc sg sl x _ from Rk.at hSw Hk.out.1 Hk.out.2); have g1 := G.c1; have g2 := G.c2; have g3 := G.c3; have g4 := G.c4; have g5 := G.c5; have g6 := G.x0; have P1 := (show SG b off b' off' p rkp np cp gp lp xp _ from Rk.at hSw Hp.out.1 Hp.out.2).c1; clear G hSw; go_simp; try with_reducible rfl)
          simp only [List.getElem_toArray, List.getElem_cons_zero, List.getElem_cons_succ, Act.put, List.setIfInBounds_toArray, List.set_cons_zero, List.set_cons_succ]
          refine wpAnyH_take (i := 17) (v := ?v142) rfl (by kernel_rfl) (by kernel_rfl) (by kernel_rfl) (fun _ _ _ h => h) (Or.inl ⟨by rfl, ?y142⟩) hHeld ?r142
          case y142 => (intro w hSw; have G := (show SG b off b' off' k rk sn sc sg sl x _ from Rk.at hSw Hk.out.1 Hk.out.2); have g1 := G.c1; have g2 := G.c2; have g3 := G.c3; have g4 := G.c4; have g5 := G.c5; have g6 := G.x0; have P1 := (show SG b off b' off' p rkp np cp gp lp xp _ from Rk.at hSw Hp.out.1 Hp.out.2).c1; clear G hSw; go_simp; try with_reducible rfl)
          simp only [List.getElem_toArray, List.getElem_cons_zero, List.getElem_cons_succ, Act.put, List.setIfInBounds_toArray, List.set_cons_zero, List.set_cons_succ]
          refine wpAnyH_take (i := 18) (v := ?v143) rfl (by kernel_rfl) (by kernel_rfl) (by kernel_rfl) (fun _ _ _ h => h) (Or.inl ⟨by rfl, ?y143⟩) hHeld ?r143
          case y143 => (intro w hSw; have G := (show SG b off b' off' k rk sn sc sg sl x _ from Rk.at hSw Hk.out.1 Hk.out.2); have g1 := G.c1; have g2 := G.c2; have g3 := G.c3; have g4 := G.c4; have g5 := G.c5; have g6 := G.x0; have P1 := (show SG b off b' off' p rkp np cp gp lp xp _ from Rk.at hSw Hp.out.1 Hp.out.2).c1; clear G hSw; go_simp; try with_reducible rfl)
          simp only [List.getElem_toArray, List.getElem_cons_zero, List.getElem_cons_succ, Act.put, List.setIfInBounds_toArray, List.set_cons_zero, List.set_cons_succ]
          refine wpAnyH_take (i := 19) (v := ?v144) rfl (by kernel_rfl) (by kernel_rfl) (by kernel_rfl) (fun _ _ _ h => h) (Or.inl ⟨by rfl, ?y144⟩) hHeld ?r144
          case y144 => (intro w hSw; have G := (show SG b off b' off' k rk sn sc sg sl x _ from Rk.at hSw Hk.out.1 Hk.out.2); have g1 := G.c1; have g2 := G.c2; have g3 := G.c3; have g4 := G.c4; have g5 := G.c5; have g6 := G.x0; have P1 := (show SG b off b' off' p rkp np cp gp lp xp _ from Rk.at hSw Hp.out.1 Hp.out.2).c1; clear G hSw; go_simp; try with_reducible rfl)
          simp only [List.getElem_toArray, List.getElem_cons_zero, List.getElem_cons_succ, Act.put, List.setIfInBounds_toArray, List.set_cons_zero, List.set_cons_succ]
          refine wpAnyH_take (i := 20) (v := ?v145) rfl (by kernel_rfl) (by kernel_rfl) (by kernel_rfl) (fun _ _ _ h => h) (Or.inl ⟨by rfl, ?y145⟩) hHeld ?r145
          case y145 => (intro w hSw; have G := (show SG b off b' off' k rk sn sc sg sl x _ from Rk.at hSw Hk.out.1 Hk.out.2); have g1 := G.c1; have g2 := G.c2; have g3 := G.c3; have g4 := G.c4; have g5 := G.c5; have g6 := G.x0; have P1 := (show SG b off b' off' p rkp np cp gp lp xp _ from Rk.at hSw Hp.out.1 Hp.out.2).c1; clear G hSw; go_simp; try with_reducible rfl)
          simp only [List.getElem_toArray, List.getElem_cons_zero, List.getElem_cons_succ, Act.put, List.setIfInBounds_toArray, List.set_cons_zero, List.set_cons_succ]
          refine wpAnyH_take (i := 21) (v := ?v146) rfl (by kernel_rfl) (by kernel_rfl) (by kernel_rfl) (fun _ _ _ h => h) (Or.inl ⟨by rfl, ?y146⟩) hHeld ?r146
          case y146 => (intro w hSw; have G := (show SG b off b' off' k rk sn sc sg sl x _ from Rk.at hSw Hk.out.1 Hk.out.2); have g1 := G.c1; have g2 := G.c2; have g3 := G.c3; have g4 := G.c4; have g5 := G.c5; have g6 := G.x0; have P1 := (show SG b off b' off' p rkp np cp gp lp xp _ from Rk.at hSw Hp.out.1 Hp.out.2).c1; clear G hSw; go_simp; try with_reducible rfl)
          simp only [List.getElem_toArray, List.getElem_cons_zero, List.getElem_cons_succ, Act.put, List.setIfInBounds_toArray, List.set_cons_zero, List.set_cons_succ]
          refine wpAnyH_take (i := 22) (v := ?v147) rfl (by kernel_rfl) (by kernel_rfl) (by kernel_rfl) (fun _ _ _ h => h) (Or.inl ⟨by rfl, ?y147⟩) hHeld ?r147
          case y147 => (intro w hSw; have G := (show SG b off b' off' k rk sn sc sg sl x _ from Rk.at hSw Hk.out.1 Hk.out.2); have g1 := G.c1; have g2 := G.c2; have g3 := G.c3; have g4 := G.c4; have g5 := G.c5; have g6 := G.x0; have P1 := (show SG b off b' off' p rkp np cp gp lp xp _ from Rk.at hSw Hp.out.1 Hp.out.2).c1; clear G hSw; go_simp; try with_reducible rfl)
          simp only [List.getElem_toArray, List.getElem_cons_zero, List.getElem_cons_succ, Act.put, List.setIfInBounds_toArray, List.set_cons_zero, List.set_cons_succ]
          refine wpAnyH_take (i := 23) (v := ?v148) rfl (by kernel_rfl) (by kernel_rfl) (by kernel_rfl) (fun _ _ _ h => h) (Or.inl ⟨by rfl, ?y148⟩) hHeld ?r148
          case y148 => (intro w hSw; have G := (show SG b off b' off' k rk sn sc sg sl x _ from Rk.at hSw Hk.out.1 Hk.out.2); have g1 := G.c1; have g2 := G.c2; have g3 := G.c3; have g4 := G.c4; have g5 := G.c5; have g6 := G.x0; have P1 := (show SG b off b' off' p rkp np cp gp lp xp _ from Rk.at hSw Hp.out.1 Hp.out.2).c1; clear G hSw; go_simp; try with_reducible rfl)
          simp only [List.getElem_toArray, List.getElem_cons_zero, List.getElem_cons_succ, Act.put, List.setIfInBounds_toArray, List.set_cons_zero, List.set_cons_succ]
          refine wpAnyH_take (i := 24) (v := ?v149) rfl (by kernel_rfl) (by kernel_rfl) (by kernel_rfl) (fun _ _ _ h => h) (Or.inl ⟨by rfl, ?y149⟩) hHeld ?r149
          case y149 => (intro w hSw; have G := (show SG b off b' off' k rk sn sc sg sl x _ from Rk.at hSw Hk.out.1 Hk.out.2); have g1 := G.c1; have g2 := G.c2; have g3 := G.c3; have g4 := G.c4; have g5 := G.c5; have g6 := G.x0; have P1 := (show SG b off b' off' p rkp np cp gp lp xp _ from Rk.at hSw Hp.out.1 Hp.out.2).c1; clear G hSw; go_simp; try with_reducible rfl)
          simp only [List.getElem_toArray, List.getElem_cons_zero, List.getElem_cons_succ, Act.put, List.setIfInBounds_toArray, List.set_cons_zero, List.set_cons_succ]
          refine wpAnyH_take (i := 25) (v := ?v150) rfl (by kernel_rfl) (by kernel_rfl) (by kernel_rfl) (fun _ _ _ h => h) (Or.inl ⟨by rfl, ?y150⟩) hHeld ?r150
          case y150 => (intro w hSw; have G := (show SG b off b' off' k rk sn sc sg sl x _ from Rk.at hSw Hk.out.1 Hk.out.2); have g1 := G.c1; have g2 := G.c2; have g3 := G.c3; have g4 := G.c4; have g5 := G.c5; have g6 := G.x0; have P1 := (show SG b off b' off' p rkp np cp gp lp xp _ from Rk.at hSw Hp.out.1 Hp.out.2).c1; clear G hSw; go_simp; try with_reducible rfl)
          simp only [List.getElem_toArray, List.getElem_cons_zero, List.getElem_cons_succ, Act.put, List.setIfInBounds_toArray, List.set_cons_zero, List.set_cons_succ]
          refine wpAnyH_take (i := 26) (v := ?v151) rfl (by kernel_rfl) (by kernel_rfl) (by kernel_rfl) (fun _ _ _ h => h) (Or.inl ⟨by rfl, ?y151⟩) hHeld ?r151
          case y151 => (intro w hSw; have G := (show SG b off b' off' k rk sn sc sg sl x _ from Rk.at hSw Hk.out.1 Hk.out.2); have g1 := G.c1; have g2 := G.c2; have g3 := G.c3; have g4 := G.c4; have g5 := G.c5; have g6 := G.x0; have P1 := (show SG b off b' off' p rkp np cp gp lp xp _ from Rk.at hSw Hp.out.1 Hp.out.2).c1; clear G hSw; go_simp; try with_reducible rfl)
          simp only [List.getElem_toArray, List.getElem_cons_zero, List.getElem_cons_succ, Act.put, List.setIfInBounds_toArray, List.set_cons_zero, List.set_cons_succ]
          refine wpAnyH_take (i := 27) (v := ?v152) rfl (by kernel_rfl) (by kernel_rfl) (by kernel_rfl) (fun _ _ _ h => h) (Or.inl ⟨by rfl, ?y152⟩) hHeld ?r152
          case y152 => (intro w hSw; have G := (show SG b off b' off' k rk sn sc sg sl x _ from Rk.at hSw Hk.out.1 Hk.out.2); have g1 := G.c1; have g2 := G.c2; have g3 := G.c3; have g4 := G.c4; have g5 := G.c5; have g6 := G.x0; have P1 := (show SG b off b' off' p rkp np cp gp lp xp _ from Rk.at hSw Hp.out.1 Hp.out.2).c1; clear G hSw; go_simp; try with_reducible rfl)
          simp only [List.getElem_toArray, List.getElem_cons_zero, List.getElem_cons_succ, Act.put, List.setIfInBounds_toArray, List.set_cons_zero, List.set_cons_succ]
          refine wpAnyH_take (i := 28) (v := ?v153) rfl (by kernel_rfl) (by kernel_rfl) (by kernel_rfl) (fun _ _ _ h => h) (Or.inl ⟨by rfl, ?y153⟩) hHeld ?r153
          case y153 => (intro w hSw; have G := (show SG b off b' off' k rk sn sc sg sl x _ from Rk.at hSw Hk.out.1 Hk.out.2); have g1 := G.c1; have g2 := G.c2; have g3 := G.c3; have g4 := G.c4; have g5 := G.c5; have g6 := G.x0; have P1 := (show SG b off b' off' p rkp np cp gp lp xp _ from Rk.at hSw Hp.out.1 Hp.out.2).c1; clear G hSw; go_simp; try with_reducible rfl)
          simp only [List.getElem_toArray, List.getElem_cons_zero, List.getElem_cons_succ, Act.put, List.setIfInBounds_toArray, List.set_cons_zero, List.set_cons_succ]
          refine wpAnyH_take (i := 29) (v := ?v154) rfl (by kernel_rfl) (by kernel_rfl) (by kernel_rfl) (fun _ _ _ h => h) (Or.inl ⟨by rfl, ?y154⟩) hHeld ?r154
          case y154 => (intro w hSw; have G := (show SG b off b' off' k rk sn sc sg sl x _ from Rk.at hSw Hk.out.1 Hk.out.2); have g1 := G.c1; have g2 := G.c2; have g3 := G.c3; have g4 := G.c4; have g5 := G.c5; have g6 := G.x0; have P1 := (show SG b off b' off' p rkp np cp gp lp xp _ from Rk.at hSw Hp.out.1 Hp.out.2).c1; clear G hSw; go_simp; try with_reducible rfl)
          simp only [List.getElem_toArray, List.getElem_cons_zero, List.getElem_cons_succ, Act.put, List.setIfInBounds_toArray, List.set_cons_zero, List.set_cons_succ]
          refine wpAnyH_take (i := 30) (v := ?v155) rfl (by kernel_rfl) (by kernel_rfl) (by kernel_rfl) (fun _ _ _ h => h) (Or.inl ⟨by rfl, ?y155⟩) hHeld ?r155
          case y155 => (intro w hSw; have G := (show SG b off b' off' k rk sn sc sg sl x _ from Rk.at hSw Hk.out.1 Hk.out.2); have g1 := G.c1; have g2 := G.c2; have g3 := G.c3; have g4 := G.c4; have g5 := G.c5; have g6 := G.x0; have P1 := (show SG b off b' off' p rkp np cp gp lp xp _ from Rk.at hSw Hp.out.1 Hp.out.2).c1; clear G hSw; go_simp; try with_reducible rfl)
          simp only [List.getElem_toArray, List.getElem_cons_zero, List.getElem_cons_succ, Act.put, List.setIfInBounds_toArray, List.set_cons_zero, List.set_cons_succ]
          refine wpAnyH_take (i := 31) (v := ?v156) rfl (by kernel_rfl) (by kernel_rfl) (by kernel_rfl) (fun _ _ _ h => h) (Or.inl ⟨by rfl, ?y156⟩) hHeld ?r156
          case y156 => (intro w hSw; have G := (show SG b off b' off' k rk sn sc sg sl x _ from Rk.at hSw Hk.out.1 Hk.out.2); have g1 := G.c1; have g2 := G.c2; have g3 := G.c3; have g4 := G.c4; have g5 := G.c5; have g6 := G.x0; have P1 := (show SG b off b' off' p rkp np cp gp lp xp _ from Rk.at hSw Hp.out.1 Hp.out.2).c1; clear G hSw; go_simp; try with_reducible rfl)
          simp only [List.getElem_toArray, List.getElem_cons_zero, List.getElem_cons_succ, Act.put, List.setIfInBounds_toArray, List.set_cons_zero, List.set_cons_succ]
          refine wpAnyH_take (i := 32) (v := ?v157) rfl (by kernel_rfl) (by kernel_rfl) (by kernel_rfl) (fun _ _ _ h => h) (Or.inl ⟨by rfl, ?y157⟩) hHeld ?r157
          case y157 => (intro w hSw; have G := (show SG b off b' off' k rk sn sc sg sl x _ from Rk.at hSw Hk.out.1 Hk.out.2); have g1 := G.c1; have g2 := G.c2; have g3 := G.c3; have g4 := G.c4; have g5 := G.c5; have g6 := G.x0; have P1 := (show SG b off b' off' p rkp np cp gp lp xp _ from Rk.at hSw Hp.out.1 Hp.out.2).c1; clear G hSw; go_simp; try with_reducible rfl)
          simp only [List.getElem_toArray, List.getElem_cons_zero, List.getElem_cons_succ, Act.put, List.setIfInBounds_toArray, List.set_cons_zero, List.set_cons_succ]
          refine wpAnyH_take (i := 33) (v := ?v158) rfl (by kernel_rfl) (by kernel_rfl) (by kernel_rfl) (fun _ _ _ h => h) (Or.inl ⟨by rfl, ?y158⟩) hHeld ?r158
          case y158 => (intro w hSw; have G := (show SG b off b' off' k rk sn sc sg sl x _ from Rk.at hSw Hk.out.1 Hk.out.2); have g1 := G.c1; have g2 := G.c2; have g3 := G.c3; have g4 := G.c4; have g5 := G.c5; have g6 := G.x0; have P1 := (show SG b off b' off' p rkp np cp gp lp xp _ from Rk.at hSw Hp.out.1 Hp.out.2).c1; clear G hSw; go_simp; try with_reducible rfl)
          simp only [List.getElem_toArray, List.getElem_cons_zero, List.getElem_cons_succ, Act.put, List.setIfInBounds_toArray, List.set_cons_zero, List.set_cons_succ]
          refine wpAnyH_take (i := 34) (v := ?v159) rfl (by kernel_rfl) (by kernel_rfl) (by kernel_rfl) (fun _ _ _ h => h) (Or.inl ⟨by rfl, ?y159⟩) hHeld ?r159
          case y159 => (intro w hSw; have G := (show SG b off b' off' k rk sn sc sg sl x _ from Rk.at hSw Hk.out.1 Hk.out.2); have g1 := G.c1; have g2 := G.c2; have g3 := G.c3; have g4 := G.c4; have g5 := G.c5; have g6 := G.x0; have P1 := (show SG b off b' off' p rkp np cp gp lp xp _ from Rk.at hSw Hp.out.1 Hp.out.2).c1; clear G hSw; go_simp; try with_reducible rfl)
          simp only [List.getElem_toArray, List.getElem_cons_zero, List.getElem_cons_succ, Act.put, List.setIfInBounds_toArray, List.set_cons_zero, List.set_cons_succ]
          refine wpAnyH_take (i := 35) (v := ?v160) rfl (by kernel_rfl) (by kernel_rfl) (by kernel_rfl) (fun _ _ _ h => h) (Or.inl ⟨by rfl, ?y160⟩) hHeld ?r160
          case y160 => (intro w hSw; have G := (show SG b off b' off' k rk sn sc sg sl x _ from Rk.at hSw Hk.out.1 Hk.out.2); have g1 := G.c1; have g2 := G.c2; have g3 := G.c3; have g4 := G.c4; have g5 := G.c5; have g6 := G.x0; have P1 := (show SG b off b' off' p rkp np cp gp lp xp _ from Rk.at hSw Hp.out.1 Hp.out.2).c1; clear G hSw; go_simp; try with_reducible rfl)
          simp only [List.getElem_toArray, List.getElem_cons_zero, List.getElem_cons_succ, Act.put, List.setIfInBounds_toArray, List.set_cons_zero, List.set_cons_succ]
          refine wpAnyH_take (i := 36) (v := ?v161) rfl (by kernel_rfl) (by kernel_rfl) (by kernel_rfl) (fun _ _ _ h => h) (Or.inl ⟨by rfl, ?y161⟩) hHeld ?r161
          case y161 => (intro w hSw; have G := (show SG b off b' off' k rk sn sc sg sl x _ from Rk.at hSw Hk.out.1 Hk.out.2); have g1 := G.c1; have g2 := G.c2; have g3 := G.c3; have g4 := G.c4; have g5 := G.c5; have g6 := G.x0; have P1 := (show SG b off b' off' p rkp np cp gp lp xp _ from Rk.at hSw Hp.out.1 Hp.out.2).c1; clear G hSw; go_simp; try with_reducible rfl)
          simp only [List.getElem_toArray, List.getElem_cons_zero, List.getElem_cons_succ, Act.put, List.setIfInBounds_toArray, List.set_cons_zero, List.set_cons_succ]
          refine wpAnyH_take (i := 37) (v := ?v162) rfl (by kernel_rfl) (by kernel_rfl) (by kernel_rfl) (fun _ _ _ h => h) (Or.inl ⟨by rfl, ?y162⟩) hHeld ?r162
          case y162 => (intro w hSw; have G := (show SG b off b' off' k rk sn sc sg sl x _ from Rk.at hSw Hk.out.1 Hk.out.2); have g1 := G.c1; have g2 := G.c2; have g3 := G.c3; have g4 := G.c4; have g5 := G.c5; have g6 := G.x0; have P1 := (show SG b off b' off' p rkp np cp gp lp xp _ from Rk.at hSw Hp.out.1 Hp.out.2).c1; clear G hSw; go_simp; try with_reducible rfl)
          simp only [List.getElem_toArray, List.getElem_cons_zero, List.getElem_cons_succ, Act.put, List.setIfInBounds_toArray, List.set_cons_zero, List.set_cons_succ]
          refine wpAnyH_take (i := 38) (v := ?v163) rfl (by kernel_rfl) (by kernel_rfl) (by kernel_rfl) (fun _ _ _ h => h) (Or.inl ⟨by rfl, ?y163⟩) hHeld ?r163
          case y163 => (intro w hSw; have G := (show SG b off b' off' k rk sn sc sg sl x _ from Rk.at hSw Hk.out.1 Hk.out.2); have g1 := G.c1; have g2 := G.c2; have g3 := G.c3; have g4 := G.c4; have g5 := G.c5; have g6 := G.x0; have P1 := (show SG b off b' off' p rkp np cp gp lp xp _ from Rk.at hSw Hp.out.1 Hp.out.2).c1; clear G hSw; go_simp; try with_reducible rfl)
          simp only [List.getElem_toArray, List.getElem_cons_zero, List.getElem_cons_succ, Act.put, List.setIfInBounds_toArray, List.set_cons_zero, List.set_cons_succ]
          refine wpAnyH_take (i := 39) (v := ?v164) rfl (by kernel_rfl) (by kernel_rfl) (by kernel_rfl) (fun _ _ _ h => h) (Or.inl ⟨by rfl, ?y164⟩) hHeld ?r164
          case y164 => (intro w hSw; have G := (show SG b off b' off' k rk sn sc sg sl x _ from Rk.at hSw Hk.out.1 Hk.out.2); have g1 := G.c1; have g2 := G.c2; have g3 := G.c3; have g4 := G.c4; have g5 := G.c5; have g6 := G.x0; have P1 := (show SG b off b' off' p rkp np cp gp lp xp _ from Rk.at hSw Hp.out.1 Hp.out.2).c1; clear G hSw; go_simp; try with_reducible rfl)
          simp only [List.getElem_toArray, List.getElem_cons_zero, List.getElem_cons_succ, Act.put, List.setIfInBounds_toArray, List.set_cons_zero, List.set_cons_succ]
          refine wpAnyH_take (i := 40) (v := ?v165) rfl (by kernel_rfl) (by kernel_rfl) (by kernel_rfl) (fun _ _ _ h => h) (Or.inl ⟨by rfl, ?y165⟩) hHeld ?r165
          case y165 => (intro w hSw; have G := (show SG b off b' off' k rk sn sc sg sl x _ from Rk.at hSw Hk.out.1 Hk.out.2); have g1 := G.c1; have g2 := G.c2; have g3 := G.c3; have g4 := G.c4; have g5 := G.c5; have g6 := G.x0; have P1 := (show SG b off b' off' p rkp np cp gp lp xp _ from Rk.at hSw Hp.out.1 Hp.out.2).c1; clear G hSw; go_simp; try with_reducible rfl)
          simp only [List.getElem_toArray, List.getElem_cons_zero, List.getElem_cons_succ, Act.put, List.setIfInBounds_toArray, List.set_cons_zero, List.set_cons_succ]
          refine wpAnyH_take (i := 41) (v := ?v166) rfl (by kernel_rfl) (by kernel_rfl) (by kernel_rfl) (fun _ _ _ h => h) (Or.inl ⟨by rfl, ?y166⟩) hHeld ?r166
          case y166 => (intro w hSw; have G := (show SG b off b' off' k rk sn sc sg sl x _ from Rk.at hSw Hk.out.1 Hk.out.2); have g1 := G.c1; have g2 := G.c2; have g3 := G.c3; have g4 := G.c4; have g5 := G.c5; have g6 := G.x0; have P1 := (show SG b off b' off' p rkp np cp gp lp xp _ from Rk.at hSw Hp.out.1 Hp.out.2).c1; clear G hSw; go_simp; try with_reducible rfl)
          simp only [List.getElem_toArray, List.getElem_cons_zero, List.getElem_cons_succ, Act.put, List.setIfInBounds_toArray, List.set_cons_zero, List.set_cons_succ]
          refine wpAnyH_take (i := 42) (v := ?v167) rfl (by kernel_rfl) (by kernel_rfl) (by kernel_rfl) (fun _ _ _ h => h) (Or.inl ⟨by rfl, ?y167⟩) hHeld ?r167
          case y167 => (intro w hSw; have G := (show SG b off b' off' k rk sn sc sg sl x _ from Rk.at hSw Hk.out.1 Hk.out.2); have g1 := G.c1; have g2 := G.c2; have g3 := G.c3; have g4 := G.c4; have g5 := G.c5; have g6 := G.x0; have P1 := (show SG b off b' off' p rkp np cp gp lp xp _ from Rk.at hSw Hp.out.1 Hp.out.2).c1; clear G hSw; go_simp; try with_reducible rfl)
          simp only [List.getElem_toArray, List.getElem_cons_zero, List.getElem_cons_succ, Act.put, List.setIfInBounds_toArray, List.set_cons_zero, List.set_cons_succ]
          refine wpAnyH_take (i := 43) (v := ?v168) rfl (by kernel_rfl) (by kernel_rfl) (by kernel_rfl) (fun _ _ _ h => h) (Or.inl ⟨by rfl, ?y168⟩) hHeld ?r168
          case y168 => (intro w hSw; have G := (show SG b off b' off' k rk sn sc sg sl x _ from Rk.at hSw Hk.out.1 Hk.out.2); have g1 := G.c1; have g2 := G.c2; have g3 := G.c3; have g4 := G.c4; have g5 := G.c5; have g6 := G.x0; have P1 := (show SG b off b' off' p rkp np cp gp lp xp _ from Rk.at hSw Hp.out.1 Hp.out.2).c1; clear G hSw; go_simp; try with_reducible rfl)
          simp only [List.getElem_toArray, List.getElem_cons_zero, List.getElem_cons_succ, Act.put, List.setIfInBounds_toArray, List.set_cons_zero, List.set_cons_succ]
          refine wpAnyH_take (i := 44) (v := ?v169) rfl (by kernel_rfl) (by kernel_rfl) (by kernel_rfl) (fun _ _ _ h => h) (Or.inl ⟨by rfl, ?y169⟩) hHeld ?r169
          case y169 => (intro w hSw; have G := (show SG b off b' off' k rk sn sc sg sl x _ from Rk.at hSw Hk.out.1 Hk.out.2); have g1 := G.c1; have g2 := G.c2; have g3 := G.c3; have g4 := G.c4; have g5 := G.c5; have g6 := G.x0; have P1 := (show SG b off b' off' p rkp np cp gp lp xp _ from Rk.at hSw Hp.out.1 Hp.out.2).c1; clear G hSw; go_simp; try with_reducible rfl)
          simp only [List.getElem_toArray, List.getElem_cons_zero, List.getElem_cons_succ, Act.put, List.setIfInBounds_toArray, List.set_cons_zero, List.set_cons_succ]
          refine wpAnyH_take (i := 45) (v := ?v170) rfl (by kernel_rfl) (by kernel_rfl) (by kernel_rfl) (fun _ _ _ h => h) (Or.inl ⟨by rfl, ?y170⟩) hHeld ?r170
          case y170 => (intro w hSw; have G := (show SG b off b' off' k rk sn sc sg sl x _ from Rk.at hSw Hk.out.1 Hk.out.2); have g1 := G.c1; have g2 := G.c2; have g3 := G.c3; have g4 := G.c4; have g5 := G.c5; have g6 := G.x0; have P1 := (show SG b off b' off' p rkp np cp gp lp xp _ from Rk.at hSw Hp.out.1 Hp.out.2).c1; clear G hSw; go_simp; try with_reducible rfl)
          simp only [List.getElem_toArray, List.getElem_cons_zero, List.getElem_cons_succ, Act.put, List.setIfInBounds_toArray, List.set_cons_zero, List.set_cons_succ]
          refine wpAnyH_done (by kernel_rfl) ?_ _
          go_wp2_with fail
          go_roundw
          case rel => exact ⟨k + 1, by go_num, by omega, X2.out⟩
          case measure => simp [intOf]; omega
        · have hr2 : (rk == rkp) = false := by simpa using hre
          clear hq hq0 hrk hle heq hre
          go_wp2_with fail
          refine wp_region_held_drew (S := Rk w (some ⟨b, off, none⟩) (some ⟨b', off', none⟩) l gs n) (by kernel_rfl) (HK.out.drew) (fun hHeld => ?_)
          refine wpAnyH_take (i := 0) (v := ?v171) rfl (by kernel_rfl) (by kernel_rfl) (by kernel_rfl) (fun _ _ _ h => h) (Or.inl ⟨by rfl, ?y171⟩) hHeld ?r171
          case y171 => (intro w hSw; have G := (show SG b off b' off' k rk sn sc sg sl x _ from Rk.at hSw Hk.out.1 Hk.out.2); have g1 := G.c1; have g2 := G.c2; have g3 := G.c3; have g4 := G.c4; have g5 := G.c5; have g6 := G.x0; have P1 := (show SG b off b' off' p rkp np cp gp lp xp _ from Rk.at hSw Hp.out.1 Hp.out.2).c1; clear G hSw; go_simp; try with_reducible rfl)
          simp only [List.getElem_toArray, List.getElem_cons_zero, Act.put, List.setIfInBounds_toArray, List.set_cons_zero, List.set_cons_succ]
          refine wpAnyH_take (i := 1) (v := ?v172) rfl (by kernel_rfl) (by kernel_rfl) (by kernel_rfl) (fun _ _ _ h => h) (Or.inl ⟨by rfl, ?y172⟩) hHeld ?r172
          case y172 => (intro w hSw; have G := (show SG b off b' off' k rk sn sc sg sl x _ from Rk.at hSw Hk.out.1 Hk.out.2); have g1 := G.c1; have g2 := G.c2; have g3 := G.c3; have g4 := G.c4; have g5 := G.c5; have g6 := G.x0; have P1 := (show SG b off b' off' p rkp np cp gp lp xp _ from Rk.at hSw Hp.out.1 Hp.out.2).c1; clear G hSw; go_simp; try with_reducible rfl)
          simp only [List.getElem_toArray, List.getElem_cons_zero, List.getElem_cons_succ, Act.put, List.setIfInBounds_toArray, List.set_cons_zero, List.set_cons_succ]
          refine wpAnyH_take (i := 2) (v := ?v173) rfl (by kernel_rfl) (by kernel_rfl) (by kernel_rfl) (fun _ _ _ h => h) (Or.inl ⟨by rfl, ?y173⟩) hHeld ?r173
          case y173 => (intro w hSw; have G := (show SG b off b' off' k rk sn sc sg sl x _ from Rk.at hSw Hk.out.1 Hk.out.2); have g1 := G.c1; have g2 := G.c2; have g3 := G.c3; have g4 := G.c4; have g5 := G.c5; have g6 := G.x0; have P1 := (show SG b off b' off' p rkp np cp gp lp xp _ from Rk.at hSw Hp.out.1 Hp.out.2).c1; clear G hSw; go_simp; try with_reducible rfl)
          simp only [List.getElem_toArray, List.getElem_cons_zero, List.getElem_cons_succ, Act.put, List.setIfInBounds_toArray, List.set_cons_zero, List.set_cons_succ]
          refine wpAnyH_take (i := 3) (v := ?v174) rfl (by kernel_rfl) (by kernel_rfl) (by kernel_rfl) (fun _ _ _ h => h) (Or.inl ⟨by rfl, ?y174⟩) hHeld ?r174
          case y174 => (intro w hSw; have G := (show SG b off b' off' k rk sn sc sg sl x _ from Rk.at hSw Hk.out.1 Hk.out.2); have g1 := G.c1; have g2 := G.c2; have g3 := G.c3; have g4 := G.c4; have g5 := G.c5; have g6 := G.x0; have P1 := (show SG b off b' off' p rkp np cp gp lp xp _ from Rk.at hSw Hp.out.1 Hp.out.2).c1; clear G hSw; go_simp; try with_reducible rfl)
          simp only [List.getElem_toArray, List.getElem_cons_zero, List.getElem_cons_succ, Act.put, List.setIfInBounds_toArray, List.set_cons_zero, List.set_cons_succ]
          refine wpAnyH_take (i := 4) (v := ?v175) rfl (by kernel_rfl) (by kernel_rfl) (by kernel_rfl) (fun _ _ _ h => h) (Or.inl ⟨by rfl, ?y175⟩) hHeld ?r175
          case y175 => (intro w hSw; have G := (show SG b off b' off' k rk sn sc sg sl x _ from Rk.at hSw Hk.out.1 Hk.out.2); have g1 := G.c1; have g2 := G.c2; have g3 := G.c3; have g4 := G.c4; have g5 := G.c5; have g6 := G.x0; have P1 := (show SG b off b' off' p rkp np cp gp lp xp _ from Rk.at hSw Hp.out.1 Hp.out.2).c1; clear G hSw; go_simp; try with_reducible rfl)
          simp only [List.getElem_toArray, List.getElem_cons_zero, List.getElem_cons_succ, Act.put, List.setIfInBounds_toArray, List.set_cons_zero, List.set_cons_succ]
          refine wpAnyH_take (i := 5) (v := ?v176) rfl (by kernel_rfl) (by kernel_rfl) (by kernel_rfl) (fun _ _ _ h => h) (Or.inl ⟨by rfl, ?y176⟩) hHeld ?r176
          case y176 => (intro w hSw; have G := (show SG b off b' off' k rk sn sc sg sl x _ from Rk.at hSw Hk.out.1 Hk.out.2); have g1 := G.c1; have g2 := G.c2; have g3 := G.c3; have g4 := G.c4; have g5 := G.c5; have g6 := G.x0; have P1 := (show SG b off b' off' p rkp np cp gp lp xp _ from Rk.at hSw Hp.out.1 Hp.out.2).c1; clear G hSw; go_simp; try with_reducible rfl)
          simp only [List.getElem_toArray, List.getElem_cons_zero, List.getElem_cons_succ, Act.put, List.setIfInBounds_toArray, List.set_cons_zero, List.set_cons_succ]
          refine wpAnyH_take (i := 6) (v := ?v177) rfl (by kernel_rfl) (by kernel_rfl) (by kernel_rfl) (fun _ _ _ h => h) (Or.inl ⟨by rfl, ?y177⟩) hHeld ?r177
          case y177 => (intro w hSw; have G := (show SG b off b' off' k rk sn sc sg sl x _ from Rk.at hSw Hk.out.1 Hk.out.2); have g1 := G.c1; have g2 := G.c2; have g3 := G.c3; have g4 := G.c4; have g5 := G.c5; have g6 := G.x0; have P1 := (show SG b off b' off' p rkp np cp gp lp xp _ from Rk.at hSw Hp.out.1 Hp.out.2).c1; clear G hSw; go_simp; try with_reducible rfl)
          simp only [List.getElem_toArray, List.getElem_cons_zero, List.getElem_cons_succ, Act.put, List.setIfInBounds_toArray, List.set_cons_zero, List.set_cons_succ]
          refine wpAnyH_take (i := 7) (v := ?v178) rfl (by kernel_rfl) (by kernel_rfl) (by kernel_rfl) (fun _ _ _ h => h) (Or.inl ⟨by rfl, ?y178⟩) hHeld ?r178
          case y178 => (intro w hSw; have G := (show SG b off b' off' k rk sn sc sg sl x _ from Rk.at hSw Hk.out.1 Hk.out.2); have g1 := G.c1; have g2 := G.c2; have g3 := G.c3; have g4 := G.c4; have g5 := G.c5; have g6 := G.x0; have P1 := (show SG b off b' off' p rkp np cp gp lp xp _ from Rk.at hSw Hp.out.1 Hp.out.2).c1; clear G hSw; go_simp; try with_reducible rfl)
          simp only [List.getElem_toArray, List.getElem_cons_zero, List.getElem_cons_succ, Act.put, List.setIfInBounds_toArray, List.set_cons_zero, List.set_cons_succ]
          refine wpAnyH_take (i := 8) (v := ?v179) rfl (by kernel_rfl) (by kernel_rfl) (by kernel_rfl) (fun _ _ _ h => h) (Or.inl ⟨by rfl, ?y179⟩) hHeld ?r179
          case y179 => (intro w hSw; have G := (show SG b off b' off' k rk sn sc sg sl x _ from Rk.at hSw Hk.out.1 Hk.out.2); have g1 := G.c1; have g2 := G.c2; have g3 := G.c3; have g4 := G.c4; have g5 := G.c5; have g6 := G.x0; have P1 := (show SG b off b' off' p rkp np cp gp lp xp _ from Rk.at hSw Hp.out.1 Hp.out.2).c1; clear G hSw; go_simp; try with_reducible rfl)
          simp only [List.getElem_toArray, List.getElem_cons_zero, List.getElem_cons_succ, Act.put, List.setIfInBounds_toArray, List.set_cons_zero, List.set_cons_succ]
          refine wpAnyH_ready (rs := [9]) (by kernel_rfl) (by simp) (AllReadyH.cons rfl (fun K hK => ?_) AllReadyH.nil)
          go_simp
          refine (HC.out _).mono ?_
          rintro e x2 ⟨rfl, hb⟩
          have X2 := Lib.hid (hHeld.next hb)
          clear hb
          go_wp2_with fail
          refine hK.out _ _ (X2.out) (fun hHeld => ?_)
          clear hK K
          refine wpAnyH_take (i := 10) (v := ?v181) rfl (by kernel_rfl) (by kernel_rfl) (by kernel_rfl) (fun _ _ _ h => h) (Or.inl ⟨by rfl, ?y181⟩) hHeld ?r181
          case y181 => (intro w hSw; have G := (show SG b off b' off' k rk sn sc sg sl x _ from Rk.at hSw Hk.out.1 Hk.out.2); have g1 := G.c1; have g2 := G.c2; have g3 := G.c3; have g4 := G.c4; have g5 := G.c5; have g6 := G.x0; have P1 := (show SG b off b' off' p rkp np cp gp lp xp _ from Rk.at hSw Hp.out.1 Hp.out.2).c1; clear G hSw; go_simp; try with_reducible rfl)
          simp only [List.getElem_toArray, List.getElem_cons_zero, List.getElem_cons_succ, Act.put, List.setIfInBounds_toArray, List.set_cons_zero, List.set_cons_succ]
          refine wpAnyH_take (i := 11) (v := ?v182) rfl (by kernel_rfl) (by kernel_rfl) (by kernel_rfl) (fun _ _ _ h => h) (Or.inl ⟨by rfl, ?y182⟩) hHeld ?r182
          case y182 => (intro w hSw; have G := (show SG b off b' off' k rk sn sc sg sl x _ from Rk.at hSw Hk.out.1 Hk.out.2); have g1 := G.c1; have g2 := G.c2; have g3 := G.c3; have g4 := G.c4; have g5 := G.c5; have g6 := G.x0; have P1 := (show SG b off b' off' p rkp np cp gp lp xp _ from Rk.at hSw Hp.out.1 Hp.out.2).c1; clear G hSw; go_simp; try with_reducible rfl)
          simp only [List.getElem_toArray, List.getElem_cons_zero, List.getElem_cons_succ, Act.put, List.setIfInBounds_toArray, List.set_cons_zero, List.set_cons_succ]
          refine wpAnyH_take (i := 12) (v := ?v183) rfl (by kernel_rfl) (by kernel_rfl) (by kernel_rfl) (fun _ _ _ h => h) (Or.inl ⟨by rfl, ?y183⟩) hHeld ?r183
          case y183 => (intro w hSw; have G := (show SG b off b' off' k rk sn sc sg sl x _ from Rk.at hSw Hk.out.1 Hk.out.2); have g1 := G.c1; have g2 := G.c2; have g3 := G.c3; have g4 := G.c4; have g5 := G.c5; have g6 := G.x0; have P1 := (show SG b off b' off' p rkp np cp gp lp xp _ from Rk.at hSw Hp.out.1 Hp.out.2).c1; clear G hSw; go_simp; try with_reducible rfl)
          simp only [List.getElem_toArray, List.getElem_cons_zero, List.getElem_cons_succ, Act.put, List.setIfInBounds_toArray, List.set_cons_zero, List.set_cons_succ]
          refine wpAnyH_take (i := 13) (v := ?v184) rfl (by kernel_rfl) (by kernel_rfl) (by kernel_rfl) (fun _ _ _ h => h) (Or.inl ⟨by rfl, ?y184⟩) hHeld ?r184
          case y184 => (intro w hSw; have G := (show SG b off b' off' k rk sn sc sg sl x _ from Rk.at hSw Hk.out.1 Hk.out.2); have g1 := G.c1; have g2 := G.c2; have g3 := G.c3; have g4 := G.c4; have g5 := G.c5; have g6 := G.x0; have P1 := (show SG b off b' off' p rkp np cp gp lp xp _ from Rk.at hSw Hp.out.1 Hp.out.2).c1; clear G hSw; go_simp; try with_reducible rfl)
          simp only [List.getElem_toArray, List.getElem_cons_zero, List.getElem_cons_succ, Act.put, List.setIfInBounds_toArray, List.set_cons_zero, List.set_cons_succ]
          refine wpAnyH_take (i := 14) (v := ?v185) rfl (by kernel_rfl) (by kernel_rfl) (by kernel_rfl) (fun _ _ _ h => h) (Or.inl ⟨by rfl, ?y185⟩) hHeld ?r185
          case y185 => (intro w hSw; have G := (show SG b off b' off' k rk sn sc sg sl x _ from Rk.at hSw Hk.out.1 Hk.out.2); have g1 := G.c1; have g2 := G.c2; have g3 := G.c3; have g4 := G.c4; have g5 := G.c5; have g6 := G.x0; have P1 := (show SG b off b' off' p rkp np cp gp lp xp _ from Rk.at hSw Hp.out.1 Hp.out.2).c1; clear G hSw; go_simp; try with_reducible rfl)
          simp only [List.getElem_toArray, List.getElem_cons_zero, List.getElem_cons_succ, Act.put, List.setIfInBounds_toArray, List.set_cons_zero, List.set_cons_succ]
          refine wpAnyH_take (i := 15) (v := ?v186) rfl (by kernel_rfl) (by kernel_rfl) (by kernel_rfl) (fun _ _ _ h => h) (Or.inl ⟨by rfl, ?y186⟩) hHeld ?r186
          case y186 => (intro w hSw; have G := (show SG b off b' off' k rk sn sc sg sl x _ from Rk.at hSw Hk.out.1 Hk.out.2); have g1 := G.c1; have g2 := G.c2; have g3 := G.c3; have g4 := G.c4; have g5 := G.c5; have g6 := G.x0; have P1 := (show SG b off b' off' p rkp np cp gp lp xp _ from Rk.at hSw Hp.out.1 Hp.out.2).c1; clear G hSw; go_simp; try with_reducible rfl)
          simp only [List.getElem_toArray, List.getElem_cons_zero, List.getElem_cons_succ, Act.put, List.setIfInBounds_toArray, List.set_cons_zero, List.set_cons_succ]
          refine wpAnyH_take (i := 16) (v := ?v187) rfl (by kernel_rfl) (by kernel_rfl) (by kernel_rfl) (fun _ _ _ h => h) (Or.inl ⟨by rfl, ?y187⟩) hHeld ?r187
          case y187 => (intro w hSw; have G := (show SG b off b' off' k rk sn sc sg sl x _ from Rk.at hSw Hk.out.1 Hk.out.2); have g1 := G.c1; have g2 := G.c2; have g3 := G.c3; have g4 := G.c4; have g5 := G.c5; have g6 := G.x0; have P1 := (show SG b off b' off' p rkp np cp gp lp xp _ from Rk.at hSw Hp.out.1 Hp.out.2).c1; clear G hSw; go_simp; try with_reducible rfl)
          simp only [List.getElem_toArray, List.getElem_cons_zero, List.getElem_cons_succ, Act.put, List.setIfInBounds_toArray, List.set_cons_zero, List.set_cons_succ]
          refine wpAnyH_take (i := 17) (v := ?v188) rfl (by kernel_rfl) (by kernel_rfl) (by kernel_rfl) (fun _ _ _ h => h) (Or.inl ⟨by rfl, ?y188⟩) hHeld ?r188
          case y188 => (intro w hSw; have G := (show SG b off b' off' k rk sn sc sg sl x _ from Rk.at hSw Hk.out.1 Hk.out.2); have g1 := G.c1; have g2 := G.c2; have g3 := G.c3; have g4 := G.c4; have g5 := G.c5; have g6 := G.x0; have P1 := (show SG b off b' off' p rkp np cp gp lp xp _ from Rk.at hSw Hp.out.1 Hp.out.2).c1; clear G hSw; go_simp; try with_reducible rfl)
          simp only [List.getElem_toArray, List.getElem_cons_zero, List.getElem_cons_succ, Act.put, List.setIfInBounds_toArray, List.set_cons_zero, List.set_cons_succ]
          refine wpAnyH_take (i := 18) (v := ?v189) rfl (by kernel_rfl) (by kernel_rfl) (by kernel_rfl) (fun _ _ _ h => h) (Or.inl ⟨by rfl, ?y189⟩) hHeld ?r189
          case y189 => (intro w hSw; have G := (show SG b off b' off' k rk sn sc sg sl x _ from Rk.at hSw Hk.out.1 Hk.out.2); have g1 := G.c1; have g2 := G.c2; have g3 := G.c3; have g4 := G.c4; have g5 := G.c5; have g6 := G.x0; have P1 := (show SG b off b' off' p rkp np cp gp lp xp _ from Rk.at hSw Hp.out.1 Hp.out.2).c1; clear G hSw; go_simp; try with_reducible rfl)
          simp only [List.getElem_toArray, List.getElem_cons_zero, List.getElem_cons_succ, Act.put, List.setIfInBounds_toArray, List.set_cons_zero, List.set_cons_succ]
          refine wpAnyH_take (i := 19) (v := ?v190) rfl (by kernel_rfl) (by kernel_rfl) (by kernel_rfl) (fun _ _ _ h => h) (Or.inl ⟨by rfl, ?y190⟩) hHeld ?r190
          case y190 => (intro w hSw; have G := (show SG b off b' off' k rk sn sc sg sl x _ from Rk.at hSw Hk.out.1 Hk.out.2); have g1 := G.c1; have g2 := G.c2; have g3 := G.c3; have g4 := G.c4; have g5 := G.c5; have g6 := G.x0; have P1 := (show SG b off b' off' p rkp np cp gp lp xp _ from Rk.at hSw Hp.out.1 Hp.out.2).c1; clear G hSw; go_simp; try with_reducible rfl)
          simp only [List.getElem_toArray, List.getElem_cons_zero, List.getElem_cons_succ, Act.put, List.setIfInBounds_toArray, List.set_cons_zero, List.set_cons_succ]
          refine wpAnyH_take (i := 20) (v := ?v191) rfl (by kernel_rfl) (by kernel_rfl) (by kernel_rfl) (fun _ _ _ h => h) (Or.inl ⟨by rfl, ?y191⟩) hHeld ?r191
          case y191 => (intro w hSw; have G := (show SG b off b' off' k rk sn sc sg sl x _ from Rk.at hSw Hk.out.1 Hk.out.2); have g1 := G.c1; have g2 := G.c2; have g3 := G.c3; have g4 := G.c4; have g5 := G.c5; have g6 := G.x0; have P1 := (show SG b off b' off' p rkp np cp gp lp xp _ from Rk.at hSw Hp.out.1 Hp.out.2).c1; clear G hSw; go_simp; try with_reducible rfl)
          simp only [List.getElem_toArray, List.getElem_cons_zero, List.getElem_cons_succ, Act.put, List.setIfInBounds_toArray, List.set_cons_zero, List.set_cons_succ]
          refine wpAnyH_take (i := 21) (v := ?v192) rfl (by kernel_rfl) (by kernel_rfl) (by kernel_rfl) (fun _ _ _ h => h) (Or.inl ⟨by rfl, ?y192⟩) hHeld ?r192
          case y192 => (intro w hSw; have G := (show SG b off b' off' k rk sn sc sg sl x _ from Rk.at hSw Hk.out.1 Hk.out.2); have g1 := G.c1; have g2 := G.c2; have g3 := G.c3; have g4 := G.c4; have g5 := G.c5; have g6 := G.x0; have P1 := (show SG b off b' off' p rkp np cp gp lp xp _ from Rk.at hSw Hp.out.1 Hp.out.2).c1; clear G hSw; go_simp; try with_reducible rfl)
          simp only [List.getElem_toArray, List.getElem_cons_zero, List.getElem_cons_succ, Act.put, List.setIfInBounds_toArray, List.set_cons_zero, List.set_cons_succ]
          refine wpAnyH_take (i := 22) (v := ?v193) rfl (by kernel_rfl) (by kernel_rfl) (by kernel_rfl) (fun _ _ _ h => h) (Or.inl ⟨by rfl, ?y193⟩) hHeld ?r193
          case y193 => (intro w hSw; have G := (show SG b off b' off' k rk sn sc sg sl x _ from Rk.at hSw Hk.out.1 Hk.out.2); have g1 := G.c1; have g2 := G.c2; have g3 := G.c3; have g4 := G.c4; have g5 := G.c5; have g6 := G.x0; have P1 := (show SG b off b' off' p rkp np cp gp lp xp _ from Rk.at hSw Hp.out.1 Hp.out.2).c1; clear G hSw; go_simp; try with_reducible rfl)
          simp only [List.getElem_toArray, List.getElem_cons_zero, List.getElem_cons_succ, Act.put, List.setIfInBounds_toArray, List.set_cons_zero, List.set_cons_succ]
          refine wpAnyH_take (i := 23) (v := ?v194) rfl (by kernel_rfl) (by kernel_rfl) (by kernel_rfl) (fun _ _ _ h => h) (Or.inl ⟨by rfl, ?y194⟩) hHeld ?r194
          case y194 => (intro w hSw; have G := (show SG b off b' off' k rk sn sc sg sl x _ from Rk.at hSw Hk.out.1 Hk.out.2); have g1 := G.c1; have g2 := G.c2; have g3 := G.c3; have g4 := G.c4; have g5 := G.c5; have g6 := G.x0; have P1 := (show SG b off b' off' p rkp np cp gp lp xp _ from Rk.at hSw Hp.out.1 Hp.out.2).c1; clear G hSw; go_simp; try with_reducible rfl)
          simp only [List.getElem_toArray, List.getElem_cons_zero, List.getElem_cons_succ, Act.put, List.setIfInBounds_toArray, List.set_cons_zero, List.set_cons_succ]
          refine wpAnyH_take (i := 24) (v := ?v195) rfl (by kernel_rfl) (by kernel_rfl) (by kernel_rfl) (fun _ _ _ h => h) (Or.inl ⟨by rfl, ?y195⟩) hHeld ?r195
          case y195 => (intro w hSw; have G := (show SG b off b' off' k rk sn sc sg sl x _ from Rk.at hSw Hk.out.1 Hk.out.2); have g1 := G.c1; have g2 := G.c2; have g3 := G.c3; have g4 := G.c4; have g5 := G.c5; have g6 := G.x0; have P1 := (show SG b off b' off' p rkp np cp gp lp xp _ from Rk.at hSw Hp.out.1 Hp.out.2).c1; clear G hSw; go_simp; try with_reducible rfl)
          simp only [List.getElem_toArray, List.getElem_cons_zero, List.getElem_cons_succ, Act.put, List.setIfInBounds_toArray, List.set_cons_zero, List.set_cons_succ]
          refine wpAnyH_take (i := 25) (v := ?v196) rfl (by kernel_rfl) (by kernel_rfl) (by kernel_rfl) (fun _ _ _ h => h) (Or.inl ⟨by rfl, ?y196⟩) hHeld ?r196
          case y196 => (intro w hSw; have G := (show SG b off b' off' k rk sn sc sg sl x _ from Rk.at hSw Hk.out.1 Hk.out.2); have g1 := G.c1; have g2 := G.c2; have g3 := G.c3; have g4 := G.c4; have g5 := G.c5; have g6 := G.x0; have P1 := (show SG b off b' off' p rkp np cp gp lp xp _ from Rk.at hSw Hp.out.1 Hp.out.2).c1; clear G hSw; go_simp; try with_reducible rfl)
          simp only [List.getElem_toArray, List.getElem_cons_zero, List.getElem_cons_succ, Act.put, List.setIfInBounds_toArray, List.set_cons_zero, List.set_cons_succ]
          refine wpAnyH_take (i := 26) (v := ?v197) rfl (by kernel_rfl) (by kernel_rfl) (by kernel_rfl) (fun _ _ _ h => h) (Or.inl ⟨by rfl, ?y197⟩) hHeld ?r197
          case y197 => (intro w hSw; have G := (show SG b off b' off' k rk sn sc sg sl x _ from Rk.at hSw Hk.out.1 Hk.out.2); have g1 := G.c1; have g2 := G.c2; have g3 := G.c3; have g4 := G.c4; have g5 := G.c5; have g6 := G.x0; have P1 := (show SG b off b' off' p rkp np cp gp lp xp _ from Rk.at hSw Hp.out.1 Hp.out.2).c1; clear G hSw; go_simp; try with_reducible rfl)
          simp only [List.getElem_toArray, List.getElem_cons_zero, List.getElem_cons_succ, Act.put, List.setIfInBounds_toArray, List.set_cons_zero, List.set_cons_succ]
          refine wpAnyH_take (i := 27) (v := ?v198) rfl (by kernel_rfl) (by kernel_rfl) (by kernel_rfl) (fun _ _ _ h => h) (Or.inl ⟨by rfl, ?y198⟩) hHeld ?r198
          case y198 => (intro w hSw; have G := (show SG b off b' off' k rk sn sc sg sl x _ from Rk.at hSw Hk.out.1 Hk.out.2); have g1 := G.c1; have g2 := G.c2; have g3 := G.c3; have g4 := G.c4; have g5 := G.c5; have g6 := G.x0; have P1 := (show SG b off b' off' p rkp np cp gp lp xp _ from Rk.at hSw Hp.out.1 Hp.out.2).c1; clear G hSw; go_simp; try with_reducible rfl)
          simp only [List.getElem_toArray, List.getElem_cons_zero, List.getElem_cons_succ, Act.put, List.setIfInBounds_toArray, List.set_cons_zero, List.set_cons_succ]
          refine wpAnyH_take (i := 28) (v := ?v199) rfl (by kernel_rfl) (by kernel_rfl) (by kernel_rfl) (fun _ _ _ h => h) (Or.inl ⟨by rfl, ?y199⟩) hHeld ?r199
          case y199 => (intro w hSw; have G := (show SG b off b' off' k rk sn sc sg sl x _ from Rk.at hSw Hk.out.1 Hk.out.2); have g1 := G.c1; have g2 := G.c2; have g3 := G.c3; have g4 := G.c4; have g5 := G.c5; have g6 := G.x0; have P1 := (show SG b off b' off' p rkp np cp gp lp xp _ from Rk.at hSw Hp.out.1 Hp.out.2).c1; clear G hSw; go_simp; try with_reducible rfl)
          simp only [List.getElem_toArray, List.getElem_cons_zero, List.getElem_cons_succ, Act.put, List.setIfInBounds_toArray, List.set_cons_zero, List.set_cons_succ]
          refine wpAnyH_take (i := 29) (v := ?v200) rfl (by kernel_rfl) (by kernel_rfl) (by kernel_rfl) (fun _ _ _ h => h) (Or.inl ⟨by rfl, ?y200⟩) hHeld ?r200
          case y200 => (intro w hSw; have G := (show SG b off b' off' k rk sn sc sg sl x _ from Rk.at hSw Hk.out.1 Hk.out.2); have g1 := G.c1; have g2 := G.c2; have g3 := G.c3; have g4 := G.c4; have g5 := G.c5; have g6 := G.x0; have P1 := (show SG b off b' off' p rkp np cp gp lp xp _ from Rk.at hSw Hp.out.1 Hp.out.2).c1; clear G hSw; go_simp; try with_reducible rfl)
          simp only [List.getElem_toArray, List.getElem_cons_zero, List.getElem_cons_succ, Act.put, List.setIfInBounds_toArray, List.set_cons_zero, List.set_cons_succ]
          refine wpAnyH_take (i := 30) (v := ?v201) rfl (by kernel_rfl) (by kernel_rfl) (by kernel_rfl) (fun _ _ _ h => h) (Or.inl ⟨by rfl, ?y201⟩) hHeld ?r201
          case y201 => (intro w hSw; have G := (show SG b off b' off' k rk sn sc sg sl x _ from Rk.at hSw Hk.out.1 Hk.out.2); have g1 := G.c1; have g2 := G.c2; have g3 := G.c3; have g4 := G.c4; have g5 := G.c5; have g6 := G.x0; have P1 := (show SG b off b' off' p rkp np cp gp lp xp _ from Rk.at hSw Hp.out.1 Hp.out.2).c1; clear G hSw; go_simp; try with_reducible rfl)
          simp only [List.getElem_toArray, List.getElem_cons_zero, List.getElem_cons_succ, Act.put, List.setIfInBounds_toArray, List.set_cons_zero, List.set_cons_succ]
          refine wpAnyH_take (i := 31) (v := ?v202) rfl (by kernel_rfl) (by kernel_rfl) (by kernel_rfl) (fun _ _ _ h => h) (Or.inl ⟨by rfl, ?y202⟩) hHeld ?r202
          case y202 => (intro w hSw; have G := (show SG b off b' off' k rk sn sc sg sl x _ from Rk.at hSw Hk.out.1 Hk.out.2); have g1 := G.c1; have g2 := G.c2; have g3 := G.c3; have g4 := G.c4; have g5 := G.c5; have g6 := G.x0; have P1 := (show SG b off b' off' p rkp np cp gp lp xp _ from Rk.at hSw Hp.out.1 Hp.out.2).c1; clear G hSw; go_simp; try with_reducible rfl)
          simp only [List.getElem_toArray, List.getElem_cons_zero, List.getElem_cons_succ, Act.put, List.setIfInBounds_toArray, List.set_cons_zero, List.set_cons_succ]
          refine wpAnyH_take (i := 32) (v := ?v203) rfl (by kernel_rfl) (by kernel_rfl) (by kernel_rfl) (fun _ _ _ h => h) (Or.inl ⟨by rfl, ?y203⟩) hHeld ?r203
          case y203 => (intro w hSw; have G := (show SG b off b' off' k rk sn sc sg sl x _ from Rk.at hSw Hk.out.1 Hk.out.2); have g1 := G.c1; have g2 := G.c2; have g3 := G.c3; have g4 := G.c4; have g5 := G.c5; have g6 := G.x0; have P1 := (show SG b off b' off' p rkp np cp gp lp xp _ from Rk.at hSw Hp.out.1 Hp.out.2).c1; clear G hSw; go_simp; try with_reducible rfl)
          simp only [List.getElem_toArray, List.getElem_cons_zero, List.getElem_cons_succ, Act.put, List.setIfInBounds_toArray, List.set_cons_zero, List.set_cons_succ]
          refine wpAnyH_take (i := 33) (v := ?v204) rfl (by kernel_rfl) (by kernel_rfl) (by kernel_rfl) (fun _ _ _ h => h) (Or.inl ⟨by rfl, ?y204⟩) hHeld ?r204
          case y204 => (intro w hSw; have G := (show SG b off b' off' k rk sn sc sg sl x _ from Rk.at hSw Hk.out.1 Hk.out.2); have g1 := G.c1; have g2 := G.c2; have g3 := G.c3; have g4 := G.c4; have g5 := G.c5; have g6 := G.x0; have P1 := (show SG b off b' off' p rkp np cp gp lp xp _ from Rk.at hSw Hp.out.1 Hp.out.2).c1; clear G hSw; go_simp; try with_reducible rfl)
          simp only [List.getElem_toArray, List.getElem_cons_zero, List.getElem_cons_succ, Act.put, List.setIfInBounds_toArray, List.set_cons_zero, List.set_cons_succ]
          refine wpAnyH_take (i := 34) (v := ?v205) rfl (by kernel_rfl) (by kernel_rfl) (by kernel_rfl) (fun _ _ _ h => h) (Or.inl ⟨by rfl, ?y205⟩) hHeld ?r205
          case y205 => (intro w hSw; have G := (show SG b off b' off' k rk sn sc sg sl x _ from Rk.at hSw Hk.out.1 Hk.out.2); have g1 := G.c1; have g2 := G.c2; have g3 := G.c3; have g4 := G.c4; have g5 := G.c5; have g6 := G.x0; have P1 := (show SG b off b' off' p rkp np cp gp lp xp _ from Rk.at hSw Hp.out.1 Hp.out.2).c1; clear G hSw; go_simp; try with_reducible rfl)
          simp only [List.getElem_toArray, List.getElem_cons_zero, List.getElem_cons_succ, Act.put, List.setIfInBounds_toArray, List.set_cons_zero, List.set_cons_succ]
          refine wpAnyH_take (i := 35) (v := ?v206) rfl (by kernel_rfl) (by kernel_rfl) (by kernel_rfl) (fun _ _ _ h => h) (Or.inl ⟨by rfl, ?y206⟩) hHeld ?r206
          case y206 => (intro w hSw; have G := (show SG b off b' off' k rk sn sc sg sl x _ from Rk.at hSw Hk.out.1 Hk.out.2); have g1 := G.c1; have g2 := G.c2; have g3 := G.c3; have g4 := G.c4; have g5 := G.c5; have g6 := G.x0; have P1 := (show SG b off b' off' p rkp np cp gp lp xp _ from Rk.at hSw Hp.out.1 Hp.out.2).c1; clear G hSw; go_simp; try with_reducible rfl)
          simp only [List.getElem_toArray, List.getElem_cons_zero, List.getElem_cons_succ, Act.put, List.setIfInBounds_toArray, List.set_cons_zero, List.set_cons_succ]
          refine wpAnyH_take (i := 36) (v := ?v207) rfl (by kernel_rfl) (by kernel_rfl) (by kernel_rfl) (fun _ _ _ h => h) (Or.inl ⟨by rfl, ?y207⟩) hHeld ?r207
          case y207 => (intro w hSw; have G := (show SG b off b' off' k rk sn sc sg sl x _ from Rk.at hSw Hk.out.1 Hk.out.2); have g1 := G.c1; have g2 := G.c2; have g3 := G.c3; have g4 := G.c4; have g5 := G.c5; have g6 := G.x0; have P1 := (show SG b off b' off' p rkp np cp gp lp xp _ from Rk.at hSw Hp.out.1 Hp.out.2).c1; clear G hSw; go_simp; try with_reducible rfl)
          simp only [List.getElem_toArray, List.getElem_cons_zero, List.getElem_cons_succ, Act.put, List.setIfInBounds_toArray, List.set_cons_zero, List.set_cons_succ]
          refine wpAnyH_take (i := 37) (v := ?v208) rfl (by kernel_rfl) (by kernel_rfl) (by kernel_rfl) (fun _ _ _ h => h) (Or.inl ⟨by rfl, ?y208⟩) hHeld ?r208
          case y208 => (intro w hSw; have G := (show SG b off b' off' k rk sn sc sg sl x _ from Rk.at hSw Hk.out.1 Hk.out.2); have g1 := G.c1; have g2 := G.c2; have g3 := G.c3; have g4 := G.c4; have g5 := G.c5; have g6 := G.x0; have P1 := (show SG b off b' off' p rkp np cp gp lp xp _ from Rk.at hSw Hp.out.1 Hp.out.2).c1; clear G hSw; go_simp; try with_reducible rfl)
          simp only [List.getElem_toArray, List.getElem_cons_zero, List.getElem_cons_succ, Act.put, List.setIfInBounds_toArray, List.set_cons_zero, List.set_cons_succ]
          refine wpAnyH_take (i := 38) (v := ?v209) rfl (by kernel_rfl) (by kernel_rfl) (by kernel_rfl) (fun _ _ _ h => h) (Or.inl ⟨by rfl, ?y209⟩) hHeld ?r209
          case y209 => (intro w hSw; have G := (show SG b off b' off' k rk sn sc sg sl x _ from Rk.at hSw Hk.out.1 Hk.out.2); have g1 := G.c1; have g2 := G.c2; have g3 := G.c3; have g4 := G.c4; have g5 := G.c5; have g6 := G.x0; have P1 := (show SG b off b' off' p rkp np cp gp lp xp _ from Rk.at hSw Hp.out.1 Hp.out.2).c1; clear G hSw; go_simp; try with_reducible rfl)
          simp only [List.getElem_toArray, List.getElem_cons_zero, List.getElem_cons_succ, Act.put, List.setIfInBounds_toArray, List.set_cons_zero, List.set_cons_succ]
          refine wpAnyH_take (i := 39) (v := ?v210) rfl (by kernel_rfl) (by kernel_rfl) (by kernel_rfl) (fun _ _ _ h => h) (Or.inl ⟨by rfl, ?y210⟩) hHeld ?r210
          case y210 => (intro w hSw; have G := (show SG b off b' off' k rk sn sc sg sl x _ from Rk.at hSw Hk.out.1 Hk.out.2); have g1 := G.c1; have g2 := G.c2; have g3 := G.c3; have g4 := G.c4; have g5 := G.c5; have g6 := G.x0; have P1 := (show SG b off b' off' p rkp np cp gp lp xp _ from Rk.at hSw Hp.out.1 Hp.out.2).c1; clear G hSw; go_simp; try with_reducible rfl)
          simp only [List.getElem_toArray, List.getElem_cons_zero, List.getElem_cons_succ, Act.put, List.setIfInBounds_toArray, List.set_cons_zero, List.set_cons_succ]
          refine wpAnyH_take (i := 40) (v := undef) rfl (by kernel_rfl) (by kernel_rfl) (by kernel_rfl) (fun _ _ _ h => h) (Or.inr ⟨by rfl, rfl⟩) hHeld ?_
          simp only [List.getElem_toArray, List.getElem_cons_zero, List.getElem_cons_succ, Act.put, List.setIfInBounds_toArray, List.set_cons_zero, List.set_cons_succ]
          refine wpAnyH_take (i := 41) (v := undef) rfl (by kernel_rfl) (by kernel_rfl) (by kernel_rfl) (fun _ _ _ h => h) (Or.inr ⟨by rfl, rfl⟩) hHeld ?_
          simp only [List.getElem_toArray, List.getElem_cons_zero, List.getElem_cons_succ, Act.put, List.setIfInBounds_toArray, List.set_cons_zero, List.set_cons_succ]
          refine wpAnyH_take (i := 42) (v := undef) rfl (by kernel_rfl) (by kernel_rfl) (by kernel_rfl) (fun _ _ _ h => h) (Or.inr ⟨by rfl, rfl⟩) hHeld ?_
          simp only [List.getElem_toArray, List.getElem_cons_zero, List.getElem_cons_succ, Act.put, List.setIfInBounds_toArray, List.set_cons_zero, List.set_cons_succ]
          refine wpAnyH_take (i := 43) (v := ?v214) rfl (by kernel_rfl) (by kernel_rfl) (by kernel_rfl) (fun _ _ _ h => h) (Or.inl ⟨by rfl, ?y214⟩) hHeld ?r214
          case y214 => (intro w hSw; have G := (show SG b off b' off' k rk sn sc sg sl x _ from Rk.at hSw Hk.out.1 Hk.out.2); have g1 := G.c1; have g2 := G.c2; have g3 := G.c3; have g4 := G.c4; have g5 := G.c5; have g6 := G.x0; have P1 := (show SG b off b' off' p rkp np cp gp lp xp _ from Rk.at hSw Hp.out.1 Hp.out.2).c1; clear G hSw; go_simp; try with_reducible rfl)
          simp only [List.getElem_toArray, List.getElem_cons_zero, List.getElem_cons_succ, Act.put, List.setIfInBounds_toArray, List.set_cons_zero, List.set_cons_succ]
          refine wpAnyH_take (i := 44) (v := ?v215) rfl (by kernel_rfl) (by kernel_rfl) (by kernel_rfl) (fun _ _ _ h => h) (Or.inl ⟨by rfl, ?y215⟩) hHeld ?r215
          case y215 => (intro w hSw; have G := (show SG b off b' off' k rk sn sc sg sl x _ from Rk.at hSw Hk.out.1 Hk.out.2); have g1 := G.c1; have g2 := G.c2; have g3 := G.c3; have g4 := G.c4; have g5 := G.c5; have g6 := G.x0; have P1 := (show SG b off b' off' p rkp np cp gp lp xp _ from Rk.at hSw Hp.out.1 Hp.out.2).c1; clear G hSw; go_simp; try with_reducible rfl)
          simp only [List.getElem_toArray, List.getElem_cons_zero, List.getElem_cons_succ, Act.put, List.setIfInBounds_toArray, List.set_cons_zero, List.set_cons_succ]
          refine wpAnyH_take (i := 45) (v := ?v216) rfl (by kernel_rfl) (by kernel_rfl) (by kernel_rfl) (fun _ _ _ h => h) (Or.inl ⟨by rfl, ?y216⟩) hHeld ?r216
          case y216 => (intro w hSw; have G := (show SG b off b' off' k rk sn sc sg sl x _ from Rk.at hSw Hk.out.1 Hk.out.2); have g1 := G.c1; have g2 := G.c2; have g3 := G.c3; have g4 := G.c4; have g5 := G.c5; have g6 := G.x0; have P1 := (show SG b off b' off' p rkp np cp gp lp xp _ from Rk.at hSw Hp.out.1 Hp.out.2).c1; clear G hSw; go_simp; try with_reducible rfl)
          simp only [List.getElem_toArray, List.getElem_cons_zero, List.getElem_cons_succ, Act.put, List.setIfInBounds_toArray, List.set_cons_zero, List.set_cons_succ]
          refine wpAnyH_done (by kernel_rfl) ?_ _
          go_wp2_with fail
          go_roundw
          case rel => exact ⟨k + 1, by go_num, by omega, X2.out⟩
          case measure => simp [intOf]; omega
    · obtain rfl : k = n := by omega
      go_wp2_with fail
      refine (awake_any _).mono ?_
      rintro e w9 ⟨rfl, hb⟩
      have H9 := Lib.hid (HK.out.next hb)
      clear hb
      go_wp2
      go_ret
      exact ⟨rfl, H9.out.b⟩
end Go.Proofs.Ytkkkicinlghikaa
