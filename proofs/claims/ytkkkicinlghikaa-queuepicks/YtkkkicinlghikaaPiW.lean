/- The walk of the law QueuePicks. -/
import Derived.Test.YtkkkicinlghikaaPiM
namespace Go.Proofs.Ytkkkicinlghikaa
open Go.RowKit

set_option maxRecDepth 100000 in
theorem picks_big (a a' : Option Addr) (cap cap' n m : Nat) (w : World) (h : 40 < n) : Calls Try.prog 7 #[.slice a n cap, .slice a' m cap'] w (Ret (.bool true) w) := by
  have h1 : (40 : Int) < n := by omega
  clear h
  go_enter Try.func7, Try.ntmps7
  go_wp2_with fail
  refine (awake_any _).mono ?_
  rintro e w1 ⟨rfl, hb⟩
  go_wp2
  go_ret
  exact ⟨rfl, hb⟩
set_option maxRecDepth 100000 in
theorem picks_big2 (a a' : Option Addr) (cap cap' n m : Nat) (w : World) (h0 : n ≤ 40) (h : 40 < m) : Calls Try.prog 7 #[.slice a n cap, .slice a' m cap'] w (Ret (.bool true) w) := by
  have h1 : ¬ (40 : Int) < n := by omega
  have h2 : (40 : Int) < m := by omega
  clear h h0
  go_enter Try.func7, Try.ntmps7
  go_wp2_with fail
  refine (awake_any _).mono ?_
  rintro e w1 ⟨rfl, hb⟩
  go_wp2
  go_ret
  exact ⟨rfl, hb⟩
set_option maxRecDepth 100000 in
set_option maxHeartbeats 4000000 in
theorem picks_ok (a a' : Option Addr) (cap cap' : Nat) (l : List Sb) (gs : List Int) (w : World) (hS : Sbs w.heap.size w a l) (hG : Gns w.heap.size w a' gs) (h1 : l.length ≤ 40) (h2 : gs.length ≤ 40) (hW : ∀ S ∈ l, 0 ≤ S.n) (hW2 : ∀ x ∈ gs, 0 ≤ x) :
    Calls Try.prog 7 #[.slice a l.length cap, .slice a' gs.length cap'] w (Ret (.bool true) w) := by
  obtain ⟨P, E, hPE⟩ := pkV_two l gs
  have HS := Lib.hid hS
  have HG := Lib.hid hG
  have HPk := Lib.hid (fun W (u : Below w.heap.size w W) => pick_any a a' cap cap' l gs W ((hS.below u).mono u.size) ((hG.below u).mono u.size) (by omega) (by omega) hW hW2)
  have HRp := Lib.hid (fun ra rc W (hr : Rbs W.heap.size W ra l) (u : Below w.heap.size w W) => rpick_any ra a' rc cap' l gs W hr ((hG.below u).mono u.size) (by omega) hW hW2)
  rw [hPE] at HPk HRp
  obtain ⟨n, hn⟩ : ∃ n, l.length = n := ⟨_, rfl⟩
  obtain ⟨m, hm⟩ : ∃ m, gs.length = m := ⟨_, rfl⟩
  have Hn := Lib.hid hn
  rw [hn] at HPk HRp h1 ⊢
  rw [hm] at HPk HRp h2 ⊢
  have n40 : (n : Int) ≤ 40 := by omega
  have m40 : (m : Int) ≤ 40 := by omega
  have H0 := Lib.hid (Pr.start w l)
  clear hS hG hW hW2 h1 h2 hn hm hPE
  go_enter Try.func7, Try.ntmps7
  go_wp2_with fail
  generalize w.alloc (.cells #[] 58) = W0 at H0 ⊢
  go_loopw [5, 6] (fun v i wr => PiRel w l n v i wr) (fun _ i _ => n - (intOf i).toNat)
  case atStart => exact ⟨0, rfl, by omega, H0.out⟩
  case round =>
    obtain ⟨k, rfl, hk, hP⟩ := hrel
    obtain ⟨va, vc, rfl, _⟩ := owns58 hP.o
    have HP := Lib.hid hP
    clear hP H0
    by_cases hlt : (k : Int) < n
    · obtain ⟨S, hSk⟩ : ∃ S, l[k]? = some S := ⟨_, List.getElem?_eq_getElem (by have := Hn.out; omega)⟩
      obtain ⟨b, off, rfl, hbl, c0, c1, c2, c3, c4, c5⟩ := (HS.out.below HP.out.b) k S hSk
      obtain ⟨v', W', hPa⟩ := pa_any w l k (.slice va k vc) S (wr.alloc (cuO S.n S.c S.g S.l)).drew (HP.out.next (((cuN wr S.n S.c S.g S.l).2).drew)) hSk (by omega)
      obtain ⟨va', vc', rfl, _⟩ := owns58 hPa.p.o
      obtain ⟨tp, rk, sn, sc, sg, sl⟩ := S
      simp only at c1 c2 c3 c4 c5 hPa
      have hb1 : b < wr.heap.size := by have := HP.out.b.size; omega
      have q0 : P8 b off k wr.heap.size rk sn sc sg sl (wr.alloc (cuO sn sc sg sl)).drew :=
        ⟨((cuN wr sn sc sg sl).2.cell (p := ⟨b, off + k * 6 + 1, none⟩) hb1).trans c1, (cuN wr sn sc sg sl).1.drew⟩
      have q1 : P8 b off k wr.heap.size rk sn sc sg sl ((wr.alloc (cuO sn sc sg sl)).drew.alloc (rbO ⟨tp, rk, sn, sc, sg, sl⟩)) :=
        ⟨(World.cell?_of_block (Below.heap_alloc _ _ _ (show b < (wr.alloc (cuO sn sc sg sl)).drew.heap.size by simp; omega))).trans q0.r, q0.c.alloc _⟩
      have q2 : P8 b off k wr.heap.size rk sn sc sg sl W' := by
        have hne : ∀ q, q ≤ wr.heap.size → (q < w.heap.size ∨ q = wr.heap.size) → (Value.slice va k vc).ownBlock ≠ some q := fun q _ hq c => by
          rcases hq with hq | hq
          · have := HP.out.s q c
            omega
          · have := owns_lt58 HP.out.o c
            omega
        refine ⟨(World.cell?_of_block (hPa.u b (by simp; omega) (hne b (by omega) (.inl hbl)))).trans q0.r, q0.c.of_block (hPa.u _ (by simp) (hne _ (Nat.le_refl _) (.inr rfl)))⟩
      have hrun := hPa.run
      rw [show (wr.alloc (cuO sn sc sg sl)).drew.heap.size = wr.heap.size + 1 by simp] at hrun
      have HRn := Lib.hid hrun
      have HPa := Lib.hid hPa
      clear hrun
      have HQ := Lib.hid (And.intro q0 (And.intro q1 q2))
      have d0 := q0.c.cell (i := 0) rfl
      have d1 := q0.c.cell (i := 1) rfl
      have d2 := q0.c.cell (i := 2) rfl
      have d3 := q0.c.cell (i := 3) rfl
      clear q0 q1 q2 hPa hSk hbl hb1 d0 d1 d2 d3
      go_wp2_with fail
      refine wp_region_held_drew (S := P8 b off k wr.heap.size rk sn sc sg sl) (by kernel_rfl) (HQ.out.1) (fun hHeld => ?_)
      refine wpAnyH_take (i := 0) (v := ?v1) rfl (by kernel_rfl) (by kernel_rfl) (by kernel_rfl) (fun _ _ _ h => h) (Or.inl ⟨by rfl, ?y1⟩) hHeld ?r1
      case y1 => (intro w hSw; have r0 := hSw.r; have e0 := hSw.c.cell (i := 0) rfl; have e1 := hSw.c.cell (i := 1) rfl; have e2 := hSw.c.cell (i := 2) rfl; have e3 := hSw.c.cell (i := 3) rfl; clear hSw; go_simp; try with_reducible rfl)
      simp only [List.getElem_toArray, List.getElem_cons_zero, Act.put, List.setIfInBounds_toArray, List.set_cons_zero, List.set_cons_succ]
      refine wpAnyH_take (i := 1) (v := ?v2) rfl (by kernel_rfl) (by kernel_rfl) (by kernel_rfl) (fun _ _ _ h => h) (Or.inl ⟨by rfl, ?y2⟩) hHeld ?r2
      case y2 => (intro w hSw; have r0 := hSw.r; have e0 := hSw.c.cell (i := 0) rfl; have e1 := hSw.c.cell (i := 1) rfl; have e2 := hSw.c.cell (i := 2) rfl; have e3 := hSw.c.cell (i := 3) rfl; clear hSw; go_simp; try with_reducible rfl)
      simp only [List.getElem_toArray, List.getElem_cons_zero, List.getElem_cons_succ, Act.put, List.setIfInBounds_toArray, List.set_cons_zero, List.set_cons_succ]
      refine wpAnyH_take (i := 2) (v := ?v3) rfl (by kernel_rfl) (by kernel_rfl) (by kernel_rfl) (fun _ _ _ h => h) (Or.inl ⟨by rfl, ?y3⟩) hHeld ?r3
      case y3 => (intro w hSw; have r0 := hSw.r; have e0 := hSw.c.cell (i := 0) rfl; have e1 := hSw.c.cell (i := 1) rfl; have e2 := hSw.c.cell (i := 2) rfl; have e3 := hSw.c.cell (i := 3) rfl; clear hSw; go_simp; try with_reducible rfl)
      simp only [List.getElem_toArray, List.getElem_cons_zero, List.getElem_cons_succ, Act.put, List.setIfInBounds_toArray, List.set_cons_zero, List.set_cons_succ]
      refine wpAnyH_take (i := 3) (v := ?v4) rfl (by kernel_rfl) (by kernel_rfl) (by kernel_rfl) (fun _ _ _ h => h) (Or.inl ⟨by rfl, ?y4⟩) hHeld ?r4
      case y4 => (intro w hSw; have r0 := hSw.r; have e0 := hSw.c.cell (i := 0) rfl; have e1 := hSw.c.cell (i := 1) rfl; have e2 := hSw.c.cell (i := 2) rfl; have e3 := hSw.c.cell (i := 3) rfl; clear hSw; go_simp; try with_reducible rfl)
      simp only [List.getElem_toArray, List.getElem_cons_zero, List.getElem_cons_succ, Act.put, List.setIfInBounds_toArray, List.set_cons_zero, List.set_cons_succ]
      refine wpAnyH_take (i := 4) (v := ?v5) rfl (by kernel_rfl) (by kernel_rfl) (by kernel_rfl) (fun _ _ _ h => h) (Or.inl ⟨by rfl, ?y5⟩) hHeld ?r5
      case y5 => (intro w hSw; have r0 := hSw.r; have e0 := hSw.c.cell (i := 0) rfl; have e1 := hSw.c.cell (i := 1) rfl; have e2 := hSw.c.cell (i := 2) rfl; have e3 := hSw.c.cell (i := 3) rfl; clear hSw; go_simp; try with_reducible rfl)
      simp only [List.getElem_toArray, List.getElem_cons_zero, List.getElem_cons_succ, Act.put, List.setIfInBounds_toArray, List.set_cons_zero, List.set_cons_succ]
      refine wpAnyH_take (i := 5) (v := ?v6) rfl (by kernel_rfl) (by kernel_rfl) (by kernel_rfl) (fun _ _ _ h => h) (Or.inl ⟨by rfl, ?y6⟩) hHeld ?r6
      case y6 => (intro w hSw; have r0 := hSw.r; have e0 := hSw.c.cell (i := 0) rfl; have e1 := hSw.c.cell (i := 1) rfl; have e2 := hSw.c.cell (i := 2) rfl; have e3 := hSw.c.cell (i := 3) rfl; clear hSw; go_simp; try with_reducible rfl)
      simp only [List.getElem_toArray, List.getElem_cons_zero, List.getElem_cons_succ, Act.put, List.setIfInBounds_toArray, List.set_cons_zero, List.set_cons_succ]
      refine wpAnyH_take (i := 6) (v := ?v7) rfl (by kernel_rfl) (by kernel_rfl) (by kernel_rfl) (fun _ _ _ h => h) (Or.inl ⟨by rfl, ?y7⟩) hHeld ?r7
      case y7 => (intro w hSw; have r0 := hSw.r; have e0 := hSw.c.cell (i := 0) rfl; have e1 := hSw.c.cell (i := 1) rfl; have e2 := hSw.c.cell (i := 2) rfl; have e3 := hSw.c.cell (i := 3) rfl; clear hSw; go_simp; try with_reducible rfl)
      simp only [List.getElem_toArray, List.getElem_cons_zero, List.getElem_cons_succ, Act.put, List.setIfInBounds_toArray, List.set_cons_zero, List.set_cons_succ]
      refine wpAnyH_take (i := 7) (v := ?v8) rfl (by kernel_rfl) (by kernel_rfl) (by kernel_rfl) (fun _ _ _ h => h) (Or.inl ⟨by rfl, ?y8⟩) hHeld ?r8
      case y8 => (intro w hSw; have r0 := hSw.r; have e0 := hSw.c.cell (i := 0) rfl; have e1 := hSw.c.cell (i := 1) rfl; have e2 := hSw.c.cell (i := 2) rfl; have e3 := hSw.c.cell (i := 3) rfl; clear hSw; go_simp; try with_reducible rfl)
      simp only [List.getElem_toArray, List.getElem_cons_zero, List.getElem_cons_succ, Act.put, List.setIfInBounds_toArray, List.set_cons_zero, List.set_cons_succ]
      refine wpAnyH_take (i := 8) (v := ?v9) rfl (by kernel_rfl) (by kernel_rfl) (by kernel_rfl) (fun _ _ _ h => h) (Or.inl ⟨by rfl, ?y9⟩) hHeld ?r9
      case y9 => (intro w hSw; have r0 := hSw.r; have e0 := hSw.c.cell (i := 0) rfl; have e1 := hSw.c.cell (i := 1) rfl; have e2 := hSw.c.cell (i := 2) rfl; have e3 := hSw.c.cell (i := 3) rfl; clear hSw; go_simp; try with_reducible rfl)
      simp only [List.getElem_toArray, List.getElem_cons_zero, List.getElem_cons_succ, Act.put, List.setIfInBounds_toArray, List.set_cons_zero, List.set_cons_succ]
      refine wpAnyH_take (i := 9) (v := ?v10) rfl (by kernel_rfl) (by kernel_rfl) (by kernel_rfl) (fun _ _ _ h => h) (Or.inl ⟨by rfl, ?y10⟩) hHeld ?r10
      case y10 => (intro w hSw; have r0 := hSw.r; have e0 := hSw.c.cell (i := 0) rfl; have e1 := hSw.c.cell (i := 1) rfl; have e2 := hSw.c.cell (i := 2) rfl; have e3 := hSw.c.cell (i := 3) rfl; clear hSw; go_simp; try with_reducible rfl)
      simp only [List.getElem_toArray, List.getElem_cons_zero, List.getElem_cons_succ, Act.put, List.setIfInBounds_toArray, List.set_cons_zero, List.set_cons_succ]
      refine wpAnyH_take (i := 10) (v := ?v11) rfl (by kernel_rfl) (by kernel_rfl) (by kernel_rfl) (fun _ _ _ h => h) (Or.inl ⟨by rfl, ?y11⟩) hHeld ?r11
      case y11 => (intro w hSw; have r0 := hSw.r; have e0 := hSw.c.cell (i := 0) rfl; have e1 := hSw.c.cell (i := 1) rfl; have e2 := hSw.c.cell (i := 2) rfl; have e3 := hSw.c.cell (i := 3) rfl; clear hSw; go_simp; try with_reducible rfl)
      simp only [List.getElem_toArray, List.getElem_cons_zero, List.getElem_cons_succ, Act.put, List.setIfInBounds_toArray, List.set_cons_zero, List.set_cons_succ]
      refine wpAnyH_take (i := 11) (v := ?v12) rfl (by kernel_rfl) (by kernel_rfl) (by kernel_rfl) (fun _ _ _ h => h) (Or.inl ⟨by rfl, ?y12⟩) hHeld ?r12
      case y12 => (intro w hSw; have r0 := hSw.r; have e0 := hSw.c.cell (i := 0) rfl; have e1 := hSw.c.cell (i := 1) rfl; have e2 := hSw.c.cell (i := 2) rfl; have e3 := hSw.c.cell (i := 3) rfl; clear hSw; go_simp; try with_reducible rfl)
      simp only [List.getElem_toArray, List.getElem_cons_zero, List.getElem_cons_succ, Act.put, List.setIfInBounds_toArray, List.set_cons_zero, List.set_cons_succ]
      refine wpAnyH_take (i := 12) (v := ?v13) rfl (by kernel_rfl) (by kernel_rfl) (by kernel_rfl) (fun _ _ _ h => h) (Or.inl ⟨by rfl, ?y13⟩) hHeld ?r13
      case y13 => (intro w hSw; have r0 := hSw.r; have e0 := hSw.c.cell (i := 0) rfl; have e1 := hSw.c.cell (i := 1) rfl; have e2 := hSw.c.cell (i := 2) rfl; have e3 := hSw.c.cell (i := 3) rfl; clear hSw; go_simp; try with_reducible rfl)
      simp only [List.getElem_toArray, List.getElem_cons_zero, List.getElem_cons_succ, Act.put, List.setIfInBounds_toArray, List.set_cons_zero, List.set_cons_succ]
      refine wpAnyH_take (i := 13) (v := ?v14) rfl (by kernel_rfl) (by kernel_rfl) (by kernel_rfl) (fun _ _ _ h => h) (Or.inl ⟨by rfl, ?y14⟩) hHeld ?r14
      case y14 => (intro w hSw; have r0 := hSw.r; have e0 := hSw.c.cell (i := 0) rfl; have e1 := hSw.c.cell (i := 1) rfl; have e2 := hSw.c.cell (i := 2) rfl; have e3 := hSw.c.cell (i := 3) rfl; clear hSw; go_simp; try with_reducible rfl)
      simp only [List.getElem_toArray, List.getElem_cons_zero, List.getElem_cons_succ, Act.put, List.setIfInBounds_toArray, List.set_cons_zero, List.set_cons_succ]
      refine wpAnyH_take (i := 14) (v := ?v15) rfl (by kernel_rfl) (by kernel_rfl) (by kernel_rfl) (fun _ _ _ h => h) (Or.inl ⟨by rfl, ?y15⟩) hHeld ?r15
      case y15 => (intro w hSw; have r0 := hSw.r; have e0 := hSw.c.cell (i := 0) rfl; have e1 := hSw.c.cell (i := 1) rfl; have e2 := hSw.c.cell (i := 2) rfl; have e3 := hSw.c.cell (i := 3) rfl; clear hSw; go_simp; try with_reducible rfl)
      simp only [List.getElem_toArray, List.getElem_cons_zero, List.getElem_cons_succ, Act.put, List.setIfInBounds_toArray, List.set_cons_zero, List.set_cons_succ]
      refine wpAnyH_take (i := 15) (v := ?v16) rfl (by kernel_rfl) (by kernel_rfl) (by kernel_rfl) (fun _ _ _ h => h) (Or.inl ⟨by rfl, ?y16⟩) hHeld ?r16
      case y16 => (intro w hSw; have r0 := hSw.r; have e0 := hSw.c.cell (i := 0) rfl; have e1 := hSw.c.cell (i := 1) rfl; have e2 := hSw.c.cell (i := 2) rfl; have e3 := hSw.c.cell (i := 3) rfl; clear hSw; go_simp; try with_reducible rfl)
      simp only [List.getElem_toArray, List.getElem_cons_zero, List.getElem_cons_succ, Act.put, List.setIfInBounds_toArray, List.set_cons_zero, List.set_cons_succ]
      refine wpAnyH_ready (rs := [16]) (by kernel_rfl) (by simp) (AllReadyH.cons rfl (fun K hK => ?_) AllReadyH.nil)
      go_simp
      skip
      refine hK.out _ _ (HQ.out.2.1) (fun hHeld => ?_)
      clear hK K
      refine wpAnyH_ready (rs := [17]) (by kernel_rfl) (by simp) (AllReadyH.cons rfl (fun K hK => ?_) AllReadyH.nil)
      refine wp_append_run _ (.tmp 33) (.tmp 49) 54 54 rfl _ _ rfl rfl HRn.out ?_
      refine hK.out _ _ (HQ.out.2.2) (fun hHeld => ?_)
      clear hK K
      refine wpAnyH_take (i := 18) (v := ?v18) rfl (by kernel_rfl) (by kernel_rfl) (by kernel_rfl) (fun _ _ _ h => h) (Or.inl ⟨by rfl, ?y18⟩) hHeld ?r18
      case y18 => (intro w hSw; have r0 := hSw.r; have e0 := hSw.c.cell (i := 0) rfl; have e1 := hSw.c.cell (i := 1) rfl; have e2 := hSw.c.cell (i := 2) rfl; have e3 := hSw.c.cell (i := 3) rfl; clear hSw; go_simp; try with_reducible rfl)
      simp only [List.getElem_toArray, List.getElem_cons_zero, List.getElem_cons_succ, Act.put, List.setIfInBounds_toArray, List.set_cons_zero, List.set_cons_succ]
      refine wpAnyH_done (by kernel_rfl) ?_ _
      clear hHeld
      go_wp2_with fail
      go_roundw
      case rel => exact ⟨k + 1, by go_num, by omega, HPa.out.p⟩
      case measure => simp [intOf]; omega
    · obtain rfl : k = n := by omega
      have HO := Lib.hid (show Pr w l k (.slice va k vc) wr from HP.out)
      go_wp2_with fail
      refine (HPk.out _ HP.out.b).mono ?_
      rintro e w2 ⟨rfl, hb⟩
      have H2 := Lib.hid (HO.out.next hb)
      clear hb
      have hr : Rbs w2.heap.size w2 va l := by
        obtain ⟨a2, c2, e2, h2⟩ := owns58 H2.out.o
        simp only [Value.slice.injEq] at e2
        obtain ⟨rfl, _, rfl⟩ := e2
        rw [List.take_of_length_le (by have := Hn.out; omega)] at h2
        exact h2
      have HR := Lib.hid hr
      clear hr
      go_wp2_with fail
      refine (HRp.out va vc _ HR.out H2.out.b).mono ?_
      rintro e w3 ⟨rfl, hb⟩
      have H3 := Lib.hid (H2.out.next hb)
      clear hb
      go_wp2_with fail
      refine (awake_any _).mono ?_
      rintro e w4 ⟨rfl, hb⟩
      have H4 := Lib.hid (H3.out.next hb)
      clear hb
      go_wp2
      go_ret
      exact ⟨rfl, H4.out.b⟩
theorem picks_law {w : World} (a : Option Addr) (l : List Sb) (cap : Nat) (a' : Option Addr) (gs : List Int) (cap' : Nat) (hS : Sbs w.heap.size w a l) (hG : Gns w.heap.size w a' gs) (hW : ∀ S ∈ l, 0 ≤ S.n) (hW2 : ∀ x ∈ gs, 0 ≤ x) :
    Calls Try.prog 7 #[.slice a l.length cap, .slice a' gs.length cap'] w (Ret (.bool true) w) := by
  by_cases h1 : 40 < l.length
  · exact picks_big a a' cap cap' _ _ w h1
  by_cases h2 : 40 < gs.length
  · exact picks_big2 a a' cap cap' _ _ w (by omega) h2
  exact picks_ok a a' cap cap' l gs w hS hG (by omega) (by omega) hW hW2
end Go.Proofs.Ytkkkicinlghikaa
