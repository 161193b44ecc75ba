/- The walk of the law PlanApart. -/
import Derived.Test.YtdnjoflahiffhaaApK
namespace Go.Proofs.Ytdnjoflahiffhaa
open Go.RowKit

set_option maxRecDepth 100000 in
set_option maxHeartbeats 8000000 in
theorem apart_law (T R L : Int) (a : Option Addr) (cap : Nat) (l : List Tp) (t0 t1 g0 g1 x0 x1 : Int) (w : World) (hT : Tps w.heap.size w a l) (hg0 : 0 ≤ g0) (hg0' : g0 < 18446744073709551616) (hg1 : 0 ≤ g1) (hg1' : g1 < 18446744073709551616) :
    Calls Try.prog 6 #[cfg T a l.length cap R L, .agg #[.int .i64 t0, .int .i64 t1], .agg #[.int .u64 g0, .int .u64 g1, .int .i64 x0, .int .i64 x1]] w (Ret (.bool true) w) := by
  have HT := Lib.hid hT
  have hK0 : AK w none [] [(w.heap.size + 1 + 1, [.int .u64 g0, .int .u64 g1, .int .i64 x0, .int .i64 x1]), (w.heap.size + 1, [.int .i64 t0, .int .i64 t1]), (w.heap.size, cfl T a l.length cap R L)] (((w.alloc (.cells #[.int .i64 T, .slice a l.length cap, .int .i64 R, .int .i64 L] 24)).alloc (.cells #[.int .i64 t0, .int .i64 t1] 44)).alloc (.cells #[.int .u64 g0, .int .u64 g1, .int .i64 x0, .int .i64 x1] 54)) := by
    have h0 : AK w none [] [] w := ⟨fun j x e => by simp at e, Sps.nil _ _ _, Below.refl _ _⟩
    have h1 := ((h0.new #[.int .i64 T, .slice a l.length cap, .int .i64 R, .int .i64 L] 24).new #[.int .i64 t0, .int .i64 t1] 44).new #[.int .u64 g0, .int .u64 g1, .int .i64 x0, .int .i64 x1] 54
    simp only [World.size_alloc] at h1
    exact h1
  have X0 := Lib.hid hK0
  have hc := X0.out.blk 2 rfl
  have c0 := hc.cell (i := 0) rfl
  have c1 := hc.cell (i := 1) rfl
  have c2 := hc.cell (i := 2) rfl
  have c3 := hc.cell (i := 3) rfl
  clear hc
  clear hT hK0
  go_enter Try.func6, Try.ntmps6
  go_wp2_with fail
  generalize (((w.alloc (.cells #[.int .i64 T, .slice a l.length cap, .int .i64 R, .int .i64 L] 24)).alloc (.cells #[.int .i64 t0, .int .i64 t1] 44)).alloc (.cells #[.int .u64 g0, .int .u64 g1, .int .i64 x0, .int .i64 x1] 54)) = W0 at *
  refine (few_any T R L a cap l W0 ((HT.out.below X0.out.2.2).mono X0.out.2.2.size)).mono ?_
  rintro e W1 ⟨rfl, hb1⟩
  have X1 := Lib.hid (X0.out.next hb1)
  clear hb1 X0 c0 c1 c2 c3
  by_cases hf : few l = true
  case neg =>
    have hf' : few l = false := by simpa using hf
    rw [hf']
    clear hf hf'
    go_wp2_with fail
    refine (awake_any _).mono ?_
    rintro e Wz ⟨rfl, hbz⟩
    have Xz := Lib.hid (X1.out.next hbz)
    clear hbz X1
    go_wp2
    go_ret
    exact ⟨rfl, Xz.out.2.2⟩
  rw [hf]
  have Hs := Lib.hid (few_size hf)
  clear hf
  have hc := X1.out.blk 2 rfl
  have c0 := hc.cell (i := 0) rfl
  have c1 := hc.cell (i := 1) rfl
  have c2 := hc.cell (i := 2) rfl
  have c3 := hc.cell (i := 3) rfl
  clear hc
  by_cases hok : (chk T l R L).2 = 0
  case neg =>
    have hy : ((chk T l R L).2 != 0) = true := by simpa using hok
    have Hof := Lib.hid (of_bad T R L a cap l W1 ((HT.out.below X1.out.2.2).mono X1.out.2.2.size) Hs.out hok)
    clear hok
    go_wp2_with fail
    refine Hof.out.mono ?_
    rintro e W2 ⟨rfl, hb2⟩
    have X2 := Lib.hid ((X1.out.next hb2).new #[.int .i64 0, .int .i64 0, .int .i64 0, .slice none 0 0, .int .i64 0] 29)
    clear hb2 X1 c0 c1 c2 c3 Hof
    go_wp2_with fail
    refine (awake_any _).mono ?_
    rintro e Wz ⟨rfl, hbz⟩
    have Xz := Lib.hid (X2.out.next hbz)
    clear hbz X2
    go_wp2
    go_ret
    exact ⟨rfl, Xz.out.2.2⟩
  obtain ⟨hl1, hl64, hL1, hL64, hall⟩ := chk_rng hok
  have Hof := Lib.hid (of_ok T R L a cap l W1 ((HT.out.below X1.out.2.2).mono X1.out.2.2.size) Hs.out hok)
  have Hall := Lib.hid hall
  have htb := tot_bd l (1 + L) hall
  have hz1 : 1 ≤ tot (1 + L) l := by omega
  have hz2 : tot (1 + L) l ≤ 70000 := by omega
  clear hok hall Hs htb
  go_wp2_with fail
  refine Hof.out.mono ?_
  rintro e W2 ⟨aa, ca, rfl, hS2, hb2⟩
  have X2 := Lib.hid (show AK w aa (spots (1 + L) l) (BP T R L a cap l g0 g1 x0 x1 t0 t1 w W2.heap.size aa ca) (W2.alloc (.cells #[.int .i64 0, .int .i64 1, .int .i64 L, .slice aa l.length ca, .int .i64 (tot (1 + L) l)] 29)) from ((X1.out.next hb2).spots hS2).new #[.int .i64 0, .int .i64 1, .int .i64 L, .slice aa l.length ca, .int .i64 (tot (1 + L) l)] 29)
  clear hb2 X1 c0 c1 c2 c3 Hof hS2
  go_wp2_with fail
  generalize W2.alloc (.cells #[.int .i64 0, .int .i64 1, .int .i64 L, .slice aa l.length ca, .int .i64 (tot (1 + L) l)] 29) = W3 at *
  generalize W2.heap.size = P at *
  have X3d := Lib.hid (X2.out.drewN 1)
  have b0 : ((l.length : Int) != (l.length : Int)) = false := by simp
  have b1 : decide (tot (1 + L) l < 1) = false := decide_eq_false (by omega)
  have b2 : decide (1048576 < tot (1 + L) l) = false := decide_eq_false (by omega)
  have henv := fun g hg => env_in (o := 1) (n := L) (g := g) ⟨hL1, hL64, by omega, by omega⟩ hg
  have b3 : (env 1 L g0 == 0) = false := by rw [beq_eq_false_iff_ne]; have := henv g0 hg0; omega
  have Henv := Lib.hid henv
  clear X2 henv
  refine wp_region_held_drew (S := AK w aa (spots (1 + L) l) (BP T R L a cap l g0 g1 x0 x1 t0 t1 w P aa ca)) (by kernel_rfl) (X3d.out) (fun hHeld => ?_)
  refine wpAnyH_take (i := 0) (v := ?v1) rfl (by kernel_rfl) (by kernel_rfl) (by kernel_rfl) (fun _ _ _ h => h) (Or.inl ⟨by rfl, ?y1⟩) hHeld ?r1
  case y1 => (intro w hSw; have hp := hSw.blk 0 rfl; have p0 := hp.cell (i := 0) rfl; have p1 := hp.cell (i := 1) rfl; have p2 := hp.cell (i := 2) rfl; have p3 := hp.cell (i := 3) rfl; have p4 := hp.cell (i := 4) rfl; clear hp; have hq := hSw.blk 1 rfl; have q0 := hq.cell (i := 0) rfl; have q1 := hq.cell (i := 1) rfl; have q2 := hq.cell (i := 2) rfl; have q3 := hq.cell (i := 3) rfl; clear hq; have hc := hSw.blk 3 rfl; have c0 := hc.cell (i := 0) rfl; have c1 := hc.cell (i := 1) rfl; have c2 := hc.cell (i := 2) rfl; have c3 := hc.cell (i := 3) rfl; clear hc; clear hSw; go_simp; try with_reducible rfl)
  simp only [List.getElem_toArray, List.getElem_cons_zero, Act.put, List.setIfInBounds_toArray, List.set_cons_zero, List.set_cons_succ]
  refine wpAnyH_take (i := 1) (v := ?v2) rfl (by kernel_rfl) (by kernel_rfl) (by kernel_rfl) (fun _ _ _ h => h) (Or.inl ⟨by rfl, ?y2⟩) hHeld ?r2
  case y2 => (intro w hSw; have hp := hSw.blk 0 rfl; have p0 := hp.cell (i := 0) rfl; have p1 := hp.cell (i := 1) rfl; have p2 := hp.cell (i := 2) rfl; have p3 := hp.cell (i := 3) rfl; have p4 := hp.cell (i := 4) rfl; clear hp; have hq := hSw.blk 1 rfl; have q0 := hq.cell (i := 0) rfl; have q1 := hq.cell (i := 1) rfl; have q2 := hq.cell (i := 2) rfl; have q3 := hq.cell (i := 3) rfl; clear hq; have hc := hSw.blk 3 rfl; have c0 := hc.cell (i := 0) rfl; have c1 := hc.cell (i := 1) rfl; have c2 := hc.cell (i := 2) rfl; have c3 := hc.cell (i := 3) rfl; clear hc; clear hSw; go_simp; try with_reducible rfl)
  simp only [List.getElem_toArray, List.getElem_cons_zero, List.getElem_cons_succ, Act.put, List.setIfInBounds_toArray, List.set_cons_zero, List.set_cons_succ]
  refine wpAnyH_take (i := 2) (v := ?v3) rfl (by kernel_rfl) (by kernel_rfl) (by kernel_rfl) (fun _ _ _ h => h) (Or.inl ⟨by rfl, ?y3⟩) hHeld ?r3
  case y3 => (intro w hSw; have hp := hSw.blk 0 rfl; have p0 := hp.cell (i := 0) rfl; have p1 := hp.cell (i := 1) rfl; have p2 := hp.cell (i := 2) rfl; have p3 := hp.cell (i := 3) rfl; have p4 := hp.cell (i := 4) rfl; clear hp; have hq := hSw.blk 1 rfl; have q0 := hq.cell (i := 0) rfl; have q1 := hq.cell (i := 1) rfl; have q2 := hq.cell (i := 2) rfl; have q3 := hq.cell (i := 3) rfl; clear hq; have hc := hSw.blk 3 rfl; have c0 := hc.cell (i := 0) rfl; have c1 := hc.cell (i := 1) rfl; have c2 := hc.cell (i := 2) rfl; have c3 := hc.cell (i := 3) rfl; clear hc; clear hSw; go_simp; try with_reducible rfl)
  simp only [List.getElem_toArray, List.getElem_cons_zero, List.getElem_cons_succ, Act.put, List.setIfInBounds_toArray, List.set_cons_zero, List.set_cons_succ]
  refine wpAnyH_take (i := 3) (v := ?v4) rfl (by kernel_rfl) (by kernel_rfl) (by kernel_rfl) (fun _ _ _ h => h) (Or.inl ⟨by rfl, ?y4⟩) hHeld ?r4
  case y4 => (intro w hSw; have hp := hSw.blk 0 rfl; have p0 := hp.cell (i := 0) rfl; have p1 := hp.cell (i := 1) rfl; have p2 := hp.cell (i := 2) rfl; have p3 := hp.cell (i := 3) rfl; have p4 := hp.cell (i := 4) rfl; clear hp; have hq := hSw.blk 1 rfl; have q0 := hq.cell (i := 0) rfl; have q1 := hq.cell (i := 1) rfl; have q2 := hq.cell (i := 2) rfl; have q3 := hq.cell (i := 3) rfl; clear hq; have hc := hSw.blk 3 rfl; have c0 := hc.cell (i := 0) rfl; have c1 := hc.cell (i := 1) rfl; have c2 := hc.cell (i := 2) rfl; have c3 := hc.cell (i := 3) rfl; clear hc; clear hSw; go_simp; try with_reducible rfl)
  simp only [List.getElem_toArray, List.getElem_cons_zero, List.getElem_cons_succ, Act.put, List.setIfInBounds_toArray, List.set_cons_zero, List.set_cons_succ]
  refine wpAnyH_take (i := 4) (v := ?v5) rfl (by kernel_rfl) (by kernel_rfl) (by kernel_rfl) (fun _ _ _ h => h) (Or.inl ⟨by rfl, ?y5⟩) hHeld ?r5
  case y5 => (intro w hSw; have hp := hSw.blk 0 rfl; have p0 := hp.cell (i := 0) rfl; have p1 := hp.cell (i := 1) rfl; have p2 := hp.cell (i := 2) rfl; have p3 := hp.cell (i := 3) rfl; have p4 := hp.cell (i := 4) rfl; clear hp; have hq := hSw.blk 1 rfl; have q0 := hq.cell (i := 0) rfl; have q1 := hq.cell (i := 1) rfl; have q2 := hq.cell (i := 2) rfl; have q3 := hq.cell (i := 3) rfl; clear hq; have hc := hSw.blk 3 rfl; have c0 := hc.cell (i := 0) rfl; have c1 := hc.cell (i := 1) rfl; have c2 := hc.cell (i := 2) rfl; have c3 := hc.cell (i := 3) rfl; clear hc; clear hSw; go_simp; try with_reducible rfl)
  simp only [List.getElem_toArray, List.getElem_cons_zero, List.getElem_cons_succ, Act.put, List.setIfInBounds_toArray, List.set_cons_zero, List.set_cons_succ]
  refine wpAnyH_take (i := 5) (v := ?v6) rfl (by kernel_rfl) (by kernel_rfl) (by kernel_rfl) (fun _ _ _ h => h) (Or.inl ⟨by rfl, ?y6⟩) hHeld ?r6
  case y6 => (intro w hSw; have hp := hSw.blk 0 rfl; have p0 := hp.cell (i := 0) rfl; have p1 := hp.cell (i := 1) rfl; have p2 := hp.cell (i := 2) rfl; have p3 := hp.cell (i := 3) rfl; have p4 := hp.cell (i := 4) rfl; clear hp; have hq := hSw.blk 1 rfl; have q0 := hq.cell (i := 0) rfl; have q1 := hq.cell (i := 1) rfl; have q2 := hq.cell (i := 2) rfl; have q3 := hq.cell (i := 3) rfl; clear hq; have hc := hSw.blk 3 rfl; have c0 := hc.cell (i := 0) rfl; have c1 := hc.cell (i := 1) rfl; have c2 := hc.cell (i := 2) rfl; have c3 := hc.cell (i := 3) rfl; clear hc; clear hSw; go_simp; try with_reducible rfl)
  simp only [List.getElem_toArray, List.getElem_cons_zero, List.getElem_cons_succ, Act.put, List.setIfInBounds_toArray, List.set_cons_zero, List.set_cons_succ]
  refine wpAnyH_take (i := 6) (v := ?v7) rfl (by kernel_rfl) (by kernel_rfl) (by kernel_rfl) (fun _ _ _ h => h) (Or.inl ⟨by rfl, ?y7⟩) hHeld ?r7
  case y7 => (intro w hSw; have hp := hSw.blk 0 rfl; have p0 := hp.cell (i := 0) rfl; have p1 := hp.cell (i := 1) rfl; have p2 := hp.cell (i := 2) rfl; have p3 := hp.cell (i := 3) rfl; have p4 := hp.cell (i := 4) rfl; clear hp; have hq := hSw.blk 1 rfl; have q0 := hq.cell (i := 0) rfl; have q1 := hq.cell (i := 1) rfl; have q2 := hq.cell (i := 2) rfl; have q3 := hq.cell (i := 3) rfl; clear hq; have hc := hSw.blk 3 rfl; have c0 := hc.cell (i := 0) rfl; have c1 := hc.cell (i := 1) rfl; have c2 := hc.cell (i := 2) rfl; have c3 := hc.cell (i := 3) rfl; clear hc; clear hSw; go_simp; try with_reducible rfl)
  simp only [List.getElem_toArray, List.getElem_cons_zero, List.getElem_cons_succ, Act.put, List.setIfInBounds_toArray, List.set_cons_zero, List.set_cons_succ]
  refine wpAnyH_take (i := 7) (v := ?v8) rfl (by kernel_rfl) (by kernel_rfl) (by kernel_rfl) (fun _ _ _ h => h) (Or.inl ⟨by rfl, ?y8⟩) hHeld ?r8
  case y8 => (intro w hSw; have hp := hSw.blk 0 rfl; have p0 := hp.cell (i := 0) rfl; have p1 := hp.cell (i := 1) rfl; have p2 := hp.cell (i := 2) rfl; have p3 := hp.cell (i := 3) rfl; have p4 := hp.cell (i := 4) rfl; clear hp; have hq := hSw.blk 1 rfl; have q0 := hq.cell (i := 0) rfl; have q1 := hq.cell (i := 1) rfl; have q2 := hq.cell (i := 2) rfl; have q3 := hq.cell (i := 3) rfl; clear hq; have hc := hSw.blk 3 rfl; have c0 := hc.cell (i := 0) rfl; have c1 := hc.cell (i := 1) rfl; have c2 := hc.cell (i := 2) rfl; have c3 := hc.cell (i := 3) rfl; clear hc; clear hSw; go_simp; try with_reducible rfl)
  simp only [List.getElem_toArray, List.getElem_cons_zero, List.getElem_cons_succ, Act.put, List.setIfInBounds_toArray, List.set_cons_zero, List.set_cons_succ]
  refine wpAnyH_take (i := 8) (v := ?v9) rfl (by kernel_rfl) (by kernel_rfl) (by kernel_rfl) (fun _ _ _ h => h) (Or.inl ⟨by rfl, ?y9⟩) hHeld ?r9
  case y9 => (intro w hSw; have hp := hSw.blk 0 rfl; have p0 := hp.cell (i := 0) rfl; have p1 := hp.cell (i := 1) rfl; have p2 := hp.cell (i := 2) rfl; have p3 := hp.cell (i := 3) rfl; have p4 := hp.cell (i := 4) rfl; clear hp; have hq := hSw.blk 1 rfl; have q0 := hq.cell (i := 0) rfl; have q1 := hq.cell (i := 1) rfl; have q2 := hq.cell (i := 2) rfl; have q3 := hq.cell (i := 3) rfl; clear hq; have hc := hSw.blk 3 rfl; have c0 := hc.cell (i := 0) rfl; have c1 := hc.cell (i := 1) rfl; have c2 := hc.cell (i := 2) rfl; have c3 := hc.cell (i := 3) rfl; clear hc; clear hSw; go_simp; try with_reducible rfl)
  simp only [List.getElem_toArray, List.getElem_cons_zero, List.getElem_cons_succ, Act.put, List.setIfInBounds_toArray, List.set_cons_zero, List.set_cons_succ]
  refine wpAnyH_take (i := 9) (v := ?v10) rfl (by kernel_rfl) (by kernel_rfl) (by kernel_rfl) (fun _ _ _ h => h) (Or.inl ⟨by rfl, ?y10⟩) hHeld ?r10
  case y10 => (intro w hSw; have hp := hSw.blk 0 rfl; have p0 := hp.cell (i := 0) rfl; have p1 := hp.cell (i := 1) rfl; have p2 := hp.cell (i := 2) rfl; have p3 := hp.cell (i := 3) rfl; have p4 := hp.cell (i := 4) rfl; clear hp; have hq := hSw.blk 1 rfl; have q0 := hq.cell (i := 0) rfl; have q1 := hq.cell (i := 1) rfl; have q2 := hq.cell (i := 2) rfl; have q3 := hq.cell (i := 3) rfl; clear hq; have hc := hSw.blk 3 rfl; have c0 := hc.cell (i := 0) rfl; have c1 := hc.cell (i := 1) rfl; have c2 := hc.cell (i := 2) rfl; have c3 := hc.cell (i := 3) rfl; clear hc; clear hSw; go_simp; try with_reducible rfl)
  simp only [List.getElem_toArray, List.getElem_cons_zero, List.getElem_cons_succ, Act.put, List.setIfInBounds_toArray, List.set_cons_zero, List.set_cons_succ]
  refine wpAnyH_take (i := 10) (v := ?v11) rfl (by kernel_rfl) (by kernel_rfl) (by kernel_rfl) (fun _ _ _ h => h) (Or.inl ⟨by rfl, ?y11⟩) hHeld ?r11
  case y11 => (intro w hSw; have hp := hSw.blk 0 rfl; have p0 := hp.cell (i := 0) rfl; have p1 := hp.cell (i := 1) rfl; have p2 := hp.cell (i := 2) rfl; have p3 := hp.cell (i := 3) rfl; have p4 := hp.cell (i := 4) rfl; clear hp; have hq := hSw.blk 1 rfl; have q0 := hq.cell (i := 0) rfl; have q1 := hq.cell (i := 1) rfl; have q2 := hq.cell (i := 2) rfl; have q3 := hq.cell (i := 3) rfl; clear hq; have hc := hSw.blk 3 rfl; have c0 := hc.cell (i := 0) rfl; have c1 := hc.cell (i := 1) rfl; have c2 := hc.cell (i := 2) rfl; have c3 := hc.cell (i := 3) rfl; clear hc; clear hSw; go_simp; try with_reducible rfl)
  simp only [List.getElem_toArray, List.getElem_cons_zero, List.getElem_cons_succ, Act.put, List.setIfInBounds_toArray, List.set_cons_zero, List.set_cons_succ]
  refine wpAnyH_take (i := 11) (v := ?v12) rfl (by kernel_rfl) (by kernel_rfl) (by kernel_rfl) (fun _ _ _ h => h) (Or.inl ⟨by rfl, ?y12⟩) hHeld ?r12
  case y12 => (intro w hSw; have hp := hSw.blk 0 rfl; have p0 := hp.cell (i := 0) rfl; have p1 := hp.cell (i := 1) rfl; have p2 := hp.cell (i := 2) rfl; have p3 := hp.cell (i := 3) rfl; have p4 := hp.cell (i := 4) rfl; clear hp; have hq := hSw.blk 1 rfl; have q0 := hq.cell (i := 0) rfl; have q1 := hq.cell (i := 1) rfl; have q2 := hq.cell (i := 2) rfl; have q3 := hq.cell (i := 3) rfl; clear hq; have hc := hSw.blk 3 rfl; have c0 := hc.cell (i := 0) rfl; have c1 := hc.cell (i := 1) rfl; have c2 := hc.cell (i := 2) rfl; have c3 := hc.cell (i := 3) rfl; clear hc; clear hSw; go_simp; try with_reducible rfl)
  simp only [List.getElem_toArray, List.getElem_cons_zero, List.getElem_cons_succ, Act.put, List.setIfInBounds_toArray, List.set_cons_zero, List.set_cons_succ]
  refine wpAnyH_take (i := 12) (v := ?v13) rfl (by kernel_rfl) (by kernel_rfl) (by kernel_rfl) (fun _ _ _ h => h) (Or.inl ⟨by rfl, ?y13⟩) hHeld ?r13
  case y13 => (intro w hSw; have hp := hSw.blk 0 rfl; have p0 := hp.cell (i := 0) rfl; have p1 := hp.cell (i := 1) rfl; have p2 := hp.cell (i := 2) rfl; have p3 := hp.cell (i := 3) rfl; have p4 := hp.cell (i := 4) rfl; clear hp; have hq := hSw.blk 1 rfl; have q0 := hq.cell (i := 0) rfl; have q1 := hq.cell (i := 1) rfl; have q2 := hq.cell (i := 2) rfl; have q3 := hq.cell (i := 3) rfl; clear hq; have hc := hSw.blk 3 rfl; have c0 := hc.cell (i := 0) rfl; have c1 := hc.cell (i := 1) rfl; have c2 := hc.cell (i := 2) rfl; have c3 := hc.cell (i := 3) rfl; clear hc; clear hSw; go_simp; try with_reducible rfl)
  simp only [List.getElem_toArray, List.getElem_cons_zero, List.getElem_cons_succ, Act.put, List.setIfInBounds_toArray, List.set_cons_zero, List.set_cons_succ]
  refine wpAnyH_take (i := 13) (v := ?v14) rfl (by kernel_rfl) (by kernel_rfl) (by kernel_rfl) (fun _ _ _ h => h) (Or.inl ⟨by rfl, ?y14⟩) hHeld ?r14
  case y14 => (intro w hSw; have hp := hSw.blk 0 rfl; have p0 := hp.cell (i := 0) rfl; have p1 := hp.cell (i := 1) rfl; have p2 := hp.cell (i := 2) rfl; have p3 := hp.cell (i := 3) rfl; have p4 := hp.cell (i := 4) rfl; clear hp; have hq := hSw.blk 1 rfl; have q0 := hq.cell (i := 0) rfl; have q1 := hq.cell (i := 1) rfl; have q2 := hq.cell (i := 2) rfl; have q3 := hq.cell (i := 3) rfl; clear hq; have hc := hSw.blk 3 rfl; have c0 := hc.cell (i := 0) rfl; have c1 := hc.cell (i := 1) rfl; have c2 := hc.cell (i := 2) rfl; have c3 := hc.cell (i := 3) rfl; clear hc; clear hSw; go_simp; try with_reducible rfl)
  simp only [List.getElem_toArray, List.getElem_cons_zero, List.getElem_cons_succ, Act.put, List.setIfInBounds_toArray, List.set_cons_zero, List.set_cons_succ]
  refine wpAnyH_take (i := 14) (v := ?v15) rfl (by kernel_rfl) (by kernel_rfl) (by kernel_rfl) (fun _ _ _ h => h) (Or.inl ⟨by rfl, ?y15⟩) hHeld ?r15
  case y15 => (intro w hSw; have hp := hSw.blk 0 rfl; have p0 := hp.cell (i := 0) rfl; have p1 := hp.cell (i := 1) rfl; have p2 := hp.cell (i := 2) rfl; have p3 := hp.cell (i := 3) rfl; have p4 := hp.cell (i := 4) rfl; clear hp; have hq := hSw.blk 1 rfl; have q0 := hq.cell (i := 0) rfl; have q1 := hq.cell (i := 1) rfl; have q2 := hq.cell (i := 2) rfl; have q3 := hq.cell (i := 3) rfl; clear hq; have hc := hSw.blk 3 rfl; have c0 := hc.cell (i := 0) rfl; have c1 := hc.cell (i := 1) rfl; have c2 := hc.cell (i := 2) rfl; have c3 := hc.cell (i := 3) rfl; clear hc; clear hSw; go_simp; try with_reducible rfl)
  simp only [List.getElem_toArray, List.getElem_cons_zero, List.getElem_cons_succ, Act.put, List.setIfInBounds_toArray, List.set_cons_zero, List.set_cons_succ]
  refine wpAnyH_take (i := 15) (v := ?v16) rfl (by kernel_rfl) (by kernel_rfl) (by kernel_rfl) (fun _ _ _ h => h) (Or.inl ⟨by rfl, ?y16⟩) hHeld ?r16
  case y16 => (intro w hSw; have hp := hSw.blk 0 rfl; have p0 := hp.cell (i := 0) rfl; have p1 := hp.cell (i := 1) rfl; have p2 := hp.cell (i := 2) rfl; have p3 := hp.cell (i := 3) rfl; have p4 := hp.cell (i := 4) rfl; clear hp; have hq := hSw.blk 1 rfl; have q0 := hq.cell (i := 0) rfl; have q1 := hq.cell (i := 1) rfl; have q2 := hq.cell (i := 2) rfl; have q3 := hq.cell (i := 3) rfl; clear hq; have hc := hSw.blk 3 rfl; have c0 := hc.cell (i := 0) rfl; have c1 := hc.cell (i := 1) rfl; have c2 := hc.cell (i := 2) rfl; have c3 := hc.cell (i := 3) rfl; clear hc; clear hSw; go_simp; try with_reducible rfl)
  simp only [List.getElem_toArray, List.getElem_cons_zero, List.getElem_cons_succ, Act.put, List.setIfInBounds_toArray, List.set_cons_zero, List.set_cons_succ]
  refine wpAnyH_take (i := 16) (v := ?v17) rfl (by kernel_rfl) (by kernel_rfl) (by kernel_rfl) (fun _ _ _ h => h) (Or.inl ⟨by rfl, ?y17⟩) hHeld ?r17
  case y17 => (intro w hSw; have hp := hSw.blk 0 rfl; have p0 := hp.cell (i := 0) rfl; have p1 := hp.cell (i := 1) rfl; have p2 := hp.cell (i := 2) rfl; have p3 := hp.cell (i := 3) rfl; have p4 := hp.cell (i := 4) rfl; clear hp; have hq := hSw.blk 1 rfl; have q0 := hq.cell (i := 0) rfl; have q1 := hq.cell (i := 1) rfl; have q2 := hq.cell (i := 2) rfl; have q3 := hq.cell (i := 3) rfl; clear hq; have hc := hSw.blk 3 rfl; have c0 := hc.cell (i := 0) rfl; have c1 := hc.cell (i := 1) rfl; have c2 := hc.cell (i := 2) rfl; have c3 := hc.cell (i := 3) rfl; clear hc; clear hSw; go_simp; try with_reducible rfl)
  simp only [List.getElem_toArray, List.getElem_cons_zero, List.getElem_cons_succ, Act.put, List.setIfInBounds_toArray, List.set_cons_zero, List.set_cons_succ]
  refine wpAnyH_take (i := 17) (v := ?v18) rfl (by kernel_rfl) (by kernel_rfl) (by kernel_rfl) (fun _ _ _ h => h) (Or.inl ⟨by rfl, ?y18⟩) hHeld ?r18
  case y18 => (intro w hSw; have hp := hSw.blk 0 rfl; have p0 := hp.cell (i := 0) rfl; have p1 := hp.cell (i := 1) rfl; have p2 := hp.cell (i := 2) rfl; have p3 := hp.cell (i := 3) rfl; have p4 := hp.cell (i := 4) rfl; clear hp; have hq := hSw.blk 1 rfl; have q0 := hq.cell (i := 0) rfl; have q1 := hq.cell (i := 1) rfl; have q2 := hq.cell (i := 2) rfl; have q3 := hq.cell (i := 3) rfl; clear hq; have hc := hSw.blk 3 rfl; have c0 := hc.cell (i := 0) rfl; have c1 := hc.cell (i := 1) rfl; have c2 := hc.cell (i := 2) rfl; have c3 := hc.cell (i := 3) rfl; clear hc; clear hSw; go_simp; try with_reducible rfl)
  simp only [List.getElem_toArray, List.getElem_cons_zero, List.getElem_cons_succ, Act.put, List.setIfInBounds_toArray, List.set_cons_zero, List.set_cons_succ]
  refine wpAnyH_take (i := 18) (v := ?v19) rfl (by kernel_rfl) (by kernel_rfl) (by kernel_rfl) (fun _ _ _ h => h) (Or.inl ⟨by rfl, ?y19⟩) hHeld ?r19
  case y19 => (intro w hSw; have hp := hSw.blk 0 rfl; have p0 := hp.cell (i := 0) rfl; have p1 := hp.cell (i := 1) rfl; have p2 := hp.cell (i := 2) rfl; have p3 := hp.cell (i := 3) rfl; have p4 := hp.cell (i := 4) rfl; clear hp; have hq := hSw.blk 1 rfl; have q0 := hq.cell (i := 0) rfl; have q1 := hq.cell (i := 1) rfl; have q2 := hq.cell (i := 2) rfl; have q3 := hq.cell (i := 3) rfl; clear hq; have hc := hSw.blk 3 rfl; have c0 := hc.cell (i := 0) rfl; have c1 := hc.cell (i := 1) rfl; have c2 := hc.cell (i := 2) rfl; have c3 := hc.cell (i := 3) rfl; clear hc; clear hSw; go_simp; try with_reducible rfl)
  simp only [List.getElem_toArray, List.getElem_cons_zero, List.getElem_cons_succ, Act.put, List.setIfInBounds_toArray, List.set_cons_zero, List.set_cons_succ]
  refine wpAnyH_take (i := 19) (v := ?v20) rfl (by kernel_rfl) (by kernel_rfl) (by kernel_rfl) (fun _ _ _ h => h) (Or.inl ⟨by rfl, ?y20⟩) hHeld ?r20
  case y20 => (intro w hSw; have hp := hSw.blk 0 rfl; have p0 := hp.cell (i := 0) rfl; have p1 := hp.cell (i := 1) rfl; have p2 := hp.cell (i := 2) rfl; have p3 := hp.cell (i := 3) rfl; have p4 := hp.cell (i := 4) rfl; clear hp; have hq := hSw.blk 1 rfl; have q0 := hq.cell (i := 0) rfl; have q1 := hq.cell (i := 1) rfl; have q2 := hq.cell (i := 2) rfl; have q3 := hq.cell (i := 3) rfl; clear hq; have hc := hSw.blk 3 rfl; have c0 := hc.cell (i := 0) rfl; have c1 := hc.cell (i := 1) rfl; have c2 := hc.cell (i := 2) rfl; have c3 := hc.cell (i := 3) rfl; clear hc; clear hSw; go_simp; try with_reducible rfl)
  simp only [List.getElem_toArray, List.getElem_cons_zero, List.getElem_cons_succ, Act.put, List.setIfInBounds_toArray, List.set_cons_zero, List.set_cons_succ]
  refine wpAnyH_take (i := 20) (v := ?v21) rfl (by kernel_rfl) (by kernel_rfl) (by kernel_rfl) (fun _ _ _ h => h) (Or.inl ⟨by rfl, ?y21⟩) hHeld ?r21
  case y21 => (intro w hSw; have hp := hSw.blk 0 rfl; have p0 := hp.cell (i := 0) rfl; have p1 := hp.cell (i := 1) rfl; have p2 := hp.cell (i := 2) rfl; have p3 := hp.cell (i := 3) rfl; have p4 := hp.cell (i := 4) rfl; clear hp; have hq := hSw.blk 1 rfl; have q0 := hq.cell (i := 0) rfl; have q1 := hq.cell (i := 1) rfl; have q2 := hq.cell (i := 2) rfl; have q3 := hq.cell (i := 3) rfl; clear hq; have hc := hSw.blk 3 rfl; have c0 := hc.cell (i := 0) rfl; have c1 := hc.cell (i := 1) rfl; have c2 := hc.cell (i := 2) rfl; have c3 := hc.cell (i := 3) rfl; clear hc; clear hSw; go_simp; try with_reducible rfl)
  simp only [List.getElem_toArray, List.getElem_cons_zero, List.getElem_cons_succ, Act.put, List.setIfInBounds_toArray, List.set_cons_zero, List.set_cons_succ]
  refine wpAnyH_take (i := 21) (v := ?v22) rfl (by kernel_rfl) (by kernel_rfl) (by kernel_rfl) (fun _ _ _ h => h) (Or.inl ⟨by rfl, ?y22⟩) hHeld ?r22
  case y22 => (intro w hSw; have hp := hSw.blk 0 rfl; have p0 := hp.cell (i := 0) rfl; have p1 := hp.cell (i := 1) rfl; have p2 := hp.cell (i := 2) rfl; have p3 := hp.cell (i := 3) rfl; have p4 := hp.cell (i := 4) rfl; clear hp; have hq := hSw.blk 1 rfl; have q0 := hq.cell (i := 0) rfl; have q1 := hq.cell (i := 1) rfl; have q2 := hq.cell (i := 2) rfl; have q3 := hq.cell (i := 3) rfl; clear hq; have hc := hSw.blk 3 rfl; have c0 := hc.cell (i := 0) rfl; have c1 := hc.cell (i := 1) rfl; have c2 := hc.cell (i := 2) rfl; have c3 := hc.cell (i := 3) rfl; clear hc; clear hSw; go_simp; try with_reducible rfl)
  simp only [List.getElem_toArray, List.getElem_cons_zero, List.getElem_cons_succ, Act.put, List.setIfInBounds_toArray, List.set_cons_zero, List.set_cons_succ]
  refine wpAnyH_take (i := 23) (v := ?v23) rfl (by kernel_rfl) (by kernel_rfl) (by kernel_rfl) (fun _ _ _ h => h) (Or.inl ⟨by rfl, ?y23⟩) hHeld ?r23
  case y23 => (intro w hSw; have hp := hSw.blk 0 rfl; have p0 := hp.cell (i := 0) rfl; have p1 := hp.cell (i := 1) rfl; have p2 := hp.cell (i := 2) rfl; have p3 := hp.cell (i := 3) rfl; have p4 := hp.cell (i := 4) rfl; clear hp; have hq := hSw.blk 1 rfl; have q0 := hq.cell (i := 0) rfl; have q1 := hq.cell (i := 1) rfl; have q2 := hq.cell (i := 2) rfl; have q3 := hq.cell (i := 3) rfl; clear hq; have hc := hSw.blk 3 rfl; have c0 := hc.cell (i := 0) rfl; have c1 := hc.cell (i := 1) rfl; have c2 := hc.cell (i := 2) rfl; have c3 := hc.cell (i := 3) rfl; clear hc; clear hSw; go_simp; try with_reducible rfl)
  simp only [List.getElem_toArray, List.getElem_cons_zero, List.getElem_cons_succ, Act.put, List.setIfInBounds_toArray, List.set_cons_zero, List.set_cons_succ]
  refine wpAnyH_take (i := 24) (v := ?v24) rfl (by kernel_rfl) (by kernel_rfl) (by kernel_rfl) (fun _ _ _ h => h) (Or.inl ⟨by rfl, ?y24⟩) hHeld ?r24
  case y24 => (intro w hSw; have hp := hSw.blk 0 rfl; have p0 := hp.cell (i := 0) rfl; have p1 := hp.cell (i := 1) rfl; have p2 := hp.cell (i := 2) rfl; have p3 := hp.cell (i := 3) rfl; have p4 := hp.cell (i := 4) rfl; clear hp; have hq := hSw.blk 1 rfl; have q0 := hq.cell (i := 0) rfl; have q1 := hq.cell (i := 1) rfl; have q2 := hq.cell (i := 2) rfl; have q3 := hq.cell (i := 3) rfl; clear hq; have hc := hSw.blk 3 rfl; have c0 := hc.cell (i := 0) rfl; have c1 := hc.cell (i := 1) rfl; have c2 := hc.cell (i := 2) rfl; have c3 := hc.cell (i := 3) rfl; clear hc; clear hSw; go_simp; try with_reducible rfl)
  simp only [List.getElem_toArray, List.getElem_cons_zero, List.getElem_cons_succ, Act.put, List.setIfInBounds_toArray, List.set_cons_zero, List.set_cons_succ]
  refine wpAnyH_ready (rs := [22]) (by kernel_rfl) (by simp) (AllReadyH.cons rfl (fun K hK => ?_) AllReadyH.nil)
  go_simp
  refine (ent_any 0 1 L (tot (1 + L) l) g0 aa l.length ca _ hg0).mono ?_
  rintro e Y1 ⟨rfl, hb1⟩
  have X4 := Lib.hid (X3d.out.next hb1)
  clear hb1
  go_wp2_with fail
  refine hK.out _ _ (X4.out) (fun hHeld => ?_)
  clear hK K
  refine wpAnyH_take (i := 25) (v := ?v26) rfl (by kernel_rfl) (by kernel_rfl) (by kernel_rfl) (fun _ _ _ h => h) (Or.inl ⟨by rfl, ?y26⟩) hHeld ?r26
  case y26 => (intro w hSw; have hp := hSw.blk 0 rfl; have p0 := hp.cell (i := 0) rfl; have p1 := hp.cell (i := 1) rfl; have p2 := hp.cell (i := 2) rfl; have p3 := hp.cell (i := 3) rfl; have p4 := hp.cell (i := 4) rfl; clear hp; have hq := hSw.blk 1 rfl; have q0 := hq.cell (i := 0) rfl; have q1 := hq.cell (i := 1) rfl; have q2 := hq.cell (i := 2) rfl; have q3 := hq.cell (i := 3) rfl; clear hq; have hc := hSw.blk 3 rfl; have c0 := hc.cell (i := 0) rfl; have c1 := hc.cell (i := 1) rfl; have c2 := hc.cell (i := 2) rfl; have c3 := hc.cell (i := 3) rfl; clear hc; clear hSw; go_simp; try with_reducible rfl)
  simp only [List.getElem_toArray, List.getElem_cons_zero, List.getElem_cons_succ, Act.put, List.setIfInBounds_toArray, List.set_cons_zero, List.set_cons_succ]
  refine wpAnyH_take (i := 26) (v := ?v27) rfl (by kernel_rfl) (by kernel_rfl) (by kernel_rfl) (fun _ _ _ h => h) (Or.inl ⟨by rfl, ?y27⟩) hHeld ?r27
  case y27 => (intro w hSw; have hp := hSw.blk 0 rfl; have p0 := hp.cell (i := 0) rfl; have p1 := hp.cell (i := 1) rfl; have p2 := hp.cell (i := 2) rfl; have p3 := hp.cell (i := 3) rfl; have p4 := hp.cell (i := 4) rfl; clear hp; have hq := hSw.blk 1 rfl; have q0 := hq.cell (i := 0) rfl; have q1 := hq.cell (i := 1) rfl; have q2 := hq.cell (i := 2) rfl; have q3 := hq.cell (i := 3) rfl; clear hq; have hc := hSw.blk 3 rfl; have c0 := hc.cell (i := 0) rfl; have c1 := hc.cell (i := 1) rfl; have c2 := hc.cell (i := 2) rfl; have c3 := hc.cell (i := 3) rfl; clear hc; clear hSw; go_simp; try with_reducible rfl)
  simp only [List.getElem_toArray, List.getElem_cons_zero, List.getElem_cons_succ, Act.put, List.setIfInBounds_toArray, List.set_cons_zero, List.set_cons_succ]
  refine wpAnyH_done (by kernel_rfl) ?_ _
  clear b0 b1 b2 b3 X3d
  have ht := X4.out.blk 2 rfl
  have r0 := ht.cell (i := 0) rfl
  have r1 := ht.cell (i := 1) rfl
  clear ht
  have p3 := (X4.out.blk 0 rfl).cell (i := 3) rfl
  by_cases y0 : t0 < 0
  · have my0 : decide (t0 < 0) = true := decide_eq_true y0
    as_aux_lemma =>
      go_wp2_with fail
      refine (awake_any _).mono ?_
      rintro e Wz ⟨rfl, hbz⟩
      have Xz := Lib.hid (X4.out.next hbz)
      clear hbz X4
      go_wp2
      go_ret
      exact ⟨rfl, Xz.out.2.2⟩
  have my0 : decide (t0 < 0) = false := decide_eq_false y0
  by_cases y1 : (l.length : Int) ≤ t0
  · have my1 : decide ((l.length : Int) ≤ t0) = true := decide_eq_true y1
    as_aux_lemma =>
      go_wp2_with fail
      refine (awake_any _).mono ?_
      rintro e Wz ⟨rfl, hbz⟩
      have Xz := Lib.hid (X4.out.next hbz)
      clear hbz X4
      go_wp2
      go_ret
      exact ⟨rfl, Xz.out.2.2⟩
  have my1 : decide ((l.length : Int) ≤ t0) = false := decide_eq_false y1
  by_cases y2 : t1 < 0
  · have my2 : decide (t1 < 0) = true := decide_eq_true y2
    as_aux_lemma =>
      go_wp2_with fail
      refine (awake_any _).mono ?_
      rintro e Wz ⟨rfl, hbz⟩
      have Xz := Lib.hid (X4.out.next hbz)
      clear hbz X4
      go_wp2
      go_ret
      exact ⟨rfl, Xz.out.2.2⟩
  have my2 : decide (t1 < 0) = false := decide_eq_false y2
  by_cases y3 : (l.length : Int) ≤ t1
  · have my3 : decide ((l.length : Int) ≤ t1) = true := decide_eq_true y3
    as_aux_lemma =>
      go_wp2_with fail
      refine (awake_any _).mono ?_
      rintro e Wz ⟨rfl, hbz⟩
      have Xz := Lib.hid (X4.out.next hbz)
      clear hbz X4
      go_wp2
      go_ret
      exact ⟨rfl, Xz.out.2.2⟩
  have my3 : decide ((l.length : Int) ≤ t1) = false := decide_eq_false y3
  obtain ⟨i, rfl⟩ : ∃ i : Nat, t0 = i := ⟨t0.toNat, by omega⟩
  obtain ⟨j, rfl⟩ : ∃ j : Nat, t1 = j := ⟨t1.toNat, by omega⟩
  have hi : i < l.length := by omega
  have hj : j < l.length := by omega
  have hi' : (i : Int) < l.length := by omega
  have hj' : (j : Int) < l.length := by omega
  obtain ⟨ti, hti⟩ : ∃ t, l[i]? = some t := ⟨_, List.getElem?_eq_getElem hi⟩
  obtain ⟨tj, htj⟩ : ∃ t, l[j]? = some t := ⟨_, List.getElem?_eq_getElem hj⟩
  have hoi := Hall.out ti (List.mem_of_getElem? hti)
  have hoj := Hall.out tj (List.mem_of_getElem? htj)
  have hsi := spots_at l (1 + L) i ti hti
  have hsj := spots_at l (1 + L) j tj htj
  have hbi := take_bd i (by omega) hl64 (1 + L) Hall.out
  have hbj := take_bd j (by omega) hl64 (1 + L) Hall.out
  obtain ⟨b, off, rfl, hblt, a0, a1, a2, a3, a4⟩ := X4.out.2.1 i _ hsi
  have X5 := Lib.hid (X4.out.new #[.int .i64 (tot (1 + L) (l.take i)), .int .i64 (tot (1 + L) (l.take i) + 1), .int .i64 (tot (1 + L) (l.take i) + 2), .int .i64 ti.2.1, .int .i64 ti.2.2] 43)
  have X6 := Lib.hid (X5.out.new #[.int .i64 (tot (1 + L) (l.take j)), .int .i64 (tot (1 + L) (l.take j) + 1), .int .i64 (tot (1 + L) (l.take j) + 2), .int .i64 tj.2.1, .int .i64 tj.2.2] 43)
  obtain ⟨b', off', hbo, hblt', e0, e1, e2, e3, e4⟩ := X5.out.2.1 j _ hsj
  cases hbo
  have r1' := (X5.out.blk 3 rfl).cell (i := 1) rfl
  have p3' := (X5.out.blk 1 rfl).cell (i := 3) rfl
  have Ho := Lib.hid (And.intro hti (And.intro htj (And.intro hoi (And.intro hoj (And.intro hbi hbj)))))
  clear hti htj hoi hoj hsi hsj hbi hbj y0 y1 y2 y3
  obtain ⟨n0, w0, d0⟩ := ti
  obtain ⟨n1, w1, d1⟩ := tj
  simp only [spo] at a0 a1 a2 a3 a4 e0 e1 e2 e3 e4
  obtain ⟨o0, ho0⟩ : ∃ o, tot (1 + L) (l.take i) = o := ⟨_, rfl⟩
  obtain ⟨o1, ho1⟩ : ∃ o, tot (1 + L) (l.take j) = o := ⟨_, rfl⟩
  rw [ho0] at a0 a1 a2 e0 e1 e2 e3 e4 r1' p3' X5 X6
  rw [ho1] at e0 e1 e2 X6
  have Hoo := Lib.hid (And.intro ho0 ho1)
  clear ho0 ho1
  have s0 := (X6.out.blk 3 rfl).cell (i := 2) rfl
  have s1 := (X6.out.blk 3 rfl).cell (i := 3) rfl
  have z0 := (X6.out.blk 1 rfl).cell (i := 3) rfl
  have z1 := (X6.out.blk 0 rfl).cell (i := 3) rfl
  simp only [World.size_alloc] at s0 s1 z0 z1 X6
  clear X5 X4
  by_cases y0 : x0 < 0
  · have my0 : decide (x0 < 0) = true := decide_eq_true y0
    as_aux_lemma =>
      go_wp2_with fail
      refine (awake_any _).mono ?_
      rintro e Wz ⟨rfl, hbz⟩
      have Xz := Lib.hid (X6.out.next hbz)
      clear hbz X6
      go_wp2
      go_ret
      exact ⟨rfl, Xz.out.2.2⟩
  have my0 : decide (x0 < 0) = false := decide_eq_false y0
  by_cases y1 : w0 ≤ x0
  · have my1 : decide (w0 ≤ x0) = true := decide_eq_true y1
    as_aux_lemma =>
      go_wp2_with fail
      refine (awake_any _).mono ?_
      rintro e Wz ⟨rfl, hbz⟩
      have Xz := Lib.hid (X6.out.next hbz)
      clear hbz X6
      go_wp2
      go_ret
      exact ⟨rfl, Xz.out.2.2⟩
  have my1 : decide (w0 ≤ x0) = false := decide_eq_false y1
  by_cases y2 : x1 < 0
  · have my2 : decide (x1 < 0) = true := decide_eq_true y2
    as_aux_lemma =>
      go_wp2_with fail
      refine (awake_any _).mono ?_
      rintro e Wz ⟨rfl, hbz⟩
      have Xz := Lib.hid (X6.out.next hbz)
      clear hbz X6
      go_wp2
      go_ret
      exact ⟨rfl, Xz.out.2.2⟩
  have my2 : decide (x1 < 0) = false := decide_eq_false y2
  by_cases y3 : w1 ≤ x1
  · have my3 : decide (w1 ≤ x1) = true := decide_eq_true y3
    as_aux_lemma =>
      go_wp2_with fail
      refine (awake_any _).mono ?_
      rintro e Wz ⟨rfl, hbz⟩
      have Xz := Lib.hid (X6.out.next hbz)
      clear hbz X6
      go_wp2
      go_ret
      exact ⟨rfl, Xz.out.2.2⟩
  have my3 : decide (w1 ≤ x1) = false := decide_eq_false y3
  go_upto_region 14 with fail
  have X7 := Lib.hid (show AK w (some ⟨b, off, none⟩) (spots (1 + L) l) (BQ T R L a cap l g0 g1 x0 x1 (i : Int) (j : Int) w P (some ⟨b, off, none⟩) ca Y1.heap.size (Y1.heap.size + 1) o0 w0 d0 o1 w1 d1) _ from X6.out)
  clear X6 s0 s1 z0 z1 a0 a1 a2 a3 a4 e0 e1 e2 e3 e4 r0 r1 r1' p3 p3' my0 my1 my2 my3 hHeld hblt hblt'
  generalize ((Y1.alloc (.cells #[.int .i64 o0, .int .i64 (o0 + 1), .int .i64 (o0 + 2), .int .i64 w0, .int .i64 d0] 43)).alloc (.cells #[.int .i64 o1, .int .i64 (o1 + 1), .int .i64 (o1 + 2), .int .i64 w1, .int .i64 d1] 43)) = WW at *
  generalize Y1.heap.size + 1 = B at *
  generalize Y1.heap.size = A at *
  have hoo := Ho.out.2.2.2.2
  rw [Hoo.out.1, Hoo.out.2] at hoo
  have hokA : okS (o0 + 2) w0 d0 := okS_of Ho.out.2.2.1 (by omega : 0 ≤ o0) (by omega)
  have hokB : okS (o1 + 2) w1 d1 := okS_of Ho.out.2.2.2.1 (by omega : 0 ≤ o1) (by omega)
  have hinA := at_in (g := g0) hokA hg0
  have hinB := at_in (g := g1) hokB hg1
  have HatA := Lib.hid (fun W => at_any o0 (o0 + 1) (o0 + 2) w0 d0 g0 W hg0 hg0')
  have HatB := Lib.hid (fun W => at_any o1 (o1 + 1) (o1 + 2) w1 d1 g1 W hg1 hg1')
  obtain ⟨va, hva⟩ : ∃ v, atv (o0 + 2) w0 d0 g0 = v := ⟨_, rfl⟩
  obtain ⟨vb, hvb⟩ : ∃ v, atv (o1 + 2) w1 d1 g1 = v := ⟨_, rfl⟩
  rw [hva] at HatA hinA
  rw [hvb] at HatB hinB
  have Hv := Lib.hid (And.intro hva hvb)
  have va1 : 0 ≤ va := by omega
  have va2 : va ≤ 2000000 := by omega
  have vb1 : 0 ≤ vb := by omega
  have vb2 : vb ≤ 2000000 := by omega
  have xa1 : 0 ≤ x0 := by omega
  have xa2 : x0 ≤ 64 := by have := hokA.2.1; omega
  have xb1 : 0 ≤ x1 := by omega
  have xb2 : x1 ≤ 64 := by have := hokB.2.1; omega
  have Hxx := Lib.hid (And.intro (show x0 < w0 by omega) (And.intro (show x1 < w1 by omega) (And.intro hokA hokB)))
  have Hoz := Lib.hid hoo
  have hwA := wrap_i64' (va + x0) (by omega) (by omega)
  have hwB := wrap_i64' (vb + x1) (by omega) (by omega)
  clear hva hvb hinA hinB hokA hokB hoo y0 y1 y2 y3
  go_cut [11] (fun s wx => ∃ Mx, s = .pointer (some ⟨Mx, 0, none⟩) ∧ AK w (some ⟨b, off, none⟩) (spots (1 + L) l) ((Mx, [.int .i64 o0, .int .i64 (o0 + 1), .int .i64 (va + x0)]) :: (BQ T R L a cap l g0 g1 x0 x1 (i : Int) (j : Int) w P (some ⟨b, off, none⟩) ca A B o0 w0 d0 o1 w1 d1)) wx)
  case first =>
    as_aux_lemma =>
    have Xd := Lib.hid (show AK w (some ⟨b, off, none⟩) (spots (1 + L) l) (BQ T R L a cap l g0 g1 x0 x1 (i : Int) (j : Int) w P (some ⟨b, off, none⟩) ca A B o0 w0 d0 o1 w1 d1) WW.drew from X7.out.drewN 1)
    refine wp_region_held_drew (S := AK w (some ⟨b, off, none⟩) (spots (1 + L) l) (BQ T R L a cap l g0 g1 x0 x1 (i : Int) (j : Int) w P (some ⟨b, off, none⟩) ca A B o0 w0 d0 o1 w1 d1)) (by kernel_rfl) (Xd.out) (fun hHeld => ?_)
    refine wpAnyH_take (i := 0) (v := ?v69) rfl (by kernel_rfl) (by kernel_rfl) (by kernel_rfl) (fun _ _ _ h => h) (Or.inl ⟨by rfl, ?y69⟩) hHeld ?r69
    case y69 => (intro w hSw; have hp := hSw.blk 1 rfl; have p0 := hp.cell (i := 0) rfl; have p1 := hp.cell (i := 1) rfl; have p2 := hp.cell (i := 2) rfl; have p3 := hp.cell (i := 3) rfl; have p4 := hp.cell (i := 4) rfl; clear hp; have hq := hSw.blk 3 rfl; have q0 := hq.cell (i := 0) rfl; have q1 := hq.cell (i := 1) rfl; have q2 := hq.cell (i := 2) rfl; have q3 := hq.cell (i := 3) rfl; clear hq; clear hSw; go_simp; try with_reducible rfl)
    simp only [List.getElem_toArray, List.getElem_cons_zero, Act.put, List.setIfInBounds_toArray, List.set_cons_zero, List.set_cons_succ]
    refine wpAnyH_take (i := 1) (v := ?v70) rfl (by kernel_rfl) (by kernel_rfl) (by kernel_rfl) (fun _ _ _ h => h) (Or.inl ⟨by rfl, ?y70⟩) hHeld ?r70
    case y70 => (intro w hSw; have hp := hSw.blk 1 rfl; have p0 := hp.cell (i := 0) rfl; have p1 := hp.cell (i := 1) rfl; have p2 := hp.cell (i := 2) rfl; have p3 := hp.cell (i := 3) rfl; have p4 := hp.cell (i := 4) rfl; clear hp; have hq := hSw.blk 3 rfl; have q0 := hq.cell (i := 0) rfl; have q1 := hq.cell (i := 1) rfl; have q2 := hq.cell (i := 2) rfl; have q3 := hq.cell (i := 3) rfl; clear hq; clear hSw; go_simp; try with_reducible rfl)
    simp only [List.getElem_toArray, List.getElem_cons_zero, List.getElem_cons_succ, Act.put, List.setIfInBounds_toArray, List.set_cons_zero, List.set_cons_succ]
    refine wpAnyH_take (i := 2) (v := ?v71) rfl (by kernel_rfl) (by kernel_rfl) (by kernel_rfl) (fun _ _ _ h => h) (Or.inl ⟨by rfl, ?y71⟩) hHeld ?r71
    case y71 => (intro w hSw; have hp := hSw.blk 1 rfl; have p0 := hp.cell (i := 0) rfl; have p1 := hp.cell (i := 1) rfl; have p2 := hp.cell (i := 2) rfl; have p3 := hp.cell (i := 3) rfl; have p4 := hp.cell (i := 4) rfl; clear hp; have hq := hSw.blk 3 rfl; have q0 := hq.cell (i := 0) rfl; have q1 := hq.cell (i := 1) rfl; have q2 := hq.cell (i := 2) rfl; have q3 := hq.cell (i := 3) rfl; clear hq; clear hSw; go_simp; try with_reducible rfl)
    simp only [List.getElem_toArray, List.getElem_cons_zero, List.getElem_cons_succ, Act.put, List.setIfInBounds_toArray, List.set_cons_zero, List.set_cons_succ]
    refine wpAnyH_take (i := 3) (v := ?v72) rfl (by kernel_rfl) (by kernel_rfl) (by kernel_rfl) (fun _ _ _ h => h) (Or.inl ⟨by rfl, ?y72⟩) hHeld ?r72
    case y72 => (intro w hSw; have hp := hSw.blk 1 rfl; have p0 := hp.cell (i := 0) rfl; have p1 := hp.cell (i := 1) rfl; have p2 := hp.cell (i := 2) rfl; have p3 := hp.cell (i := 3) rfl; have p4 := hp.cell (i := 4) rfl; clear hp; have hq := hSw.blk 3 rfl; have q0 := hq.cell (i := 0) rfl; have q1 := hq.cell (i := 1) rfl; have q2 := hq.cell (i := 2) rfl; have q3 := hq.cell (i := 3) rfl; clear hq; clear hSw; go_simp; try with_reducible rfl)
    simp only [List.getElem_toArray, List.getElem_cons_zero, List.getElem_cons_succ, Act.put, List.setIfInBounds_toArray, List.set_cons_zero, List.set_cons_succ]
    refine wpAnyH_take (i := 4) (v := ?v73) rfl (by kernel_rfl) (by kernel_rfl) (by kernel_rfl) (fun _ _ _ h => h) (Or.inl ⟨by rfl, ?y73⟩) hHeld ?r73
    case y73 => (intro w hSw; have hp := hSw.blk 1 rfl; have p0 := hp.cell (i := 0) rfl; have p1 := hp.cell (i := 1) rfl; have p2 := hp.cell (i := 2) rfl; have p3 := hp.cell (i := 3) rfl; have p4 := hp.cell (i := 4) rfl; clear hp; have hq := hSw.blk 3 rfl; have q0 := hq.cell (i := 0) rfl; have q1 := hq.cell (i := 1) rfl; have q2 := hq.cell (i := 2) rfl; have q3 := hq.cell (i := 3) rfl; clear hq; clear hSw; go_simp; try with_reducible rfl)
    simp only [List.getElem_toArray, List.getElem_cons_zero, List.getElem_cons_succ, Act.put, List.setIfInBounds_toArray, List.set_cons_zero, List.set_cons_succ]
    refine wpAnyH_take (i := 5) (v := ?v74) rfl (by kernel_rfl) (by kernel_rfl) (by kernel_rfl) (fun _ _ _ h => h) (Or.inl ⟨by rfl, ?y74⟩) hHeld ?r74
    case y74 => (intro w hSw; have hp := hSw.blk 1 rfl; have p0 := hp.cell (i := 0) rfl; have p1 := hp.cell (i := 1) rfl; have p2 := hp.cell (i := 2) rfl; have p3 := hp.cell (i := 3) rfl; have p4 := hp.cell (i := 4) rfl; clear hp; have hq := hSw.blk 3 rfl; have q0 := hq.cell (i := 0) rfl; have q1 := hq.cell (i := 1) rfl; have q2 := hq.cell (i := 2) rfl; have q3 := hq.cell (i := 3) rfl; clear hq; clear hSw; go_simp; try with_reducible rfl)
    simp only [List.getElem_toArray, List.getElem_cons_zero, List.getElem_cons_succ, Act.put, List.setIfInBounds_toArray, List.set_cons_zero, List.set_cons_succ]
    refine wpAnyH_take (i := 6) (v := ?v75) rfl (by kernel_rfl) (by kernel_rfl) (by kernel_rfl) (fun _ _ _ h => h) (Or.inl ⟨by rfl, ?y75⟩) hHeld ?r75
    case y75 => (intro w hSw; have hp := hSw.blk 1 rfl; have p0 := hp.cell (i := 0) rfl; have p1 := hp.cell (i := 1) rfl; have p2 := hp.cell (i := 2) rfl; have p3 := hp.cell (i := 3) rfl; have p4 := hp.cell (i := 4) rfl; clear hp; have hq := hSw.blk 3 rfl; have q0 := hq.cell (i := 0) rfl; have q1 := hq.cell (i := 1) rfl; have q2 := hq.cell (i := 2) rfl; have q3 := hq.cell (i := 3) rfl; clear hq; clear hSw; go_simp; try with_reducible rfl)
    simp only [List.getElem_toArray, List.getElem_cons_zero, List.getElem_cons_succ, Act.put, List.setIfInBounds_toArray, List.set_cons_zero, List.set_cons_succ]
    refine wpAnyH_take (i := 7) (v := ?v76) rfl (by kernel_rfl) (by kernel_rfl) (by kernel_rfl) (fun _ _ _ h => h) (Or.inl ⟨by rfl, ?y76⟩) hHeld ?r76
    case y76 => (intro w hSw; have hp := hSw.blk 1 rfl; have p0 := hp.cell (i := 0) rfl; have p1 := hp.cell (i := 1) rfl; have p2 := hp.cell (i := 2) rfl; have p3 := hp.cell (i := 3) rfl; have p4 := hp.cell (i := 4) rfl; clear hp; have hq := hSw.blk 3 rfl; have q0 := hq.cell (i := 0) rfl; have q1 := hq.cell (i := 1) rfl; have q2 := hq.cell (i := 2) rfl; have q3 := hq.cell (i := 3) rfl; clear hq; clear hSw; go_simp; try with_reducible rfl)
    simp only [List.getElem_toArray, List.getElem_cons_zero, List.getElem_cons_succ, Act.put, List.setIfInBounds_toArray, List.set_cons_zero, List.set_cons_succ]
    refine wpAnyH_take (i := 9) (v := ?v77) rfl (by kernel_rfl) (by kernel_rfl) (by kernel_rfl) (fun _ _ _ h => h) (Or.inl ⟨by rfl, ?y77⟩) hHeld ?r77
    case y77 => (intro w hSw; have hp := hSw.blk 1 rfl; have p0 := hp.cell (i := 0) rfl; have p1 := hp.cell (i := 1) rfl; have p2 := hp.cell (i := 2) rfl; have p3 := hp.cell (i := 3) rfl; have p4 := hp.cell (i := 4) rfl; clear hp; have hq := hSw.blk 3 rfl; have q0 := hq.cell (i := 0) rfl; have q1 := hq.cell (i := 1) rfl; have q2 := hq.cell (i := 2) rfl; have q3 := hq.cell (i := 3) rfl; clear hq; clear hSw; go_simp; try with_reducible rfl)
    simp only [List.getElem_toArray, List.getElem_cons_zero, List.getElem_cons_succ, Act.put, List.setIfInBounds_toArray, List.set_cons_zero, List.set_cons_succ]
    refine wpAnyH_take (i := 10) (v := ?v78) rfl (by kernel_rfl) (by kernel_rfl) (by kernel_rfl) (fun _ _ _ h => h) (Or.inl ⟨by rfl, ?y78⟩) hHeld ?r78
    case y78 => (intro w hSw; have hp := hSw.blk 1 rfl; have p0 := hp.cell (i := 0) rfl; have p1 := hp.cell (i := 1) rfl; have p2 := hp.cell (i := 2) rfl; have p3 := hp.cell (i := 3) rfl; have p4 := hp.cell (i := 4) rfl; clear hp; have hq := hSw.blk 3 rfl; have q0 := hq.cell (i := 0) rfl; have q1 := hq.cell (i := 1) rfl; have q2 := hq.cell (i := 2) rfl; have q3 := hq.cell (i := 3) rfl; clear hq; clear hSw; go_simp; try with_reducible rfl)
    simp only [List.getElem_toArray, List.getElem_cons_zero, List.getElem_cons_succ, Act.put, List.setIfInBounds_toArray, List.set_cons_zero, List.set_cons_succ]
    refine wpAnyH_take (i := 11) (v := ?v79) rfl (by kernel_rfl) (by kernel_rfl) (by kernel_rfl) (fun _ _ _ h => h) (Or.inl ⟨by rfl, ?y79⟩) hHeld ?r79
    case y79 => (intro w hSw; have hp := hSw.blk 1 rfl; have p0 := hp.cell (i := 0) rfl; have p1 := hp.cell (i := 1) rfl; have p2 := hp.cell (i := 2) rfl; have p3 := hp.cell (i := 3) rfl; have p4 := hp.cell (i := 4) rfl; clear hp; have hq := hSw.blk 3 rfl; have q0 := hq.cell (i := 0) rfl; have q1 := hq.cell (i := 1) rfl; have q2 := hq.cell (i := 2) rfl; have q3 := hq.cell (i := 3) rfl; clear hq; clear hSw; go_simp; try with_reducible rfl)
    simp only [List.getElem_toArray, List.getElem_cons_zero, List.getElem_cons_succ, Act.put, List.setIfInBounds_toArray, List.set_cons_zero, List.set_cons_succ]
    refine wpAnyH_ready (rs := [8, 14]) (by kernel_rfl) (by simp) (AllReadyH.cons rfl (fun K hK => ?_) (AllReadyH.cons rfl (fun K hK => ?_) AllReadyH.nil))
    · go_simp
      refine (HatA.out _).mono ?_
      rintro e V1 ⟨rfl, hb1⟩
      have Z1 := Lib.hid (Xd.out.next hb1)
      go_wp2_with fail
      refine hK.out _ _ (Z1.out) (fun hHeld => ?_)
      clear hK K
      refine wpAnyH_take (i := 12) (v := .int .i64 (va + x0)) rfl (by kernel_rfl) (by kernel_rfl) (by kernel_rfl) (fun _ _ _ h => h) (Or.inl ⟨by rfl, ?y81⟩) hHeld ?r81
      case y81 => (intro w hSw; have hp := hSw.blk 1 rfl; have p0 := hp.cell (i := 0) rfl; have p1 := hp.cell (i := 1) rfl; have p2 := hp.cell (i := 2) rfl; have p3 := hp.cell (i := 3) rfl; have p4 := hp.cell (i := 4) rfl; clear hp; have hq := hSw.blk 3 rfl; have q0 := hq.cell (i := 0) rfl; have q1 := hq.cell (i := 1) rfl; have q2 := hq.cell (i := 2) rfl; have q3 := hq.cell (i := 3) rfl; clear hq; clear hSw; go_simp; try with_reducible rfl)
      simp only [List.getElem_toArray, List.getElem_cons_zero, List.getElem_cons_succ, Act.put, List.setIfInBounds_toArray, List.set_cons_zero, List.set_cons_succ]
      refine wpAnyH_take (i := 13) (v := ?v82) rfl (by kernel_rfl) (by kernel_rfl) (by kernel_rfl) (fun _ _ _ h => h) (Or.inl ⟨by rfl, ?y82⟩) hHeld ?r82
      case y82 => (intro w hSw; have hp := hSw.blk 1 rfl; have p0 := hp.cell (i := 0) rfl; have p1 := hp.cell (i := 1) rfl; have p2 := hp.cell (i := 2) rfl; have p3 := hp.cell (i := 3) rfl; have p4 := hp.cell (i := 4) rfl; clear hp; have hq := hSw.blk 3 rfl; have q0 := hq.cell (i := 0) rfl; have q1 := hq.cell (i := 1) rfl; have q2 := hq.cell (i := 2) rfl; have q3 := hq.cell (i := 3) rfl; clear hq; clear hSw; go_simp; try with_reducible rfl)
      simp only [List.getElem_toArray, List.getElem_cons_zero, List.getElem_cons_succ, Act.put, List.setIfInBounds_toArray, List.set_cons_zero, List.set_cons_succ]
      refine wpAnyH_ready (rs := [14]) (by kernel_rfl) (by simp) (AllReadyH.cons rfl (fun K hK => ?_) AllReadyH.nil)
      go_simp
      have hS4 := Z1.out.next ((Below.refl _ _).alloc (Nat.le_refl _) (.cells #[.int .i64 0, .int .i64 0, .int .i64 0] 55))
      refine hK.out _ _ (hS4) (fun hHeld => ?_)
      clear hK K
      refine wpAnyH_ready (rs := [15]) (by kernel_rfl) (by simp) (AllReadyH.cons rfl (fun K hK => ?_) AllReadyH.nil)
      go_simp
      go_wp2_with fail
      have hS5 := Z1.out.new #[.int .i64 o0, .int .i64 (o0 + 1), .int .i64 (va + x0)] 55
      refine hK.out _ _ (hS5.drop 1 rfl) (fun hHeld => ?_)
      clear hK K
      refine wpAnyH_done (by kernel_rfl) ?_ _
      go_wp2_with fail
      go_meet
      exact ⟨_, rfl, hS5⟩
    · go_simp
      have hS4 := Xd.out.next ((Below.refl _ _).alloc (Nat.le_refl _) (.cells #[.int .i64 0, .int .i64 0, .int .i64 0] 55))
      refine hK.out _ _ (hS4) (fun hHeld => ?_)
      clear hK K
      refine wpAnyH_ready (rs := [8]) (by kernel_rfl) (by simp) (AllReadyH.cons rfl (fun K hK => ?_) AllReadyH.nil)
      go_simp
      refine (HatA.out _).mono ?_
      rintro e V1 ⟨rfl, hb1⟩
      have hN3 : Blk V1 WW.heap.size [.int .i64 0, .int .i64 0, .int .i64 0] := (Blk.new WW.drew #[.int .i64 0, .int .i64 0, .int .i64 0] 55).low hb1
      have r40 := hN3.cell (i := 0) rfl
      have z40 := hN3.frozen 0
      have r41 := hN3.cell (i := 1) rfl
      have z41 := hN3.frozen 1
      have r42 := hN3.cell (i := 2) rfl
      have z42 := hN3.frozen 2
      have Z1 := Lib.hid (hS4.next hb1)
      go_wp2_with fail
      refine hK.out _ _ (Z1.out) (fun hHeld => ?_)
      clear hK K
      refine wpAnyH_take (i := 12) (v := .int .i64 (va + x0)) rfl (by kernel_rfl) (by kernel_rfl) (by kernel_rfl) (fun _ _ _ h => h) (Or.inl ⟨by rfl, ?y86⟩) hHeld ?r86
      case y86 => (intro w hSw; have hp := hSw.blk 1 rfl; have p0 := hp.cell (i := 0) rfl; have p1 := hp.cell (i := 1) rfl; have p2 := hp.cell (i := 2) rfl; have p3 := hp.cell (i := 3) rfl; have p4 := hp.cell (i := 4) rfl; clear hp; have hq := hSw.blk 3 rfl; have q0 := hq.cell (i := 0) rfl; have q1 := hq.cell (i := 1) rfl; have q2 := hq.cell (i := 2) rfl; have q3 := hq.cell (i := 3) rfl; clear hq; clear hSw; go_simp; try with_reducible rfl)
      simp only [List.getElem_toArray, List.getElem_cons_zero, List.getElem_cons_succ, Act.put, List.setIfInBounds_toArray, List.set_cons_zero, List.set_cons_succ]
      refine wpAnyH_take (i := 13) (v := ?v87) rfl (by kernel_rfl) (by kernel_rfl) (by kernel_rfl) (fun _ _ _ h => h) (Or.inl ⟨by rfl, ?y87⟩) hHeld ?r87
      case y87 => (intro w hSw; have hp := hSw.blk 1 rfl; have p0 := hp.cell (i := 0) rfl; have p1 := hp.cell (i := 1) rfl; have p2 := hp.cell (i := 2) rfl; have p3 := hp.cell (i := 3) rfl; have p4 := hp.cell (i := 4) rfl; clear hp; have hq := hSw.blk 3 rfl; have q0 := hq.cell (i := 0) rfl; have q1 := hq.cell (i := 1) rfl; have q2 := hq.cell (i := 2) rfl; have q3 := hq.cell (i := 3) rfl; clear hq; clear hSw; go_simp; try with_reducible rfl)
      simp only [List.getElem_toArray, List.getElem_cons_zero, List.getElem_cons_succ, Act.put, List.setIfInBounds_toArray, List.set_cons_zero, List.set_cons_succ]
      refine wpAnyH_ready (rs := [15]) (by kernel_rfl) (by simp) (AllReadyH.cons rfl (fun K hK => ?_) AllReadyH.nil)
      go_simp
      go_wp2_with fail
      have hS5 : AK w (some ⟨b, off, none⟩) (spots (1 + L) l) ((WW.heap.size, [.int .i64 o0, .int .i64 (o0 + 1), .int .i64 (va + x0)]) :: (BQ T R L a cap l g0 g1 x0 x1 (i : Int) (j : Int) w P (some ⟨b, off, none⟩) ca A B o0 w0 d0 o1 w1 d1)) (((V1.setCell ⟨WW.heap.size, 0, none⟩ (.int .i64 o0)).setCell ⟨WW.heap.size, 1, none⟩ (.int .i64 (o0 + 1))).setCell ⟨WW.heap.size, 2, none⟩ (.int .i64 (va + x0))) := Xd.out.three (.int .i64 0) (.int .i64 0) (.int .i64 0) (.int .i64 o0) (.int .i64 (o0 + 1)) (.int .i64 (va + x0)) 55 hb1
      refine hK.out _ _ (hS5.drop 1 rfl) (fun hHeld => ?_)
      clear hK K
      refine wpAnyH_done (by kernel_rfl) ?_ _
      go_wp2_with fail
      go_meet
      exact ⟨_, rfl, hS5⟩
  obtain ⟨M, rfl, hcut⟩ := hcut
  have XM := Lib.hid hcut
  clear hcut X7
  generalize wc = WW at *
  go_upto_region 15 with fail
  go_cut [12] (fun s wx => ∃ Mx, s = .pointer (some ⟨Mx, 0, none⟩) ∧ AK w (some ⟨b, off, none⟩) (spots (1 + L) l) ((Mx, [.int .i64 o1, .int .i64 (o1 + 1), .int .i64 (vb + x1)]) :: ((M, [.int .i64 o0, .int .i64 (o0 + 1), .int .i64 (va + x0)]) :: (BQ T R L a cap l g0 g1 x0 x1 (i : Int) (j : Int) w P (some ⟨b, off, none⟩) ca A B o0 w0 d0 o1 w1 d1))) wx)
  case first =>
    as_aux_lemma =>
    have Xd := Lib.hid (show AK w (some ⟨b, off, none⟩) (spots (1 + L) l) ((M, [.int .i64 o0, .int .i64 (o0 + 1), .int .i64 (va + x0)]) :: (BQ T R L a cap l g0 g1 x0 x1 (i : Int) (j : Int) w P (some ⟨b, off, none⟩) ca A B o0 w0 d0 o1 w1 d1)) WW.drew from XM.out.drewN 1)
    refine wp_region_held_drew (S := AK w (some ⟨b, off, none⟩) (spots (1 + L) l) ((M, [.int .i64 o0, .int .i64 (o0 + 1), .int .i64 (va + x0)]) :: (BQ T R L a cap l g0 g1 x0 x1 (i : Int) (j : Int) w P (some ⟨b, off, none⟩) ca A B o0 w0 d0 o1 w1 d1))) (by kernel_rfl) (Xd.out) (fun hHeld => ?_)
    refine wpAnyH_take (i := 0) (v := ?v89) rfl (by kernel_rfl) (by kernel_rfl) (by kernel_rfl) (fun _ _ _ h => h) (Or.inl ⟨by rfl, ?y89⟩) hHeld ?r89
    case y89 => (intro w hSw; have hp := hSw.blk 1 rfl; have p0 := hp.cell (i := 0) rfl; have p1 := hp.cell (i := 1) rfl; have p2 := hp.cell (i := 2) rfl; have p3 := hp.cell (i := 3) rfl; have p4 := hp.cell (i := 4) rfl; clear hp; have hq := hSw.blk 4 rfl; have q0 := hq.cell (i := 0) rfl; have q1 := hq.cell (i := 1) rfl; have q2 := hq.cell (i := 2) rfl; have q3 := hq.cell (i := 3) rfl; clear hq; clear hSw; go_simp; try with_reducible rfl)
    simp only [List.getElem_toArray, List.getElem_cons_zero, Act.put, List.setIfInBounds_toArray, List.set_cons_zero, List.set_cons_succ]
    refine wpAnyH_take (i := 1) (v := ?v90) rfl (by kernel_rfl) (by kernel_rfl) (by kernel_rfl) (fun _ _ _ h => h) (Or.inl ⟨by rfl, ?y90⟩) hHeld ?r90
    case y90 => (intro w hSw; have hp := hSw.blk 1 rfl; have p0 := hp.cell (i := 0) rfl; have p1 := hp.cell (i := 1) rfl; have p2 := hp.cell (i := 2) rfl; have p3 := hp.cell (i := 3) rfl; have p4 := hp.cell (i := 4) rfl; clear hp; have hq := hSw.blk 4 rfl; have q0 := hq.cell (i := 0) rfl; have q1 := hq.cell (i := 1) rfl; have q2 := hq.cell (i := 2) rfl; have q3 := hq.cell (i := 3) rfl; clear hq; clear hSw; go_simp; try with_reducible rfl)
    simp only [List.getElem_toArray, List.getElem_cons_zero, List.getElem_cons_succ, Act.put, List.setIfInBounds_toArray, List.set_cons_zero, List.set_cons_succ]
    refine wpAnyH_take (i := 2) (v := ?v91) rfl (by kernel_rfl) (by kernel_rfl) (by kernel_rfl) (fun _ _ _ h => h) (Or.inl ⟨by rfl, ?y91⟩) hHeld ?r91
    case y91 => (intro w hSw; have hp := hSw.blk 1 rfl; have p0 := hp.cell (i := 0) rfl; have p1 := hp.cell (i := 1) rfl; have p2 := hp.cell (i := 2) rfl; have p3 := hp.cell (i := 3) rfl; have p4 := hp.cell (i := 4) rfl; clear hp; have hq := hSw.blk 4 rfl; have q0 := hq.cell (i := 0) rfl; have q1 := hq.cell (i := 1) rfl; have q2 := hq.cell (i := 2) rfl; have q3 := hq.cell (i := 3) rfl; clear hq; clear hSw; go_simp; try with_reducible rfl)
    simp only [List.getElem_toArray, List.getElem_cons_zero, List.getElem_cons_succ, Act.put, List.setIfInBounds_toArray, List.set_cons_zero, List.set_cons_succ]
    refine wpAnyH_take (i := 3) (v := ?v92) rfl (by kernel_rfl) (by kernel_rfl) (by kernel_rfl) (fun _ _ _ h => h) (Or.inl ⟨by rfl, ?y92⟩) hHeld ?r92
    case y92 => (intro w hSw; have hp := hSw.blk 1 rfl; have p0 := hp.cell (i := 0) rfl; have p1 := hp.cell (i := 1) rfl; have p2 := hp.cell (i := 2) rfl; have p3 := hp.cell (i := 3) rfl; have p4 := hp.cell (i := 4) rfl; clear hp; have hq := hSw.blk 4 rfl; have q0 := hq.cell (i := 0) rfl; have q1 := hq.cell (i := 1) rfl; have q2 := hq.cell (i := 2) rfl; have q3 := hq.cell (i := 3) rfl; clear hq; clear hSw; go_simp; try with_reducible rfl)
    simp only [List.getElem_toArray, List.getElem_cons_zero, List.getElem_cons_succ, Act.put, List.setIfInBounds_toArray, List.set_cons_zero, List.set_cons_succ]
    refine wpAnyH_take (i := 4) (v := ?v93) rfl (by kernel_rfl) (by kernel_rfl) (by kernel_rfl) (fun _ _ _ h => h) (Or.inl ⟨by rfl, ?y93⟩) hHeld ?r93
    case y93 => (intro w hSw; have hp := hSw.blk 1 rfl; have p0 := hp.cell (i := 0) rfl; have p1 := hp.cell (i := 1) rfl; have p2 := hp.cell (i := 2) rfl; have p3 := hp.cell (i := 3) rfl; have p4 := hp.cell (i := 4) rfl; clear hp; have hq := hSw.blk 4 rfl; have q0 := hq.cell (i := 0) rfl; have q1 := hq.cell (i := 1) rfl; have q2 := hq.cell (i := 2) rfl; have q3 := hq.cell (i := 3) rfl; clear hq; clear hSw; go_simp; try with_reducible rfl)
    simp only [List.getElem_toArray, List.getElem_cons_zero, List.getElem_cons_succ, Act.put, List.setIfInBounds_toArray, List.set_cons_zero, List.set_cons_succ]
    refine wpAnyH_take (i := 5) (v := ?v94) rfl (by kernel_rfl) (by kernel_rfl) (by kernel_rfl) (fun _ _ _ h => h) (Or.inl ⟨by rfl, ?y94⟩) hHeld ?r94
    case y94 => (intro w hSw; have hp := hSw.blk 1 rfl; have p0 := hp.cell (i := 0) rfl; have p1 := hp.cell (i := 1) rfl; have p2 := hp.cell (i := 2) rfl; have p3 := hp.cell (i := 3) rfl; have p4 := hp.cell (i := 4) rfl; clear hp; have hq := hSw.blk 4 rfl; have q0 := hq.cell (i := 0) rfl; have q1 := hq.cell (i := 1) rfl; have q2 := hq.cell (i := 2) rfl; have q3 := hq.cell (i := 3) rfl; clear hq; clear hSw; go_simp; try with_reducible rfl)
    simp only [List.getElem_toArray, List.getElem_cons_zero, List.getElem_cons_succ, Act.put, List.setIfInBounds_toArray, List.set_cons_zero, List.set_cons_succ]
    refine wpAnyH_take (i := 6) (v := ?v95) rfl (by kernel_rfl) (by kernel_rfl) (by kernel_rfl) (fun _ _ _ h => h) (Or.inl ⟨by rfl, ?y95⟩) hHeld ?r95
    case y95 => (intro w hSw; have hp := hSw.blk 1 rfl; have p0 := hp.cell (i := 0) rfl; have p1 := hp.cell (i := 1) rfl; have p2 := hp.cell (i := 2) rfl; have p3 := hp.cell (i := 3) rfl; have p4 := hp.cell (i := 4) rfl; clear hp; have hq := hSw.blk 4 rfl; have q0 := hq.cell (i := 0) rfl; have q1 := hq.cell (i := 1) rfl; have q2 := hq.cell (i := 2) rfl; have q3 := hq.cell (i := 3) rfl; clear hq; clear hSw; go_simp; try with_reducible rfl)
    simp only [List.getElem_toArray, List.getElem_cons_zero, List.getElem_cons_succ, Act.put, List.setIfInBounds_toArray, List.set_cons_zero, List.set_cons_succ]
    refine wpAnyH_take (i := 7) (v := ?v96) rfl (by kernel_rfl) (by kernel_rfl) (by kernel_rfl) (fun _ _ _ h => h) (Or.inl ⟨by rfl, ?y96⟩) hHeld ?r96
    case y96 => (intro w hSw; have hp := hSw.blk 1 rfl; have p0 := hp.cell (i := 0) rfl; have p1 := hp.cell (i := 1) rfl; have p2 := hp.cell (i := 2) rfl; have p3 := hp.cell (i := 3) rfl; have p4 := hp.cell (i := 4) rfl; clear hp; have hq := hSw.blk 4 rfl; have q0 := hq.cell (i := 0) rfl; have q1 := hq.cell (i := 1) rfl; have q2 := hq.cell (i := 2) rfl; have q3 := hq.cell (i := 3) rfl; clear hq; clear hSw; go_simp; try with_reducible rfl)
    simp only [List.getElem_toArray, List.getElem_cons_zero, List.getElem_cons_succ, Act.put, List.setIfInBounds_toArray, List.set_cons_zero, List.set_cons_succ]
    refine wpAnyH_take (i := 9) (v := ?v97) rfl (by kernel_rfl) (by kernel_rfl) (by kernel_rfl) (fun _ _ _ h => h) (Or.inl ⟨by rfl, ?y97⟩) hHeld ?r97
    case y97 => (intro w hSw; have hp := hSw.blk 1 rfl; have p0 := hp.cell (i := 0) rfl; have p1 := hp.cell (i := 1) rfl; have p2 := hp.cell (i := 2) rfl; have p3 := hp.cell (i := 3) rfl; have p4 := hp.cell (i := 4) rfl; clear hp; have hq := hSw.blk 4 rfl; have q0 := hq.cell (i := 0) rfl; have q1 := hq.cell (i := 1) rfl; have q2 := hq.cell (i := 2) rfl; have q3 := hq.cell (i := 3) rfl; clear hq; clear hSw; go_simp; try with_reducible rfl)
    simp only [List.getElem_toArray, List.getElem_cons_zero, List.getElem_cons_succ, Act.put, List.setIfInBounds_toArray, List.set_cons_zero, List.set_cons_succ]
    refine wpAnyH_take (i := 10) (v := ?v98) rfl (by kernel_rfl) (by kernel_rfl) (by kernel_rfl) (fun _ _ _ h => h) (Or.inl ⟨by rfl, ?y98⟩) hHeld ?r98
    case y98 => (intro w hSw; have hp := hSw.blk 1 rfl; have p0 := hp.cell (i := 0) rfl; have p1 := hp.cell (i := 1) rfl; have p2 := hp.cell (i := 2) rfl; have p3 := hp.cell (i := 3) rfl; have p4 := hp.cell (i := 4) rfl; clear hp; have hq := hSw.blk 4 rfl; have q0 := hq.cell (i := 0) rfl; have q1 := hq.cell (i := 1) rfl; have q2 := hq.cell (i := 2) rfl; have q3 := hq.cell (i := 3) rfl; clear hq; clear hSw; go_simp; try with_reducible rfl)
    simp only [List.getElem_toArray, List.getElem_cons_zero, List.getElem_cons_succ, Act.put, List.setIfInBounds_toArray, List.set_cons_zero, List.set_cons_succ]
    refine wpAnyH_take (i := 11) (v := ?v99) rfl (by kernel_rfl) (by kernel_rfl) (by kernel_rfl) (fun _ _ _ h => h) (Or.inl ⟨by rfl, ?y99⟩) hHeld ?r99
    case y99 => (intro w hSw; have hp := hSw.blk 1 rfl; have p0 := hp.cell (i := 0) rfl; have p1 := hp.cell (i := 1) rfl; have p2 := hp.cell (i := 2) rfl; have p3 := hp.cell (i := 3) rfl; have p4 := hp.cell (i := 4) rfl; clear hp; have hq := hSw.blk 4 rfl; have q0 := hq.cell (i := 0) rfl; have q1 := hq.cell (i := 1) rfl; have q2 := hq.cell (i := 2) rfl; have q3 := hq.cell (i := 3) rfl; clear hq; clear hSw; go_simp; try with_reducible rfl)
    simp only [List.getElem_toArray, List.getElem_cons_zero, List.getElem_cons_succ, Act.put, List.setIfInBounds_toArray, List.set_cons_zero, List.set_cons_succ]
    refine wpAnyH_ready (rs := [8, 14]) (by kernel_rfl) (by simp) (AllReadyH.cons rfl (fun K hK => ?_) (AllReadyH.cons rfl (fun K hK => ?_) AllReadyH.nil))
    · go_simp
      refine (HatB.out _).mono ?_
      rintro e V1 ⟨rfl, hb1⟩
      have Z1 := Lib.hid (Xd.out.next hb1)
      go_wp2_with fail
      refine hK.out _ _ (Z1.out) (fun hHeld => ?_)
      clear hK K
      refine wpAnyH_take (i := 12) (v := .int .i64 (vb + x1)) rfl (by kernel_rfl) (by kernel_rfl) (by kernel_rfl) (fun _ _ _ h => h) (Or.inl ⟨by rfl, ?y101⟩) hHeld ?r101
      case y101 => (intro w hSw; have hp := hSw.blk 1 rfl; have p0 := hp.cell (i := 0) rfl; have p1 := hp.cell (i := 1) rfl; have p2 := hp.cell (i := 2) rfl; have p3 := hp.cell (i := 3) rfl; have p4 := hp.cell (i := 4) rfl; clear hp; have hq := hSw.blk 4 rfl; have q0 := hq.cell (i := 0) rfl; have q1 := hq.cell (i := 1) rfl; have q2 := hq.cell (i := 2) rfl; have q3 := hq.cell (i := 3) rfl; clear hq; clear hSw; go_simp; try with_reducible rfl)
      simp only [List.getElem_toArray, List.getElem_cons_zero, List.getElem_cons_succ, Act.put, List.setIfInBounds_toArray, List.set_cons_zero, List.set_cons_succ]
      refine wpAnyH_take (i := 13) (v := ?v102) rfl (by kernel_rfl) (by kernel_rfl) (by kernel_rfl) (fun _ _ _ h => h) (Or.inl ⟨by rfl, ?y102⟩) hHeld ?r102
      case y102 => (intro w hSw; have hp := hSw.blk 1 rfl; have p0 := hp.cell (i := 0) rfl; have p1 := hp.cell (i := 1) rfl; have p2 := hp.cell (i := 2) rfl; have p3 := hp.cell (i := 3) rfl; have p4 := hp.cell (i := 4) rfl; clear hp; have hq := hSw.blk 4 rfl; have q0 := hq.cell (i := 0) rfl; have q1 := hq.cell (i := 1) rfl; have q2 := hq.cell (i := 2) rfl; have q3 := hq.cell (i := 3) rfl; clear hq; clear hSw; go_simp; try with_reducible rfl)
      simp only [List.getElem_toArray, List.getElem_cons_zero, List.getElem_cons_succ, Act.put, List.setIfInBounds_toArray, List.set_cons_zero, List.set_cons_succ]
      refine wpAnyH_ready (rs := [14]) (by kernel_rfl) (by simp) (AllReadyH.cons rfl (fun K hK => ?_) AllReadyH.nil)
      go_simp
      have hS4 := Z1.out.next ((Below.refl _ _).alloc (Nat.le_refl _) (.cells #[.int .i64 0, .int .i64 0, .int .i64 0] 55))
      refine hK.out _ _ (hS4) (fun hHeld => ?_)
      clear hK K
      refine wpAnyH_ready (rs := [15]) (by kernel_rfl) (by simp) (AllReadyH.cons rfl (fun K hK => ?_) AllReadyH.nil)
      go_simp
      go_wp2_with fail
      have hS5 := Z1.out.new #[.int .i64 o1, .int .i64 (o1 + 1), .int .i64 (vb + x1)] 55
      refine hK.out _ _ (hS5.drop 1 rfl) (fun hHeld => ?_)
      clear hK K
      refine wpAnyH_done (by kernel_rfl) ?_ _
      go_wp2_with fail
      go_meet
      exact ⟨_, rfl, hS5⟩
    · go_simp
      have hS4 := Xd.out.next ((Below.refl _ _).alloc (Nat.le_refl _) (.cells #[.int .i64 0, .int .i64 0, .int .i64 0] 55))
      refine hK.out _ _ (hS4) (fun hHeld => ?_)
      clear hK K
      refine wpAnyH_ready (rs := [8]) (by kernel_rfl) (by simp) (AllReadyH.cons rfl (fun K hK => ?_) AllReadyH.nil)
      go_simp
      refine (HatB.out _).mono ?_
      rintro e V1 ⟨rfl, hb1⟩
      have hN3 : Blk V1 WW.heap.size [.int .i64 0, .int .i64 0, .int .i64 0] := (Blk.new WW.drew #[.int .i64 0, .int .i64 0, .int .i64 0] 55).low hb1
      have r40 := hN3.cell (i := 0) rfl
      have z40 := hN3.frozen 0
      have r41 := hN3.cell (i := 1) rfl
      have z41 := hN3.frozen 1
      have r42 := hN3.cell (i := 2) rfl
      have z42 := hN3.frozen 2
      have Z1 := Lib.hid (hS4.next hb1)
      go_wp2_with fail
      refine hK.out _ _ (Z1.out) (fun hHeld => ?_)
      clear hK K
      refine wpAnyH_take (i := 12) (v := .int .i64 (vb + x1)) rfl (by kernel_rfl) (by kernel_rfl) (by kernel_rfl) (fun _ _ _ h => h) (Or.inl ⟨by rfl, ?y106⟩) hHeld ?r106
      case y106 => (intro w hSw; have hp := hSw.blk 1 rfl; have p0 := hp.cell (i := 0) rfl; have p1 := hp.cell (i := 1) rfl; have p2 := hp.cell (i := 2) rfl; have p3 := hp.cell (i := 3) rfl; have p4 := hp.cell (i := 4) rfl; clear hp; have hq := hSw.blk 4 rfl; have q0 := hq.cell (i := 0) rfl; have q1 := hq.cell (i := 1) rfl; have q2 := hq.cell (i := 2) rfl; have q3 := hq.cell (i := 3) rfl; clear hq; clear hSw; go_simp; try with_reducible rfl)
      simp only [List.getElem_toArray, List.getElem_cons_zero, List.getElem_cons_succ, Act.put, List.setIfInBounds_toArray, List.set_cons_zero, List.set_cons_succ]
      refine wpAnyH_take (i := 13) (v := ?v107) rfl (by kernel_rfl) (by kernel_rfl) (by kernel_rfl) (fun _ _ _ h => h) (Or.inl ⟨by rfl, ?y107⟩) hHeld ?r107
      case y107 => (intro w hSw; have hp := hSw.blk 1 rfl; have p0 := hp.cell (i := 0) rfl; have p1 := hp.cell (i := 1) rfl; have p2 := hp.cell (i := 2) rfl; have p3 := hp.cell (i := 3) rfl; have p4 := hp.cell (i := 4) rfl; clear hp; have hq := hSw.blk 4 rfl; have q0 := hq.cell (i := 0) rfl; have q1 := hq.cell (i := 1) rfl; have q2 := hq.cell (i := 2) rfl; have q3 := hq.cell (i := 3) rfl; clear hq; clear hSw; go_simp; try with_reducible rfl)
      simp only [List.getElem_toArray, List.getElem_cons_zero, List.getElem_cons_succ, Act.put, List.setIfInBounds_toArray, List.set_cons_zero, List.set_cons_succ]
      refine wpAnyH_ready (rs := [15]) (by kernel_rfl) (by simp) (AllReadyH.cons rfl (fun K hK => ?_) AllReadyH.nil)
      go_simp
      go_wp2_with fail
      have hS5 : AK w (some ⟨b, off, none⟩) (spots (1 + L) l) ((WW.heap.size, [.int .i64 o1, .int .i64 (o1 + 1), .int .i64 (vb + x1)]) :: ((M, [.int .i64 o0, .int .i64 (o0 + 1), .int .i64 (va + x0)]) :: (BQ T R L a cap l g0 g1 x0 x1 (i : Int) (j : Int) w P (some ⟨b, off, none⟩) ca A B o0 w0 d0 o1 w1 d1))) (((V1.setCell ⟨WW.heap.size, 0, none⟩ (.int .i64 o1)).setCell ⟨WW.heap.size, 1, none⟩ (.int .i64 (o1 + 1))).setCell ⟨WW.heap.size, 2, none⟩ (.int .i64 (vb + x1))) := Xd.out.three (.int .i64 0) (.int .i64 0) (.int .i64 0) (.int .i64 o1) (.int .i64 (o1 + 1)) (.int .i64 (vb + x1)) 55 hb1
      refine hK.out _ _ (hS5.drop 1 rfl) (fun hHeld => ?_)
      clear hK K
      refine wpAnyH_done (by kernel_rfl) ?_ _
      go_wp2_with fail
      go_meet
      exact ⟨_, rfl, hS5⟩
  obtain ⟨N, rfl, hcut⟩ := hcut
  have XN := Lib.hid hcut
  clear hcut XM
  generalize wc = WW at *
  have Hw := Lib.hid (fun (p : Int) V h => whose_of hL1 hL64 hl64 Hall.out (tot (1 + L) l) p (some ⟨b, off, none⟩) ca V h)
  have Hfa : ∀ (r : Nat) (v : Int), [o0, o0 + 1, va + x0][r]? = some v → wv L l v = i ∧ v < tot (1 + L) l ∧ 1 + L ≤ v := fun r v hv => by
    rw [← Hv.out.1, ← Hoo.out.1] at hv
    exact lw_facts hL1 Hall.out Ho.out.1 (by omega) Ho.out.2.2.2.2.1.2 hg0 xa1 Hxx.out.1 hv
  have Hfb : ∀ (r : Nat) (v : Int), [o1, o1 + 1, vb + x1][r]? = some v → wv L l v = j ∧ v < tot (1 + L) l ∧ 1 + L ≤ v := fun r v hv => by
    rw [← Hv.out.2, ← Hoo.out.2] at hv
    exact lw_facts hL1 Hall.out Ho.out.2.1 (by omega) Ho.out.2.2.2.2.2.2 hg1 xb1 Hxx.out.2.1 hv
  have hneq : ∀ (r k : Nat) (v v' : Int), [o0, o0 + 1, va + x0][r]? = some v → [o1, o1 + 1, vb + x1][k]? = some v' → ¬ i = j → v ≠ v' := fun r k v v' h1 h2 h3 e => by
    have e1 := (Hfa r v h1).1
    have e2 := (Hfb k v' h2).1
    rw [e, e2] at e1
    omega
  have heqq : i = j → ∀ (r k : Nat) (v v' : Int), [o0, o0 + 1, va + x0][r]? = some v → [o1, o1 + 1, vb + x1][k]? = some v' → (v = v' ↔ r = k ∧ (r < 2 ∨ x0 = x1 ∧ g0 % d0 = g1 % d0)) := fun hij r k v v' h1 h2 => by
    have ht : ((n0, w0, d0) : Tp) = (n1, w1, d1) := by
      have a1 := Ho.out.1
      rw [hij, Ho.out.2.1] at a1
      exact (Option.some.inj a1).symm
    have ho : o0 = o1 := by rw [← Hoo.out.1, ← Hoo.out.2, hij]
    simp only [Prod.mk.injEq] at ht
    obtain ⟨_, rfl, rfl⟩ := ht
    subst ho
    rw [← Hv.out.1] at h1
    rw [← Hv.out.2] at h2
    have hz := Hoz.out
    exact lw_same (t := (n0, w0, d0)) Ho.out.2.2.1 (by omega) (by omega) hg0 hg1 xa1 Hxx.out.1 xb1 Hxx.out.2.1 h1 h2
  have HFa := Lib.hid Hfa
  have Hne := Lib.hid hneq
  have Heq := Lib.hid heqq
  have dd1 : 1 ≤ d0 := Hxx.out.2.2.1.2.2.1
  have dd2 : d0 ≤ 16 := Hxx.out.2.2.1.2.2.2.1
  obtain ⟨rm1, rm2, rm3⟩ := rem_fits (d := d0) hg0 dd1 (by omega)
  obtain ⟨rm4, rm5, rm6⟩ := rem_fits (d := d0) hg1 dd1 (by omega)
  clear Hfa Hfb hneq heqq hwA hwB HatA HatB
  clear my0 my1 my2 my3 hHeld
  go_wp2_with fail
  go_loopw [13] (RelAo w (some ⟨b, off, none⟩) (spots (1 + L) l) ((N, [.int .i64 o1, .int .i64 (o1 + 1), .int .i64 (vb + x1)]) :: (M, [.int .i64 o0, .int .i64 (o0 + 1), .int .i64 (va + x0)]) :: (BQ T R L a cap l g0 g1 x0 x1 (i : Int) (j : Int) w P (some ⟨b, off, none⟩) ca A B o0 w0 d0 o1 w1 d1))) (fun i _ => 3 - (intOf i).toNat)
  case atStart => exact ⟨0, by omega, rfl, XN.out⟩
  case round =>
    clear XN
    obtain ⟨r, hr, rfl, hK⟩ := hrel
    by_cases hr3 : r < 3
    · have r0 : decide ((r : Int) < 3) = true := decide_eq_true (by omega)
      have rr : (r : Int) < 3 := by omega
      obtain ⟨v, hv⟩ : ∃ v, [o0, o0 + 1, va + x0][r]? = some v := ⟨_, List.getElem?_eq_getElem hr3⟩
      have hfa := HFa.out r v hv
      have Hf := Lib.hid hfa
      have Hrv := Lib.hid hv
      have Hr := Lib.hid (And.intro (icl_at hv) (show (icl [o0, o0 + 1, va + x0])[0 + r]? = some (.int .i64 v) by rw [Nat.zero_add]; exact icl_at hv))
      have n0' : decide (v < 0) = false := decide_eq_false (by omega)
      have n1' : decide (tot (1 + L) l ≤ v) = false := decide_eq_false (by omega)
      have n2' : ((i : Int) != (i : Int)) = false := by simp
      have n3' : (v == 0) = false := by rw [beq_eq_false_iff_ne]; omega
      have n4' : (v == env 1 L g1) = false := by rw [beq_eq_false_iff_ne]; have := Henv.out g1 hg1; omega
      have Xd := Lib.hid (hK.drewN 1)
      clear hfa hv hK
      go_wp2_with fail
      refine wp_region_held_drew (S := AK w (some ⟨b, off, none⟩) (spots (1 + L) l) ((N, [.int .i64 o1, .int .i64 (o1 + 1), .int .i64 (vb + x1)]) :: (M, [.int .i64 o0, .int .i64 (o0 + 1), .int .i64 (va + x0)]) :: (BQ T R L a cap l g0 g1 x0 x1 (i : Int) (j : Int) w P (some ⟨b, off, none⟩) ca A B o0 w0 d0 o1 w1 d1))) (by kernel_rfl) (Xd.out) (fun hHeld => ?_)
      refine wpAnyH_take (i := 0) (v := ?v28) rfl (by kernel_rfl) (by kernel_rfl) (by kernel_rfl) (fun _ _ _ h => h) (Or.inl ⟨by rfl, ?y28⟩) hHeld ?r28
      case y28 => (intro w hSw; have hp := hSw.blk 4 rfl; have p0 := hp.cell (i := 0) rfl; have p1 := hp.cell (i := 1) rfl; have p2 := hp.cell (i := 2) rfl; have p3 := hp.cell (i := 3) rfl; have p4 := hp.cell (i := 4) rfl; clear hp; have hq := hSw.blk 5 rfl; have q0 := hq.cell (i := 0) rfl; have q1 := hq.cell (i := 1) rfl; have q2 := hq.cell (i := 2) rfl; have q3 := hq.cell (i := 3) rfl; clear hq; have hf := hSw.blk 6 rfl; have f0 := hf.cell (i := 0) rfl; have f1 := hf.cell (i := 1) rfl; clear hf; have lr := (hSw.blk 1 rfl).cell Hr.out.1; have lr' := (hSw.blk 1 rfl).cell Hr.out.2; clear hSw; go_simp; try with_reducible rfl)
      simp only [List.getElem_toArray, List.getElem_cons_zero, Act.put, List.setIfInBounds_toArray, List.set_cons_zero, List.set_cons_succ]
      refine wpAnyH_take (i := 1) (v := ?v29) rfl (by kernel_rfl) (by kernel_rfl) (by kernel_rfl) (fun _ _ _ h => h) (Or.inl ⟨by rfl, ?y29⟩) hHeld ?r29
      case y29 => (intro w hSw; have hp := hSw.blk 4 rfl; have p0 := hp.cell (i := 0) rfl; have p1 := hp.cell (i := 1) rfl; have p2 := hp.cell (i := 2) rfl; have p3 := hp.cell (i := 3) rfl; have p4 := hp.cell (i := 4) rfl; clear hp; have hq := hSw.blk 5 rfl; have q0 := hq.cell (i := 0) rfl; have q1 := hq.cell (i := 1) rfl; have q2 := hq.cell (i := 2) rfl; have q3 := hq.cell (i := 3) rfl; clear hq; have hf := hSw.blk 6 rfl; have f0 := hf.cell (i := 0) rfl; have f1 := hf.cell (i := 1) rfl; clear hf; have lr := (hSw.blk 1 rfl).cell Hr.out.1; have lr' := (hSw.blk 1 rfl).cell Hr.out.2; clear hSw; go_simp; try with_reducible rfl)
      simp only [List.getElem_toArray, List.getElem_cons_zero, List.getElem_cons_succ, Act.put, List.setIfInBounds_toArray, List.set_cons_zero, List.set_cons_succ]
      refine wpAnyH_take (i := 2) (v := ?v30) rfl (by kernel_rfl) (by kernel_rfl) (by kernel_rfl) (fun _ _ _ h => h) (Or.inl ⟨by rfl, ?y30⟩) hHeld ?r30
      case y30 => (intro w hSw; have hp := hSw.blk 4 rfl; have p0 := hp.cell (i := 0) rfl; have p1 := hp.cell (i := 1) rfl; have p2 := hp.cell (i := 2) rfl; have p3 := hp.cell (i := 3) rfl; have p4 := hp.cell (i := 4) rfl; clear hp; have hq := hSw.blk 5 rfl; have q0 := hq.cell (i := 0) rfl; have q1 := hq.cell (i := 1) rfl; have q2 := hq.cell (i := 2) rfl; have q3 := hq.cell (i := 3) rfl; clear hq; have hf := hSw.blk 6 rfl; have f0 := hf.cell (i := 0) rfl; have f1 := hf.cell (i := 1) rfl; clear hf; have lr := (hSw.blk 1 rfl).cell Hr.out.1; have lr' := (hSw.blk 1 rfl).cell Hr.out.2; clear hSw; go_simp; try with_reducible rfl)
      simp only [List.getElem_toArray, List.getElem_cons_zero, List.getElem_cons_succ, Act.put, List.setIfInBounds_toArray, List.set_cons_zero, List.set_cons_succ]
      refine wpAnyH_take (i := 3) (v := ?v31) rfl (by kernel_rfl) (by kernel_rfl) (by kernel_rfl) (fun _ _ _ h => h) (Or.inl ⟨by rfl, ?y31⟩) hHeld ?r31
      case y31 => (intro w hSw; have hp := hSw.blk 4 rfl; have p0 := hp.cell (i := 0) rfl; have p1 := hp.cell (i := 1) rfl; have p2 := hp.cell (i := 2) rfl; have p3 := hp.cell (i := 3) rfl; have p4 := hp.cell (i := 4) rfl; clear hp; have hq := hSw.blk 5 rfl; have q0 := hq.cell (i := 0) rfl; have q1 := hq.cell (i := 1) rfl; have q2 := hq.cell (i := 2) rfl; have q3 := hq.cell (i := 3) rfl; clear hq; have hf := hSw.blk 6 rfl; have f0 := hf.cell (i := 0) rfl; have f1 := hf.cell (i := 1) rfl; clear hf; have lr := (hSw.blk 1 rfl).cell Hr.out.1; have lr' := (hSw.blk 1 rfl).cell Hr.out.2; clear hSw; go_simp; try with_reducible rfl)
      simp only [List.getElem_toArray, List.getElem_cons_zero, List.getElem_cons_succ, Act.put, List.setIfInBounds_toArray, List.set_cons_zero, List.set_cons_succ]
      refine wpAnyH_take (i := 4) (v := ?v32) rfl (by kernel_rfl) (by kernel_rfl) (by kernel_rfl) (fun _ _ _ h => h) (Or.inl ⟨by rfl, ?y32⟩) hHeld ?r32
      case y32 => (intro w hSw; have hp := hSw.blk 4 rfl; have p0 := hp.cell (i := 0) rfl; have p1 := hp.cell (i := 1) rfl; have p2 := hp.cell (i := 2) rfl; have p3 := hp.cell (i := 3) rfl; have p4 := hp.cell (i := 4) rfl; clear hp; have hq := hSw.blk 5 rfl; have q0 := hq.cell (i := 0) rfl; have q1 := hq.cell (i := 1) rfl; have q2 := hq.cell (i := 2) rfl; have q3 := hq.cell (i := 3) rfl; clear hq; have hf := hSw.blk 6 rfl; have f0 := hf.cell (i := 0) rfl; have f1 := hf.cell (i := 1) rfl; clear hf; have lr := (hSw.blk 1 rfl).cell Hr.out.1; have lr' := (hSw.blk 1 rfl).cell Hr.out.2; clear hSw; go_simp; try with_reducible rfl)
      simp only [List.getElem_toArray, List.getElem_cons_zero, List.getElem_cons_succ, Act.put, List.setIfInBounds_toArray, List.set_cons_zero, List.set_cons_succ]
      refine wpAnyH_take (i := 5) (v := ?v33) rfl (by kernel_rfl) (by kernel_rfl) (by kernel_rfl) (fun _ _ _ h => h) (Or.inl ⟨by rfl, ?y33⟩) hHeld ?r33
      case y33 => (intro w hSw; have hp := hSw.blk 4 rfl; have p0 := hp.cell (i := 0) rfl; have p1 := hp.cell (i := 1) rfl; have p2 := hp.cell (i := 2) rfl; have p3 := hp.cell (i := 3) rfl; have p4 := hp.cell (i := 4) rfl; clear hp; have hq := hSw.blk 5 rfl; have q0 := hq.cell (i := 0) rfl; have q1 := hq.cell (i := 1) rfl; have q2 := hq.cell (i := 2) rfl; have q3 := hq.cell (i := 3) rfl; clear hq; have hf := hSw.blk 6 rfl; have f0 := hf.cell (i := 0) rfl; have f1 := hf.cell (i := 1) rfl; clear hf; have lr := (hSw.blk 1 rfl).cell Hr.out.1; have lr' := (hSw.blk 1 rfl).cell Hr.out.2; clear hSw; go_simp; try with_reducible rfl)
      simp only [List.getElem_toArray, List.getElem_cons_zero, List.getElem_cons_succ, Act.put, List.setIfInBounds_toArray, List.set_cons_zero, List.set_cons_succ]
      refine wpAnyH_take (i := 6) (v := ?v34) rfl (by kernel_rfl) (by kernel_rfl) (by kernel_rfl) (fun _ _ _ h => h) (Or.inl ⟨by rfl, ?y34⟩) hHeld ?r34
      case y34 => (intro w hSw; have hp := hSw.blk 4 rfl; have p0 := hp.cell (i := 0) rfl; have p1 := hp.cell (i := 1) rfl; have p2 := hp.cell (i := 2) rfl; have p3 := hp.cell (i := 3) rfl; have p4 := hp.cell (i := 4) rfl; clear hp; have hq := hSw.blk 5 rfl; have q0 := hq.cell (i := 0) rfl; have q1 := hq.cell (i := 1) rfl; have q2 := hq.cell (i := 2) rfl; have q3 := hq.cell (i := 3) rfl; clear hq; have hf := hSw.blk 6 rfl; have f0 := hf.cell (i := 0) rfl; have f1 := hf.cell (i := 1) rfl; clear hf; have lr := (hSw.blk 1 rfl).cell Hr.out.1; have lr' := (hSw.blk 1 rfl).cell Hr.out.2; clear hSw; go_simp; try with_reducible rfl)
      simp only [List.getElem_toArray, List.getElem_cons_zero, List.getElem_cons_succ, Act.put, List.setIfInBounds_toArray, List.set_cons_zero, List.set_cons_succ]
      refine wpAnyH_take (i := 7) (v := ?v35) rfl (by kernel_rfl) (by kernel_rfl) (by kernel_rfl) (fun _ _ _ h => h) (Or.inl ⟨by rfl, ?y35⟩) hHeld ?r35
      case y35 => (intro w hSw; have hp := hSw.blk 4 rfl; have p0 := hp.cell (i := 0) rfl; have p1 := hp.cell (i := 1) rfl; have p2 := hp.cell (i := 2) rfl; have p3 := hp.cell (i := 3) rfl; have p4 := hp.cell (i := 4) rfl; clear hp; have hq := hSw.blk 5 rfl; have q0 := hq.cell (i := 0) rfl; have q1 := hq.cell (i := 1) rfl; have q2 := hq.cell (i := 2) rfl; have q3 := hq.cell (i := 3) rfl; clear hq; have hf := hSw.blk 6 rfl; have f0 := hf.cell (i := 0) rfl; have f1 := hf.cell (i := 1) rfl; clear hf; have lr := (hSw.blk 1 rfl).cell Hr.out.1; have lr' := (hSw.blk 1 rfl).cell Hr.out.2; clear hSw; go_simp; try with_reducible rfl)
      simp only [List.getElem_toArray, List.getElem_cons_zero, List.getElem_cons_succ, Act.put, List.setIfInBounds_toArray, List.set_cons_zero, List.set_cons_succ]
      refine wpAnyH_take (i := 8) (v := ?v36) rfl (by kernel_rfl) (by kernel_rfl) (by kernel_rfl) (fun _ _ _ h => h) (Or.inl ⟨by rfl, ?y36⟩) hHeld ?r36
      case y36 => (intro w hSw; have hp := hSw.blk 4 rfl; have p0 := hp.cell (i := 0) rfl; have p1 := hp.cell (i := 1) rfl; have p2 := hp.cell (i := 2) rfl; have p3 := hp.cell (i := 3) rfl; have p4 := hp.cell (i := 4) rfl; clear hp; have hq := hSw.blk 5 rfl; have q0 := hq.cell (i := 0) rfl; have q1 := hq.cell (i := 1) rfl; have q2 := hq.cell (i := 2) rfl; have q3 := hq.cell (i := 3) rfl; clear hq; have hf := hSw.blk 6 rfl; have f0 := hf.cell (i := 0) rfl; have f1 := hf.cell (i := 1) rfl; clear hf; have lr := (hSw.blk 1 rfl).cell Hr.out.1; have lr' := (hSw.blk 1 rfl).cell Hr.out.2; clear hSw; go_simp; try with_reducible rfl)
      simp only [List.getElem_toArray, List.getElem_cons_zero, List.getElem_cons_succ, Act.put, List.setIfInBounds_toArray, List.set_cons_zero, List.set_cons_succ]
      refine wpAnyH_take (i := 9) (v := ?v37) rfl (by kernel_rfl) (by kernel_rfl) (by kernel_rfl) (fun _ _ _ h => h) (Or.inl ⟨by rfl, ?y37⟩) hHeld ?r37
      case y37 => (intro w hSw; have hp := hSw.blk 4 rfl; have p0 := hp.cell (i := 0) rfl; have p1 := hp.cell (i := 1) rfl; have p2 := hp.cell (i := 2) rfl; have p3 := hp.cell (i := 3) rfl; have p4 := hp.cell (i := 4) rfl; clear hp; have hq := hSw.blk 5 rfl; have q0 := hq.cell (i := 0) rfl; have q1 := hq.cell (i := 1) rfl; have q2 := hq.cell (i := 2) rfl; have q3 := hq.cell (i := 3) rfl; clear hq; have hf := hSw.blk 6 rfl; have f0 := hf.cell (i := 0) rfl; have f1 := hf.cell (i := 1) rfl; clear hf; have lr := (hSw.blk 1 rfl).cell Hr.out.1; have lr' := (hSw.blk 1 rfl).cell Hr.out.2; clear hSw; go_simp; try with_reducible rfl)
      simp only [List.getElem_toArray, List.getElem_cons_zero, List.getElem_cons_succ, Act.put, List.setIfInBounds_toArray, List.set_cons_zero, List.set_cons_succ]
      refine wpAnyH_take (i := 10) (v := ?v38) rfl (by kernel_rfl) (by kernel_rfl) (by kernel_rfl) (fun _ _ _ h => h) (Or.inl ⟨by rfl, ?y38⟩) hHeld ?r38
      case y38 => (intro w hSw; have hp := hSw.blk 4 rfl; have p0 := hp.cell (i := 0) rfl; have p1 := hp.cell (i := 1) rfl; have p2 := hp.cell (i := 2) rfl; have p3 := hp.cell (i := 3) rfl; have p4 := hp.cell (i := 4) rfl; clear hp; have hq := hSw.blk 5 rfl; have q0 := hq.cell (i := 0) rfl; have q1 := hq.cell (i := 1) rfl; have q2 := hq.cell (i := 2) rfl; have q3 := hq.cell (i := 3) rfl; clear hq; have hf := hSw.blk 6 rfl; have f0 := hf.cell (i := 0) rfl; have f1 := hf.cell (i := 1) rfl; clear hf; have lr := (hSw.blk 1 rfl).cell Hr.out.1; have lr' := (hSw.blk 1 rfl).cell Hr.out.2; clear hSw; go_simp; try with_reducible rfl)
      simp only [List.getElem_toArray, List.getElem_cons_zero, List.getElem_cons_succ, Act.put, List.setIfInBounds_toArray, List.set_cons_zero, List.set_cons_succ]
      refine wpAnyH_take (i := 11) (v := ?v39) rfl (by kernel_rfl) (by kernel_rfl) (by kernel_rfl) (fun _ _ _ h => h) (Or.inl ⟨by rfl, ?y39⟩) hHeld ?r39
      case y39 => (intro w hSw; have hp := hSw.blk 4 rfl; have p0 := hp.cell (i := 0) rfl; have p1 := hp.cell (i := 1) rfl; have p2 := hp.cell (i := 2) rfl; have p3 := hp.cell (i := 3) rfl; have p4 := hp.cell (i := 4) rfl; clear hp; have hq := hSw.blk 5 rfl; have q0 := hq.cell (i := 0) rfl; have q1 := hq.cell (i := 1) rfl; have q2 := hq.cell (i := 2) rfl; have q3 := hq.cell (i := 3) rfl; clear hq; have hf := hSw.blk 6 rfl; have f0 := hf.cell (i := 0) rfl; have f1 := hf.cell (i := 1) rfl; clear hf; have lr := (hSw.blk 1 rfl).cell Hr.out.1; have lr' := (hSw.blk 1 rfl).cell Hr.out.2; clear hSw; go_simp; try with_reducible rfl)
      simp only [List.getElem_toArray, List.getElem_cons_zero, List.getElem_cons_succ, Act.put, List.setIfInBounds_toArray, List.set_cons_zero, List.set_cons_succ]
      refine wpAnyH_take (i := 12) (v := ?v40) rfl (by kernel_rfl) (by kernel_rfl) (by kernel_rfl) (fun _ _ _ h => h) (Or.inl ⟨by rfl, ?y40⟩) hHeld ?r40
      case y40 => (intro w hSw; have hp := hSw.blk 4 rfl; have p0 := hp.cell (i := 0) rfl; have p1 := hp.cell (i := 1) rfl; have p2 := hp.cell (i := 2) rfl; have p3 := hp.cell (i := 3) rfl; have p4 := hp.cell (i := 4) rfl; clear hp; have hq := hSw.blk 5 rfl; have q0 := hq.cell (i := 0) rfl; have q1 := hq.cell (i := 1) rfl; have q2 := hq.cell (i := 2) rfl; have q3 := hq.cell (i := 3) rfl; clear hq; have hf := hSw.blk 6 rfl; have f0 := hf.cell (i := 0) rfl; have f1 := hf.cell (i := 1) rfl; clear hf; have lr := (hSw.blk 1 rfl).cell Hr.out.1; have lr' := (hSw.blk 1 rfl).cell Hr.out.2; clear hSw; go_simp; try with_reducible rfl)
      simp only [List.getElem_toArray, List.getElem_cons_zero, List.getElem_cons_succ, Act.put, List.setIfInBounds_toArray, List.set_cons_zero, List.set_cons_succ]
      refine wpAnyH_take (i := 13) (v := ?v41) rfl (by kernel_rfl) (by kernel_rfl) (by kernel_rfl) (fun _ _ _ h => h) (Or.inl ⟨by rfl, ?y41⟩) hHeld ?r41
      case y41 => (intro w hSw; have hp := hSw.blk 4 rfl; have p0 := hp.cell (i := 0) rfl; have p1 := hp.cell (i := 1) rfl; have p2 := hp.cell (i := 2) rfl; have p3 := hp.cell (i := 3) rfl; have p4 := hp.cell (i := 4) rfl; clear hp; have hq := hSw.blk 5 rfl; have q0 := hq.cell (i := 0) rfl; have q1 := hq.cell (i := 1) rfl; have q2 := hq.cell (i := 2) rfl; have q3 := hq.cell (i := 3) rfl; clear hq; have hf := hSw.blk 6 rfl; have f0 := hf.cell (i := 0) rfl; have f1 := hf.cell (i := 1) rfl; clear hf; have lr := (hSw.blk 1 rfl).cell Hr.out.1; have lr' := (hSw.blk 1 rfl).cell Hr.out.2; clear hSw; go_simp; try with_reducible rfl)
      simp only [List.getElem_toArray, List.getElem_cons_zero, List.getElem_cons_succ, Act.put, List.setIfInBounds_toArray, List.set_cons_zero, List.set_cons_succ]
      refine wpAnyH_take (i := 14) (v := ?v42) rfl (by kernel_rfl) (by kernel_rfl) (by kernel_rfl) (fun _ _ _ h => h) (Or.inl ⟨by rfl, ?y42⟩) hHeld ?r42
      case y42 => (intro w hSw; have hp := hSw.blk 4 rfl; have p0 := hp.cell (i := 0) rfl; have p1 := hp.cell (i := 1) rfl; have p2 := hp.cell (i := 2) rfl; have p3 := hp.cell (i := 3) rfl; have p4 := hp.cell (i := 4) rfl; clear hp; have hq := hSw.blk 5 rfl; have q0 := hq.cell (i := 0) rfl; have q1 := hq.cell (i := 1) rfl; have q2 := hq.cell (i := 2) rfl; have q3 := hq.cell (i := 3) rfl; clear hq; have hf := hSw.blk 6 rfl; have f0 := hf.cell (i := 0) rfl; have f1 := hf.cell (i := 1) rfl; clear hf; have lr := (hSw.blk 1 rfl).cell Hr.out.1; have lr' := (hSw.blk 1 rfl).cell Hr.out.2; clear hSw; go_simp; try with_reducible rfl)
      simp only [List.getElem_toArray, List.getElem_cons_zero, List.getElem_cons_succ, Act.put, List.setIfInBounds_toArray, List.set_cons_zero, List.set_cons_succ]
      refine wpAnyH_take (i := 15) (v := ?v43) rfl (by kernel_rfl) (by kernel_rfl) (by kernel_rfl) (fun _ _ _ h => h) (Or.inl ⟨by rfl, ?y43⟩) hHeld ?r43
      case y43 => (intro w hSw; have hp := hSw.blk 4 rfl; have p0 := hp.cell (i := 0) rfl; have p1 := hp.cell (i := 1) rfl; have p2 := hp.cell (i := 2) rfl; have p3 := hp.cell (i := 3) rfl; have p4 := hp.cell (i := 4) rfl; clear hp; have hq := hSw.blk 5 rfl; have q0 := hq.cell (i := 0) rfl; have q1 := hq.cell (i := 1) rfl; have q2 := hq.cell (i := 2) rfl; have q3 := hq.cell (i := 3) rfl; clear hq; have hf := hSw.blk 6 rfl; have f0 := hf.cell (i := 0) rfl; have f1 := hf.cell (i := 1) rfl; clear hf; have lr := (hSw.blk 1 rfl).cell Hr.out.1; have lr' := (hSw.blk 1 rfl).cell Hr.out.2; clear hSw; go_simp; try with_reducible rfl)
      simp only [List.getElem_toArray, List.getElem_cons_zero, List.getElem_cons_succ, Act.put, List.setIfInBounds_toArray, List.set_cons_zero, List.set_cons_succ]
      refine wpAnyH_take (i := 16) (v := ?v44) rfl (by kernel_rfl) (by kernel_rfl) (by kernel_rfl) (fun _ _ _ h => h) (Or.inl ⟨by rfl, ?y44⟩) hHeld ?r44
      case y44 => (intro w hSw; have hp := hSw.blk 4 rfl; have p0 := hp.cell (i := 0) rfl; have p1 := hp.cell (i := 1) rfl; have p2 := hp.cell (i := 2) rfl; have p3 := hp.cell (i := 3) rfl; have p4 := hp.cell (i := 4) rfl; clear hp; have hq := hSw.blk 5 rfl; have q0 := hq.cell (i := 0) rfl; have q1 := hq.cell (i := 1) rfl; have q2 := hq.cell (i := 2) rfl; have q3 := hq.cell (i := 3) rfl; clear hq; have hf := hSw.blk 6 rfl; have f0 := hf.cell (i := 0) rfl; have f1 := hf.cell (i := 1) rfl; clear hf; have lr := (hSw.blk 1 rfl).cell Hr.out.1; have lr' := (hSw.blk 1 rfl).cell Hr.out.2; clear hSw; go_simp; try with_reducible rfl)
      simp only [List.getElem_toArray, List.getElem_cons_zero, List.getElem_cons_succ, Act.put, List.setIfInBounds_toArray, List.set_cons_zero, List.set_cons_succ]
      refine wpAnyH_take (i := 18) (v := ?v45) rfl (by kernel_rfl) (by kernel_rfl) (by kernel_rfl) (fun _ _ _ h => h) (Or.inl ⟨by rfl, ?y45⟩) hHeld ?r45
      case y45 => (intro w hSw; have hp := hSw.blk 4 rfl; have p0 := hp.cell (i := 0) rfl; have p1 := hp.cell (i := 1) rfl; have p2 := hp.cell (i := 2) rfl; have p3 := hp.cell (i := 3) rfl; have p4 := hp.cell (i := 4) rfl; clear hp; have hq := hSw.blk 5 rfl; have q0 := hq.cell (i := 0) rfl; have q1 := hq.cell (i := 1) rfl; have q2 := hq.cell (i := 2) rfl; have q3 := hq.cell (i := 3) rfl; clear hq; have hf := hSw.blk 6 rfl; have f0 := hf.cell (i := 0) rfl; have f1 := hf.cell (i := 1) rfl; clear hf; have lr := (hSw.blk 1 rfl).cell Hr.out.1; have lr' := (hSw.blk 1 rfl).cell Hr.out.2; clear hSw; go_simp; try with_reducible rfl)
      simp only [List.getElem_toArray, List.getElem_cons_zero, List.getElem_cons_succ, Act.put, List.setIfInBounds_toArray, List.set_cons_zero, List.set_cons_succ]
      refine wpAnyH_take (i := 19) (v := ?v46) rfl (by kernel_rfl) (by kernel_rfl) (by kernel_rfl) (fun _ _ _ h => h) (Or.inl ⟨by rfl, ?y46⟩) hHeld ?r46
      case y46 => (intro w hSw; have hp := hSw.blk 4 rfl; have p0 := hp.cell (i := 0) rfl; have p1 := hp.cell (i := 1) rfl; have p2 := hp.cell (i := 2) rfl; have p3 := hp.cell (i := 3) rfl; have p4 := hp.cell (i := 4) rfl; clear hp; have hq := hSw.blk 5 rfl; have q0 := hq.cell (i := 0) rfl; have q1 := hq.cell (i := 1) rfl; have q2 := hq.cell (i := 2) rfl; have q3 := hq.cell (i := 3) rfl; clear hq; have hf := hSw.blk 6 rfl; have f0 := hf.cell (i := 0) rfl; have f1 := hf.cell (i := 1) rfl; clear hf; have lr := (hSw.blk 1 rfl).cell Hr.out.1; have lr' := (hSw.blk 1 rfl).cell Hr.out.2; clear hSw; go_simp; try with_reducible rfl)
      simp only [List.getElem_toArray, List.getElem_cons_zero, List.getElem_cons_succ, Act.put, List.setIfInBounds_toArray, List.set_cons_zero, List.set_cons_succ]
      refine wpAnyH_ready (rs := [17]) (by kernel_rfl) (by simp) (AllReadyH.cons rfl (fun K hK => ?_) AllReadyH.nil)
      go_simp
      refine (Hw.out v _ Xd.out.2.1).mono ?_
      rintro e V1 ⟨rfl, hb1⟩
      rw [Hf.out.1]
      have Z1 := Lib.hid (Xd.out.next hb1)
      clear hb1
      go_wp2_with fail
      refine hK.out _ _ (Z1.out) (fun hHeld => ?_)
      clear hK K
      refine wpAnyH_take (i := 20) (v := ?v48) rfl (by kernel_rfl) (by kernel_rfl) (by kernel_rfl) (fun _ _ _ h => h) (Or.inl ⟨by rfl, ?y48⟩) hHeld ?r48
      case y48 => (intro w hSw; have hp := hSw.blk 4 rfl; have p0 := hp.cell (i := 0) rfl; have p1 := hp.cell (i := 1) rfl; have p2 := hp.cell (i := 2) rfl; have p3 := hp.cell (i := 3) rfl; have p4 := hp.cell (i := 4) rfl; clear hp; have hq := hSw.blk 5 rfl; have q0 := hq.cell (i := 0) rfl; have q1 := hq.cell (i := 1) rfl; have q2 := hq.cell (i := 2) rfl; have q3 := hq.cell (i := 3) rfl; clear hq; have hf := hSw.blk 6 rfl; have f0 := hf.cell (i := 0) rfl; have f1 := hf.cell (i := 1) rfl; clear hf; have lr := (hSw.blk 1 rfl).cell Hr.out.1; have lr' := (hSw.blk 1 rfl).cell Hr.out.2; clear hSw; go_simp; try with_reducible rfl)
      simp only [List.getElem_toArray, List.getElem_cons_zero, List.getElem_cons_succ, Act.put, List.setIfInBounds_toArray, List.set_cons_zero, List.set_cons_succ]
      refine wpAnyH_take (i := 21) (v := ?v49) rfl (by kernel_rfl) (by kernel_rfl) (by kernel_rfl) (fun _ _ _ h => h) (Or.inl ⟨by rfl, ?y49⟩) hHeld ?r49
      case y49 => (intro w hSw; have hp := hSw.blk 4 rfl; have p0 := hp.cell (i := 0) rfl; have p1 := hp.cell (i := 1) rfl; have p2 := hp.cell (i := 2) rfl; have p3 := hp.cell (i := 3) rfl; have p4 := hp.cell (i := 4) rfl; clear hp; have hq := hSw.blk 5 rfl; have q0 := hq.cell (i := 0) rfl; have q1 := hq.cell (i := 1) rfl; have q2 := hq.cell (i := 2) rfl; have q3 := hq.cell (i := 3) rfl; clear hq; have hf := hSw.blk 6 rfl; have f0 := hf.cell (i := 0) rfl; have f1 := hf.cell (i := 1) rfl; clear hf; have lr := (hSw.blk 1 rfl).cell Hr.out.1; have lr' := (hSw.blk 1 rfl).cell Hr.out.2; clear hSw; go_simp; try with_reducible rfl)
      simp only [List.getElem_toArray, List.getElem_cons_zero, List.getElem_cons_succ, Act.put, List.setIfInBounds_toArray, List.set_cons_zero, List.set_cons_succ]
      refine wpAnyH_take (i := 22) (v := ?v50) rfl (by kernel_rfl) (by kernel_rfl) (by kernel_rfl) (fun _ _ _ h => h) (Or.inl ⟨by rfl, ?y50⟩) hHeld ?r50
      case y50 => (intro w hSw; have hp := hSw.blk 4 rfl; have p0 := hp.cell (i := 0) rfl; have p1 := hp.cell (i := 1) rfl; have p2 := hp.cell (i := 2) rfl; have p3 := hp.cell (i := 3) rfl; have p4 := hp.cell (i := 4) rfl; clear hp; have hq := hSw.blk 5 rfl; have q0 := hq.cell (i := 0) rfl; have q1 := hq.cell (i := 1) rfl; have q2 := hq.cell (i := 2) rfl; have q3 := hq.cell (i := 3) rfl; clear hq; have hf := hSw.blk 6 rfl; have f0 := hf.cell (i := 0) rfl; have f1 := hf.cell (i := 1) rfl; clear hf; have lr := (hSw.blk 1 rfl).cell Hr.out.1; have lr' := (hSw.blk 1 rfl).cell Hr.out.2; clear hSw; go_simp; try with_reducible rfl)
      simp only [List.getElem_toArray, List.getElem_cons_zero, List.getElem_cons_succ, Act.put, List.setIfInBounds_toArray, List.set_cons_zero, List.set_cons_succ]
      refine wpAnyH_take (i := 23) (v := ?v51) rfl (by kernel_rfl) (by kernel_rfl) (by kernel_rfl) (fun _ _ _ h => h) (Or.inl ⟨by rfl, ?y51⟩) hHeld ?r51
      case y51 => (intro w hSw; have hp := hSw.blk 4 rfl; have p0 := hp.cell (i := 0) rfl; have p1 := hp.cell (i := 1) rfl; have p2 := hp.cell (i := 2) rfl; have p3 := hp.cell (i := 3) rfl; have p4 := hp.cell (i := 4) rfl; clear hp; have hq := hSw.blk 5 rfl; have q0 := hq.cell (i := 0) rfl; have q1 := hq.cell (i := 1) rfl; have q2 := hq.cell (i := 2) rfl; have q3 := hq.cell (i := 3) rfl; clear hq; have hf := hSw.blk 6 rfl; have f0 := hf.cell (i := 0) rfl; have f1 := hf.cell (i := 1) rfl; clear hf; have lr := (hSw.blk 1 rfl).cell Hr.out.1; have lr' := (hSw.blk 1 rfl).cell Hr.out.2; clear hSw; go_simp; try with_reducible rfl)
      simp only [List.getElem_toArray, List.getElem_cons_zero, List.getElem_cons_succ, Act.put, List.setIfInBounds_toArray, List.set_cons_zero, List.set_cons_succ]
      refine wpAnyH_take (i := 24) (v := ?v52) rfl (by kernel_rfl) (by kernel_rfl) (by kernel_rfl) (fun _ _ _ h => h) (Or.inl ⟨by rfl, ?y52⟩) hHeld ?r52
      case y52 => (intro w hSw; have hp := hSw.blk 4 rfl; have p0 := hp.cell (i := 0) rfl; have p1 := hp.cell (i := 1) rfl; have p2 := hp.cell (i := 2) rfl; have p3 := hp.cell (i := 3) rfl; have p4 := hp.cell (i := 4) rfl; clear hp; have hq := hSw.blk 5 rfl; have q0 := hq.cell (i := 0) rfl; have q1 := hq.cell (i := 1) rfl; have q2 := hq.cell (i := 2) rfl; have q3 := hq.cell (i := 3) rfl; clear hq; have hf := hSw.blk 6 rfl; have f0 := hf.cell (i := 0) rfl; have f1 := hf.cell (i := 1) rfl; clear hf; have lr := (hSw.blk 1 rfl).cell Hr.out.1; have lr' := (hSw.blk 1 rfl).cell Hr.out.2; clear hSw; go_simp; try with_reducible rfl)
      simp only [List.getElem_toArray, List.getElem_cons_zero, List.getElem_cons_succ, Act.put, List.setIfInBounds_toArray, List.set_cons_zero, List.set_cons_succ]
      refine wpAnyH_take (i := 25) (v := ?v53) rfl (by kernel_rfl) (by kernel_rfl) (by kernel_rfl) (fun _ _ _ h => h) (Or.inl ⟨by rfl, ?y53⟩) hHeld ?r53
      case y53 => (intro w hSw; have hp := hSw.blk 4 rfl; have p0 := hp.cell (i := 0) rfl; have p1 := hp.cell (i := 1) rfl; have p2 := hp.cell (i := 2) rfl; have p3 := hp.cell (i := 3) rfl; have p4 := hp.cell (i := 4) rfl; clear hp; have hq := hSw.blk 5 rfl; have q0 := hq.cell (i := 0) rfl; have q1 := hq.cell (i := 1) rfl; have q2 := hq.cell (i := 2) rfl; have q3 := hq.cell (i := 3) rfl; clear hq; have hf := hSw.blk 6 rfl; have f0 := hf.cell (i := 0) rfl; have f1 := hf.cell (i := 1) rfl; clear hf; have lr := (hSw.blk 1 rfl).cell Hr.out.1; have lr' := (hSw.blk 1 rfl).cell Hr.out.2; clear hSw; go_simp; try with_reducible rfl)
      simp only [List.getElem_toArray, List.getElem_cons_zero, List.getElem_cons_succ, Act.put, List.setIfInBounds_toArray, List.set_cons_zero, List.set_cons_succ]
      refine wpAnyH_take (i := 26) (v := ?v54) rfl (by kernel_rfl) (by kernel_rfl) (by kernel_rfl) (fun _ _ _ h => h) (Or.inl ⟨by rfl, ?y54⟩) hHeld ?r54
      case y54 => (intro w hSw; have hp := hSw.blk 4 rfl; have p0 := hp.cell (i := 0) rfl; have p1 := hp.cell (i := 1) rfl; have p2 := hp.cell (i := 2) rfl; have p3 := hp.cell (i := 3) rfl; have p4 := hp.cell (i := 4) rfl; clear hp; have hq := hSw.blk 5 rfl; have q0 := hq.cell (i := 0) rfl; have q1 := hq.cell (i := 1) rfl; have q2 := hq.cell (i := 2) rfl; have q3 := hq.cell (i := 3) rfl; clear hq; have hf := hSw.blk 6 rfl; have f0 := hf.cell (i := 0) rfl; have f1 := hf.cell (i := 1) rfl; clear hf; have lr := (hSw.blk 1 rfl).cell Hr.out.1; have lr' := (hSw.blk 1 rfl).cell Hr.out.2; clear hSw; go_simp; try with_reducible rfl)
      simp only [List.getElem_toArray, List.getElem_cons_zero, List.getElem_cons_succ, Act.put, List.setIfInBounds_toArray, List.set_cons_zero, List.set_cons_succ]
      refine wpAnyH_take (i := 27) (v := ?v55) rfl (by kernel_rfl) (by kernel_rfl) (by kernel_rfl) (fun _ _ _ h => h) (Or.inl ⟨by rfl, ?y55⟩) hHeld ?r55
      case y55 => (intro w hSw; have hp := hSw.blk 4 rfl; have p0 := hp.cell (i := 0) rfl; have p1 := hp.cell (i := 1) rfl; have p2 := hp.cell (i := 2) rfl; have p3 := hp.cell (i := 3) rfl; have p4 := hp.cell (i := 4) rfl; clear hp; have hq := hSw.blk 5 rfl; have q0 := hq.cell (i := 0) rfl; have q1 := hq.cell (i := 1) rfl; have q2 := hq.cell (i := 2) rfl; have q3 := hq.cell (i := 3) rfl; clear hq; have hf := hSw.blk 6 rfl; have f0 := hf.cell (i := 0) rfl; have f1 := hf.cell (i := 1) rfl; clear hf; have lr := (hSw.blk 1 rfl).cell Hr.out.1; have lr' := (hSw.blk 1 rfl).cell Hr.out.2; clear hSw; go_simp; try with_reducible rfl)
      simp only [List.getElem_toArray, List.getElem_cons_zero, List.getElem_cons_succ, Act.put, List.setIfInBounds_toArray, List.set_cons_zero, List.set_cons_succ]
      refine wpAnyH_take (i := 28) (v := ?v56) rfl (by kernel_rfl) (by kernel_rfl) (by kernel_rfl) (fun _ _ _ h => h) (Or.inl ⟨by rfl, ?y56⟩) hHeld ?r56
      case y56 => (intro w hSw; have hp := hSw.blk 4 rfl; have p0 := hp.cell (i := 0) rfl; have p1 := hp.cell (i := 1) rfl; have p2 := hp.cell (i := 2) rfl; have p3 := hp.cell (i := 3) rfl; have p4 := hp.cell (i := 4) rfl; clear hp; have hq := hSw.blk 5 rfl; have q0 := hq.cell (i := 0) rfl; have q1 := hq.cell (i := 1) rfl; have q2 := hq.cell (i := 2) rfl; have q3 := hq.cell (i := 3) rfl; clear hq; have hf := hSw.blk 6 rfl; have f0 := hf.cell (i := 0) rfl; have f1 := hf.cell (i := 1) rfl; clear hf; have lr := (hSw.blk 1 rfl).cell Hr.out.1; have lr' := (hSw.blk 1 rfl).cell Hr.out.2; clear hSw; go_simp; try with_reducible rfl)
      simp only [List.getElem_toArray, List.getElem_cons_zero, List.getElem_cons_succ, Act.put, List.setIfInBounds_toArray, List.set_cons_zero, List.set_cons_succ]
      refine wpAnyH_take (i := 29) (v := ?v57) rfl (by kernel_rfl) (by kernel_rfl) (by kernel_rfl) (fun _ _ _ h => h) (Or.inl ⟨by rfl, ?y57⟩) hHeld ?r57
      case y57 => (intro w hSw; have hp := hSw.blk 4 rfl; have p0 := hp.cell (i := 0) rfl; have p1 := hp.cell (i := 1) rfl; have p2 := hp.cell (i := 2) rfl; have p3 := hp.cell (i := 3) rfl; have p4 := hp.cell (i := 4) rfl; clear hp; have hq := hSw.blk 5 rfl; have q0 := hq.cell (i := 0) rfl; have q1 := hq.cell (i := 1) rfl; have q2 := hq.cell (i := 2) rfl; have q3 := hq.cell (i := 3) rfl; clear hq; have hf := hSw.blk 6 rfl; have f0 := hf.cell (i := 0) rfl; have f1 := hf.cell (i := 1) rfl; clear hf; have lr := (hSw.blk 1 rfl).cell Hr.out.1; have lr' := (hSw.blk 1 rfl).cell Hr.out.2; clear hSw; go_simp; try with_reducible rfl)
      simp only [List.getElem_toArray, List.getElem_cons_zero, List.getElem_cons_succ, Act.put, List.setIfInBounds_toArray, List.set_cons_zero, List.set_cons_succ]
      refine wpAnyH_take (i := 30) (v := ?v58) rfl (by kernel_rfl) (by kernel_rfl) (by kernel_rfl) (fun _ _ _ h => h) (Or.inl ⟨by rfl, ?y58⟩) hHeld ?r58
      case y58 => (intro w hSw; have hp := hSw.blk 4 rfl; have p0 := hp.cell (i := 0) rfl; have p1 := hp.cell (i := 1) rfl; have p2 := hp.cell (i := 2) rfl; have p3 := hp.cell (i := 3) rfl; have p4 := hp.cell (i := 4) rfl; clear hp; have hq := hSw.blk 5 rfl; have q0 := hq.cell (i := 0) rfl; have q1 := hq.cell (i := 1) rfl; have q2 := hq.cell (i := 2) rfl; have q3 := hq.cell (i := 3) rfl; clear hq; have hf := hSw.blk 6 rfl; have f0 := hf.cell (i := 0) rfl; have f1 := hf.cell (i := 1) rfl; clear hf; have lr := (hSw.blk 1 rfl).cell Hr.out.1; have lr' := (hSw.blk 1 rfl).cell Hr.out.2; clear hSw; go_simp; try with_reducible rfl)
      simp only [List.getElem_toArray, List.getElem_cons_zero, List.getElem_cons_succ, Act.put, List.setIfInBounds_toArray, List.set_cons_zero, List.set_cons_succ]
      refine wpAnyH_take (i := 31) (v := ?v59) rfl (by kernel_rfl) (by kernel_rfl) (by kernel_rfl) (fun _ _ _ h => h) (Or.inl ⟨by rfl, ?y59⟩) hHeld ?r59
      case y59 => (intro w hSw; have hp := hSw.blk 4 rfl; have p0 := hp.cell (i := 0) rfl; have p1 := hp.cell (i := 1) rfl; have p2 := hp.cell (i := 2) rfl; have p3 := hp.cell (i := 3) rfl; have p4 := hp.cell (i := 4) rfl; clear hp; have hq := hSw.blk 5 rfl; have q0 := hq.cell (i := 0) rfl; have q1 := hq.cell (i := 1) rfl; have q2 := hq.cell (i := 2) rfl; have q3 := hq.cell (i := 3) rfl; clear hq; have hf := hSw.blk 6 rfl; have f0 := hf.cell (i := 0) rfl; have f1 := hf.cell (i := 1) rfl; clear hf; have lr := (hSw.blk 1 rfl).cell Hr.out.1; have lr' := (hSw.blk 1 rfl).cell Hr.out.2; clear hSw; go_simp; try with_reducible rfl)
      simp only [List.getElem_toArray, List.getElem_cons_zero, List.getElem_cons_succ, Act.put, List.setIfInBounds_toArray, List.set_cons_zero, List.set_cons_succ]
      refine wpAnyH_take (i := 32) (v := ?v60) rfl (by kernel_rfl) (by kernel_rfl) (by kernel_rfl) (fun _ _ _ h => h) (Or.inl ⟨by rfl, ?y60⟩) hHeld ?r60
      case y60 => (intro w hSw; have hp := hSw.blk 4 rfl; have p0 := hp.cell (i := 0) rfl; have p1 := hp.cell (i := 1) rfl; have p2 := hp.cell (i := 2) rfl; have p3 := hp.cell (i := 3) rfl; have p4 := hp.cell (i := 4) rfl; clear hp; have hq := hSw.blk 5 rfl; have q0 := hq.cell (i := 0) rfl; have q1 := hq.cell (i := 1) rfl; have q2 := hq.cell (i := 2) rfl; have q3 := hq.cell (i := 3) rfl; clear hq; have hf := hSw.blk 6 rfl; have f0 := hf.cell (i := 0) rfl; have f1 := hf.cell (i := 1) rfl; clear hf; have lr := (hSw.blk 1 rfl).cell Hr.out.1; have lr' := (hSw.blk 1 rfl).cell Hr.out.2; clear hSw; go_simp; try with_reducible rfl)
      simp only [List.getElem_toArray, List.getElem_cons_zero, List.getElem_cons_succ, Act.put, List.setIfInBounds_toArray, List.set_cons_zero, List.set_cons_succ]
      refine wpAnyH_take (i := 33) (v := ?v61) rfl (by kernel_rfl) (by kernel_rfl) (by kernel_rfl) (fun _ _ _ h => h) (Or.inl ⟨by rfl, ?y61⟩) hHeld ?r61
      case y61 => (intro w hSw; have hp := hSw.blk 4 rfl; have p0 := hp.cell (i := 0) rfl; have p1 := hp.cell (i := 1) rfl; have p2 := hp.cell (i := 2) rfl; have p3 := hp.cell (i := 3) rfl; have p4 := hp.cell (i := 4) rfl; clear hp; have hq := hSw.blk 5 rfl; have q0 := hq.cell (i := 0) rfl; have q1 := hq.cell (i := 1) rfl; have q2 := hq.cell (i := 2) rfl; have q3 := hq.cell (i := 3) rfl; clear hq; have hf := hSw.blk 6 rfl; have f0 := hf.cell (i := 0) rfl; have f1 := hf.cell (i := 1) rfl; clear hf; have lr := (hSw.blk 1 rfl).cell Hr.out.1; have lr' := (hSw.blk 1 rfl).cell Hr.out.2; clear hSw; go_simp; try with_reducible rfl)
      simp only [List.getElem_toArray, List.getElem_cons_zero, List.getElem_cons_succ, Act.put, List.setIfInBounds_toArray, List.set_cons_zero, List.set_cons_succ]
      refine wpAnyH_take (i := 34) (v := ?v62) rfl (by kernel_rfl) (by kernel_rfl) (by kernel_rfl) (fun _ _ _ h => h) (Or.inl ⟨by rfl, ?y62⟩) hHeld ?r62
      case y62 => (intro w hSw; have hp := hSw.blk 4 rfl; have p0 := hp.cell (i := 0) rfl; have p1 := hp.cell (i := 1) rfl; have p2 := hp.cell (i := 2) rfl; have p3 := hp.cell (i := 3) rfl; have p4 := hp.cell (i := 4) rfl; clear hp; have hq := hSw.blk 5 rfl; have q0 := hq.cell (i := 0) rfl; have q1 := hq.cell (i := 1) rfl; have q2 := hq.cell (i := 2) rfl; have q3 := hq.cell (i := 3) rfl; clear hq; have hf := hSw.blk 6 rfl; have f0 := hf.cell (i := 0) rfl; have f1 := hf.cell (i := 1) rfl; clear hf; have lr := (hSw.blk 1 rfl).cell Hr.out.1; have lr' := (hSw.blk 1 rfl).cell Hr.out.2; clear hSw; go_simp; try with_reducible rfl)
      simp only [List.getElem_toArray, List.getElem_cons_zero, List.getElem_cons_succ, Act.put, List.setIfInBounds_toArray, List.set_cons_zero, List.set_cons_succ]
      refine wpAnyH_take (i := 35) (v := ?v63) rfl (by kernel_rfl) (by kernel_rfl) (by kernel_rfl) (fun _ _ _ h => h) (Or.inl ⟨by rfl, ?y63⟩) hHeld ?r63
      case y63 => (intro w hSw; have hp := hSw.blk 4 rfl; have p0 := hp.cell (i := 0) rfl; have p1 := hp.cell (i := 1) rfl; have p2 := hp.cell (i := 2) rfl; have p3 := hp.cell (i := 3) rfl; have p4 := hp.cell (i := 4) rfl; clear hp; have hq := hSw.blk 5 rfl; have q0 := hq.cell (i := 0) rfl; have q1 := hq.cell (i := 1) rfl; have q2 := hq.cell (i := 2) rfl; have q3 := hq.cell (i := 3) rfl; clear hq; have hf := hSw.blk 6 rfl; have f0 := hf.cell (i := 0) rfl; have f1 := hf.cell (i := 1) rfl; clear hf; have lr := (hSw.blk 1 rfl).cell Hr.out.1; have lr' := (hSw.blk 1 rfl).cell Hr.out.2; clear hSw; go_simp; try with_reducible rfl)
      simp only [List.getElem_toArray, List.getElem_cons_zero, List.getElem_cons_succ, Act.put, List.setIfInBounds_toArray, List.set_cons_zero, List.set_cons_succ]
      refine wpAnyH_take (i := 36) (v := ?v64) rfl (by kernel_rfl) (by kernel_rfl) (by kernel_rfl) (fun _ _ _ h => h) (Or.inl ⟨by rfl, ?y64⟩) hHeld ?r64
      case y64 => (intro w hSw; have hp := hSw.blk 4 rfl; have p0 := hp.cell (i := 0) rfl; have p1 := hp.cell (i := 1) rfl; have p2 := hp.cell (i := 2) rfl; have p3 := hp.cell (i := 3) rfl; have p4 := hp.cell (i := 4) rfl; clear hp; have hq := hSw.blk 5 rfl; have q0 := hq.cell (i := 0) rfl; have q1 := hq.cell (i := 1) rfl; have q2 := hq.cell (i := 2) rfl; have q3 := hq.cell (i := 3) rfl; clear hq; have hf := hSw.blk 6 rfl; have f0 := hf.cell (i := 0) rfl; have f1 := hf.cell (i := 1) rfl; clear hf; have lr := (hSw.blk 1 rfl).cell Hr.out.1; have lr' := (hSw.blk 1 rfl).cell Hr.out.2; clear hSw; go_simp; try with_reducible rfl)
      simp only [List.getElem_toArray, List.getElem_cons_zero, List.getElem_cons_succ, Act.put, List.setIfInBounds_toArray, List.set_cons_zero, List.set_cons_succ]
      refine wpAnyH_take (i := 37) (v := ?v65) rfl (by kernel_rfl) (by kernel_rfl) (by kernel_rfl) (fun _ _ _ h => h) (Or.inl ⟨by rfl, ?y65⟩) hHeld ?r65
      case y65 => (intro w hSw; have hp := hSw.blk 4 rfl; have p0 := hp.cell (i := 0) rfl; have p1 := hp.cell (i := 1) rfl; have p2 := hp.cell (i := 2) rfl; have p3 := hp.cell (i := 3) rfl; have p4 := hp.cell (i := 4) rfl; clear hp; have hq := hSw.blk 5 rfl; have q0 := hq.cell (i := 0) rfl; have q1 := hq.cell (i := 1) rfl; have q2 := hq.cell (i := 2) rfl; have q3 := hq.cell (i := 3) rfl; clear hq; have hf := hSw.blk 6 rfl; have f0 := hf.cell (i := 0) rfl; have f1 := hf.cell (i := 1) rfl; clear hf; have lr := (hSw.blk 1 rfl).cell Hr.out.1; have lr' := (hSw.blk 1 rfl).cell Hr.out.2; clear hSw; go_simp; try with_reducible rfl)
      simp only [List.getElem_toArray, List.getElem_cons_zero, List.getElem_cons_succ, Act.put, List.setIfInBounds_toArray, List.set_cons_zero, List.set_cons_succ]
      refine wpAnyH_ready (rs := [38]) (by kernel_rfl) (by simp) (AllReadyH.cons rfl (fun K hK => ?_) AllReadyH.nil)
      go_simp
      refine (ent_any 0 1 L (tot (1 + L) l) g1 (some ⟨b, off, none⟩) l.length ca _ hg1).mono ?_
      rintro e V2 ⟨rfl, hb2⟩
      have Z2 := Lib.hid (Z1.out.next hb2)
      clear hb2
      go_wp2_with fail
      refine hK.out _ _ (Z2.out) (fun hHeld => ?_)
      clear hK K
      refine wpAnyH_take (i := 39) (v := ?v67) rfl (by kernel_rfl) (by kernel_rfl) (by kernel_rfl) (fun _ _ _ h => h) (Or.inl ⟨by rfl, ?y67⟩) hHeld ?r67
      case y67 => (intro w hSw; have hp := hSw.blk 4 rfl; have p0 := hp.cell (i := 0) rfl; have p1 := hp.cell (i := 1) rfl; have p2 := hp.cell (i := 2) rfl; have p3 := hp.cell (i := 3) rfl; have p4 := hp.cell (i := 4) rfl; clear hp; have hq := hSw.blk 5 rfl; have q0 := hq.cell (i := 0) rfl; have q1 := hq.cell (i := 1) rfl; have q2 := hq.cell (i := 2) rfl; have q3 := hq.cell (i := 3) rfl; clear hq; have hf := hSw.blk 6 rfl; have f0 := hf.cell (i := 0) rfl; have f1 := hf.cell (i := 1) rfl; clear hf; have lr := (hSw.blk 1 rfl).cell Hr.out.1; have lr' := (hSw.blk 1 rfl).cell Hr.out.2; clear hSw; go_simp; try with_reducible rfl)
      simp only [List.getElem_toArray, List.getElem_cons_zero, List.getElem_cons_succ, Act.put, List.setIfInBounds_toArray, List.set_cons_zero, List.set_cons_succ]
      refine wpAnyH_take (i := 40) (v := ?v68) rfl (by kernel_rfl) (by kernel_rfl) (by kernel_rfl) (fun _ _ _ h => h) (Or.inl ⟨by rfl, ?y68⟩) hHeld ?r68
      case y68 => (intro w hSw; have hp := hSw.blk 4 rfl; have p0 := hp.cell (i := 0) rfl; have p1 := hp.cell (i := 1) rfl; have p2 := hp.cell (i := 2) rfl; have p3 := hp.cell (i := 3) rfl; have p4 := hp.cell (i := 4) rfl; clear hp; have hq := hSw.blk 5 rfl; have q0 := hq.cell (i := 0) rfl; have q1 := hq.cell (i := 1) rfl; have q2 := hq.cell (i := 2) rfl; have q3 := hq.cell (i := 3) rfl; clear hq; have hf := hSw.blk 6 rfl; have f0 := hf.cell (i := 0) rfl; have f1 := hf.cell (i := 1) rfl; clear hf; have lr := (hSw.blk 1 rfl).cell Hr.out.1; have lr' := (hSw.blk 1 rfl).cell Hr.out.2; clear hSw; go_simp; try with_reducible rfl)
      simp only [List.getElem_toArray, List.getElem_cons_zero, List.getElem_cons_succ, Act.put, List.setIfInBounds_toArray, List.set_cons_zero, List.set_cons_succ]
      refine wpAnyH_done (by kernel_rfl) ?_ _
      clear Xd Z1 n0' n1' n2' n3' n4' rr
      go_wp2_with fail
      generalize V2 = WV at *
      have f0 := (Z2.out.blk 6 rfl).cell (i := 0) rfl
      have f1 := (Z2.out.blk 6 rfl).cell (i := 1) rfl
      have q0 := (Z2.out.blk 5 rfl).cell (i := 0) rfl
      have q1 := (Z2.out.blk 5 rfl).cell (i := 1) rfl
      have q2 := (Z2.out.blk 5 rfl).cell (i := 2) rfl
      have q3 := (Z2.out.blk 5 rfl).cell (i := 3) rfl
      have d4 := (Z2.out.blk 3 rfl).cell (i := 4) rfl
      have lr := (Z2.out.blk 1 rfl).cell Hr.out.1
      have lr' := (Z2.out.blk 1 rfl).cell Hr.out.2
      have rr : (r : Int) < 3 := by omega
      go_loopw [14] (RelAp WV) (fun i _ => 3 - (intOf i).toNat)
      case atStart => exact ⟨0, 0, by omega, rfl, rfl⟩
      case round =>
        obtain ⟨k, m, hk, rfl, rfl⟩ := hrel
        by_cases hk3 : k < 3
        · have k0 : decide ((k : Int) < 3) = true := decide_eq_true (by omega)
          have k1 : (k : Int) < 3 := by omega
          obtain ⟨v', hv'⟩ : ∃ v', [o1, o1 + 1, vb + x1][k]? = some v' := ⟨_, List.getElem?_eq_getElem hk3⟩
          have mr := (Z2.out.blk 0 rfl).cell (icl_at hv')
          have mr' := (Z2.out.blk 0 rfl).cell (i := 0 + k) (by rw [Nat.zero_add]; exact icl_at hv')
          have hne := Hne.out r k v v' Hrv.out hv'
          have heq := Heq.out
          by_cases hij : i = j
          · have hiff := heq hij r k v v' Hrv.out hv'
            subst hij
            have Hz := Lib.hid (And.intro hne (And.intro hv' Z2.out))
            clear hne heq hv'
            by_cases hrk : r = k
            · subst hrk
              by_cases hr2 : r < 2
              · have s0 : decide ((r : Int) < 2) = true := decide_eq_true (by omega)
                have s1 : (v == v') = true := by simp [hiff.2 ⟨rfl, .inl hr2⟩]
                clear hiff
                as_aux_lemma =>
                  go_wp2_with fail
                  go_quiet (fail)
                  go_wp2_with fail
                  go_quiet (fail)
                  go_wp2
                  go_roundw
                  case rel => exact ⟨r + 1, m + _ + _, by omega, by go_num, rfl⟩
                  case measure => simp [intOf]; omega
              · have s0 : decide ((r : Int) < 2) = false := decide_eq_false (by omega)
                by_cases hx : x0 = x1
                · have s2 : (x0 == x1) = true := by simp [hx]
                  by_cases hgg : g0 % d0 = g1 % d0
                  · have s3 : (g0 % d0 == g1 % d0) = true := by simp [hgg]
                    have s1 : (v == v') = true := by simp [hiff.2 ⟨rfl, .inr ⟨hx, hgg⟩⟩]
                    clear hiff hx hgg
                    as_aux_lemma =>
                      go_wp2_with fail
                      go_quiet (fail)
                      go_wp2_with fail
                      go_quiet (fail)
                      go_wp2
                      go_roundw
                      case rel => exact ⟨r + 1, m + _ + _, by omega, by go_num, rfl⟩
                      case measure => simp [intOf]; omega
                  · have s3 : (g0 % d0 == g1 % d0) = false := by simp [hgg]
                    have s1 : (v == v') = false := by
                      rw [beq_eq_false_iff_ne]
                      intro e
                      rcases (hiff.1 e).2 with h | h
                      · exact hr2 h
                      · exact hgg h.2
                    clear hiff hx hgg
                    as_aux_lemma =>
                      go_wp2_with fail
                      go_quiet (fail)
                      go_wp2_with fail
                      go_quiet (fail)
                      go_wp2
                      go_roundw
                      case rel => exact ⟨r + 1, m + _ + _, by omega, by go_num, rfl⟩
                      case measure => simp [intOf]; omega
                · have s2 : (x0 == x1) = false := by simp [hx]
                  have s1 : (v == v') = false := by
                    rw [beq_eq_false_iff_ne]
                    intro e
                    rcases (hiff.1 e).2 with h | h
                    · exact hr2 h
                    · exact hx h.1
                  clear hiff hx
                  as_aux_lemma =>
                    go_wp2_with fail
                    go_quiet (fail)
                    go_wp2_with fail
                    go_quiet (fail)
                    go_wp2
                    go_roundw
                    case rel => exact ⟨r + 1, m + _ + _, by omega, by go_num, rfl⟩
                    case measure => simp [intOf]; omega
            · have s0 : ((r : Int) == (k : Int)) = false := by rw [beq_eq_false_iff_ne]; omega
              have s1 : (v == v') = false := by
                rw [beq_eq_false_iff_ne]
                exact fun e => hrk (hiff.1 e).1
              clear hiff hrk
              as_aux_lemma =>
                go_wp2_with fail
                go_quiet (fail)
                go_wp2_with fail
                go_quiet (fail)
                go_wp2
                go_roundw
                case rel => exact ⟨k + 1, m + _ + _, by omega, by go_num, rfl⟩
                case measure => simp [intOf]; omega
          · have s0 : ((i : Int) == (j : Int)) = false := by rw [beq_eq_false_iff_ne]; omega
            have s1 : (v == v') = false := by
              rw [beq_eq_false_iff_ne]
              exact hne hij
            clear hne heq hv' hij
            as_aux_lemma =>
              go_wp2_with fail
              go_quiet (fail)
              go_wp2_with fail
              go_quiet (fail)
              go_wp2
              go_roundw
              case rel => exact ⟨k + 1, m + _ + _, by omega, by go_num, rfl⟩
              case measure => simp [intOf]; omega
        · obtain rfl : k = 3 := by omega
          have Z3 := Lib.hid (Z2.out.drewN m)
          clear f0 f1 q0 q1 q2 q3 d4 lr lr' Z2
          go_wp2
          go_roundw
          case rel => exact ⟨r + 1, by omega, by go_num, Z3.out⟩
          case measure => simp [intOf]; omega
    · obtain rfl : r = 3 := by omega
      have X9 := Lib.hid hK
      clear hK
      go_wp2_with fail
      refine (awake_any _).mono ?_
      rintro e Wz ⟨rfl, hbz⟩
      have Xz := Lib.hid (X9.out.next hbz)
      clear hbz X9
      go_wp2
      go_ret
      exact ⟨rfl, Xz.out.2.2⟩
end Go.Proofs.Ytdnjoflahiffhaa
