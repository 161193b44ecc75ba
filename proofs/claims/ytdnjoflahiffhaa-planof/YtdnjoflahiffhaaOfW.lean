/- The walk of the law PlanOf. -/
import Derived.Test.YtdnjoflahiffhaaBxW
import Derived.Test.YtdnjoflahiffhaaROf
namespace Go.Proofs.Ytdnjoflahiffhaa
open Go.RowKit

/-- Both plans. -/
def PQ (w : World) (T R L : Int) (a : Option Addr) (cap : Nat) (l : List Tp) (P Q : Nat) (aa : Option Addr) (ca : Nat) (aq : Option Addr) (cq : Nat) (am : Option Addr) (cm : Nat) (W : World) : Prop :=
  Bx w w.heap.size T R L a cap l W ∧ Blk W P (plc 0 1 L (.slice aa l.length ca) (tot (1 + L) l)) ∧ Blk W Q [.int .i64 0, .int .i64 1, .int .i64 L, .slice aq l.length cq, .slice am (wdl L l).length cm] ∧
    Sps W.heap.size W aa (spots (1 + L) l) ∧ Sps W.heap.size W aq (spots (1 + L) l)
section
variable {w : World} {T R L : Int} {a : Option Addr} {cap : Nat} {l : List Tp} {P Q : Nat} {aa : Option Addr} {ca : Nat} {aq : Option Addr} {cq : Nat} {am : Option Addr} {cm : Nat} {W W' : World}
theorem PQ.next (h : PQ w T R L a cap l P Q aa ca aq cq am cm W) (u : Below W.heap.size W W') : PQ w T R L a cap l P Q aa ca aq cq am cm W' :=
  ⟨h.1.next u, h.2.1.low u, h.2.2.1.low u, h.2.2.2.1.next u, h.2.2.2.2.next u⟩
theorem PQ.drewN (h : PQ w T R L a cap l P Q aa ca aq cq am cm W) (n : Nat) : PQ w T R L a cap l P Q aa ca aq cq am cm (W.drewN n) := h.next (belN (Below.refl _ _) n)
theorem PQ.spa (h : PQ w T R L a cap l P Q aa ca aq cq am cm W) {k : Nat} {sp : Sp} (hk : (spots (1 + L) l)[k]? = some sp) {b off : Nat} (e : aa = some ⟨b, off, none⟩) :
    W.cell? ⟨b, off + k * 5, none⟩ = some (.int .i64 sp.1) ∧ W.cell? ⟨b, off + k * 5 + 1, none⟩ = some (.int .i64 sp.2.1) ∧ W.cell? ⟨b, off + k * 5 + 2, none⟩ = some (.int .i64 sp.2.2.1) ∧ W.cell? ⟨b, off + k * 5 + 3, none⟩ = some (.int .i64 sp.2.2.2.1) ∧ W.cell? ⟨b, off + k * 5 + 4, none⟩ = some (.int .i64 sp.2.2.2.2) := by
  obtain ⟨b', off', e', _, c⟩ := h.2.2.2.1 k sp hk
  rw [e] at e'
  cases e'
  exact c
theorem PQ.spq (h : PQ w T R L a cap l P Q aa ca aq cq am cm W) {k : Nat} {sp : Sp} (hk : (spots (1 + L) l)[k]? = some sp) {b off : Nat} (e : aq = some ⟨b, off, none⟩) :
    W.cell? ⟨b, off + k * 5, none⟩ = some (.int .i64 sp.1) ∧ W.cell? ⟨b, off + k * 5 + 1, none⟩ = some (.int .i64 sp.2.1) ∧ W.cell? ⟨b, off + k * 5 + 2, none⟩ = some (.int .i64 sp.2.2.1) ∧ W.cell? ⟨b, off + k * 5 + 3, none⟩ = some (.int .i64 sp.2.2.2.1) ∧ W.cell? ⟨b, off + k * 5 + 4, none⟩ = some (.int .i64 sp.2.2.2.2) := by
  obtain ⟨b', off', e', _, c⟩ := h.2.2.2.2 k sp hk
  rw [e] at e'
  cases e'
  exact c
end
def RelPO (w : World) (T R L : Int) (a : Option Addr) (cap : Nat) (l : List Tp) (P Q : Nat) (aa : Option Addr) (ca : Nat) (aq : Option Addr) (cq : Nat) (am : Option Addr) (cm : Nat) (i : Value) (wr : World) : Prop :=
  ∃ k : Nat, k ≤ l.length ∧ i = .int .i64 k ∧ PQ w T R L a cap l P Q aa ca aq cq am cm wr

set_option maxRecDepth 100000 in
set_option maxHeartbeats 4000000 in
theorem of_law (T R L : Int) (a : Option Addr) (cap : Nat) (l : List Tp) (w : World) (hT : Tps w.heap.size w a l) : Calls Try.prog 3 #[cfg T a l.length cap R L] w (Ret (.bool true) w) := by
  have X0 := Lib.hid (Bx.new w T R L a cap l hT)
  have c0 := X0.out.1.cell (i := 0) rfl
  have c1 := X0.out.1.cell (i := 1) rfl
  have c2 := X0.out.1.cell (i := 2) rfl
  have c3 := X0.out.1.cell (i := 3) rfl
  clear hT
  go_enter Try.func3, Try.ntmps3
  go_wp2_with fail
  generalize w.alloc (.cells #[.int .i64 T, .slice a l.length cap, .int .i64 R, .int .i64 L] 24) = W0 at *
  refine (few_any T R L a cap l W0 X0.out.2.1).mono ?_
  rintro e W1 ⟨rfl, hb1⟩
  have X1 := Lib.hid (X0.out.next hb1)
  clear hb1 X0 c0 c1 c2 c3
  by_cases hf : few l = true
  case neg =>
    have hf' : few l = false := by simpa using hf
    rw [hf']
    clear hf hf'
    go_wp2_with fail
    refine (awake_any W1).mono ?_
    rintro e W2 ⟨rfl, hb2⟩
    have X2 := Lib.hid (X1.out.next hb2)
    clear hb2 X1
    go_wp2
    go_ret
    exact ⟨rfl, X2.out.2.2⟩
  rw [hf]
  have Hs := Lib.hid (few_size hf)
  clear hf
  have c0 := X1.out.1.cell (i := 0) rfl
  have c1 := X1.out.1.cell (i := 1) rfl
  have c2 := X1.out.1.cell (i := 2) rfl
  have c3 := X1.out.1.cell (i := 3) rfl
  by_cases hok : (chk T l R L).2 = 0
  case neg =>
    have Hno := Lib.hid hok
    have hy : ((chk T l R L).2 != 0) = true := by simpa using hok
    have hof := of_bad T R L a cap l W1 X1.out.2.1 Hs.out hok
    have Hof := Lib.hid hof
    clear hof hok
    go_wp2_with fail
    refine Hof.out.mono ?_
    rintro e W2 ⟨rfl, hb2⟩
    have hP := Blk.new W2 #[.int .i64 0, .int .i64 0, .int .i64 0, .slice none 0 0, .int .i64 0] 29
    have X2 := Lib.hid (And.intro ((X1.out.next hb2).alloc (.cells #[.int .i64 0, .int .i64 0, .int .i64 0, .slice none 0 0, .int .i64 0] 29)) hP)
    clear hb2 X1 c0 c1 c2 c3 Hof hP
    have c0 := X2.out.1.1.cell (i := 0) rfl
    have c1 := X2.out.1.1.cell (i := 1) rfl
    have c2 := X2.out.1.1.cell (i := 2) rfl
    have c3 := X2.out.1.1.cell (i := 3) rfl
    go_wp2_with fail
    generalize W2.alloc (.cells #[.int .i64 0, .int .i64 0, .int .i64 0, .slice none 0 0, .int .i64 0] 29) = W3 at *
    refine (rof_bad T R L a cap l W3 X2.out.1.2.1 Hs.out Hno.out).mono ?_
    rintro e W4 ⟨rfl, hb4⟩
    have X4 := Lib.hid (And.intro (X2.out.1.next hb4) (X2.out.2.low hb4))
    clear hb4 X2 c0 c1 c2 c3 Hno
    have p3 := X4.out.2.cell (i := 3) rfl
    have p4 := X4.out.2.cell (i := 4) rfl
    generalize (chk T l R L).2 = y at *
    have qy : (y == y) = true := by simp
    go_wp2_with fail
    refine (awake_any W4).mono ?_
    rintro e W5 ⟨rfl, hb5⟩
    have X5 := Lib.hid (X4.out.1.next hb5)
    clear hb5 X4 p3 p4
    go_wp2
    go_ret
    exact ⟨rfl, X5.out.2.2⟩
  obtain ⟨hl1, hl64, hL1, hL64, hall⟩ := chk_rng hok
  have hwl := wdl_len hL1 hall
  have Hof := Lib.hid (of_ok T R L a cap l W1 X1.out.2.1 Hs.out hok)
  have Hok := Lib.hid hok
  have Hwl := Lib.hid hwl
  clear hok hall hwl
  go_wp2_with fail
  refine Hof.out.mono ?_
  rintro e W2 ⟨aa, ca, rfl, hS2, hb2⟩
  have hP := Blk.new W2 #[.int .i64 0, .int .i64 1, .int .i64 L, .slice aa l.length ca, .int .i64 (tot (1 + L) l)] 29
  have hbn := (Below.refl W2.heap.size W2).alloc (Nat.le_refl _) (.cells #[.int .i64 0, .int .i64 1, .int .i64 L, .slice aa l.length ca, .int .i64 (tot (1 + L) l)] 29)
  have X2 := Lib.hid (And.intro ((X1.out.next hb2).next hbn) (And.intro hP (hS2.next hbn)))
  clear hb2 X1 c0 c1 c2 c3 Hof hP hS2 hbn
  have c0 := X2.out.1.1.cell (i := 0) rfl
  have c1 := X2.out.1.1.cell (i := 1) rfl
  have c2 := X2.out.1.1.cell (i := 2) rfl
  have c3 := X2.out.1.1.cell (i := 3) rfl
  go_wp2_with fail
  generalize W2.alloc (.cells #[.int .i64 0, .int .i64 1, .int .i64 L, .slice aa l.length ca, .int .i64 (tot (1 + L) l)] 29) = W3 at *
  generalize W2.heap.size = P at *
  refine (rof_ok T R L a cap l W3 X2.out.1.2.1 Hs.out Hok.out).mono ?_
  rintro e W4 ⟨Q, aq, cq, am, cm, rfl, hQ, hSq, hIq, hb4⟩
  have X4 := Lib.hid (show PQ w T R L a cap l P Q aa ca aq cq am cm W4 from ⟨X2.out.1.next hb4, X2.out.2.1.low hb4, hQ, X2.out.2.2.next hb4, hSq⟩)
  clear hb4 X2 c0 c1 c2 c3 Hok hQ hSq hIq
  have p0 := X4.out.2.1.cell (i := 0) rfl
  have p1 := X4.out.2.1.cell (i := 1) rfl
  have p2 := X4.out.2.1.cell (i := 2) rfl
  have p3 := X4.out.2.1.cell (i := 3) rfl
  have p4 := X4.out.2.1.cell (i := 4) rfl
  have q0 := X4.out.2.2.1.cell (i := 0) rfl
  have q1 := X4.out.2.2.1.cell (i := 1) rfl
  have q2 := X4.out.2.2.1.cell (i := 2) rfl
  have q3 := X4.out.2.2.1.cell (i := 3) rfl
  have q4 := X4.out.2.2.1.cell (i := 4) rfl
  have b1 : (L != L) = false := by simp
  have b2 : ((l.length : Int) != (l.length : Int)) = false := by simp
  have b3 : (tot (1 + L) l != ((wdl L l).length : Int)) = false := by rw [Hwl.out]; simp
  go_wp2_with fail
  go_quiet (fail)
  have X5 := Lib.hid (X4.out.drewN nq)
  clear p0 p1 p2 p3 p4 q0 q1 q2 q3 q4 b1 b2 b3 X4
  generalize W4.drewN nq = W5 at *
  go_wp2_with fail
  go_loopw [7] (RelPO w T R L a cap l P Q aa ca aq cq am cm) (fun i _ => l.length - (intOf i).toNat)
  case atStart => exact ⟨0, by omega, rfl, X5.out⟩
  case round =>
    clear X5
    obtain ⟨k, hk, rfl, hS⟩ := hrel
    by_cases hkl : k < l.length
    · have k0 : decide ((k : Int) < (l.length : Int)) = true := decide_eq_true (by omega)
      have k1 : (k : Int) < (l.length : Int) := by omega
      obtain ⟨t, ht⟩ : ∃ t, l[k]? = some t := ⟨l[k], List.getElem?_eq_getElem hkl⟩
      have hks := spots_at l (1 + L) k t ht
      generalize spo (tot (1 + L) (l.take k)) t = sp at *
      obtain ⟨b, off, rfl, _⟩ := hS.2.2.2.1 k sp hks
      obtain ⟨b2, off2, rfl, _⟩ := hS.2.2.2.2 k sp hks
      have p3 := hS.2.1.cell (i := 3) rfl
      have heq : ∀ w, (Op.equalIn 10000 41 (spv sp.1 sp.2.1 sp.2.2.1 sp.2.2.2.1 sp.2.2.2.2) (spv sp.1 sp.2.1 sp.2.2.1 sp.2.2.2.1 sp.2.2.2.2)).run Try.prog w = .ok true w := fun w => by rw [eq41]; simp
      have Hks := Lib.hid hks
      have Xd := Lib.hid (hS.drewN 1)
      clear hS ht hks
      go_wp2_with fail
      clear p3
      refine wp_region_held_drew (S := PQ w T R L a cap l P Q (some ⟨b, off, none⟩) ca (some ⟨b2, off2, none⟩) cq am cm) (by kernel_rfl) (Xd.out) (fun hHeld => ?_)
      refine wpAnyH_take (i := 0) (v := ?v1) rfl (by kernel_rfl) (by kernel_rfl) (by kernel_rfl) (fun _ _ _ h => h) (Or.inl ⟨by rfl, ?y1⟩) hHeld ?r1
      case y1 => (intro w hSw; have hp := hSw.2.1; have p0 := hp.cell (i := 0) rfl; have p1 := hp.cell (i := 1) rfl; have p2 := hp.cell (i := 2) rfl; have p3 := hp.cell (i := 3) rfl; have p4 := hp.cell (i := 4) rfl; have hq := hSw.2.2.1; have q0 := hq.cell (i := 0) rfl; have q1 := hq.cell (i := 1) rfl; have q2 := hq.cell (i := 2) rfl; have q3 := hq.cell (i := 3) rfl; have q4 := hq.cell (i := 4) rfl; obtain ⟨t0, t1, t2, t3, t4⟩ := PQ.spa hSw Hks.out rfl; obtain ⟨v0, v1, v2, v3, v4⟩ := PQ.spq hSw Hks.out rfl; clear hp hq hSw; go_simp; try with_reducible rfl)
      simp only [List.getElem_toArray, List.getElem_cons_zero, Act.put, List.setIfInBounds_toArray, List.set_cons_zero, List.set_cons_succ]
      refine wpAnyH_take (i := 1) (v := ?v2) rfl (by kernel_rfl) (by kernel_rfl) (by kernel_rfl) (fun _ _ _ h => h) (Or.inl ⟨by rfl, ?y2⟩) hHeld ?r2
      case y2 => (intro w hSw; have hp := hSw.2.1; have p0 := hp.cell (i := 0) rfl; have p1 := hp.cell (i := 1) rfl; have p2 := hp.cell (i := 2) rfl; have p3 := hp.cell (i := 3) rfl; have p4 := hp.cell (i := 4) rfl; have hq := hSw.2.2.1; have q0 := hq.cell (i := 0) rfl; have q1 := hq.cell (i := 1) rfl; have q2 := hq.cell (i := 2) rfl; have q3 := hq.cell (i := 3) rfl; have q4 := hq.cell (i := 4) rfl; obtain ⟨t0, t1, t2, t3, t4⟩ := PQ.spa hSw Hks.out rfl; obtain ⟨v0, v1, v2, v3, v4⟩ := PQ.spq hSw Hks.out rfl; clear hp hq hSw; go_simp; try with_reducible rfl)
      simp only [List.getElem_toArray, List.getElem_cons_zero, List.getElem_cons_succ, Act.put, List.setIfInBounds_toArray, List.set_cons_zero, List.set_cons_succ]
      refine wpAnyH_take (i := 2) (v := ?v3) rfl (by kernel_rfl) (by kernel_rfl) (by kernel_rfl) (fun _ _ _ h => h) (Or.inl ⟨by rfl, ?y3⟩) hHeld ?r3
      case y3 => (intro w hSw; have hp := hSw.2.1; have p0 := hp.cell (i := 0) rfl; have p1 := hp.cell (i := 1) rfl; have p2 := hp.cell (i := 2) rfl; have p3 := hp.cell (i := 3) rfl; have p4 := hp.cell (i := 4) rfl; have hq := hSw.2.2.1; have q0 := hq.cell (i := 0) rfl; have q1 := hq.cell (i := 1) rfl; have q2 := hq.cell (i := 2) rfl; have q3 := hq.cell (i := 3) rfl; have q4 := hq.cell (i := 4) rfl; obtain ⟨t0, t1, t2, t3, t4⟩ := PQ.spa hSw Hks.out rfl; obtain ⟨v0, v1, v2, v3, v4⟩ := PQ.spq hSw Hks.out rfl; clear hp hq hSw; go_simp; try with_reducible rfl)
      simp only [List.getElem_toArray, List.getElem_cons_zero, List.getElem_cons_succ, Act.put, List.setIfInBounds_toArray, List.set_cons_zero, List.set_cons_succ]
      refine wpAnyH_take (i := 3) (v := ?v4) rfl (by kernel_rfl) (by kernel_rfl) (by kernel_rfl) (fun _ _ _ h => h) (Or.inl ⟨by rfl, ?y4⟩) hHeld ?r4
      case y4 => (intro w hSw; have hp := hSw.2.1; have p0 := hp.cell (i := 0) rfl; have p1 := hp.cell (i := 1) rfl; have p2 := hp.cell (i := 2) rfl; have p3 := hp.cell (i := 3) rfl; have p4 := hp.cell (i := 4) rfl; have hq := hSw.2.2.1; have q0 := hq.cell (i := 0) rfl; have q1 := hq.cell (i := 1) rfl; have q2 := hq.cell (i := 2) rfl; have q3 := hq.cell (i := 3) rfl; have q4 := hq.cell (i := 4) rfl; obtain ⟨t0, t1, t2, t3, t4⟩ := PQ.spa hSw Hks.out rfl; obtain ⟨v0, v1, v2, v3, v4⟩ := PQ.spq hSw Hks.out rfl; clear hp hq hSw; go_simp; try with_reducible rfl)
      simp only [List.getElem_toArray, List.getElem_cons_zero, List.getElem_cons_succ, Act.put, List.setIfInBounds_toArray, List.set_cons_zero, List.set_cons_succ]
      refine wpAnyH_take (i := 4) (v := ?v5) rfl (by kernel_rfl) (by kernel_rfl) (by kernel_rfl) (fun _ _ _ h => h) (Or.inl ⟨by rfl, ?y5⟩) hHeld ?r5
      case y5 => (intro w hSw; have hp := hSw.2.1; have p0 := hp.cell (i := 0) rfl; have p1 := hp.cell (i := 1) rfl; have p2 := hp.cell (i := 2) rfl; have p3 := hp.cell (i := 3) rfl; have p4 := hp.cell (i := 4) rfl; have hq := hSw.2.2.1; have q0 := hq.cell (i := 0) rfl; have q1 := hq.cell (i := 1) rfl; have q2 := hq.cell (i := 2) rfl; have q3 := hq.cell (i := 3) rfl; have q4 := hq.cell (i := 4) rfl; obtain ⟨t0, t1, t2, t3, t4⟩ := PQ.spa hSw Hks.out rfl; obtain ⟨v0, v1, v2, v3, v4⟩ := PQ.spq hSw Hks.out rfl; clear hp hq hSw; go_simp; try with_reducible rfl)
      simp only [List.getElem_toArray, List.getElem_cons_zero, List.getElem_cons_succ, Act.put, List.setIfInBounds_toArray, List.set_cons_zero, List.set_cons_succ]
      refine wpAnyH_take (i := 6) (v := ?v6) rfl (by kernel_rfl) (by kernel_rfl) (by kernel_rfl) (fun _ _ _ h => h) (Or.inl ⟨by rfl, ?y6⟩) hHeld ?r6
      case y6 => (intro w hSw; have hp := hSw.2.1; have p0 := hp.cell (i := 0) rfl; have p1 := hp.cell (i := 1) rfl; have p2 := hp.cell (i := 2) rfl; have p3 := hp.cell (i := 3) rfl; have p4 := hp.cell (i := 4) rfl; have hq := hSw.2.2.1; have q0 := hq.cell (i := 0) rfl; have q1 := hq.cell (i := 1) rfl; have q2 := hq.cell (i := 2) rfl; have q3 := hq.cell (i := 3) rfl; have q4 := hq.cell (i := 4) rfl; obtain ⟨t0, t1, t2, t3, t4⟩ := PQ.spa hSw Hks.out rfl; obtain ⟨v0, v1, v2, v3, v4⟩ := PQ.spq hSw Hks.out rfl; clear hp hq hSw; go_simp; try with_reducible rfl)
      simp only [List.getElem_toArray, List.getElem_cons_zero, List.getElem_cons_succ, Act.put, List.setIfInBounds_toArray, List.set_cons_zero, List.set_cons_succ]
      refine wpAnyH_take (i := 7) (v := ?v7) rfl (by kernel_rfl) (by kernel_rfl) (by kernel_rfl) (fun _ _ _ h => h) (Or.inl ⟨by rfl, ?y7⟩) hHeld ?r7
      case y7 => (intro w hSw; have hp := hSw.2.1; have p0 := hp.cell (i := 0) rfl; have p1 := hp.cell (i := 1) rfl; have p2 := hp.cell (i := 2) rfl; have p3 := hp.cell (i := 3) rfl; have p4 := hp.cell (i := 4) rfl; have hq := hSw.2.2.1; have q0 := hq.cell (i := 0) rfl; have q1 := hq.cell (i := 1) rfl; have q2 := hq.cell (i := 2) rfl; have q3 := hq.cell (i := 3) rfl; have q4 := hq.cell (i := 4) rfl; obtain ⟨t0, t1, t2, t3, t4⟩ := PQ.spa hSw Hks.out rfl; obtain ⟨v0, v1, v2, v3, v4⟩ := PQ.spq hSw Hks.out rfl; clear hp hq hSw; go_simp; try with_reducible rfl)
      simp only [List.getElem_toArray, List.getElem_cons_zero, List.getElem_cons_succ, Act.put, List.setIfInBounds_toArray, List.set_cons_zero, List.set_cons_succ]
      refine wpAnyH_take (i := 8) (v := ?v8) rfl (by kernel_rfl) (by kernel_rfl) (by kernel_rfl) (fun _ _ _ h => h) (Or.inl ⟨by rfl, ?y8⟩) hHeld ?r8
      case y8 => (intro w hSw; have hp := hSw.2.1; have p0 := hp.cell (i := 0) rfl; have p1 := hp.cell (i := 1) rfl; have p2 := hp.cell (i := 2) rfl; have p3 := hp.cell (i := 3) rfl; have p4 := hp.cell (i := 4) rfl; have hq := hSw.2.2.1; have q0 := hq.cell (i := 0) rfl; have q1 := hq.cell (i := 1) rfl; have q2 := hq.cell (i := 2) rfl; have q3 := hq.cell (i := 3) rfl; have q4 := hq.cell (i := 4) rfl; obtain ⟨t0, t1, t2, t3, t4⟩ := PQ.spa hSw Hks.out rfl; obtain ⟨v0, v1, v2, v3, v4⟩ := PQ.spq hSw Hks.out rfl; clear hp hq hSw; go_simp; try with_reducible rfl)
      simp only [List.getElem_toArray, List.getElem_cons_zero, List.getElem_cons_succ, Act.put, List.setIfInBounds_toArray, List.set_cons_zero, List.set_cons_succ]
      refine wpAnyH_take (i := 9) (v := ?v9) rfl (by kernel_rfl) (by kernel_rfl) (by kernel_rfl) (fun _ _ _ h => h) (Or.inl ⟨by rfl, ?y9⟩) hHeld ?r9
      case y9 => (intro w hSw; have hp := hSw.2.1; have p0 := hp.cell (i := 0) rfl; have p1 := hp.cell (i := 1) rfl; have p2 := hp.cell (i := 2) rfl; have p3 := hp.cell (i := 3) rfl; have p4 := hp.cell (i := 4) rfl; have hq := hSw.2.2.1; have q0 := hq.cell (i := 0) rfl; have q1 := hq.cell (i := 1) rfl; have q2 := hq.cell (i := 2) rfl; have q3 := hq.cell (i := 3) rfl; have q4 := hq.cell (i := 4) rfl; obtain ⟨t0, t1, t2, t3, t4⟩ := PQ.spa hSw Hks.out rfl; obtain ⟨v0, v1, v2, v3, v4⟩ := PQ.spq hSw Hks.out rfl; clear hp hq hSw; go_simp; try with_reducible rfl)
      simp only [List.getElem_toArray, List.getElem_cons_zero, List.getElem_cons_succ, Act.put, List.setIfInBounds_toArray, List.set_cons_zero, List.set_cons_succ]
      refine wpAnyH_take (i := 10) (v := ?v10) rfl (by kernel_rfl) (by kernel_rfl) (by kernel_rfl) (fun _ _ _ h => h) (Or.inl ⟨by rfl, ?y10⟩) hHeld ?r10
      case y10 => (intro w hSw; have hp := hSw.2.1; have p0 := hp.cell (i := 0) rfl; have p1 := hp.cell (i := 1) rfl; have p2 := hp.cell (i := 2) rfl; have p3 := hp.cell (i := 3) rfl; have p4 := hp.cell (i := 4) rfl; have hq := hSw.2.2.1; have q0 := hq.cell (i := 0) rfl; have q1 := hq.cell (i := 1) rfl; have q2 := hq.cell (i := 2) rfl; have q3 := hq.cell (i := 3) rfl; have q4 := hq.cell (i := 4) rfl; obtain ⟨t0, t1, t2, t3, t4⟩ := PQ.spa hSw Hks.out rfl; obtain ⟨v0, v1, v2, v3, v4⟩ := PQ.spq hSw Hks.out rfl; clear hp hq hSw; go_simp; try with_reducible rfl)
      simp only [List.getElem_toArray, List.getElem_cons_zero, List.getElem_cons_succ, Act.put, List.setIfInBounds_toArray, List.set_cons_zero, List.set_cons_succ]
      refine wpAnyH_take (i := 11) (v := ?v11) rfl (by kernel_rfl) (by kernel_rfl) (by kernel_rfl) (fun _ _ _ h => h) (Or.inl ⟨by rfl, ?y11⟩) hHeld ?r11
      case y11 => (intro w hSw; have hp := hSw.2.1; have p0 := hp.cell (i := 0) rfl; have p1 := hp.cell (i := 1) rfl; have p2 := hp.cell (i := 2) rfl; have p3 := hp.cell (i := 3) rfl; have p4 := hp.cell (i := 4) rfl; have hq := hSw.2.2.1; have q0 := hq.cell (i := 0) rfl; have q1 := hq.cell (i := 1) rfl; have q2 := hq.cell (i := 2) rfl; have q3 := hq.cell (i := 3) rfl; have q4 := hq.cell (i := 4) rfl; obtain ⟨t0, t1, t2, t3, t4⟩ := PQ.spa hSw Hks.out rfl; obtain ⟨v0, v1, v2, v3, v4⟩ := PQ.spq hSw Hks.out rfl; clear hp hq hSw; go_simp; try with_reducible rfl)
      simp only [List.getElem_toArray, List.getElem_cons_zero, List.getElem_cons_succ, Act.put, List.setIfInBounds_toArray, List.set_cons_zero, List.set_cons_succ]
      refine wpAnyH_take (i := 12) (v := ?v12) rfl (by kernel_rfl) (by kernel_rfl) (by kernel_rfl) (fun _ _ _ h => h) (Or.inl ⟨by rfl, ?y12⟩) hHeld ?r12
      case y12 => (intro w hSw; have hp := hSw.2.1; have p0 := hp.cell (i := 0) rfl; have p1 := hp.cell (i := 1) rfl; have p2 := hp.cell (i := 2) rfl; have p3 := hp.cell (i := 3) rfl; have p4 := hp.cell (i := 4) rfl; have hq := hSw.2.2.1; have q0 := hq.cell (i := 0) rfl; have q1 := hq.cell (i := 1) rfl; have q2 := hq.cell (i := 2) rfl; have q3 := hq.cell (i := 3) rfl; have q4 := hq.cell (i := 4) rfl; obtain ⟨t0, t1, t2, t3, t4⟩ := PQ.spa hSw Hks.out rfl; obtain ⟨v0, v1, v2, v3, v4⟩ := PQ.spq hSw Hks.out rfl; clear hp hq hSw; go_simp; try with_reducible rfl)
      simp only [List.getElem_toArray, List.getElem_cons_zero, List.getElem_cons_succ, Act.put, List.setIfInBounds_toArray, List.set_cons_zero, List.set_cons_succ]
      refine wpAnyH_ready (rs := [5]) (by kernel_rfl) (by simp) (AllReadyH.cons rfl (fun K hK => ?_) AllReadyH.nil)
      go_simp
      refine (plain_any sp.1 sp.2.1 sp.2.2.1 sp.2.2.2.1 sp.2.2.2.2 _).mono ?_
      rintro e Y1 ⟨rfl, hb1⟩
      have X1 := Lib.hid (Xd.out.next hb1)
      clear hb1
      go_wp2_with fail
      refine hK.out _ _ (X1.out) (fun hHeld => ?_)
      clear hK K
      refine wpAnyH_take (i := 13) (v := ?v14) rfl (by kernel_rfl) (by kernel_rfl) (by kernel_rfl) (fun _ _ _ h => h) (Or.inl ⟨by rfl, ?y14⟩) hHeld ?r14
      case y14 => (intro w hSw; have hp := hSw.2.1; have p0 := hp.cell (i := 0) rfl; have p1 := hp.cell (i := 1) rfl; have p2 := hp.cell (i := 2) rfl; have p3 := hp.cell (i := 3) rfl; have p4 := hp.cell (i := 4) rfl; have hq := hSw.2.2.1; have q0 := hq.cell (i := 0) rfl; have q1 := hq.cell (i := 1) rfl; have q2 := hq.cell (i := 2) rfl; have q3 := hq.cell (i := 3) rfl; have q4 := hq.cell (i := 4) rfl; obtain ⟨t0, t1, t2, t3, t4⟩ := PQ.spa hSw Hks.out rfl; obtain ⟨v0, v1, v2, v3, v4⟩ := PQ.spq hSw Hks.out rfl; clear hp hq hSw; go_simp; try with_reducible rfl)
      simp only [List.getElem_toArray, List.getElem_cons_zero, List.getElem_cons_succ, Act.put, List.setIfInBounds_toArray, List.set_cons_zero, List.set_cons_succ]
      refine wpAnyH_done (by kernel_rfl) ?_ _
      go_wp2
      go_roundw
      case rel => exact ⟨k + 1, by omega, by go_num, X1.out⟩
      case measure => simp [intOf]; omega
    · have k0 : decide ((k : Int) < (l.length : Int)) = false := decide_eq_false (by omega)
      have p3 := hS.2.1.cell (i := 3) rfl
      have X5 := Lib.hid hS
      clear hS
      go_wp2_with fail
      refine (awake_any wr).mono ?_
      rintro e W6 ⟨rfl, hb6⟩
      have X6 := Lib.hid (X5.out.next hb6)
      clear hb6 X5 p3
      go_wp2
      go_ret
      exact ⟨rfl, X6.out.1.2.2⟩
end Go.Proofs.Ytdnjoflahiffhaa
