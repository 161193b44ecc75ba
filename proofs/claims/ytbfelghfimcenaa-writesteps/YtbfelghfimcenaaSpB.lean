/- WriteSteps: what its walk leans on, and the inputs that it leaves. -/
import Derived.Test.YtbfelghfimcenaaSpM
import Derived.Test.YtbfelghfimcenaaArgs
import Derived.Deep.CutRange
import Derived.Deep.DeepCutAuto
namespace Go.Proofs.Ytbfelghfimcenaa
open Go.RowKit

def lnB (a b c : Nat) : Bool := decide (70 < a) || decide (70 < b) || decide (70 < c)
abbrev j6 (a0 a1 a2 : Option Addr) (l0 l1 l2 c0 c1 c2 : Nat) (t0 t1 t2 : Int) : Array Value := #[.slice a0 l0 c0, .int .i64 t0, .slice a1 l1 c1, .int .i64 t1, .slice a2 l2 c2, .int .i64 t2]
set_option maxRecDepth 100000 in
theorem long_any (a0 a1 a2 : Option Addr) (l0 l1 l2 c0 c1 c2 : Nat) (t0 t1 t2 : Int) (w : World) : Calls Try.prog 8 #[.agg (j6 a0 a1 a2 l0 l1 l2 c0 c1 c2 t0 t1 t2)] w (Ret (.bool (lnB l0 l1 l2)) w) := by
  have Hb := Lib.hid ((Below.refl w.heap.size w).alloc (Nat.le_refl _) (.cells (j6 a0 a1 a2 l0 l1 l2 c0 c1 c2 t0 t1 t2) 27))
  by_cases k0 : 70 < (l0 : Int)
  · have e : lnB l0 l1 l2 = true := by unfold lnB; rw [decide_eq_true (show 70 < l0 by omega)]; rfl
    rw [e]
    clear e
    go_enter Try.func8, Try.ntmps8
    go_wp2
    go_ret
    exact ⟨rfl, Hb.out⟩
  · by_cases k1 : 70 < (l1 : Int)
    · have e : lnB l0 l1 l2 = true := by unfold lnB; rw [decide_eq_true (show 70 < l1 by omega)]; simp
      rw [e]
      clear e
      go_enter Try.func8, Try.ntmps8
      go_wp2
      go_ret
      exact ⟨rfl, Hb.out⟩
    · have e : lnB l0 l1 l2 = decide (70 < (l2 : Int)) := by
        unfold lnB
        rw [decide_eq_false (show ¬ 70 < l0 by omega), decide_eq_false (show ¬ 70 < l1 by omega)]
        simp
        omega
      rw [e]
      clear e
      go_enter Try.func8, Try.ntmps8
      go_wp2
      go_ret
      exact ⟨rfl, Hb.out⟩
abbrev j7 (a0 a1 a2 : Option Addr) (l0 l1 l2 c0 c1 c2 : Nat) (t0 t1 t2 : Int) (v : Value) : Array Value := #[.slice a0 l0 c0, .int .i64 t0, .slice a1 l1 c1, .int .i64 t1, .slice a2 l2 c2, .int .i64 t2, v]
set_option maxRecDepth 100000 in
set_option maxHeartbeats 2000000 in
theorem steps_bad (n : Int) (S : Sp) (a0 a1 a2 : Option Addr) (l0 l1 l2 c0 c1 c2 : Nat) (t0 t1 t2 : Int) (aa : Option Addr) (al ac : Nat) (w : World) (h : ¬ (1 ≤ n ∧ n ≤ 60 ∧ al ≤ 200 ∧ lnB l0 l1 l2 = false)) :
    Calls Try.prog 3 #[.int .i64 n, spV S, .agg (j7 a0 a1 a2 l0 l1 l2 c0 c1 c2 t0 t1 t2 (.slice aa al ac))] w (True1 w) := by
  have Hb := Lib.hid (((Below.refl w.heap.size w).alloc (Nat.le_refl _) (sb S)).alloc (by simp) (.cells (j7 a0 a1 a2 l0 l1 l2 c0 c1 c2 t0 t1 t2 (.slice aa al ac)) 30))
  have Hl := Lib.hid (fun W => long_any a0 a1 a2 l0 l1 l2 c0 c1 c2 t0 t1 t2 W)
  by_cases k : 1 ≤ n ∧ n ≤ 60 ∧ al ≤ 200
  · obtain ⟨k1, k2, k3⟩ := k
    have e : lnB l0 l1 l2 = true := by cases hq : lnB l0 l1 l2 with | true => rfl | false => exact absurd ⟨k1, k2, k3, hq⟩ h
    rw [e] at Hl
    have k4 : (al : Int) ≤ 200 := by omega
    clear h e k3
    go_enter Try.func3, Try.ntmps3
    go_wp2_with fail
    refine (Hl.out _).mono ?_
    rintro e w1 ⟨rfl, hu1⟩
    have H1 := Lib.hid (Hb.out.trans (hu1.mono Hb.out.size))
    clear hu1
    go_wp2_with fail
    refine (awake_any _).mono ?_
    rintro e w2 ⟨rfl, hu2⟩
    have H2 := Lib.hid (H1.out.trans (hu2.mono H1.out.size))
    clear hu2
    go_wp2
    go_ret
    exact ⟨rfl, H2.out⟩
  · clear h
    rcases (show n < 1 ∨ (1 ≤ n ∧ 60 < n) ∨ (1 ≤ n ∧ n ≤ 60 ∧ 200 < (al : Int)) by omega) with c | ⟨c1', c2'⟩ | ⟨c1', c2', c3⟩
    all_goals
      clear k
      go_enter Try.func3, Try.ntmps3
      go_wp2_with fail
      refine (awake_any _).mono ?_
      rintro e w1 ⟨rfl, hu1⟩
      have H1 := Lib.hid (Hb.out.trans (hu1.mono Hb.out.size))
      clear hu1
      go_wp2
      go_ret
      exact ⟨rfl, H1.out⟩
theorem made_zeros2 (n : Nat) : madeCells #[.int .u64 0] n = zeros n := made_zeros n
theorem info49' : (Try.prog.info? 49).map (fun i => (i.zero, i.size, i.bytes)) = some (some (.int .u64 0), 1, 8) := by kernel_rfl
theorem make_w (n : Nat) (h : n ≤ 60) (w : World) :
    (Instr.makeSlice 24 (.int .i64 n) (.int .i64 n)).run Try.prog w = .ok (.slice (some ⟨w.heap.size, 0, none⟩) n n) (w.alloc (.cells (zeros n) 49)) := by
  obtain ⟨i, hi, he⟩ := Option.map_eq_some_iff.1 info49
  simp only [Prod.mk.injEq] at he
  obtain ⟨hz, hs, hb⟩ := he
  have hr := run_make (P := Try.prog) w 24 49 i _ Try.underlying24 hi hz .i64 .i64 n n (by omega) (by omega) (by rw [hb]; omega) (by omega)
  rw [hs] at hr
  simp only [Int.toNat_natCast, Nat.mul_one] at hr
  rw [show (Value.int .u64 0).cells = #[Value.int .u64 0] from rfl, made_zeros] at hr
  exact hr
/-- Acts that came in. -/
def Acs (n₀ : Nat) (W : World) (a : Option Addr) (acl : List (Int × Int × Int)) : Prop :=
  ∀ (j : Nat) (c : Int × Int × Int), acl[j]? = some c → I64 c.1 ∧ I64 c.2.1 ∧ U64 c.2.2 ∧ ∃ b off, a = some ⟨b, off, none⟩ ∧ b < n₀ ∧ W.cell? ⟨b, off + j * 3, none⟩ = some (.int .i64 c.1) ∧ W.cell? ⟨b, off + j * 3 + 1, none⟩ = some (.int .i64 c.2.1) ∧ W.cell? ⟨b, off + j * 3 + 2, none⟩ = some (.int .u64 c.2.2)
theorem Acs.keep {A B : World} {n₀ : Nat} {a : Option Addr} {acl : List (Int × Int × Int)} (k : Acs n₀ A a acl) (h : Below n₀ A B) : Acs n₀ B a acl := fun j c hc => by
  obtain ⟨h1, h2, h3, b, off, e, hb, c1, c2, c3⟩ := k j c hc
  exact ⟨h1, h2, h3, b, off, e, hb, by rw [h.cell (p := ⟨b, off + j * 3, none⟩) hb]; exact c1, by rw [h.cell (p := ⟨b, off + j * 3 + 1, none⟩) hb]; exact c2, by rw [h.cell (p := ⟨b, off + j * 3 + 2, none⟩) hb]; exact c3⟩
theorem cell_low {A B : World} {p : Addr} {v : Value} (h : Below A.heap.size A B) (c : A.cell? p = some v) : B.cell? p = some v := by
  rw [h.cell (World.block_lt_of_cell? _ _ c)]
  exact c
def CellA (p : Addr) (v : Value) (w : World) : Prop := w.cell? p = some v
def whB (x : Int) : Bool := decide (x < 0) || decide (2 < x)
/-- The first loop's head. -/
def SpRel (w : World) (K : Bks) (S : Sp) (J : Nat → Jb) (acts : Value) (n : Nat) (k : Value) (wr : World) : Prop :=
  ∃ (q : Nat) (X : Pbs), k = .int .i64 q ∧ q ≤ 3 ∧ (∀ j, q ≤ j → X j = none) ∧ SpMem w K S J acts X 0 (List.replicate n 0) 0 wr
/-- The second loop's head. -/
def SpRel2 (w : World) (K : Bks) (S : Sp) (J : Nat → Jb) (acts : Value) (n m : Nat) (i : Value) (wr : World) : Prop :=
  ∃ (q : Nat) (X : Pbs) (zs : List Int) (t : Int), i = .int .i64 q ∧ q ≤ m ∧ zs.length = n ∧ (∀ j, 3 ≤ j → X j = none) ∧ SpMem w K S J acts X q zs t wr ∧ 0 ≤ t ∧ t ≤ q
/-- The third. -/
def SpRel3 (w : World) (K : Bks) (S : Sp) (J : Nat → Jb) (acts : Value) (X : Pbs) (n q : Nat) (zs : List Int) (t : Int) (i : Value) (wr : World) : Prop :=
  ∃ (j : Nat), i = .int .i64 j ∧ j ≤ n ∧ SpMem w K S J acts X q zs t wr
def SpMid (w : World) (K : Bks) (S : Sp) (J : Nat → Jb) (acts : Value) (n q : Nat) (wr : World) : Prop :=
  ∃ (X : Pbs) (zs : List Int) (t : Int), zs.length = n ∧ (∀ j, 3 ≤ j → X j = none) ∧ SpMem w K S J acts X q zs t wr ∧ 0 ≤ t ∧ t ≤ q
end Go.Proofs.Ytbfelghfimcenaa
