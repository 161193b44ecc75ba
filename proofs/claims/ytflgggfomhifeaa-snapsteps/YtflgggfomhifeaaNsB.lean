/- SnapSteps: what its walk leans on, and the inputs that it leaves. -/
import Derived.Test.YtflgggfomhifeaaNsM
import Derived.Test.YtflgggfomhifeaaAwk
import Derived.Test.YtflgggfomhifeaaRnD
import Derived.Deep.RegionHeld3
import Derived.BigQuiet
namespace Go.Proofs.Ytflgggfomhifeaa
open Go.RowKit

/-- What is done, one behind the other. -/
abbrev Ac := Bool × Int × Int
def Acs (n₀ : Nat) (W : World) (a : Option Addr) (acl : List Ac) : Prop :=
  ∀ (j : Nat) (c : Ac), acl[j]? = some c → I64 c.2.1 ∧ U64 c.2.2 ∧ ∃ b off, a = some ⟨b, off, none⟩ ∧ b < n₀ ∧ W.cell? ⟨b, off + j * 3, none⟩ = some (.bool c.1) ∧ W.cell? ⟨b, off + j * 3 + 1, none⟩ = some (.int .i64 c.2.1) ∧ W.cell? ⟨b, off + j * 3 + 2, none⟩ = some (.int .u64 c.2.2)
theorem Acs.keep {A B : World} {n₀ : Nat} {a : Option Addr} {acl : List Ac} (k : Acs n₀ A a acl) (h : Below n₀ A B) : Acs n₀ B a acl := fun j c hc => by
  obtain ⟨h2, h3, b, off, e, hb, c1, c2, c3⟩ := k j c hc
  exact ⟨h2, h3, b, off, e, hb, by rw [h.cell (p := ⟨b, off + j * 3, none⟩) hb]; exact c1, by rw [h.cell (p := ⟨b, off + j * 3 + 1, none⟩) hb]; exact c2, by rw [h.cell (p := ⟨b, off + j * 3 + 2, none⟩) hb]; exact c3⟩
/-- Two cells of what is done. -/
def AC (b f1 f2 : Nat) (v1 v2 : Value) (W : World) : Prop := W.cell? ⟨b, f1, none⟩ = some v1 ∧ W.cell? ⟨b, f2, none⟩ = some v2
def CellA (p : Addr) (v : Value) (w : World) : Prop := w.cell? p = some v
abbrev bx2 (a : Option Addr) (n c : Nat) (tr : Int) : Obj := .cells #[.slice a n c, .int .i64 tr] 24
/-- What the document's tells. -/
def DT (o : Nat) (V U : Value) (bgn how dd : Int) (W : World) : Prop := W.cell? ⟨o, 6, none⟩ = some V ∧ W.cell? ⟨o, 7, none⟩ = some U ∧ W.cell? ⟨o, 8, none⟩ = some (.int .i64 bgn) ∧ W.cell? ⟨o, 9, none⟩ = some (.int .i64 how) ∧ W.cell? ⟨o, 10, none⟩ = some (.int .i64 dd)
theorem DT.of {W : World} {o : Nat} {a : Option Addr} {n c : Nat} {V U : Value} {SS : List Sp} {tr : Int} {x : NSt} (h : RnAt W o a n c V U SS tr x) : DT o V U x.bgn x.how x.steps W := ⟨h.cells.cell rfl, h.cells.cell rfl, h.cells.cell rfl, h.cells.cell rfl, h.cells.cell rfl⟩
theorem owns_rdw {W : World} {a : Option Addr} {k c : Nat} {xs : List Int} (h : W.ownsRow 0 42 1 (.slice a k c) k (xs.map (Value.int .u64))) : Rdw W a xs := fun j x hx => by
  obtain ⟨h1, h2⟩ := h
  rcases h2 with ⟨e, hk⟩ | ⟨g, cap, cur, e, _, hg, _, _, _, ht⟩
  · have : (xs.map (Value.int .u64)).length = 0 := by rw [h1, hk]
    have hl : xs.length = 0 := by simpa using this
    rw [List.eq_nil_of_length_eq_zero hl] at hx
    cases hx
  · cases e
    refine ⟨g, 0, rfl, ?_⟩
    have hu : (xs.map (Value.int .u64))[j]? = some (.int .u64 x) := by rw [List.getElem?_map, hx]; rfl
    rw [Nat.zero_add]
    simp only [World.cell?, hg]
    rw [← Array.getElem?_toList]
    rw [← ht, List.getElem?_take] at hu
    split at hu
    · exact hu
    · cases hu
def XB (xb : Nat) (a : Option Addr) (n c : Nat) (tr : Int) (W : World) : Prop := Blk W xb (jbx a n c tr)
/-- The main loop's head. -/
def NsRel (w : World) (SS : List Sp) (tr : Int) (a : Option Addr) (c cp n m b bg wb xb p gs g o d off : Nat) (i : Value) (wr : World) : Prop :=
  ∃ (q : Nat) (V U : Value) (x : NSt) (zs : List Int) (t : Int), i = .int .i64 q ∧ q ≤ m ∧ zs.length = n ∧ NsM w SS tr a c cp ⟨b, bg, wb, xb, p, gs, g, o, d, off, V, U, x, x, zs, t⟩ wr ∧ 0 ≤ t ∧ t ≤ q ∧ NWf SS x ∧ 0 ≤ x.steps ∧ x.steps ≤ q ∧ x.left ≤ tr ∧ (x.how = 1 → x.line = 2)
/-- The words' loop. -/
def NsRel2 (w : World) (SS : List Sp) (tr : Int) (a : Option Addr) (c cp n b bg wb xb p gs g o d off : Nat) (V U : Value) (x : NSt) (zs : List Int) (t : Int) (i : Value) (wr : World) : Prop :=
  ∃ j : Nat, i = .int .i64 j ∧ j ≤ n ∧ NsM w SS tr a c cp ⟨b, bg, wb, xb, p, gs, g, o, d, off, V, U, x, x, zs, t⟩ wr
set_option maxRecDepth 100000 in
set_option maxHeartbeats 2000000 in
theorem steps_bad (n : Int) (ja : Option Addr) (ln jc : Nat) (tr : Int) (aa : Option Addr) (m ac : Nat) (w : World) (h : ¬ (1 ≤ n ∧ n ≤ 80 ∧ ln ≤ 70 ∧ m ≤ 300)) : Calls Try.prog 3 #[.int .i64 n, .agg (jbx ja ln jc tr).toArray, .slice aa m ac] w (True1 w) := by
  have Hb := Lib.hid ((Below.refl w.heap.size w).alloc (Nat.le_refl _) (bx2 ja ln jc tr))
  unfold jbx
  rcases (show n < 1 ∨ (1 ≤ n ∧ 80 < n) ∨ (1 ≤ n ∧ n ≤ 80 ∧ 70 < (ln : Int)) ∨ (1 ≤ n ∧ n ≤ 80 ∧ (ln : Int) ≤ 70 ∧ 300 < (m : Int)) by omega) with k | ⟨k1, k2⟩ | ⟨k1, k2, k3⟩ | ⟨k1, k2, k3, k4⟩
  all_goals
    clear h
    go_enter Try.func3, Try.ntmps3
    go_wp2_with fail
    refine (awake_any _).mono ?_
    rintro e w1 ⟨rfl, hu1⟩
    have H1 := Lib.hid (Hb.out.trans (hu1.mono Hb.out.size))
    clear hu1
    go_wp2
    go_ret
    exact ⟨rfl, H1.out⟩
set_option maxRecDepth 100000 in
set_option maxHeartbeats 8000000 in
theorem steps_no (n : Nat) (ja : Option Addr) (jl : List Sp) (jc : Nat) (tr : Int) (aa : Option Addr) (m ac : Nat) (w : World) (n1 : 1 ≤ n) (n2 : n ≤ 80) (hS : Sps w.heap.size w ja jl) (hl : jl.length ≤ 70) (hm : m ≤ 300) (hmb : ¬ flt jl tr = 0) : Calls Try.prog 3 #[.int .i64 (n : Int), .agg (jbx ja jl.length jc tr).toArray, .slice aa m ac] w (True1 w) := by
  have k3 : (m : Int) ≤ 300 := by omega
  obtain ⟨f, hf⟩ : ∃ f, flt jl tr = f := ⟨_, rfl⟩
  have mff : (f != f) = false := by simp
  have mf0 : (f != 0) = true := by rw [hf] at hmb; simpa using hmb
  have Hnw : Hid (∀ W, Below w.heap.size w W → Calls Try.prog 10 #[.slice ja jl.length jc, .int .i64 tr] W (Ret (.tuple #[.pointer none, .int .i64 f]) W)) := Lib.hid (fun W hb => by
    have := nnew_bad ja jc jl tr W (hS.next hb) (by omega) hmb
    rw [hf] at this
    exact this)
  have Hdn : Hid (∀ W a c, Sps W.heap.size W a jl → Calls Try.prog 11 #[.slice a jl.length c, .int .i64 tr] W (Ret (.tuple #[.pointer none, .int .i64 f]) W)) := Lib.hid (fun W a c hb => by
    have := rfnew_bad a c jl tr W hb (by omega) hmb
    rw [hf] at this
    exact this)
  clear hf
  have Hmb := Lib.hid hmb
  have hbl := (Below.refl w.heap.size w).alloc (Nat.le_refl _) (bx2 ja jl.length jc tr)
  have hC := Blk.new w #[.slice ja jl.length jc, .int .i64 tr] 24
  have H0 := Lib.hid (show Blk (w.alloc (bx2 ja jl.length jc tr)) w.heap.size (jbx ja jl.length jc tr) ∧ Below w.heap.size w (w.alloc (bx2 ja jl.length jc tr)) from ⟨hC, hbl⟩)
  have Hnb := Lib.hid (fun w => new_ok n w n1 (by omega))
  have k1 : 1 ≤ (n : Int) := by omega
  have k2 : (n : Int) ≤ 80 := by omega
  have Hn := Lib.hid (And.intro n1 (And.intro n2 hl))
  have Hms : Hid (∀ W, Below w.heap.size w W → Calls Try.prog 13 #[.slice ja jl.length jc, .int .i64 tr] W (Ret (.int .i64 (nmst jl tr)) W)) := Lib.hid (fun W hb => nmost_any ja jc jl tr W (hS.next hb) (by omega))
  have Hmd : Hid (∀ W a c, Sps W.heap.size W a jl → Calls Try.prog 14 #[.slice a jl.length c, .int .i64 tr] W (Ret (.int .i64 (nmst jl tr)) W)) := Lib.hid (fun W a c hb => rfmost_any a c jl tr W hb (by omega))
  have Hpl : Hid (∀ W, Below w.heap.size w W → Calls Try.prog 12 #[.slice ja jl.length jc] W (PlPost jl.length jl W)) := Lib.hid (fun W hb => plain_any ja jc jl W (hS.next hb) hl)
  have mMM : ((nmst jl tr) != (nmst jl tr)) = false := by simp
  generalize nmst jl tr = MS at *
  have HS := Lib.hid hS
  have k4 : (jl.length : Int) ≤ 70 := by omega
  clear hbl hC n1 n2 hl hmb hS
  unfold jbx
  obtain ⟨ln, hln⟩ : ∃ ln, jl.length = ln := ⟨_, rfl⟩
  rw [hln] at k4 H0 Hms Hmd Hpl Hnw Hdn ⊢
  have Hln := Lib.hid hln
  clear hln
  go_enter Try.func3, Try.ntmps3
  go_wp2_with fail
  generalize w.alloc (bx2 ja ln jc tr) = w0 at H0 ⊢
  obtain ⟨xb, hxb⟩ : ∃ xb, w.heap.size = xb := ⟨_, rfl⟩
  refine (Hnb.out _).mono ?_
  rintro e w1 ⟨b, bg, hb, hg, rfl, hk1, hu1⟩
  have H1 := Lib.hid (show Bk w1 b bg (List.replicate n 0) 0 ∧ Blk w1 w.heap.size (jbx ja ln jc tr) ∧ Below w.heap.size w w1 from ⟨hk1, H0.out.1.low hu1, H0.out.2.trans (hu1.mono H0.out.2.size)⟩)
  have Hap := Lib.hid (show b ≠ w.heap.size ∧ bg ≠ w.heap.size ∧ w.heap.size ≤ b ∧ w.heap.size ≤ bg from by have l1 := H0.out.1.lt; have l2 := H0.out.2.size; omega)
  clear hk1 hu1 hb hg H0 hxb xb
  have c0 := H1.out.2.1.cell (i := 0) rfl
  have c1 := H1.out.2.1.cell (i := 1) rfl
  go_wp2_with fail
  refine (Hnw.out _ H1.out.2.2).mono ?_
  rintro e w2 ⟨rfl, hu2⟩
  have H2 := Lib.hid (And.intro (H1.out.2.1.low hu2) (H1.out.2.2.trans (hu2.mono H1.out.2.2.size)))
  clear hu2 H1 c0 c1
  go_wp2_with fail
  refine wp_region_held_drew (S := XB w.heap.size ja ln jc tr) (by kernel_rfl) (Blk.drew H2.out.1) (fun hHeld => ?_)
  refine wpAnyH_take (i := 0) (v := ?v1) rfl (by kernel_rfl) (by kernel_rfl) (by kernel_rfl) (fun _ _ _ h => h) (Or.inl ⟨by rfl, ?y1⟩) hHeld ?r1
  case y1 => (intro w hSw; have c0 := Blk.cell (i := 0) hSw rfl; have c1 := Blk.cell (i := 1) hSw rfl; clear hSw; go_simp; try with_reducible rfl)
  simp only [List.getElem_toArray, List.getElem_cons_zero, Act.put, List.setIfInBounds_toArray, List.set_cons_zero, List.set_cons_succ]
  refine wpAnyH_take (i := 1) (v := ?v2) rfl (by kernel_rfl) (by kernel_rfl) (by kernel_rfl) (fun _ _ _ h => h) (Or.inl ⟨by rfl, ?y2⟩) hHeld ?r2
  case y2 => (intro w hSw; have c0 := Blk.cell (i := 0) hSw rfl; have c1 := Blk.cell (i := 1) hSw rfl; clear hSw; go_simp; try with_reducible rfl)
  simp only [List.getElem_toArray, List.getElem_cons_zero, List.getElem_cons_succ, Act.put, List.setIfInBounds_toArray, List.set_cons_zero, List.set_cons_succ]
  refine wpAnyH_take (i := 3) (v := ?v3) rfl (by kernel_rfl) (by kernel_rfl) (by kernel_rfl) (fun _ _ _ h => h) (Or.inl ⟨by rfl, ?y3⟩) hHeld ?r3
  case y3 => (intro w hSw; have c0 := Blk.cell (i := 0) hSw rfl; have c1 := Blk.cell (i := 1) hSw rfl; clear hSw; go_simp; try with_reducible rfl)
  simp only [List.getElem_toArray, List.getElem_cons_zero, List.getElem_cons_succ, Act.put, List.setIfInBounds_toArray, List.set_cons_zero, List.set_cons_succ]
  refine wpAnyH_take (i := 4) (v := ?v4) rfl (by kernel_rfl) (by kernel_rfl) (by kernel_rfl) (fun _ _ _ h => h) (Or.inl ⟨by rfl, ?y4⟩) hHeld ?r4
  case y4 => (intro w hSw; have c0 := Blk.cell (i := 0) hSw rfl; have c1 := Blk.cell (i := 1) hSw rfl; clear hSw; go_simp; try with_reducible rfl)
  simp only [List.getElem_toArray, List.getElem_cons_zero, List.getElem_cons_succ, Act.put, List.setIfInBounds_toArray, List.set_cons_zero, List.set_cons_succ]
  refine wpAnyH_ready (rs := [2]) (by kernel_rfl) (by simp) (AllReadyH.cons rfl (fun K hK => ?_) AllReadyH.nil)
  go_simp
  have Hd2 := Lib.hid (And.intro (Blk.drew H2.out.1) (belN H2.out.2 1))
  refine (Hpl.out _ Hd2.out.2).mono ?_
  rintro e w3 ⟨pa3, pc3, rfl, hs3, hu3, hb3⟩
  have H3 := Lib.hid (And.intro (Hd2.out.1.low hu3) (Hd2.out.2.trans (hu3.mono Hd2.out.2.size)))
  have HP3 := Lib.hid (And.intro hs3 hb3)
  clear hs3 hb3
  clear hu3
  go_wp2_with fail
  refine hK.out _ _ (H3.out.1) (fun hHeld => ?_)
  clear hK K
  refine wpAnyH_ready (rs := [5]) (by kernel_rfl) (by simp) (AllReadyH.cons rfl (fun K hK => ?_) AllReadyH.nil)
  go_simp
  refine (Hdn.out _ _ _ HP3.out.1).mono ?_
  rintro e w4 ⟨rfl, hu4⟩
  have H4 := Lib.hid (And.intro (H3.out.1.low hu4) (H3.out.2.trans (hu4.mono H3.out.2.size)))
  clear hu4
  go_wp2_with fail
  refine hK.out _ _ (H4.out.1) (fun hHeld => ?_)
  clear hK K
  refine wpAnyH_take (i := 6) (v := ?v7) rfl (by kernel_rfl) (by kernel_rfl) (by kernel_rfl) (fun _ _ _ h => h) (Or.inl ⟨by rfl, ?y7⟩) hHeld ?r7
  case y7 => (intro w hSw; have c0 := Blk.cell (i := 0) hSw rfl; have c1 := Blk.cell (i := 1) hSw rfl; clear hSw; go_simp; try with_reducible rfl)
  simp only [List.getElem_toArray, List.getElem_cons_zero, List.getElem_cons_succ, Act.put, List.setIfInBounds_toArray, List.set_cons_zero, List.set_cons_succ]
  refine wpAnyH_take (i := 7) (v := ?v8) rfl (by kernel_rfl) (by kernel_rfl) (by kernel_rfl) (fun _ _ _ h => h) (Or.inl ⟨by rfl, ?y8⟩) hHeld ?r8
  case y8 => (intro w hSw; have c0 := Blk.cell (i := 0) hSw rfl; have c1 := Blk.cell (i := 1) hSw rfl; clear hSw; go_simp; try with_reducible rfl)
  simp only [List.getElem_toArray, List.getElem_cons_zero, List.getElem_cons_succ, Act.put, List.setIfInBounds_toArray, List.set_cons_zero, List.set_cons_succ]
  refine wpAnyH_take (i := 8) (v := ?v9) rfl (by kernel_rfl) (by kernel_rfl) (by kernel_rfl) (fun _ _ _ h => h) (Or.inl ⟨by rfl, ?y9⟩) hHeld ?r9
  case y9 => (intro w hSw; have c0 := Blk.cell (i := 0) hSw rfl; have c1 := Blk.cell (i := 1) hSw rfl; clear hSw; go_simp; try with_reducible rfl)
  simp only [List.getElem_toArray, List.getElem_cons_zero, List.getElem_cons_succ, Act.put, List.setIfInBounds_toArray, List.set_cons_zero, List.set_cons_succ]
  refine wpAnyH_take (i := 9) (v := ?v10) rfl (by kernel_rfl) (by kernel_rfl) (by kernel_rfl) (fun _ _ _ h => h) (Or.inl ⟨by rfl, ?y10⟩) hHeld ?r10
  case y10 => (intro w hSw; have c0 := Blk.cell (i := 0) hSw rfl; have c1 := Blk.cell (i := 1) hSw rfl; clear hSw; go_simp; try with_reducible rfl)
  simp only [List.getElem_toArray, List.getElem_cons_zero, List.getElem_cons_succ, Act.put, List.setIfInBounds_toArray, List.set_cons_zero, List.set_cons_succ]
  refine wpAnyH_take (i := 10) (v := ?v11) rfl (by kernel_rfl) (by kernel_rfl) (by kernel_rfl) (fun _ _ _ h => h) (Or.inl ⟨by rfl, ?y11⟩) hHeld ?r11
  case y11 => (intro w hSw; have c0 := Blk.cell (i := 0) hSw rfl; have c1 := Blk.cell (i := 1) hSw rfl; clear hSw; go_simp; try with_reducible rfl)
  simp only [List.getElem_toArray, List.getElem_cons_zero, List.getElem_cons_succ, Act.put, List.setIfInBounds_toArray, List.set_cons_zero, List.set_cons_succ]
  refine wpAnyH_done (by kernel_rfl) ?_ _
  clear hHeld
  have m00 : ((0 : Int) != 0) = false := by decide
  go_wp2_with fail
  refine wp_region_held_drew (S := XB w.heap.size ja ln jc tr) (by kernel_rfl) (Blk.drew H4.out.1) (fun hHeld => ?_)
  refine wpAnyH_take (i := 0) (v := ?v12) rfl (by kernel_rfl) (by kernel_rfl) (by kernel_rfl) (fun _ _ _ h => h) (Or.inl ⟨by rfl, ?y12⟩) hHeld ?r12
  case y12 => (intro w hSw; have c0 := Blk.cell (i := 0) hSw rfl; have c1 := Blk.cell (i := 1) hSw rfl; clear hSw; go_simp; try with_reducible rfl)
  simp only [List.getElem_toArray, List.getElem_cons_zero, Act.put, List.setIfInBounds_toArray, List.set_cons_zero, List.set_cons_succ]
  refine wpAnyH_take (i := 1) (v := ?v13) rfl (by kernel_rfl) (by kernel_rfl) (by kernel_rfl) (fun _ _ _ h => h) (Or.inl ⟨by rfl, ?y13⟩) hHeld ?r13
  case y13 => (intro w hSw; have c0 := Blk.cell (i := 0) hSw rfl; have c1 := Blk.cell (i := 1) hSw rfl; clear hSw; go_simp; try with_reducible rfl)
  simp only [List.getElem_toArray, List.getElem_cons_zero, List.getElem_cons_succ, Act.put, List.setIfInBounds_toArray, List.set_cons_zero, List.set_cons_succ]
  refine wpAnyH_take (i := 2) (v := ?v14) rfl (by kernel_rfl) (by kernel_rfl) (by kernel_rfl) (fun _ _ _ h => h) (Or.inl ⟨by rfl, ?y14⟩) hHeld ?r14
  case y14 => (intro w hSw; have c0 := Blk.cell (i := 0) hSw rfl; have c1 := Blk.cell (i := 1) hSw rfl; clear hSw; go_simp; try with_reducible rfl)
  simp only [List.getElem_toArray, List.getElem_cons_zero, List.getElem_cons_succ, Act.put, List.setIfInBounds_toArray, List.set_cons_zero, List.set_cons_succ]
  refine wpAnyH_take (i := 3) (v := ?v15) rfl (by kernel_rfl) (by kernel_rfl) (by kernel_rfl) (fun _ _ _ h => h) (Or.inl ⟨by rfl, ?y15⟩) hHeld ?r15
  case y15 => (intro w hSw; have c0 := Blk.cell (i := 0) hSw rfl; have c1 := Blk.cell (i := 1) hSw rfl; clear hSw; go_simp; try with_reducible rfl)
  simp only [List.getElem_toArray, List.getElem_cons_zero, List.getElem_cons_succ, Act.put, List.setIfInBounds_toArray, List.set_cons_zero, List.set_cons_succ]
  refine wpAnyH_take (i := 4) (v := ?v16) rfl (by kernel_rfl) (by kernel_rfl) (by kernel_rfl) (fun _ _ _ h => h) (Or.inl ⟨by rfl, ?y16⟩) hHeld ?r16
  case y16 => (intro w hSw; have c0 := Blk.cell (i := 0) hSw rfl; have c1 := Blk.cell (i := 1) hSw rfl; clear hSw; go_simp; try with_reducible rfl)
  simp only [List.getElem_toArray, List.getElem_cons_zero, List.getElem_cons_succ, Act.put, List.setIfInBounds_toArray, List.set_cons_zero, List.set_cons_succ]
  refine wpAnyH_take (i := 5) (v := .bool false) rfl (by kernel_rfl) (by kernel_rfl) (by kernel_rfl) (fun _ _ _ h => h) (Or.inl ⟨by rfl, ?y17⟩) hHeld ?r17
  case y17 => (intro w hSw; have c0 := Blk.cell (i := 0) hSw rfl; have c1 := Blk.cell (i := 1) hSw rfl; clear hSw; go_simp; try with_reducible rfl)
  simp only [List.getElem_toArray, List.getElem_cons_zero, List.getElem_cons_succ, Act.put, List.setIfInBounds_toArray, List.set_cons_zero, List.set_cons_succ]
  refine wpAnyH_take (i := 6) (v := ?v18) rfl (by kernel_rfl) (by kernel_rfl) (by kernel_rfl) (fun _ _ _ h => h) (Or.inl ⟨by rfl, ?y18⟩) hHeld ?r18
  case y18 => (intro w hSw; have c0 := Blk.cell (i := 0) hSw rfl; have c1 := Blk.cell (i := 1) hSw rfl; clear hSw; go_simp; try with_reducible rfl)
  simp only [List.getElem_toArray, List.getElem_cons_zero, List.getElem_cons_succ, Act.put, List.setIfInBounds_toArray, List.set_cons_zero, List.set_cons_succ]
  refine wpAnyH_take (i := 7) (v := ?v19) rfl (by kernel_rfl) (by kernel_rfl) (by kernel_rfl) (fun _ _ _ h => h) (Or.inl ⟨by rfl, ?y19⟩) hHeld ?r19
  case y19 => (intro w hSw; have c0 := Blk.cell (i := 0) hSw rfl; have c1 := Blk.cell (i := 1) hSw rfl; clear hSw; go_simp; try with_reducible rfl)
  simp only [List.getElem_toArray, List.getElem_cons_zero, List.getElem_cons_succ, Act.put, List.setIfInBounds_toArray, List.set_cons_zero, List.set_cons_succ]
  refine wpAnyH_take (i := 8) (v := ?v20) rfl (by kernel_rfl) (by kernel_rfl) (by kernel_rfl) (fun _ _ _ h => h) (Or.inl ⟨by rfl, ?y20⟩) hHeld ?r20
  case y20 => (intro w hSw; have c0 := Blk.cell (i := 0) hSw rfl; have c1 := Blk.cell (i := 1) hSw rfl; clear hSw; go_simp; try with_reducible rfl)
  simp only [List.getElem_toArray, List.getElem_cons_zero, List.getElem_cons_succ, Act.put, List.setIfInBounds_toArray, List.set_cons_zero, List.set_cons_succ]
  refine wpAnyH_take (i := 9) (v := ?v21) rfl (by kernel_rfl) (by kernel_rfl) (by kernel_rfl) (fun _ _ _ h => h) (Or.inl ⟨by rfl, ?y21⟩) hHeld ?r21
  case y21 => (intro w hSw; have c0 := Blk.cell (i := 0) hSw rfl; have c1 := Blk.cell (i := 1) hSw rfl; clear hSw; go_simp; try with_reducible rfl)
  simp only [List.getElem_toArray, List.getElem_cons_zero, List.getElem_cons_succ, Act.put, List.setIfInBounds_toArray, List.set_cons_zero, List.set_cons_succ]
  refine wpAnyH_take (i := 10) (v := ?v22) rfl (by kernel_rfl) (by kernel_rfl) (by kernel_rfl) (fun _ _ _ h => h) (Or.inl ⟨by rfl, ?y22⟩) hHeld ?r22
  case y22 => (intro w hSw; have c0 := Blk.cell (i := 0) hSw rfl; have c1 := Blk.cell (i := 1) hSw rfl; clear hSw; go_simp; try with_reducible rfl)
  simp only [List.getElem_toArray, List.getElem_cons_zero, List.getElem_cons_succ, Act.put, List.setIfInBounds_toArray, List.set_cons_zero, List.set_cons_succ]
  refine wpAnyH_take (i := 11) (v := ?v23) rfl (by kernel_rfl) (by kernel_rfl) (by kernel_rfl) (fun _ _ _ h => h) (Or.inl ⟨by rfl, ?y23⟩) hHeld ?r23
  case y23 => (intro w hSw; have c0 := Blk.cell (i := 0) hSw rfl; have c1 := Blk.cell (i := 1) hSw rfl; clear hSw; go_simp; try with_reducible rfl)
  simp only [List.getElem_toArray, List.getElem_cons_zero, List.getElem_cons_succ, Act.put, List.setIfInBounds_toArray, List.set_cons_zero, List.set_cons_succ]
  refine wpAnyH_take (i := 13) (v := ?v24) rfl (by kernel_rfl) (by kernel_rfl) (by kernel_rfl) (fun _ _ _ h => h) (Or.inl ⟨by rfl, ?y24⟩) hHeld ?r24
  case y24 => (intro w hSw; have c0 := Blk.cell (i := 0) hSw rfl; have c1 := Blk.cell (i := 1) hSw rfl; clear hSw; go_simp; try with_reducible rfl)
  simp only [List.getElem_toArray, List.getElem_cons_zero, List.getElem_cons_succ, Act.put, List.setIfInBounds_toArray, List.set_cons_zero, List.set_cons_succ]
  refine wpAnyH_take (i := 14) (v := ?v25) rfl (by kernel_rfl) (by kernel_rfl) (by kernel_rfl) (fun _ _ _ h => h) (Or.inl ⟨by rfl, ?y25⟩) hHeld ?r25
  case y25 => (intro w hSw; have c0 := Blk.cell (i := 0) hSw rfl; have c1 := Blk.cell (i := 1) hSw rfl; clear hSw; go_simp; try with_reducible rfl)
  simp only [List.getElem_toArray, List.getElem_cons_zero, List.getElem_cons_succ, Act.put, List.setIfInBounds_toArray, List.set_cons_zero, List.set_cons_succ]
  refine wpAnyH_take (i := 16) (v := ?v26) rfl (by kernel_rfl) (by kernel_rfl) (by kernel_rfl) (fun _ _ _ h => h) (Or.inl ⟨by rfl, ?y26⟩) hHeld ?r26
  case y26 => (intro w hSw; have c0 := Blk.cell (i := 0) hSw rfl; have c1 := Blk.cell (i := 1) hSw rfl; clear hSw; go_simp; try with_reducible rfl)
  simp only [List.getElem_toArray, List.getElem_cons_zero, List.getElem_cons_succ, Act.put, List.setIfInBounds_toArray, List.set_cons_zero, List.set_cons_succ]
  refine wpAnyH_take (i := 17) (v := ?v27) rfl (by kernel_rfl) (by kernel_rfl) (by kernel_rfl) (fun _ _ _ h => h) (Or.inl ⟨by rfl, ?y27⟩) hHeld ?r27
  case y27 => (intro w hSw; have c0 := Blk.cell (i := 0) hSw rfl; have c1 := Blk.cell (i := 1) hSw rfl; clear hSw; go_simp; try with_reducible rfl)
  simp only [List.getElem_toArray, List.getElem_cons_zero, List.getElem_cons_succ, Act.put, List.setIfInBounds_toArray, List.set_cons_zero, List.set_cons_succ]
  refine wpAnyH_ready (rs := [12]) (by kernel_rfl) (by simp) (AllReadyH.cons rfl (fun K hK => ?_) AllReadyH.nil)
  go_simp
  have Hd4 := Lib.hid (And.intro (Blk.drew H4.out.1) (belN H4.out.2 1))
  refine (Hms.out _ Hd4.out.2).mono ?_
  rintro e w5 ⟨rfl, hu5⟩
  have H5 := Lib.hid (And.intro (Hd4.out.1.low hu5) (Hd4.out.2.trans (hu5.mono Hd4.out.2.size)))
  clear hu5
  go_wp2_with fail
  refine hK.out _ _ (H5.out.1) (fun hHeld => ?_)
  clear hK K
  refine wpAnyH_ready (rs := [15]) (by kernel_rfl) (by simp) (AllReadyH.cons rfl (fun K hK => ?_) AllReadyH.nil)
  go_simp
  refine (Hpl.out _ H5.out.2).mono ?_
  rintro e w6 ⟨pa6, pc6, rfl, hs6, hu6, hb6⟩
  have H6 := Lib.hid (And.intro (H5.out.1.low hu6) (H5.out.2.trans (hu6.mono H5.out.2.size)))
  have HP6 := Lib.hid (And.intro hs6 hb6)
  clear hs6 hb6
  clear hu6
  go_wp2_with fail
  refine hK.out _ _ (H6.out.1) (fun hHeld => ?_)
  clear hK K
  refine wpAnyH_ready (rs := [18]) (by kernel_rfl) (by simp) (AllReadyH.cons rfl (fun K hK => ?_) AllReadyH.nil)
  go_simp
  refine (Hmd.out _ _ _ HP6.out.1).mono ?_
  rintro e w7 ⟨rfl, hu7⟩
  have H7 := Lib.hid (And.intro (H6.out.1.low hu7) (H6.out.2.trans (hu7.mono H6.out.2.size)))
  clear hu7
  go_wp2_with fail
  refine hK.out _ _ (H7.out.1) (fun hHeld => ?_)
  clear hK K
  refine wpAnyH_take (i := 19) (v := .bool false) rfl (by kernel_rfl) (by kernel_rfl) (by kernel_rfl) (fun _ _ _ h => h) (Or.inl ⟨by rfl, ?y31⟩) hHeld ?r31
  case y31 => (intro w hSw; have c0 := Blk.cell (i := 0) hSw rfl; have c1 := Blk.cell (i := 1) hSw rfl; clear hSw; go_simp; try with_reducible rfl)
  simp only [List.getElem_toArray, List.getElem_cons_zero, List.getElem_cons_succ, Act.put, List.setIfInBounds_toArray, List.set_cons_zero, List.set_cons_succ]
  refine wpAnyH_take (i := 20) (v := ?v32) rfl (by kernel_rfl) (by kernel_rfl) (by kernel_rfl) (fun _ _ _ h => h) (Or.inl ⟨by rfl, ?y32⟩) hHeld ?r32
  case y32 => (intro w hSw; have c0 := Blk.cell (i := 0) hSw rfl; have c1 := Blk.cell (i := 1) hSw rfl; clear hSw; go_simp; try with_reducible rfl)
  simp only [List.getElem_toArray, List.getElem_cons_zero, List.getElem_cons_succ, Act.put, List.setIfInBounds_toArray, List.set_cons_zero, List.set_cons_succ]
  refine wpAnyH_done (by kernel_rfl) ?_ _
  clear hHeld
  go_wp2_with fail
  refine (awake_any _).mono ?_
  rintro e w8 ⟨rfl, hu8⟩
  have H8 := Lib.hid (H7.out.2.trans (hu8.mono H7.out.2.size))
  clear hu8
  go_wp2
  go_ret
  exact ⟨rfl, H8.out⟩
end Go.Proofs.Ytflgggfomhifeaa
/- SnapSteps: where its loop begins. -/
namespace Go.Proofs.Ytflgggfomhifeaa
open Go.RowKit
theorem RnAt.low {w w' : World} {o n c : Nat} {a : Option Addr} {V U : Value} {SS : List Sp} {tr : Int} {x : NSt} (h : RnAt w o a n c V U SS tr x) (u : Below w.heap.size w w') : RnAt w' o a n c V U SS tr x := by
  obtain ⟨gl, wl, r1, r2, r3⟩ := h.rows
  exact ⟨h.cells.low u, h.len, h.spots.next u, ⟨gl, wl, owns_low r1 u, owns_low r2 u, r3⟩, h.apart, h.away⟩
theorem owns_len {W : World} {a : Option Addr} {n k c : Nat} {xs : List Value} (h : W.ownsRow 0 42 1 (.slice a n c) k xs) : n = k := by
  rcases h.2 with ⟨e, rfl⟩ | ⟨g, cap, cur, e, _⟩
  · cases e; rfl
  · cases e; rfl
theorem ns_mem0 {w A : World} {SS : List Sp} {tr : Int} {a : Option Addr} {c cp n b bg xb p gs g o d off : Nat} (hB : Bk A b bg (List.replicate n 0) 0) (hX : Blk A xb (jbx a SS.length c tr)) (hP : NAt A p gs g SS (nst0 tr)) (hR : RnAt A o (some ⟨d, off, none⟩) SS.length cp (.slice none 0 0) (.slice none 0 0) SS tr (nst0 tr)) (hb : Below w.heap.size w A) (hdl : d < A.heap.size)
    {s2 s3 : Nat} (hx : xb = w.heap.size) (h1 : (xb < b ∧ b < s2) ∧ (xb < bg ∧ bg < s2)) (h2 : (s2 ≤ p ∧ p < s3) ∧ (s2 ≤ gs ∧ gs < s3) ∧ (s2 ≤ g ∧ g < s3)) (h3 : s3 ≤ d ∧ s3 ≤ o ∧ d ≠ o) :
    NsM w SS tr a c cp ⟨b, bg, A.heap.size, xb, p, gs, g, o, d, off, .slice none 0 0, .slice none 0 0, nst0 tr, nst0 tr, List.replicate n 0, 0⟩ (A.alloc (.cells (zeros n) 42)) := by
  have l1 := hB.ltb
  have l2 := hB.ltg
  have l3 := hX.lt
  have l4 := hP.lto
  have l5 := hP.ltg
  have l7 := hP.lts
  have l6 := hR.cells.lt
  have lw := hb.size
  have hz := Blk.new A (zeros n) 42
  refine ⟨hB.alloc _, ?_, hX.alloc _, hP.alloc _, hR.low ((Below.refl _ A).alloc (Nat.le_refl _) _), ?_, hb.alloc lw _⟩
  · obtain ⟨T, hT⟩ := hz
    exact ⟨T, hT⟩
  · have key : ∀ i k, Ns.own ⟨b, bg, A.heap.size, xb, p, gs, g, o, d, off, .slice none 0 0, .slice none 0 0, nst0 tr, nst0 tr, List.replicate n 0, 0⟩ i k →
        (i = 0 ∧ xb < k ∧ k < s2 ∧ k < A.heap.size) ∨ (i = 1 ∧ k = A.heap.size) ∨ (i = 2 ∧ k = xb) ∨ (i = 3 ∧ s2 ≤ k ∧ k < s3 ∧ k < A.heap.size) ∨ (i = 4 ∧ k = o) ∨ (i = 7 ∧ k = d) := by
      intro i k hi
      match i, hi with
      | 0, c => exact .inl ⟨rfl, by rcases c with rfl | rfl; exact ⟨h1.1.1, h1.1.2, l1⟩; exact ⟨h1.2.1, h1.2.2, l2⟩⟩
      | 1, c => exact .inr (.inl ⟨rfl, c⟩)
      | 2, c => exact .inr (.inr (.inl ⟨rfl, c⟩))
      | 3, c => exact .inr (.inr (.inr (.inl ⟨rfl, by rcases c with rfl | rfl | rfl; exact ⟨h2.1.1, h2.1.2, l4⟩; exact ⟨h2.2.1.1, h2.2.1.2, l7⟩; exact ⟨h2.2.2.1, h2.2.2.2, l5⟩⟩)))
      | 4, c => exact .inr (.inr (.inr (.inr (.inl ⟨rfl, c⟩))))
      | 5, c => cases c
      | 6, c => cases c
      | 7, c => exact .inr (.inr (.inr (.inr (.inr ⟨rfl, c⟩))))
      | (_ + 8), c => exact False.elim c
    have h12 : xb < s2 := by omega
    have h23 : s2 < s3 := by omega
    obtain ⟨h4, h5, h6⟩ := h3
    clear h1 h2 hB hX hP hR hb hz
    refine ⟨fun i j k k1 k2 => ?_, fun i k k1 => ?_⟩
    · rcases key i k k1 with ⟨rfl, a1⟩ | ⟨rfl, a1⟩ | ⟨rfl, a1⟩ | ⟨rfl, a1⟩ | ⟨rfl, a1⟩ | ⟨rfl, a1⟩ <;> rcases key j k k2 with ⟨rfl, a2⟩ | ⟨rfl, a2⟩ | ⟨rfl, a2⟩ | ⟨rfl, a2⟩ | ⟨rfl, a2⟩ | ⟨rfl, a2⟩ <;> omega
    · have a1 := key i k k1
      rw [World.size_alloc]
      omega
end Go.Proofs.Ytflgggfomhifeaa
