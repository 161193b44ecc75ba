/- ReadSteps: what its walk leans on, and the inputs that it leaves. -/
import Derived.Test.YtajibhhmcjcchaaRsM
import Derived.Test.YtajibhhmcjcchaaClo
import Derived.Deep.RegionHeld3
import Derived.BigQuiet
namespace Go.Proofs.Ytajibhhmcjcchaa
open Go.RowKit

/-- What is done, one behind the other. -/
abbrev Ac := Bool × Int × Int
def Acs (n₀ : Nat) (W : World) (a : Option Addr) (acl : List Ac) : Prop :=
  ∀ (j : Nat) (c : Ac), acl[j]? = some c → I64 c.2.1 ∧ U64 c.2.2 ∧ ∃ b off, a = some ⟨b, off, none⟩ ∧ b < n₀ ∧ W.cell? ⟨b, off + j * 3, none⟩ = some (.bool c.1) ∧ W.cell? ⟨b, off + j * 3 + 1, none⟩ = some (.int .i64 c.2.1) ∧ W.cell? ⟨b, off + j * 3 + 2, none⟩ = some (.int .u64 c.2.2)
theorem Acs.keep {A B : World} {n₀ : Nat} {a : Option Addr} {acl : List Ac} (k : Acs n₀ A a acl) (h : Below n₀ A B) : Acs n₀ B a acl := fun j c hc => by
  obtain ⟨h2, h3, b, off, e, hb, c1, c2, c3⟩ := k j c hc
  exact ⟨h2, h3, b, off, e, hb, by rw [h.cell (p := ⟨b, off + j * 3, none⟩) hb]; exact c1, by rw [h.cell (p := ⟨b, off + j * 3 + 1, none⟩) hb]; exact c2, by rw [h.cell (p := ⟨b, off + j * 3 + 2, none⟩) hb]; exact c3⟩
/-- Two cells of what is done. -/
def AC (b f1 f2 : Nat) (v1 v2 : Value) (W : World) : Prop := W.cell? ⟨b, f1, none⟩ = some v1 ∧ W.cell? ⟨b, f2, none⟩ = some v2
def CellA (p : Addr) (v : Value) (w : World) : Prop := w.cell? p = some v
theorem cell_lo {A B : World} {p : Addr} {v : Value} (h : Below A.heap.size A B) (c : A.cell? p = some v) : B.cell? p = some v := by
  rw [h.cell (World.block_lt_of_cell? _ _ c)]
  exact c
abbrev bx6 (S : Sp) (tr : Int) : Obj := .cells #[.int .i64 S.ow, .int .i64 S.sq, .int .i64 S.fs, .int .i64 S.wd, .int .i64 S.dp, .int .i64 tr] 25
/-- What the document's tells, that is done. -/
def DT (o : Nat) (V : Value) (gen bgn how dd : Int) (W : World) : Prop := W.cell? ⟨o, 8, none⟩ = some (.int .u64 gen) ∧ W.cell? ⟨o, 9, none⟩ = some V ∧ W.cell? ⟨o, 10, none⟩ = some (.int .i64 bgn) ∧ W.cell? ⟨o, 11, none⟩ = some (.int .i64 how) ∧ W.cell? ⟨o, 12, none⟩ = some (.int .i64 dd)
theorem DT.of {W : World} {o : Nat} {V : Value} {S : Sp} {tr : Int} {x : RSt} (h : RrAt W o V S tr x) : DT o V x.gen x.bgn x.how x.steps W := ⟨h.cells.cell rfl, h.cells.cell rfl, h.cells.cell rfl, h.cells.cell rfl, h.cells.cell rfl⟩
theorem owns_rdw {W : World} {a : Option Addr} {k c : Nat} {xs : List Int} (h : W.ownsRow 0 43 1 (.slice a k c) k (xs.map (Value.int .u64))) : Rdw W a xs := fun j x hx => by
  obtain ⟨h1, h2⟩ := h
  rcases h2 with ⟨e, hk⟩ | ⟨g, cap, cur, e, _, hg, _, _, _, ht⟩
  · have : (xs.map (Value.int .u64)).length = 0 := by rw [h1, hk]
    have hl : xs.length = 0 := by simpa using this
    rw [List.eq_nil_of_length_eq_zero hl] at hx
    cases hx
  · cases e
    refine ⟨g, 0, rfl, ?_⟩
    have hu : (xs.map (Value.int .u64))[j]? = some (.int .u64 x) := by rw [List.getElem?_map, hx]; rfl
    rw [Nat.zero_add]
    simp only [World.cell?, hg]
    rw [← Array.getElem?_toList]
    rw [← ht, List.getElem?_take] at hu
    split at hu
    · exact hu
    · cases hu
def XB (xb : Nat) (S : Sp) (tr : Int) (W : World) : Prop := Blk W xb (jbx S tr)
/-- The main loop's head. -/
def RsRel (w : World) (S : Sp) (tr : Int) (n m b bg wb xb p pg o : Nat) (i : Value) (wr : World) : Prop :=
  ∃ (q : Nat) (V : Value) (x : RSt) (zs : List Int) (t : Int), i = .int .i64 q ∧ q ≤ m ∧ zs.length = n ∧ RsM w S tr ⟨b, bg, wb, xb, p, pg, o, V, x, x, zs, t⟩ wr ∧ 0 ≤ t ∧ t ≤ q ∧ RWf S x ∧ 0 ≤ x.steps ∧ x.steps ≤ q ∧ x.left ≤ tr
/-- The words' loop. -/
def RsRel2 (w : World) (S : Sp) (tr : Int) (n b bg wb xb p pg o : Nat) (V : Value) (x : RSt) (zs : List Int) (t : Int) (i : Value) (wr : World) : Prop :=
  ∃ j : Nat, i = .int .i64 j ∧ j ≤ n ∧ RsM w S tr ⟨b, bg, wb, xb, p, pg, o, V, x, x, zs, t⟩ wr
set_option maxRecDepth 100000 in
set_option maxHeartbeats 2000000 in
theorem steps_bad (n : Int) (S : Sp) (tr : Int) (aa : Option Addr) (m ac : Nat) (w : World) (h : ¬ (1 ≤ n ∧ n ≤ 60 ∧ m ≤ 200)) : Calls Try.prog 3 #[.int .i64 n, .agg (jbx S tr).toArray, .slice aa m ac] w (True1 w) := by
  have Hb := Lib.hid ((Below.refl w.heap.size w).alloc (Nat.le_refl _) (bx6 S tr))
  unfold jbx
  rcases (show n < 1 ∨ (1 ≤ n ∧ 60 < n) ∨ (1 ≤ n ∧ n ≤ 60 ∧ 200 < (m : Int)) by omega) with k | ⟨k1, k2⟩ | ⟨k1, k2, k3⟩
  all_goals
    clear h
    go_enter Try.func3, Try.ntmps3
    go_wp2_with fail
    refine (awake_any _).mono ?_
    rintro e w1 ⟨rfl, hu1⟩
    have H1 := Lib.hid (Hb.out.trans (hu1.mono Hb.out.size))
    clear hu1
    go_wp2
    go_ret
    exact ⟨rfl, H1.out⟩
set_option maxRecDepth 100000 in
set_option maxHeartbeats 8000000 in
theorem steps_no (n : Nat) (S : Sp) (tr : Int) (aa : Option Addr) (m ac : Nat) (w : World) (n1 : 1 ≤ n) (n2 : n ≤ 60) (hm : m ≤ 200) (hmb : mb S tr = false) : Calls Try.prog 3 #[.int .i64 (n : Int), .agg (jbx S tr).toArray, .slice aa m ac] w (True1 w) := by
  have Hmb := Lib.hid hmb
  have hbl := (Below.refl w.heap.size w).alloc (Nat.le_refl _) (bx6 S tr)
  have hC := Blk.new w #[.int .i64 S.ow, .int .i64 S.sq, .int .i64 S.fs, .int .i64 S.wd, .int .i64 S.dp, .int .i64 tr] 25
  have H0 := Lib.hid (show Blk (w.alloc (bx6 S tr)) w.heap.size (jbx S tr) ∧ Below w.heap.size w (w.alloc (bx6 S tr)) from ⟨hC, hbl⟩)
  have Hnb := Lib.hid (fun w => new_ok n w n1 (by omega))
  have k1 : 1 ≤ (n : Int) := by omega
  have k2 : (n : Int) ≤ 60 := by omega
  have k3 : (m : Int) ≤ 200 := by omega
  have Hn := Lib.hid (And.intro n1 (And.intro n2 hm))
  have Hms : Hid (∀ W, Calls Try.prog 12 #[spV S, .int .i64 tr] W (Ret (.int .i64 (rmst S tr)) W)) := Lib.hid (fun W => rmost_any S tr W)
  have Hmd : Hid (∀ W, Calls Try.prog 13 #[spV S, .int .i64 tr] W (Ret (.int .i64 (rmst S tr)) W)) := Lib.hid (fun W => docmost_any S tr W)
  have mMM : ((rmst S tr) != (rmst S tr)) = false := by simp
  generalize rmst S tr = MS at *
  clear hbl hC n1 n2 hm hmb
  unfold jbx
  go_enter Try.func3, Try.ntmps3
  go_wp2_with fail
  generalize w.alloc (bx6 S tr) = w0 at H0 ⊢
  obtain ⟨xb, hxb⟩ : ∃ xb, w.heap.size = xb := ⟨_, rfl⟩
  refine (Hnb.out _).mono ?_
  rintro e w1 ⟨b, bg, hb, hg, rfl, hk1, hu1⟩
  have H1 := Lib.hid (show Bk w1 b bg (List.replicate n 0) 0 ∧ Blk w1 w.heap.size (jbx S tr) ∧ Below w.heap.size w w1 from ⟨hk1, H0.out.1.low hu1, H0.out.2.trans (hu1.mono H0.out.2.size)⟩)
  have Hap := Lib.hid (show b ≠ w.heap.size ∧ bg ≠ w.heap.size ∧ w.heap.size ≤ b ∧ w.heap.size ≤ bg from by have l1 := H0.out.1.lt; have l2 := H0.out.2.size; omega)
  clear hk1 hu1 hb hg H0 hxb xb
  have c0 := H1.out.2.1.cell (i := 0) rfl
  have c1 := H1.out.2.1.cell (i := 1) rfl
  have c2 := H1.out.2.1.cell (i := 2) rfl
  have c3 := H1.out.2.1.cell (i := 3) rfl
  have c4 := H1.out.2.1.cell (i := 4) rfl
  have c5 := H1.out.2.1.cell (i := 5) rfl
  go_wp2_with fail
  refine (rnew_bad S tr _ Hmb.out).mono ?_
  rintro e w2 ⟨rfl, hu2⟩
  have H2 := Lib.hid (And.intro (H1.out.2.1.low hu2) (H1.out.2.2.trans (hu2.mono H1.out.2.2.size)))
  clear hu2 H1 c0 c1 c2 c3 c4 c5
  go_wp2_with fail
  refine wp_region_held_drew (S := XB w.heap.size S tr) (by kernel_rfl) (Blk.drew H2.out.1) (fun hHeld => ?_)
  refine wpAnyH_take (i := 0) (v := ?v1) rfl (by kernel_rfl) (by kernel_rfl) (by kernel_rfl) (fun _ _ _ h => h) (Or.inl ⟨by rfl, ?y1⟩) hHeld ?r1
  case y1 => (intro w hSw; have c0 := Blk.cell (i := 0) hSw rfl; have c1 := Blk.cell (i := 1) hSw rfl; have c2 := Blk.cell (i := 2) hSw rfl; have c3 := Blk.cell (i := 3) hSw rfl; have c4 := Blk.cell (i := 4) hSw rfl; have c5 := Blk.cell (i := 5) hSw rfl; clear hSw; go_simp; try with_reducible rfl)
  simp only [List.getElem_toArray, List.getElem_cons_zero, Act.put, List.setIfInBounds_toArray, List.set_cons_zero, List.set_cons_succ]
  refine wpAnyH_take (i := 1) (v := ?v2) rfl (by kernel_rfl) (by kernel_rfl) (by kernel_rfl) (fun _ _ _ h => h) (Or.inl ⟨by rfl, ?y2⟩) hHeld ?r2
  case y2 => (intro w hSw; have c0 := Blk.cell (i := 0) hSw rfl; have c1 := Blk.cell (i := 1) hSw rfl; have c2 := Blk.cell (i := 2) hSw rfl; have c3 := Blk.cell (i := 3) hSw rfl; have c4 := Blk.cell (i := 4) hSw rfl; have c5 := Blk.cell (i := 5) hSw rfl; clear hSw; go_simp; try with_reducible rfl)
  simp only [List.getElem_toArray, List.getElem_cons_zero, List.getElem_cons_succ, Act.put, List.setIfInBounds_toArray, List.set_cons_zero, List.set_cons_succ]
  refine wpAnyH_take (i := 3) (v := ?v3) rfl (by kernel_rfl) (by kernel_rfl) (by kernel_rfl) (fun _ _ _ h => h) (Or.inl ⟨by rfl, ?y3⟩) hHeld ?r3
  case y3 => (intro w hSw; have c0 := Blk.cell (i := 0) hSw rfl; have c1 := Blk.cell (i := 1) hSw rfl; have c2 := Blk.cell (i := 2) hSw rfl; have c3 := Blk.cell (i := 3) hSw rfl; have c4 := Blk.cell (i := 4) hSw rfl; have c5 := Blk.cell (i := 5) hSw rfl; clear hSw; go_simp; try with_reducible rfl)
  simp only [List.getElem_toArray, List.getElem_cons_zero, List.getElem_cons_succ, Act.put, List.setIfInBounds_toArray, List.set_cons_zero, List.set_cons_succ]
  refine wpAnyH_take (i := 4) (v := ?v4) rfl (by kernel_rfl) (by kernel_rfl) (by kernel_rfl) (fun _ _ _ h => h) (Or.inl ⟨by rfl, ?y4⟩) hHeld ?r4
  case y4 => (intro w hSw; have c0 := Blk.cell (i := 0) hSw rfl; have c1 := Blk.cell (i := 1) hSw rfl; have c2 := Blk.cell (i := 2) hSw rfl; have c3 := Blk.cell (i := 3) hSw rfl; have c4 := Blk.cell (i := 4) hSw rfl; have c5 := Blk.cell (i := 5) hSw rfl; clear hSw; go_simp; try with_reducible rfl)
  simp only [List.getElem_toArray, List.getElem_cons_zero, List.getElem_cons_succ, Act.put, List.setIfInBounds_toArray, List.set_cons_zero, List.set_cons_succ]
  refine wpAnyH_ready (rs := [2]) (by kernel_rfl) (by simp) (AllReadyH.cons rfl (fun K hK => ?_) AllReadyH.nil)
  go_simp
  have Hd2 := Lib.hid (And.intro (Blk.drew H2.out.1) (belN H2.out.2 1))
  refine (plain_any S.ow S.sq S.fs S.wd S.dp _).mono ?_
  rintro e w3 ⟨rfl, hu3⟩
  have H3 := Lib.hid (And.intro (Hd2.out.1.low hu3) (Hd2.out.2.trans (hu3.mono Hd2.out.2.size)))
  clear hu3
  go_wp2_with fail
  refine hK.out _ _ (H3.out.1) (fun hHeld => ?_)
  clear hK K
  refine wpAnyH_ready (rs := [5]) (by kernel_rfl) (by simp) (AllReadyH.cons rfl (fun K hK => ?_) AllReadyH.nil)
  go_simp
  refine (docnew_bad S tr _ Hmb.out).mono ?_
  rintro e w4 ⟨rfl, hu4⟩
  have H4 := Lib.hid (And.intro (H3.out.1.low hu4) (H3.out.2.trans (hu4.mono H3.out.2.size)))
  clear hu4
  go_wp2_with fail
  refine hK.out _ _ (H4.out.1) (fun hHeld => ?_)
  clear hK K
  refine wpAnyH_take (i := 6) (v := ?v7) rfl (by kernel_rfl) (by kernel_rfl) (by kernel_rfl) (fun _ _ _ h => h) (Or.inl ⟨by rfl, ?y7⟩) hHeld ?r7
  case y7 => (intro w hSw; have c0 := Blk.cell (i := 0) hSw rfl; have c1 := Blk.cell (i := 1) hSw rfl; have c2 := Blk.cell (i := 2) hSw rfl; have c3 := Blk.cell (i := 3) hSw rfl; have c4 := Blk.cell (i := 4) hSw rfl; have c5 := Blk.cell (i := 5) hSw rfl; clear hSw; go_simp; try with_reducible rfl)
  simp only [List.getElem_toArray, List.getElem_cons_zero, List.getElem_cons_succ, Act.put, List.setIfInBounds_toArray, List.set_cons_zero, List.set_cons_succ]
  refine wpAnyH_take (i := 7) (v := ?v8) rfl (by kernel_rfl) (by kernel_rfl) (by kernel_rfl) (fun _ _ _ h => h) (Or.inl ⟨by rfl, ?y8⟩) hHeld ?r8
  case y8 => (intro w hSw; have c0 := Blk.cell (i := 0) hSw rfl; have c1 := Blk.cell (i := 1) hSw rfl; have c2 := Blk.cell (i := 2) hSw rfl; have c3 := Blk.cell (i := 3) hSw rfl; have c4 := Blk.cell (i := 4) hSw rfl; have c5 := Blk.cell (i := 5) hSw rfl; clear hSw; go_simp; try with_reducible rfl)
  simp only [List.getElem_toArray, List.getElem_cons_zero, List.getElem_cons_succ, Act.put, List.setIfInBounds_toArray, List.set_cons_zero, List.set_cons_succ]
  refine wpAnyH_take (i := 8) (v := ?v9) rfl (by kernel_rfl) (by kernel_rfl) (by kernel_rfl) (fun _ _ _ h => h) (Or.inl ⟨by rfl, ?y9⟩) hHeld ?r9
  case y9 => (intro w hSw; have c0 := Blk.cell (i := 0) hSw rfl; have c1 := Blk.cell (i := 1) hSw rfl; have c2 := Blk.cell (i := 2) hSw rfl; have c3 := Blk.cell (i := 3) hSw rfl; have c4 := Blk.cell (i := 4) hSw rfl; have c5 := Blk.cell (i := 5) hSw rfl; clear hSw; go_simp; try with_reducible rfl)
  simp only [List.getElem_toArray, List.getElem_cons_zero, List.getElem_cons_succ, Act.put, List.setIfInBounds_toArray, List.set_cons_zero, List.set_cons_succ]
  refine wpAnyH_take (i := 9) (v := ?v10) rfl (by kernel_rfl) (by kernel_rfl) (by kernel_rfl) (fun _ _ _ h => h) (Or.inl ⟨by rfl, ?y10⟩) hHeld ?r10
  case y10 => (intro w hSw; have c0 := Blk.cell (i := 0) hSw rfl; have c1 := Blk.cell (i := 1) hSw rfl; have c2 := Blk.cell (i := 2) hSw rfl; have c3 := Blk.cell (i := 3) hSw rfl; have c4 := Blk.cell (i := 4) hSw rfl; have c5 := Blk.cell (i := 5) hSw rfl; clear hSw; go_simp; try with_reducible rfl)
  simp only [List.getElem_toArray, List.getElem_cons_zero, List.getElem_cons_succ, Act.put, List.setIfInBounds_toArray, List.set_cons_zero, List.set_cons_succ]
  refine wpAnyH_take (i := 10) (v := ?v11) rfl (by kernel_rfl) (by kernel_rfl) (by kernel_rfl) (fun _ _ _ h => h) (Or.inl ⟨by rfl, ?y11⟩) hHeld ?r11
  case y11 => (intro w hSw; have c0 := Blk.cell (i := 0) hSw rfl; have c1 := Blk.cell (i := 1) hSw rfl; have c2 := Blk.cell (i := 2) hSw rfl; have c3 := Blk.cell (i := 3) hSw rfl; have c4 := Blk.cell (i := 4) hSw rfl; have c5 := Blk.cell (i := 5) hSw rfl; clear hSw; go_simp; try with_reducible rfl)
  simp only [List.getElem_toArray, List.getElem_cons_zero, List.getElem_cons_succ, Act.put, List.setIfInBounds_toArray, List.set_cons_zero, List.set_cons_succ]
  refine wpAnyH_done (by kernel_rfl) ?_ _
  clear hHeld
  have m10 : ((10 : Int) != 10) = false := by decide
  go_wp2_with fail
  refine wp_region_held_drew (S := XB w.heap.size S tr) (by kernel_rfl) (Blk.drew H4.out.1) (fun hHeld => ?_)
  refine wpAnyH_take (i := 0) (v := ?v12) rfl (by kernel_rfl) (by kernel_rfl) (by kernel_rfl) (fun _ _ _ h => h) (Or.inl ⟨by rfl, ?y12⟩) hHeld ?r12
  case y12 => (intro w hSw; have c0 := Blk.cell (i := 0) hSw rfl; have c1 := Blk.cell (i := 1) hSw rfl; have c2 := Blk.cell (i := 2) hSw rfl; have c3 := Blk.cell (i := 3) hSw rfl; have c4 := Blk.cell (i := 4) hSw rfl; have c5 := Blk.cell (i := 5) hSw rfl; clear hSw; go_simp; try with_reducible rfl)
  simp only [List.getElem_toArray, List.getElem_cons_zero, Act.put, List.setIfInBounds_toArray, List.set_cons_zero, List.set_cons_succ]
  refine wpAnyH_take (i := 1) (v := ?v13) rfl (by kernel_rfl) (by kernel_rfl) (by kernel_rfl) (fun _ _ _ h => h) (Or.inl ⟨by rfl, ?y13⟩) hHeld ?r13
  case y13 => (intro w hSw; have c0 := Blk.cell (i := 0) hSw rfl; have c1 := Blk.cell (i := 1) hSw rfl; have c2 := Blk.cell (i := 2) hSw rfl; have c3 := Blk.cell (i := 3) hSw rfl; have c4 := Blk.cell (i := 4) hSw rfl; have c5 := Blk.cell (i := 5) hSw rfl; clear hSw; go_simp; try with_reducible rfl)
  simp only [List.getElem_toArray, List.getElem_cons_zero, List.getElem_cons_succ, Act.put, List.setIfInBounds_toArray, List.set_cons_zero, List.set_cons_succ]
  refine wpAnyH_take (i := 2) (v := ?v14) rfl (by kernel_rfl) (by kernel_rfl) (by kernel_rfl) (fun _ _ _ h => h) (Or.inl ⟨by rfl, ?y14⟩) hHeld ?r14
  case y14 => (intro w hSw; have c0 := Blk.cell (i := 0) hSw rfl; have c1 := Blk.cell (i := 1) hSw rfl; have c2 := Blk.cell (i := 2) hSw rfl; have c3 := Blk.cell (i := 3) hSw rfl; have c4 := Blk.cell (i := 4) hSw rfl; have c5 := Blk.cell (i := 5) hSw rfl; clear hSw; go_simp; try with_reducible rfl)
  simp only [List.getElem_toArray, List.getElem_cons_zero, List.getElem_cons_succ, Act.put, List.setIfInBounds_toArray, List.set_cons_zero, List.set_cons_succ]
  refine wpAnyH_take (i := 3) (v := ?v15) rfl (by kernel_rfl) (by kernel_rfl) (by kernel_rfl) (fun _ _ _ h => h) (Or.inl ⟨by rfl, ?y15⟩) hHeld ?r15
  case y15 => (intro w hSw; have c0 := Blk.cell (i := 0) hSw rfl; have c1 := Blk.cell (i := 1) hSw rfl; have c2 := Blk.cell (i := 2) hSw rfl; have c3 := Blk.cell (i := 3) hSw rfl; have c4 := Blk.cell (i := 4) hSw rfl; have c5 := Blk.cell (i := 5) hSw rfl; clear hSw; go_simp; try with_reducible rfl)
  simp only [List.getElem_toArray, List.getElem_cons_zero, List.getElem_cons_succ, Act.put, List.setIfInBounds_toArray, List.set_cons_zero, List.set_cons_succ]
  refine wpAnyH_take (i := 4) (v := ?v16) rfl (by kernel_rfl) (by kernel_rfl) (by kernel_rfl) (fun _ _ _ h => h) (Or.inl ⟨by rfl, ?y16⟩) hHeld ?r16
  case y16 => (intro w hSw; have c0 := Blk.cell (i := 0) hSw rfl; have c1 := Blk.cell (i := 1) hSw rfl; have c2 := Blk.cell (i := 2) hSw rfl; have c3 := Blk.cell (i := 3) hSw rfl; have c4 := Blk.cell (i := 4) hSw rfl; have c5 := Blk.cell (i := 5) hSw rfl; clear hSw; go_simp; try with_reducible rfl)
  simp only [List.getElem_toArray, List.getElem_cons_zero, List.getElem_cons_succ, Act.put, List.setIfInBounds_toArray, List.set_cons_zero, List.set_cons_succ]
  refine wpAnyH_take (i := 5) (v := .bool false) rfl (by kernel_rfl) (by kernel_rfl) (by kernel_rfl) (fun _ _ _ h => h) (Or.inl ⟨by rfl, ?y17⟩) hHeld ?r17
  case y17 => (intro w hSw; have c0 := Blk.cell (i := 0) hSw rfl; have c1 := Blk.cell (i := 1) hSw rfl; have c2 := Blk.cell (i := 2) hSw rfl; have c3 := Blk.cell (i := 3) hSw rfl; have c4 := Blk.cell (i := 4) hSw rfl; have c5 := Blk.cell (i := 5) hSw rfl; clear hSw; go_simp; try with_reducible rfl)
  simp only [List.getElem_toArray, List.getElem_cons_zero, List.getElem_cons_succ, Act.put, List.setIfInBounds_toArray, List.set_cons_zero, List.set_cons_succ]
  refine wpAnyH_take (i := 6) (v := ?v18) rfl (by kernel_rfl) (by kernel_rfl) (by kernel_rfl) (fun _ _ _ h => h) (Or.inl ⟨by rfl, ?y18⟩) hHeld ?r18
  case y18 => (intro w hSw; have c0 := Blk.cell (i := 0) hSw rfl; have c1 := Blk.cell (i := 1) hSw rfl; have c2 := Blk.cell (i := 2) hSw rfl; have c3 := Blk.cell (i := 3) hSw rfl; have c4 := Blk.cell (i := 4) hSw rfl; have c5 := Blk.cell (i := 5) hSw rfl; clear hSw; go_simp; try with_reducible rfl)
  simp only [List.getElem_toArray, List.getElem_cons_zero, List.getElem_cons_succ, Act.put, List.setIfInBounds_toArray, List.set_cons_zero, List.set_cons_succ]
  refine wpAnyH_take (i := 7) (v := ?v19) rfl (by kernel_rfl) (by kernel_rfl) (by kernel_rfl) (fun _ _ _ h => h) (Or.inl ⟨by rfl, ?y19⟩) hHeld ?r19
  case y19 => (intro w hSw; have c0 := Blk.cell (i := 0) hSw rfl; have c1 := Blk.cell (i := 1) hSw rfl; have c2 := Blk.cell (i := 2) hSw rfl; have c3 := Blk.cell (i := 3) hSw rfl; have c4 := Blk.cell (i := 4) hSw rfl; have c5 := Blk.cell (i := 5) hSw rfl; clear hSw; go_simp; try with_reducible rfl)
  simp only [List.getElem_toArray, List.getElem_cons_zero, List.getElem_cons_succ, Act.put, List.setIfInBounds_toArray, List.set_cons_zero, List.set_cons_succ]
  refine wpAnyH_take (i := 8) (v := ?v20) rfl (by kernel_rfl) (by kernel_rfl) (by kernel_rfl) (fun _ _ _ h => h) (Or.inl ⟨by rfl, ?y20⟩) hHeld ?r20
  case y20 => (intro w hSw; have c0 := Blk.cell (i := 0) hSw rfl; have c1 := Blk.cell (i := 1) hSw rfl; have c2 := Blk.cell (i := 2) hSw rfl; have c3 := Blk.cell (i := 3) hSw rfl; have c4 := Blk.cell (i := 4) hSw rfl; have c5 := Blk.cell (i := 5) hSw rfl; clear hSw; go_simp; try with_reducible rfl)
  simp only [List.getElem_toArray, List.getElem_cons_zero, List.getElem_cons_succ, Act.put, List.setIfInBounds_toArray, List.set_cons_zero, List.set_cons_succ]
  refine wpAnyH_take (i := 9) (v := ?v21) rfl (by kernel_rfl) (by kernel_rfl) (by kernel_rfl) (fun _ _ _ h => h) (Or.inl ⟨by rfl, ?y21⟩) hHeld ?r21
  case y21 => (intro w hSw; have c0 := Blk.cell (i := 0) hSw rfl; have c1 := Blk.cell (i := 1) hSw rfl; have c2 := Blk.cell (i := 2) hSw rfl; have c3 := Blk.cell (i := 3) hSw rfl; have c4 := Blk.cell (i := 4) hSw rfl; have c5 := Blk.cell (i := 5) hSw rfl; clear hSw; go_simp; try with_reducible rfl)
  simp only [List.getElem_toArray, List.getElem_cons_zero, List.getElem_cons_succ, Act.put, List.setIfInBounds_toArray, List.set_cons_zero, List.set_cons_succ]
  refine wpAnyH_take (i := 10) (v := ?v22) rfl (by kernel_rfl) (by kernel_rfl) (by kernel_rfl) (fun _ _ _ h => h) (Or.inl ⟨by rfl, ?y22⟩) hHeld ?r22
  case y22 => (intro w hSw; have c0 := Blk.cell (i := 0) hSw rfl; have c1 := Blk.cell (i := 1) hSw rfl; have c2 := Blk.cell (i := 2) hSw rfl; have c3 := Blk.cell (i := 3) hSw rfl; have c4 := Blk.cell (i := 4) hSw rfl; have c5 := Blk.cell (i := 5) hSw rfl; clear hSw; go_simp; try with_reducible rfl)
  simp only [List.getElem_toArray, List.getElem_cons_zero, List.getElem_cons_succ, Act.put, List.setIfInBounds_toArray, List.set_cons_zero, List.set_cons_succ]
  refine wpAnyH_take (i := 11) (v := ?v23) rfl (by kernel_rfl) (by kernel_rfl) (by kernel_rfl) (fun _ _ _ h => h) (Or.inl ⟨by rfl, ?y23⟩) hHeld ?r23
  case y23 => (intro w hSw; have c0 := Blk.cell (i := 0) hSw rfl; have c1 := Blk.cell (i := 1) hSw rfl; have c2 := Blk.cell (i := 2) hSw rfl; have c3 := Blk.cell (i := 3) hSw rfl; have c4 := Blk.cell (i := 4) hSw rfl; have c5 := Blk.cell (i := 5) hSw rfl; clear hSw; go_simp; try with_reducible rfl)
  simp only [List.getElem_toArray, List.getElem_cons_zero, List.getElem_cons_succ, Act.put, List.setIfInBounds_toArray, List.set_cons_zero, List.set_cons_succ]
  refine wpAnyH_take (i := 13) (v := ?v24) rfl (by kernel_rfl) (by kernel_rfl) (by kernel_rfl) (fun _ _ _ h => h) (Or.inl ⟨by rfl, ?y24⟩) hHeld ?r24
  case y24 => (intro w hSw; have c0 := Blk.cell (i := 0) hSw rfl; have c1 := Blk.cell (i := 1) hSw rfl; have c2 := Blk.cell (i := 2) hSw rfl; have c3 := Blk.cell (i := 3) hSw rfl; have c4 := Blk.cell (i := 4) hSw rfl; have c5 := Blk.cell (i := 5) hSw rfl; clear hSw; go_simp; try with_reducible rfl)
  simp only [List.getElem_toArray, List.getElem_cons_zero, List.getElem_cons_succ, Act.put, List.setIfInBounds_toArray, List.set_cons_zero, List.set_cons_succ]
  refine wpAnyH_take (i := 14) (v := ?v25) rfl (by kernel_rfl) (by kernel_rfl) (by kernel_rfl) (fun _ _ _ h => h) (Or.inl ⟨by rfl, ?y25⟩) hHeld ?r25
  case y25 => (intro w hSw; have c0 := Blk.cell (i := 0) hSw rfl; have c1 := Blk.cell (i := 1) hSw rfl; have c2 := Blk.cell (i := 2) hSw rfl; have c3 := Blk.cell (i := 3) hSw rfl; have c4 := Blk.cell (i := 4) hSw rfl; have c5 := Blk.cell (i := 5) hSw rfl; clear hSw; go_simp; try with_reducible rfl)
  simp only [List.getElem_toArray, List.getElem_cons_zero, List.getElem_cons_succ, Act.put, List.setIfInBounds_toArray, List.set_cons_zero, List.set_cons_succ]
  refine wpAnyH_take (i := 16) (v := ?v26) rfl (by kernel_rfl) (by kernel_rfl) (by kernel_rfl) (fun _ _ _ h => h) (Or.inl ⟨by rfl, ?y26⟩) hHeld ?r26
  case y26 => (intro w hSw; have c0 := Blk.cell (i := 0) hSw rfl; have c1 := Blk.cell (i := 1) hSw rfl; have c2 := Blk.cell (i := 2) hSw rfl; have c3 := Blk.cell (i := 3) hSw rfl; have c4 := Blk.cell (i := 4) hSw rfl; have c5 := Blk.cell (i := 5) hSw rfl; clear hSw; go_simp; try with_reducible rfl)
  simp only [List.getElem_toArray, List.getElem_cons_zero, List.getElem_cons_succ, Act.put, List.setIfInBounds_toArray, List.set_cons_zero, List.set_cons_succ]
  refine wpAnyH_take (i := 17) (v := ?v27) rfl (by kernel_rfl) (by kernel_rfl) (by kernel_rfl) (fun _ _ _ h => h) (Or.inl ⟨by rfl, ?y27⟩) hHeld ?r27
  case y27 => (intro w hSw; have c0 := Blk.cell (i := 0) hSw rfl; have c1 := Blk.cell (i := 1) hSw rfl; have c2 := Blk.cell (i := 2) hSw rfl; have c3 := Blk.cell (i := 3) hSw rfl; have c4 := Blk.cell (i := 4) hSw rfl; have c5 := Blk.cell (i := 5) hSw rfl; clear hSw; go_simp; try with_reducible rfl)
  simp only [List.getElem_toArray, List.getElem_cons_zero, List.getElem_cons_succ, Act.put, List.setIfInBounds_toArray, List.set_cons_zero, List.set_cons_succ]
  refine wpAnyH_ready (rs := [12]) (by kernel_rfl) (by simp) (AllReadyH.cons rfl (fun K hK => ?_) AllReadyH.nil)
  go_simp
  have Hd4 := Lib.hid (And.intro (Blk.drew H4.out.1) (belN H4.out.2 1))
  refine (Hms.out _).mono ?_
  rintro e w5 ⟨rfl, hu5⟩
  have H5 := Lib.hid (And.intro (Hd4.out.1.low hu5) (Hd4.out.2.trans (hu5.mono Hd4.out.2.size)))
  clear hu5
  go_wp2_with fail
  refine hK.out _ _ (H5.out.1) (fun hHeld => ?_)
  clear hK K
  refine wpAnyH_ready (rs := [15]) (by kernel_rfl) (by simp) (AllReadyH.cons rfl (fun K hK => ?_) AllReadyH.nil)
  go_simp
  refine (plain_any S.ow S.sq S.fs S.wd S.dp _).mono ?_
  rintro e w6 ⟨rfl, hu6⟩
  have H6 := Lib.hid (And.intro (H5.out.1.low hu6) (H5.out.2.trans (hu6.mono H5.out.2.size)))
  clear hu6
  go_wp2_with fail
  refine hK.out _ _ (H6.out.1) (fun hHeld => ?_)
  clear hK K
  refine wpAnyH_ready (rs := [18]) (by kernel_rfl) (by simp) (AllReadyH.cons rfl (fun K hK => ?_) AllReadyH.nil)
  go_simp
  refine (Hmd.out _).mono ?_
  rintro e w7 ⟨rfl, hu7⟩
  have H7 := Lib.hid (And.intro (H6.out.1.low hu7) (H6.out.2.trans (hu7.mono H6.out.2.size)))
  clear hu7
  go_wp2_with fail
  refine hK.out _ _ (H7.out.1) (fun hHeld => ?_)
  clear hK K
  refine wpAnyH_take (i := 19) (v := .bool false) rfl (by kernel_rfl) (by kernel_rfl) (by kernel_rfl) (fun _ _ _ h => h) (Or.inl ⟨by rfl, ?y31⟩) hHeld ?r31
  case y31 => (intro w hSw; have c0 := Blk.cell (i := 0) hSw rfl; have c1 := Blk.cell (i := 1) hSw rfl; have c2 := Blk.cell (i := 2) hSw rfl; have c3 := Blk.cell (i := 3) hSw rfl; have c4 := Blk.cell (i := 4) hSw rfl; have c5 := Blk.cell (i := 5) hSw rfl; clear hSw; go_simp; try with_reducible rfl)
  simp only [List.getElem_toArray, List.getElem_cons_zero, List.getElem_cons_succ, Act.put, List.setIfInBounds_toArray, List.set_cons_zero, List.set_cons_succ]
  refine wpAnyH_take (i := 20) (v := ?v32) rfl (by kernel_rfl) (by kernel_rfl) (by kernel_rfl) (fun _ _ _ h => h) (Or.inl ⟨by rfl, ?y32⟩) hHeld ?r32
  case y32 => (intro w hSw; have c0 := Blk.cell (i := 0) hSw rfl; have c1 := Blk.cell (i := 1) hSw rfl; have c2 := Blk.cell (i := 2) hSw rfl; have c3 := Blk.cell (i := 3) hSw rfl; have c4 := Blk.cell (i := 4) hSw rfl; have c5 := Blk.cell (i := 5) hSw rfl; clear hSw; go_simp; try with_reducible rfl)
  simp only [List.getElem_toArray, List.getElem_cons_zero, List.getElem_cons_succ, Act.put, List.setIfInBounds_toArray, List.set_cons_zero, List.set_cons_succ]
  refine wpAnyH_done (by kernel_rfl) ?_ _
  clear hHeld
  go_wp2_with fail
  refine (awake_any _).mono ?_
  rintro e w8 ⟨rfl, hu8⟩
  have H8 := Lib.hid (H7.out.2.trans (hu8.mono H7.out.2.size))
  clear hu8
  go_wp2
  go_ret
  exact ⟨rfl, H8.out⟩
end Go.Proofs.Ytajibhhmcjcchaa
