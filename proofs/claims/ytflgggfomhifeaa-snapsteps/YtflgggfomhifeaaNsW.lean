/- SnapSteps: its walk. -/
import Derived.Test.YtflgggfomhifeaaNsB
namespace Go.Proofs.Ytflgggfomhifeaa
open Go.RowKit
set_option maxRecDepth 100000 in
set_option maxHeartbeats 8000000 in
theorem steps_walk (n : Nat) (ja : Option Addr) (jl : List Sp) (jc : Nat) (tr : Int) (aa : Option Addr) (acl : List Ac) (ac : Nat) (w : World) (n1 : 1 ≤ n) (n2 : n ≤ 80) (hS : Sps w.heap.size w ja jl) (hl : jl.length ≤ 70) (hA : Acs w.heap.size w aa acl) (hm : acl.length ≤ 300) (hmb : flt jl tr = 0) : Calls Try.prog 3 #[.int .i64 (n : Int), .agg (jbx ja jl.length jc tr).toArray, .slice aa acl.length ac] w (True1 w) := by
  have HA := Lib.hid hA
  obtain ⟨f1, f2, f3, f4, f5⟩ := flt_ok hmb
  have hwd1 : 1 ≤ wid jl := by
    cases jl with
    | nil => simp at f1
    | cons S r =>
      have := (f3 S List.mem_cons_self).1
      simp only [wid]
      omega
  have hwd2 := wid_bd jl f3
  have Hjl := Lib.hid (show (1 ≤ jl.length ∧ jl.length ≤ 64) ∧ (1 ≤ wid jl ∧ wid jl ≤ 4096) ∧ tr ≤ 16 from ⟨⟨f1, f2⟩, ⟨hwd1, by omega⟩, f5⟩)
  clear f1 f2 f3 f4 f5 hwd1 hwd2
  have Hmk : Hid (∀ w : World, (Instr.makeSlice 41 (.int .i64 (n : Int)) (.int .i64 (n : Int))).run Try.prog w = .ok (.slice (some ⟨w.heap.size, 0, none⟩) n n) (w.alloc (.cells (zeros n) 42))) := Lib.hid (fun w => by
    have := make_u64 n n (by omega) (Int.le_refl _) (by omega) w
    rw [Int.toNat_natCast] at this
    exact this)
  clear hA
  have Hmb := Lib.hid hmb
  have hbl := (Below.refl w.heap.size w).alloc (Nat.le_refl _) (bx2 ja jl.length jc tr)
  have hC := Blk.new w #[.slice ja jl.length jc, .int .i64 tr] 24
  have H0 := Lib.hid (show Blk (w.alloc (bx2 ja jl.length jc tr)) w.heap.size (jbx ja jl.length jc tr) ∧ Below w.heap.size w (w.alloc (bx2 ja jl.length jc tr)) from ⟨hC, hbl⟩)
  have Hnb := Lib.hid (fun w => new_ok n w n1 (by omega))
  have k3 : (acl.length : Int) ≤ 300 := by omega
  have k1 : 1 ≤ (n : Int) := by omega
  have k2 : (n : Int) ≤ 80 := by omega
  have Hn := Lib.hid (And.intro n1 (And.intro n2 hl))
  have Hms : Hid (∀ W, Below w.heap.size w W → Calls Try.prog 13 #[.slice ja jl.length jc, .int .i64 tr] W (Ret (.int .i64 (nmst jl tr)) W)) := Lib.hid (fun W hb => nmost_any ja jc jl tr W (hS.next hb) (by omega))
  have Hmd : Hid (∀ W a c, Sps W.heap.size W a jl → Calls Try.prog 14 #[.slice a jl.length c, .int .i64 tr] W (Ret (.int .i64 (nmst jl tr)) W)) := Lib.hid (fun W a c hb => rfmost_any a c jl tr W hb (by omega))
  have Hpl : Hid (∀ W, Below w.heap.size w W → Calls Try.prog 12 #[.slice ja jl.length jc] W (PlPost jl.length jl W)) := Lib.hid (fun W hb => plain_any ja jc jl W (hS.next hb) hl)
  have mMM : ((nmst jl tr) != (nmst jl tr)) = false := by simp
  generalize nmst jl tr = MS at *
  have HS := Lib.hid hS
  have k4 : (jl.length : Int) ≤ 70 := by omega
  clear hbl hC n1 n2 hl hmb hS
  unfold jbx
  go_enter Try.func3, Try.ntmps3
  go_wp2_with fail
  generalize w.alloc (bx2 ja jl.length jc tr) = w0 at H0 ⊢
  obtain ⟨xb, hxb⟩ : ∃ xb, w.heap.size = xb := ⟨_, rfl⟩
  refine (Hnb.out _).mono ?_
  rintro e w1 ⟨b, bg, hb, hg, rfl, hk1, hu1⟩
  have H1 := Lib.hid (show Bk w1 b bg (List.replicate n 0) 0 ∧ Blk w1 w.heap.size (jbx ja jl.length jc tr) ∧ Below w.heap.size w w1 from ⟨hk1, H0.out.1.low hu1, H0.out.2.trans (hu1.mono H0.out.2.size)⟩)
  have Hap := Lib.hid (show b ≠ w.heap.size ∧ bg ≠ w.heap.size ∧ w.heap.size ≤ b ∧ w.heap.size ≤ bg from by have l1 := H0.out.1.lt; have l2 := H0.out.2.size; omega)
  clear hk1 hu1 hb hg H0 hxb xb
  have c0 := H1.out.2.1.cell (i := 0) rfl
  have c1 := H1.out.2.1.cell (i := 1) rfl
  go_wp2_with fail
  refine (nnew_ok ja jc jl tr _ (HS.out.next H1.out.2.2) Hmb.out).mono ?_
  rintro e w2 ⟨p, gs, g, hp, hgs, hg, rfl, hP, hu2⟩
  have H2 := Lib.hid (And.intro (H1.out.2.1.low hu2) (H1.out.2.2.trans (hu2.mono H1.out.2.2.size)))
  have HP : Hid (NAt w2 p gs g jl (nst0 tr) ∧ Bk w2 b bg (List.replicate n 0) 0 ∧ ((w.heap.size < b ∧ b < w1.heap.size) ∧ (w.heap.size < bg ∧ bg < w1.heap.size)) ∧ ((w1.heap.size ≤ p ∧ p < w2.heap.size) ∧ (w1.heap.size ≤ gs ∧ gs < w2.heap.size) ∧ (w1.heap.size ≤ g ∧ g < w2.heap.size))) := Lib.hid ⟨hP, H1.out.1.below hu2, by
    have l1 := H1.out.1.ltb
    have l2 := H1.out.1.ltg
    obtain ⟨a1, a2, a3, a4⟩ := Hap.out
    omega, ⟨hp, hP.lto⟩, ⟨hgs, hP.lts⟩, ⟨hg, hP.ltg⟩⟩
  clear hu2 H1 hp hgs hg hP c0 c1
  go_wp2_with fail
  refine wp_region_held_drew (S := XB w.heap.size ja jl.length jc tr) (by kernel_rfl) (Blk.drew H2.out.1) (fun hHeld => ?_)
  refine wpAnyH_take (i := 0) (v := ?v1) rfl (by kernel_rfl) (by kernel_rfl) (by kernel_rfl) (fun _ _ _ h => h) (Or.inl ⟨by rfl, ?y1⟩) hHeld ?r1
  case y1 => (intro w hSw; have c0 := Blk.cell (i := 0) hSw rfl; have c1 := Blk.cell (i := 1) hSw rfl; clear hSw; go_simp; try with_reducible rfl)
  simp only [List.getElem_toArray, List.getElem_cons_zero, Act.put, List.setIfInBounds_toArray, List.set_cons_zero, List.set_cons_succ]
  refine wpAnyH_take (i := 1) (v := ?v2) rfl (by kernel_rfl) (by kernel_rfl) (by kernel_rfl) (fun _ _ _ h => h) (Or.inl ⟨by rfl, ?y2⟩) hHeld ?r2
  case y2 => (intro w hSw; have c0 := Blk.cell (i := 0) hSw rfl; have c1 := Blk.cell (i := 1) hSw rfl; clear hSw; go_simp; try with_reducible rfl)
  simp only [List.getElem_toArray, List.getElem_cons_zero, List.getElem_cons_succ, Act.put, List.setIfInBounds_toArray, List.set_cons_zero, List.set_cons_succ]
  refine wpAnyH_take (i := 3) (v := ?v3) rfl (by kernel_rfl) (by kernel_rfl) (by kernel_rfl) (fun _ _ _ h => h) (Or.inl ⟨by rfl, ?y3⟩) hHeld ?r3
  case y3 => (intro w hSw; have c0 := Blk.cell (i := 0) hSw rfl; have c1 := Blk.cell (i := 1) hSw rfl; clear hSw; go_simp; try with_reducible rfl)
  simp only [List.getElem_toArray, List.getElem_cons_zero, List.getElem_cons_succ, Act.put, List.setIfInBounds_toArray, List.set_cons_zero, List.set_cons_succ]
  refine wpAnyH_take (i := 4) (v := ?v4) rfl (by kernel_rfl) (by kernel_rfl) (by kernel_rfl) (fun _ _ _ h => h) (Or.inl ⟨by rfl, ?y4⟩) hHeld ?r4
  case y4 => (intro w hSw; have c0 := Blk.cell (i := 0) hSw rfl; have c1 := Blk.cell (i := 1) hSw rfl; clear hSw; go_simp; try with_reducible rfl)
  simp only [List.getElem_toArray, List.getElem_cons_zero, List.getElem_cons_succ, Act.put, List.setIfInBounds_toArray, List.set_cons_zero, List.set_cons_succ]
  refine wpAnyH_ready (rs := [2]) (by kernel_rfl) (by simp) (AllReadyH.cons rfl (fun K hK => ?_) AllReadyH.nil)
  go_simp
  have Hd2 := Lib.hid (And.intro (Blk.drew H2.out.1) (And.intro (belN H2.out.2 1) (And.intro (belN (Below.refl w2.heap.size w2) 1) trivial)))
  refine (Hpl.out _ Hd2.out.2.1).mono ?_
  rintro e w3 ⟨pa3, pc3, rfl, hs3, hu3, hb3⟩
  have H3 := Lib.hid (And.intro (Hd2.out.1.low hu3) (And.intro (Hd2.out.2.1.trans (hu3.mono Hd2.out.2.1.size)) (And.intro (Hd2.out.2.2.1.trans (hu3.mono Hd2.out.2.2.1.size)) (trivial))))
  have HP3 := Lib.hid (And.intro hs3 hb3)
  clear hs3 hb3
  clear hu3
  go_wp2_with fail
  refine hK.out _ _ (H3.out.1) (fun hHeld => ?_)
  clear hK K
  refine wpAnyH_ready (rs := [5]) (by kernel_rfl) (by simp) (AllReadyH.cons rfl (fun K hK => ?_) AllReadyH.nil)
  go_simp
  refine (rfnew_ok pa3 pc3 jl tr _ HP3.out.1 Hmb.out).mono ?_
  rintro e w4 ⟨o, ho, rfl, hR, hu4⟩
  obtain ⟨d, off, hpa, hdl, _⟩ := hR.spots 0 _ (List.getElem?_eq_getElem (show 0 < jl.length from by have := Hjl.out.1.1; omega))
  subst hpa
  have H4 : Hid (Blk w4 w.heap.size (jbx ja jl.length jc tr) ∧ Below w.heap.size w w4 ∧ Below w2.heap.size w2 w4 ∧ RnAt w4 o (some ⟨d, off, none⟩) jl.length pc3 (.slice none 0 0) (.slice none 0 0) jl tr (nst0 tr) ∧ d < w4.heap.size) := Lib.hid ⟨H3.out.1.low hu4, H3.out.2.1.trans (hu4.mono H3.out.2.1.size), H3.out.2.2.1.trans (hu4.mono H3.out.2.2.1.size), hR, hdl⟩
  have Ho := Lib.hid (show w2.heap.size ≤ d ∧ w2.heap.size ≤ o ∧ d ≠ o from ⟨HP3.out.2 d off rfl, Nat.le_trans H3.out.2.2.1.size ho, (hR.away d off rfl).1⟩)
  clear hu4 hR ho hdl
  go_wp2_with fail
  refine hK.out _ _ (H4.out.1) (fun hHeld => ?_)
  clear hK K
  refine wpAnyH_take (i := 6) (v := ?v7) rfl (by kernel_rfl) (by kernel_rfl) (by kernel_rfl) (fun _ _ _ h => h) (Or.inl ⟨by rfl, ?y7⟩) hHeld ?r7
  case y7 => (intro w hSw; have c0 := Blk.cell (i := 0) hSw rfl; have c1 := Blk.cell (i := 1) hSw rfl; clear hSw; go_simp; try with_reducible rfl)
  simp only [List.getElem_toArray, List.getElem_cons_zero, List.getElem_cons_succ, Act.put, List.setIfInBounds_toArray, List.set_cons_zero, List.set_cons_succ]
  refine wpAnyH_take (i := 7) (v := ?v8) rfl (by kernel_rfl) (by kernel_rfl) (by kernel_rfl) (fun _ _ _ h => h) (Or.inl ⟨by rfl, ?y8⟩) hHeld ?r8
  case y8 => (intro w hSw; have c0 := Blk.cell (i := 0) hSw rfl; have c1 := Blk.cell (i := 1) hSw rfl; clear hSw; go_simp; try with_reducible rfl)
  simp only [List.getElem_toArray, List.getElem_cons_zero, List.getElem_cons_succ, Act.put, List.setIfInBounds_toArray, List.set_cons_zero, List.set_cons_succ]
  refine wpAnyH_take (i := 8) (v := ?v9) rfl (by kernel_rfl) (by kernel_rfl) (by kernel_rfl) (fun _ _ _ h => h) (Or.inl ⟨by rfl, ?y9⟩) hHeld ?r9
  case y9 => (intro w hSw; have c0 := Blk.cell (i := 0) hSw rfl; have c1 := Blk.cell (i := 1) hSw rfl; clear hSw; go_simp; try with_reducible rfl)
  simp only [List.getElem_toArray, List.getElem_cons_zero, List.getElem_cons_succ, Act.put, List.setIfInBounds_toArray, List.set_cons_zero, List.set_cons_succ]
  refine wpAnyH_take (i := 9) (v := ?v10) rfl (by kernel_rfl) (by kernel_rfl) (by kernel_rfl) (fun _ _ _ h => h) (Or.inl ⟨by rfl, ?y10⟩) hHeld ?r10
  case y10 => (intro w hSw; have c0 := Blk.cell (i := 0) hSw rfl; have c1 := Blk.cell (i := 1) hSw rfl; clear hSw; go_simp; try with_reducible rfl)
  simp only [List.getElem_toArray, List.getElem_cons_zero, List.getElem_cons_succ, Act.put, List.setIfInBounds_toArray, List.set_cons_zero, List.set_cons_succ]
  refine wpAnyH_take (i := 10) (v := ?v11) rfl (by kernel_rfl) (by kernel_rfl) (by kernel_rfl) (fun _ _ _ h => h) (Or.inl ⟨by rfl, ?y11⟩) hHeld ?r11
  case y11 => (intro w hSw; have c0 := Blk.cell (i := 0) hSw rfl; have c1 := Blk.cell (i := 1) hSw rfl; clear hSw; go_simp; try with_reducible rfl)
  simp only [List.getElem_toArray, List.getElem_cons_zero, List.getElem_cons_succ, Act.put, List.setIfInBounds_toArray, List.set_cons_zero, List.set_cons_succ]
  refine wpAnyH_done (by kernel_rfl) ?_ _
  clear hHeld
  have m00 : ((0 : Int) != 0) = false := by decide
  go_wp2_with fail
  refine wp_region_held_drew (S := XB w.heap.size ja jl.length jc tr) (by kernel_rfl) (Blk.drew H4.out.1) (fun hHeld => ?_)
  refine wpAnyH_take (i := 0) (v := ?v12) rfl (by kernel_rfl) (by kernel_rfl) (by kernel_rfl) (fun _ _ _ h => h) (Or.inl ⟨by rfl, ?y12⟩) hHeld ?r12
  case y12 => (intro w hSw; have c0 := Blk.cell (i := 0) hSw rfl; have c1 := Blk.cell (i := 1) hSw rfl; clear hSw; go_simp; try with_reducible rfl)
  simp only [List.getElem_toArray, List.getElem_cons_zero, Act.put, List.setIfInBounds_toArray, List.set_cons_zero, List.set_cons_succ]
  refine wpAnyH_take (i := 1) (v := ?v13) rfl (by kernel_rfl) (by kernel_rfl) (by kernel_rfl) (fun _ _ _ h => h) (Or.inl ⟨by rfl, ?y13⟩) hHeld ?r13
  case y13 => (intro w hSw; have c0 := Blk.cell (i := 0) hSw rfl; have c1 := Blk.cell (i := 1) hSw rfl; clear hSw; go_simp; try with_reducible rfl)
  simp only [List.getElem_toArray, List.getElem_cons_zero, List.getElem_cons_succ, Act.put, List.setIfInBounds_toArray, List.set_cons_zero, List.set_cons_succ]
  refine wpAnyH_take (i := 2) (v := ?v14) rfl (by kernel_rfl) (by kernel_rfl) (by kernel_rfl) (fun _ _ _ h => h) (Or.inl ⟨by rfl, ?y14⟩) hHeld ?r14
  case y14 => (intro w hSw; have c0 := Blk.cell (i := 0) hSw rfl; have c1 := Blk.cell (i := 1) hSw rfl; clear hSw; go_simp; try with_reducible rfl)
  simp only [List.getElem_toArray, List.getElem_cons_zero, List.getElem_cons_succ, Act.put, List.setIfInBounds_toArray, List.set_cons_zero, List.set_cons_succ]
  refine wpAnyH_take (i := 3) (v := ?v15) rfl (by kernel_rfl) (by kernel_rfl) (by kernel_rfl) (fun _ _ _ h => h) (Or.inl ⟨by rfl, ?y15⟩) hHeld ?r15
  case y15 => (intro w hSw; have c0 := Blk.cell (i := 0) hSw rfl; have c1 := Blk.cell (i := 1) hSw rfl; clear hSw; go_simp; try with_reducible rfl)
  simp only [List.getElem_toArray, List.getElem_cons_zero, List.getElem_cons_succ, Act.put, List.setIfInBounds_toArray, List.set_cons_zero, List.set_cons_succ]
  refine wpAnyH_take (i := 4) (v := ?v16) rfl (by kernel_rfl) (by kernel_rfl) (by kernel_rfl) (fun _ _ _ h => h) (Or.inl ⟨by rfl, ?y16⟩) hHeld ?r16
  case y16 => (intro w hSw; have c0 := Blk.cell (i := 0) hSw rfl; have c1 := Blk.cell (i := 1) hSw rfl; clear hSw; go_simp; try with_reducible rfl)
  simp only [List.getElem_toArray, List.getElem_cons_zero, List.getElem_cons_succ, Act.put, List.setIfInBounds_toArray, List.set_cons_zero, List.set_cons_succ]
  refine wpAnyH_take (i := 5) (v := .bool false) rfl (by kernel_rfl) (by kernel_rfl) (by kernel_rfl) (fun _ _ _ h => h) (Or.inl ⟨by rfl, ?y17⟩) hHeld ?r17
  case y17 => (intro w hSw; have c0 := Blk.cell (i := 0) hSw rfl; have c1 := Blk.cell (i := 1) hSw rfl; clear hSw; go_simp; try with_reducible rfl)
  simp only [List.getElem_toArray, List.getElem_cons_zero, List.getElem_cons_succ, Act.put, List.setIfInBounds_toArray, List.set_cons_zero, List.set_cons_succ]
  refine wpAnyH_take (i := 6) (v := ?v18) rfl (by kernel_rfl) (by kernel_rfl) (by kernel_rfl) (fun _ _ _ h => h) (Or.inl ⟨by rfl, ?y18⟩) hHeld ?r18
  case y18 => (intro w hSw; have c0 := Blk.cell (i := 0) hSw rfl; have c1 := Blk.cell (i := 1) hSw rfl; clear hSw; go_simp; try with_reducible rfl)
  simp only [List.getElem_toArray, List.getElem_cons_zero, List.getElem_cons_succ, Act.put, List.setIfInBounds_toArray, List.set_cons_zero, List.set_cons_succ]
  refine wpAnyH_take (i := 7) (v := ?v19) rfl (by kernel_rfl) (by kernel_rfl) (by kernel_rfl) (fun _ _ _ h => h) (Or.inl ⟨by rfl, ?y19⟩) hHeld ?r19
  case y19 => (intro w hSw; have c0 := Blk.cell (i := 0) hSw rfl; have c1 := Blk.cell (i := 1) hSw rfl; clear hSw; go_simp; try with_reducible rfl)
  simp only [List.getElem_toArray, List.getElem_cons_zero, List.getElem_cons_succ, Act.put, List.setIfInBounds_toArray, List.set_cons_zero, List.set_cons_succ]
  refine wpAnyH_take (i := 8) (v := ?v20) rfl (by kernel_rfl) (by kernel_rfl) (by kernel_rfl) (fun _ _ _ h => h) (Or.inl ⟨by rfl, ?y20⟩) hHeld ?r20
  case y20 => (intro w hSw; have c0 := Blk.cell (i := 0) hSw rfl; have c1 := Blk.cell (i := 1) hSw rfl; clear hSw; go_simp; try with_reducible rfl)
  simp only [List.getElem_toArray, List.getElem_cons_zero, List.getElem_cons_succ, Act.put, List.setIfInBounds_toArray, List.set_cons_zero, List.set_cons_succ]
  refine wpAnyH_take (i := 9) (v := ?v21) rfl (by kernel_rfl) (by kernel_rfl) (by kernel_rfl) (fun _ _ _ h => h) (Or.inl ⟨by rfl, ?y21⟩) hHeld ?r21
  case y21 => (intro w hSw; have c0 := Blk.cell (i := 0) hSw rfl; have c1 := Blk.cell (i := 1) hSw rfl; clear hSw; go_simp; try with_reducible rfl)
  simp only [List.getElem_toArray, List.getElem_cons_zero, List.getElem_cons_succ, Act.put, List.setIfInBounds_toArray, List.set_cons_zero, List.set_cons_succ]
  refine wpAnyH_take (i := 10) (v := ?v22) rfl (by kernel_rfl) (by kernel_rfl) (by kernel_rfl) (fun _ _ _ h => h) (Or.inl ⟨by rfl, ?y22⟩) hHeld ?r22
  case y22 => (intro w hSw; have c0 := Blk.cell (i := 0) hSw rfl; have c1 := Blk.cell (i := 1) hSw rfl; clear hSw; go_simp; try with_reducible rfl)
  simp only [List.getElem_toArray, List.getElem_cons_zero, List.getElem_cons_succ, Act.put, List.setIfInBounds_toArray, List.set_cons_zero, List.set_cons_succ]
  refine wpAnyH_take (i := 11) (v := ?v23) rfl (by kernel_rfl) (by kernel_rfl) (by kernel_rfl) (fun _ _ _ h => h) (Or.inl ⟨by rfl, ?y23⟩) hHeld ?r23
  case y23 => (intro w hSw; have c0 := Blk.cell (i := 0) hSw rfl; have c1 := Blk.cell (i := 1) hSw rfl; clear hSw; go_simp; try with_reducible rfl)
  simp only [List.getElem_toArray, List.getElem_cons_zero, List.getElem_cons_succ, Act.put, List.setIfInBounds_toArray, List.set_cons_zero, List.set_cons_succ]
  refine wpAnyH_take (i := 13) (v := ?v24) rfl (by kernel_rfl) (by kernel_rfl) (by kernel_rfl) (fun _ _ _ h => h) (Or.inl ⟨by rfl, ?y24⟩) hHeld ?r24
  case y24 => (intro w hSw; have c0 := Blk.cell (i := 0) hSw rfl; have c1 := Blk.cell (i := 1) hSw rfl; clear hSw; go_simp; try with_reducible rfl)
  simp only [List.getElem_toArray, List.getElem_cons_zero, List.getElem_cons_succ, Act.put, List.setIfInBounds_toArray, List.set_cons_zero, List.set_cons_succ]
  refine wpAnyH_take (i := 14) (v := ?v25) rfl (by kernel_rfl) (by kernel_rfl) (by kernel_rfl) (fun _ _ _ h => h) (Or.inl ⟨by rfl, ?y25⟩) hHeld ?r25
  case y25 => (intro w hSw; have c0 := Blk.cell (i := 0) hSw rfl; have c1 := Blk.cell (i := 1) hSw rfl; clear hSw; go_simp; try with_reducible rfl)
  simp only [List.getElem_toArray, List.getElem_cons_zero, List.getElem_cons_succ, Act.put, List.setIfInBounds_toArray, List.set_cons_zero, List.set_cons_succ]
  refine wpAnyH_take (i := 16) (v := ?v26) rfl (by kernel_rfl) (by kernel_rfl) (by kernel_rfl) (fun _ _ _ h => h) (Or.inl ⟨by rfl, ?y26⟩) hHeld ?r26
  case y26 => (intro w hSw; have c0 := Blk.cell (i := 0) hSw rfl; have c1 := Blk.cell (i := 1) hSw rfl; clear hSw; go_simp; try with_reducible rfl)
  simp only [List.getElem_toArray, List.getElem_cons_zero, List.getElem_cons_succ, Act.put, List.setIfInBounds_toArray, List.set_cons_zero, List.set_cons_succ]
  refine wpAnyH_take (i := 17) (v := ?v27) rfl (by kernel_rfl) (by kernel_rfl) (by kernel_rfl) (fun _ _ _ h => h) (Or.inl ⟨by rfl, ?y27⟩) hHeld ?r27
  case y27 => (intro w hSw; have c0 := Blk.cell (i := 0) hSw rfl; have c1 := Blk.cell (i := 1) hSw rfl; clear hSw; go_simp; try with_reducible rfl)
  simp only [List.getElem_toArray, List.getElem_cons_zero, List.getElem_cons_succ, Act.put, List.setIfInBounds_toArray, List.set_cons_zero, List.set_cons_succ]
  refine wpAnyH_ready (rs := [12]) (by kernel_rfl) (by simp) (AllReadyH.cons rfl (fun K hK => ?_) AllReadyH.nil)
  go_simp
  have Hd4 := Lib.hid (And.intro (Blk.drew H4.out.1) (And.intro (belN H4.out.2.1 1) (And.intro (belN H4.out.2.2.1 1) (And.intro (H4.out.2.2.2.1.low (belN (Below.refl _ w4) 1)) H4.out.2.2.2.2))))
  refine (Hms.out _ Hd4.out.2.1).mono ?_
  rintro e w5 ⟨rfl, hu5⟩
  have H5 := Lib.hid (And.intro (Hd4.out.1.low hu5) (And.intro (Hd4.out.2.1.trans (hu5.mono Hd4.out.2.1.size)) (And.intro (Hd4.out.2.2.1.trans (hu5.mono Hd4.out.2.2.1.size)) (And.intro (Hd4.out.2.2.2.1.low hu5) (Nat.lt_of_lt_of_le Hd4.out.2.2.2.2 hu5.size)))))
  clear hu5
  go_wp2_with fail
  refine hK.out _ _ (H5.out.1) (fun hHeld => ?_)
  clear hK K
  refine wpAnyH_ready (rs := [15]) (by kernel_rfl) (by simp) (AllReadyH.cons rfl (fun K hK => ?_) AllReadyH.nil)
  go_simp
  refine (Hpl.out _ H5.out.2.1).mono ?_
  rintro e w6 ⟨pa6, pc6, rfl, hs6, hu6, hb6⟩
  have H6 := Lib.hid (And.intro (H5.out.1.low hu6) (And.intro (H5.out.2.1.trans (hu6.mono H5.out.2.1.size)) (And.intro (H5.out.2.2.1.trans (hu6.mono H5.out.2.2.1.size)) (And.intro (H5.out.2.2.2.1.low hu6) (Nat.lt_of_lt_of_le H5.out.2.2.2.2 hu6.size)))))
  have HP6 := Lib.hid (And.intro hs6 hb6)
  clear hs6 hb6
  clear hu6
  go_wp2_with fail
  refine hK.out _ _ (H6.out.1) (fun hHeld => ?_)
  clear hK K
  refine wpAnyH_ready (rs := [18]) (by kernel_rfl) (by simp) (AllReadyH.cons rfl (fun K hK => ?_) AllReadyH.nil)
  go_simp
  refine (Hmd.out _ _ _ HP6.out.1).mono ?_
  rintro e w7 ⟨rfl, hu7⟩
  have H7 := Lib.hid (And.intro (H6.out.1.low hu7) (And.intro (H6.out.2.1.trans (hu7.mono H6.out.2.1.size)) (And.intro (H6.out.2.2.1.trans (hu7.mono H6.out.2.2.1.size)) (And.intro (H6.out.2.2.2.1.low hu7) (Nat.lt_of_lt_of_le H6.out.2.2.2.2 hu7.size)))))
  clear hu7
  go_wp2_with fail
  refine hK.out _ _ (H7.out.1) (fun hHeld => ?_)
  clear hK K
  refine wpAnyH_take (i := 19) (v := .bool false) rfl (by kernel_rfl) (by kernel_rfl) (by kernel_rfl) (fun _ _ _ h => h) (Or.inl ⟨by rfl, ?y31⟩) hHeld ?r31
  case y31 => (intro w hSw; have c0 := Blk.cell (i := 0) hSw rfl; have c1 := Blk.cell (i := 1) hSw rfl; clear hSw; go_simp; try with_reducible rfl)
  simp only [List.getElem_toArray, List.getElem_cons_zero, List.getElem_cons_succ, Act.put, List.setIfInBounds_toArray, List.set_cons_zero, List.set_cons_succ]
  refine wpAnyH_take (i := 20) (v := ?v32) rfl (by kernel_rfl) (by kernel_rfl) (by kernel_rfl) (fun _ _ _ h => h) (Or.inl ⟨by rfl, ?y32⟩) hHeld ?r32
  case y32 => (intro w hSw; have c0 := Blk.cell (i := 0) hSw rfl; have c1 := Blk.cell (i := 1) hSw rfl; clear hSw; go_simp; try with_reducible rfl)
  simp only [List.getElem_toArray, List.getElem_cons_zero, List.getElem_cons_succ, Act.put, List.setIfInBounds_toArray, List.set_cons_zero, List.set_cons_succ]
  refine wpAnyH_done (by kernel_rfl) ?_ _
  clear hHeld H5 H6 Hd2 Hd4 H3 H4 HP6
  have hmk := Hmk.out w7
  have HW : Hid (NsM w jl tr ja jc pc3 ⟨b, bg, w7.heap.size, w.heap.size, p, gs, g, o, d, off, .slice none 0 0, .slice none 0 0, nst0 tr, nst0 tr, List.replicate n 0, 0⟩ (w7.alloc (.cells (zeros n) 42))) := Lib.hid (by
    obtain ⟨q1, q2, q3, q4, q5⟩ := H7.out
    obtain ⟨r1, r2, r3, r4⟩ := HP.out
    obtain ⟨s1, s2, s3⟩ := Ho.out
    have l7 := q3.size
    exact ns_mem0 (r2.below q3) q1 (r1.below q3) q4 q2 q5 rfl r3 r4 ⟨s1, s2, s3⟩)
  go_wp2_with fail
  generalize hw8 : w7.alloc (.cells (zeros n) 42) = w8 at *
  generalize w7.heap.size = wb at *
  clear hmk hw8 H7 H2 HP Hap Ho Hms Hmd mMM m00 Hmk Hnb Hpl HP3
  go_loopw [14] (fun i wr => NsRel w jl tr ja jc pc3 n acl.length b bg wb w.heap.size p gs g o d off i wr) (fun i _ => acl.length - (intOf i).toNat)
  case atStart => exact ⟨0, _, _, _, _, _, rfl, by omega, by simp, HW.out, by omega, by omega, nwf0 Hmb.out, by show (0 : Int) ≤ 0; omega, by show (0 : Int) ≤ 0; omega, by show tr ≤ tr; omega, fun c => absurd (show (0 : Int) = 1 from c) (by omega)⟩
  case round =>
    clear HW
    obtain ⟨q, V, U, x, zs, t, rfl, hqm, hzl, hM, t0, t1, hwf, s0, s1, hlt, hdn⟩ := hrel
    by_cases hlt1 : (q : Int) < acl.length
    · have hqq : q < acl.length := by omega
      obtain ⟨⟨i1, i2⟩, ux, ab, aoff, rfl, alt, a1, a2, a3⟩ := (HA.out.keep hM.bel) q _ (List.getElem?_eq_getElem hqq)
      generalize acl[q] = act at *
      obtain ⟨who, att, xv⟩ := act
      dsimp only at i1 i2 ux a1 a2 a3
      have HM := Lib.hid (And.intro hM (And.intro hzl (And.intro t0 (And.intro t1 (And.intro hwf (And.intro s0 (And.intro s1 (And.intro hlt hdn))))))))
      have Hlt := Lib.hid alt
      have q200 : (q : Int) ≤ 300 := by omega
      cases who with
      | false =>
        by_cases hat : 0 ≤ att ∧ att < n
        · obtain ⟨h0, h1⟩ := hat
          obtain ⟨an, rfl⟩ := Int.eq_ofNat_of_zero_le h0
          have hza : zs[an]? = some (zs[an]'(by omega)) := List.getElem?_eq_getElem _
          generalize zs[an]'(by omega) = zv at *
          have hbk : Bk wr b bg zs t := hM.bank
          have Hst := Lib.hid (store_in b bg zs t xv zv an wr.drew hbk.drew hza t0 (by omega) ux)
          have Hza := Lib.hid hza
          have HS := Lib.hid (show AC ab (aoff + q * 3 + 1) (aoff + q * 3 + 2) (.int .i64 an) (.int .u64 xv) wr.drew from ⟨a2, a3⟩)
          clear hza hM hzl t0 t1 hwf s0 s1 hlt hdn hbk alt
          go_wp2_with fail
          refine wp_region_held_drew (S := AC ab (aoff + q * 3 + 1) (aoff + q * 3 + 2) (.int .i64 an) (.int .u64 xv)) (by kernel_rfl) (HS.out) (fun hHeld => ?_)
          refine wpAnyH_take (i := 0) (v := ?v33) rfl (by kernel_rfl) (by kernel_rfl) (by kernel_rfl) (fun _ _ _ h => h) (Or.inl ⟨by rfl, ?y33⟩) hHeld ?r33
          case y33 => (intro w hSw; obtain ⟨q0, q1⟩ := hSw; go_simp; try with_reducible rfl)
          simp only [List.getElem_toArray, List.getElem_cons_zero, Act.put, List.setIfInBounds_toArray, List.set_cons_zero, List.set_cons_succ]
          refine wpAnyH_take (i := 1) (v := ?v34) rfl (by kernel_rfl) (by kernel_rfl) (by kernel_rfl) (fun _ _ _ h => h) (Or.inl ⟨by rfl, ?y34⟩) hHeld ?r34
          case y34 => (intro w hSw; obtain ⟨q0, q1⟩ := hSw; go_simp; try with_reducible rfl)
          simp only [List.getElem_toArray, List.getElem_cons_zero, List.getElem_cons_succ, Act.put, List.setIfInBounds_toArray, List.set_cons_zero, List.set_cons_succ]
          refine wpAnyH_take (i := 2) (v := ?v35) rfl (by kernel_rfl) (by kernel_rfl) (by kernel_rfl) (fun _ _ _ h => h) (Or.inl ⟨by rfl, ?y35⟩) hHeld ?r35
          case y35 => (intro w hSw; obtain ⟨q0, q1⟩ := hSw; go_simp; try with_reducible rfl)
          simp only [List.getElem_toArray, List.getElem_cons_zero, List.getElem_cons_succ, Act.put, List.setIfInBounds_toArray, List.set_cons_zero, List.set_cons_succ]
          refine wpAnyH_take (i := 3) (v := ?v36) rfl (by kernel_rfl) (by kernel_rfl) (by kernel_rfl) (fun _ _ _ h => h) (Or.inl ⟨by rfl, ?y36⟩) hHeld ?r36
          case y36 => (intro w hSw; obtain ⟨q0, q1⟩ := hSw; go_simp; try with_reducible rfl)
          simp only [List.getElem_toArray, List.getElem_cons_zero, List.getElem_cons_succ, Act.put, List.setIfInBounds_toArray, List.set_cons_zero, List.set_cons_succ]
          refine wpAnyH_take (i := 4) (v := ?v37) rfl (by kernel_rfl) (by kernel_rfl) (by kernel_rfl) (fun _ _ _ h => h) (Or.inl ⟨by rfl, ?y37⟩) hHeld ?r37
          case y37 => (intro w hSw; obtain ⟨q0, q1⟩ := hSw; go_simp; try with_reducible rfl)
          simp only [List.getElem_toArray, List.getElem_cons_zero, List.getElem_cons_succ, Act.put, List.setIfInBounds_toArray, List.set_cons_zero, List.set_cons_succ]
          refine wpAnyH_take (i := 5) (v := ?v38) rfl (by kernel_rfl) (by kernel_rfl) (by kernel_rfl) (fun _ _ _ h => h) (Or.inl ⟨by rfl, ?y38⟩) hHeld ?r38
          case y38 => (intro w hSw; obtain ⟨q0, q1⟩ := hSw; go_simp; try with_reducible rfl)
          simp only [List.getElem_toArray, List.getElem_cons_zero, List.getElem_cons_succ, Act.put, List.setIfInBounds_toArray, List.set_cons_zero, List.set_cons_succ]
          refine wpAnyH_take (i := 6) (v := ?v39) rfl (by kernel_rfl) (by kernel_rfl) (by kernel_rfl) (fun _ _ _ h => h) (Or.inl ⟨by rfl, ?y39⟩) hHeld ?r39
          case y39 => (intro w hSw; obtain ⟨q0, q1⟩ := hSw; go_simp; try with_reducible rfl)
          simp only [List.getElem_toArray, List.getElem_cons_zero, List.getElem_cons_succ, Act.put, List.setIfInBounds_toArray, List.set_cons_zero, List.set_cons_succ]
          refine wpAnyH_take (i := 7) (v := ?v40) rfl (by kernel_rfl) (by kernel_rfl) (by kernel_rfl) (fun _ _ _ h => h) (Or.inl ⟨by rfl, ?y40⟩) hHeld ?r40
          case y40 => (intro w hSw; obtain ⟨q0, q1⟩ := hSw; go_simp; try with_reducible rfl)
          simp only [List.getElem_toArray, List.getElem_cons_zero, List.getElem_cons_succ, Act.put, List.setIfInBounds_toArray, List.set_cons_zero, List.set_cons_succ]
          refine wpAnyH_take (i := 8) (v := ?v41) rfl (by kernel_rfl) (by kernel_rfl) (by kernel_rfl) (fun _ _ _ h => h) (Or.inl ⟨by rfl, ?y41⟩) hHeld ?r41
          case y41 => (intro w hSw; obtain ⟨q0, q1⟩ := hSw; go_simp; try with_reducible rfl)
          simp only [List.getElem_toArray, List.getElem_cons_zero, List.getElem_cons_succ, Act.put, List.setIfInBounds_toArray, List.set_cons_zero, List.set_cons_succ]
          refine wpAnyH_take (i := 9) (v := ?v42) rfl (by kernel_rfl) (by kernel_rfl) (by kernel_rfl) (fun _ _ _ h => h) (Or.inl ⟨by rfl, ?y42⟩) hHeld ?r42
          case y42 => (intro w hSw; obtain ⟨q0, q1⟩ := hSw; go_simp; try with_reducible rfl)
          simp only [List.getElem_toArray, List.getElem_cons_zero, List.getElem_cons_succ, Act.put, List.setIfInBounds_toArray, List.set_cons_zero, List.set_cons_succ]
          refine wpAnyH_take (i := 10) (v := ?v43) rfl (by kernel_rfl) (by kernel_rfl) (by kernel_rfl) (fun _ _ _ h => h) (Or.inl ⟨by rfl, ?y43⟩) hHeld ?r43
          case y43 => (intro w hSw; obtain ⟨q0, q1⟩ := hSw; go_simp; try with_reducible rfl)
          simp only [List.getElem_toArray, List.getElem_cons_zero, List.getElem_cons_succ, Act.put, List.setIfInBounds_toArray, List.set_cons_zero, List.set_cons_succ]
          refine wpAnyH_ready (rs := [11]) (by kernel_rfl) (by simp) (AllReadyH.cons rfl (fun K hK => ?_) AllReadyH.nil)
          go_simp
          refine Hst.out.mono ?_
          rintro e W1 ⟨rfl, hB1, hu1⟩
          have HS1 := Lib.hid (show AC ab (aoff + q * 3 + 1) (aoff + q * 3 + 2) (.int .i64 an) (.int .u64 xv) W1 from by
            have hne : ¬ Own b bg ab := fun c => by have := (HM.out.1.dj.bd 0 ab c).1; have := Hlt.out; omega
            have l1 := World.block_lt_of_cell? _ _ HS.out.1
            exact ⟨(World.cell?_of_block (a := ⟨ab, aoff + q * 3 + 1, none⟩) (hu1.block ab l1 hne)).trans HS.out.1, (World.cell?_of_block (a := ⟨ab, aoff + q * 3 + 2, none⟩) (hu1.block ab l1 hne)).trans HS.out.2⟩)
          have H1 := Lib.hid (show Row W1 wb zs ∧ NsM w jl tr ja jc pc3 ⟨b, bg, wb, w.heap.size, p, gs, g, o, d, off, V, U, x, x, zs.set an xv, t + 1⟩ (W1.drew.setCell ⟨wb, an, none⟩ (.int .u64 xv)) from by
            have hMd := HM.out.1.drew
            have hwb : ¬ Own b bg wb := fun c => by
              have := hMd.dj.dj 0 1 wb c rfl
              omega
            have hst := hMd.store (q := an) (v := xv) (hu1.drew) hB1.drew
            exact ⟨hMd.wds.upd hu1 hwb, hst⟩)
          clear hB1 hu1
          go_wp2_with fail
          refine hK.out _ _ (HS1.out) (fun hHeld => ?_)
          clear hK K
          refine wpAnyH_take (i := 12) (v := .bool false) rfl (by kernel_rfl) (by kernel_rfl) (by kernel_rfl) (fun _ _ _ h => h) (Or.inl ⟨by rfl, ?y45⟩) hHeld ?r45
          case y45 => (intro w hSw; obtain ⟨q0, q1⟩ := hSw; go_simp; try with_reducible rfl)
          simp only [List.getElem_toArray, List.getElem_cons_zero, List.getElem_cons_succ, Act.put, List.setIfInBounds_toArray, List.set_cons_zero, List.set_cons_succ]
          refine wpAnyH_done (by kernel_rfl) ?_ _
          clear hHeld
          have HS2 := Lib.hid (show AC ab (aoff + q * 3 + 1) (aoff + q * 3 + 2) (.int .i64 an) (.int .u64 xv) W1.drew from HS1.out)
          have d3 := (Row.drew H1.out.1).cell Hza.out
          have d4 := (Row.drew H1.out.1).frozen an
          have d5 := (Row.drew H1.out.1).lt
          have hS3 : AC ab (aoff + q * 3 + 1) (aoff + q * 3 + 2) (.int .i64 an) (.int .u64 xv) (W1.drew.setCell ⟨wb, an, none⟩ (.int .u64 xv)) := by
            have hne : ab ≠ wb := by have := (HM.out.1.dj.bd 1 wb rfl).1; have := Hlt.out; omega
            unfold AC
            rw [World.cell?_of_block (Below.heap_setCell _ _ _ _ hne), World.cell?_of_block (Below.heap_setCell _ _ _ _ hne)]
            exact HS2.out
          have HM2 : Hid (NsM w jl tr ja jc pc3 ⟨b, bg, wb, w.heap.size, p, gs, g, o, d, off, V, U, x, x, zs.set an xv, t + 1⟩ (W1.drew.setCell ⟨wb, an, none⟩ (.int .u64 xv))) := Lib.hid H1.out.2
          clear H1 HS HS1 Hst
          go_wp2_with fail
          refine wp_region_held_drew (S := AC ab (aoff + q * 3 + 1) (aoff + q * 3 + 2) (.int .i64 an) (.int .u64 xv)) (by kernel_rfl) (HS2.out) (fun hHeld => ?_)
          refine wpAnyH_take (i := 0) (v := ?v46) rfl (by kernel_rfl) (by kernel_rfl) (by kernel_rfl) (fun _ _ _ h => h) (Or.inl ⟨by rfl, ?y46⟩) hHeld ?r46
          case y46 => (intro w hSw; obtain ⟨q0, q1⟩ := hSw; go_simp; try with_reducible rfl)
          simp only [List.getElem_toArray, List.getElem_cons_zero, Act.put, List.setIfInBounds_toArray, List.set_cons_zero, List.set_cons_succ]
          refine wpAnyH_take (i := 1) (v := ?v47) rfl (by kernel_rfl) (by kernel_rfl) (by kernel_rfl) (fun _ _ _ h => h) (Or.inl ⟨by rfl, ?y47⟩) hHeld ?r47
          case y47 => (intro w hSw; obtain ⟨q0, q1⟩ := hSw; go_simp; try with_reducible rfl)
          simp only [List.getElem_toArray, List.getElem_cons_zero, List.getElem_cons_succ, Act.put, List.setIfInBounds_toArray, List.set_cons_zero, List.set_cons_succ]
          refine wpAnyH_take (i := 2) (v := ?v48) rfl (by kernel_rfl) (by kernel_rfl) (by kernel_rfl) (fun _ _ _ h => h) (Or.inl ⟨by rfl, ?y48⟩) hHeld ?r48
          case y48 => (intro w hSw; obtain ⟨q0, q1⟩ := hSw; go_simp; try with_reducible rfl)
          simp only [List.getElem_toArray, List.getElem_cons_zero, List.getElem_cons_succ, Act.put, List.setIfInBounds_toArray, List.set_cons_zero, List.set_cons_succ]
          refine wpAnyH_take (i := 3) (v := ?v49) rfl (by kernel_rfl) (by kernel_rfl) (by kernel_rfl) (fun _ _ _ h => h) (Or.inl ⟨by rfl, ?y49⟩) hHeld ?r49
          case y49 => (intro w hSw; obtain ⟨q0, q1⟩ := hSw; go_simp; try with_reducible rfl)
          simp only [List.getElem_toArray, List.getElem_cons_zero, List.getElem_cons_succ, Act.put, List.setIfInBounds_toArray, List.set_cons_zero, List.set_cons_succ]
          refine wpAnyH_take (i := 4) (v := ?v50) rfl (by kernel_rfl) (by kernel_rfl) (by kernel_rfl) (fun _ _ _ h => h) (Or.inl ⟨by rfl, ?y50⟩) hHeld ?r50
          case y50 => (intro w hSw; obtain ⟨q0, q1⟩ := hSw; go_simp; try with_reducible rfl)
          simp only [List.getElem_toArray, List.getElem_cons_zero, List.getElem_cons_succ, Act.put, List.setIfInBounds_toArray, List.set_cons_zero, List.set_cons_succ]
          refine wpAnyH_take (i := 5) (v := ?v51) rfl (by kernel_rfl) (by kernel_rfl) (by kernel_rfl) (fun _ _ _ h => h) (Or.inl ⟨by rfl, ?y51⟩) hHeld ?r51
          case y51 => (intro w hSw; obtain ⟨q0, q1⟩ := hSw; go_simp; try with_reducible rfl)
          simp only [List.getElem_toArray, List.getElem_cons_zero, List.getElem_cons_succ, Act.put, List.setIfInBounds_toArray, List.set_cons_zero, List.set_cons_succ]
          refine wpAnyH_take (i := 6) (v := ?v52) rfl (by kernel_rfl) (by kernel_rfl) (by kernel_rfl) (fun _ _ _ h => h) (Or.inl ⟨by rfl, ?y52⟩) hHeld ?r52
          case y52 => (intro w hSw; obtain ⟨q0, q1⟩ := hSw; go_simp; try with_reducible rfl)
          simp only [List.getElem_toArray, List.getElem_cons_zero, List.getElem_cons_succ, Act.put, List.setIfInBounds_toArray, List.set_cons_zero, List.set_cons_succ]
          refine wpAnyH_take (i := 7) (v := ?v53) rfl (by kernel_rfl) (by kernel_rfl) (by kernel_rfl) (fun _ _ _ h => h) (Or.inl ⟨by rfl, ?y53⟩) hHeld ?r53
          case y53 => (intro w hSw; obtain ⟨q0, q1⟩ := hSw; go_simp; try with_reducible rfl)
          simp only [List.getElem_toArray, List.getElem_cons_zero, List.getElem_cons_succ, Act.put, List.setIfInBounds_toArray, List.set_cons_zero, List.set_cons_succ]
          refine wpAnyH_take (i := 8) (v := ?v54) rfl (by kernel_rfl) (by kernel_rfl) (by kernel_rfl) (fun _ _ _ h => h) (Or.inl ⟨by rfl, ?y54⟩) hHeld ?r54
          case y54 => (intro w hSw; obtain ⟨q0, q1⟩ := hSw; go_simp; try with_reducible rfl)
          simp only [List.getElem_toArray, List.getElem_cons_zero, List.getElem_cons_succ, Act.put, List.setIfInBounds_toArray, List.set_cons_zero, List.set_cons_succ]
          refine wpAnyH_take (i := 9) (v := ?v55) rfl (by kernel_rfl) (by kernel_rfl) (by kernel_rfl) (fun _ _ _ h => h) (Or.inl ⟨by rfl, ?y55⟩) hHeld ?r55
          case y55 => (intro w hSw; obtain ⟨q0, q1⟩ := hSw; go_simp; try with_reducible rfl)
          simp only [List.getElem_toArray, List.getElem_cons_zero, List.getElem_cons_succ, Act.put, List.setIfInBounds_toArray, List.set_cons_zero, List.set_cons_succ]
          refine wpAnyH_take (i := 10) (v := ?v56) rfl (by kernel_rfl) (by kernel_rfl) (by kernel_rfl) (fun _ _ _ h => h) (Or.inl ⟨by rfl, ?y56⟩) hHeld ?r56
          case y56 => (intro w hSw; obtain ⟨q0, q1⟩ := hSw; go_simp; try with_reducible rfl)
          simp only [List.getElem_toArray, List.getElem_cons_zero, List.getElem_cons_succ, Act.put, List.setIfInBounds_toArray, List.set_cons_zero, List.set_cons_succ]
          refine wpAnyH_take (i := 11) (v := ?v57) rfl (by kernel_rfl) (by kernel_rfl) (by kernel_rfl) (fun _ _ _ h => h) (Or.inl ⟨by rfl, ?y57⟩) hHeld ?r57
          case y57 => (intro w hSw; obtain ⟨q0, q1⟩ := hSw; go_simp; try with_reducible rfl)
          simp only [List.getElem_toArray, List.getElem_cons_zero, List.getElem_cons_succ, Act.put, List.setIfInBounds_toArray, List.set_cons_zero, List.set_cons_succ]
          refine wpAnyH_ready (rs := [12]) (by kernel_rfl) (by simp) (AllReadyH.cons rfl (fun K hK => ?_) AllReadyH.nil)
          go_simp
          go_wp2_with fail
          refine hK.out _ _ (hS3) (fun hHeld => ?_)
          clear hK K
          refine wpAnyH_done (by kernel_rfl) ?_ _
          clear hHeld d3 d4 d5
          go_wp2_with fail
          go_roundw
          case rel =>
            obtain ⟨_, z1, z2, z3, z4, z5, z6, z7, z8⟩ := HM.out
            exact ⟨q + 1, V, U, x, zs.set an xv, t + 1, by go_num, by omega, by rw [List.length_set]; exact z1, HM2.out, by omega, by omega, z4, z5, by omega, z7, z8⟩
          case measure => simp [intOf]; omega
        · have hno : att < 0 ∨ (0 ≤ att ∧ (n : Int) ≤ att) := by omega
          clear hat hM hzl t0 t1 hwf s0 s1 hlt hdn alt
          rcases hno with h0 | ⟨h0, h1⟩
          all_goals
            go_wp2_with fail
            go_roundw
            case rel =>
              obtain ⟨z0, z1, z2, z3, z4, z5, z6, z7, z8⟩ := HM.out
              exact ⟨q + 1, V, U, x, zs, t, by go_num, by omega, z1, z0, z2, by omega, z4, z5, by omega, z7, z8⟩
            case measure => simp [intOf]; omega
      | true =>
        obtain ⟨ap1, ap2, ap3, ap4⟩ := hM.ap
        dsimp only at ap1 ap2 ap3 ap4
        have hbk : Bk wr b bg zs t := hM.bank
        have hrn : RnAt wr o (some ⟨d, off, none⟩) jl.length pc3 V U jl tr x := hM.rn
        have hwds : Row wr wb zs := hM.wds
        have hdoc := rn_any hrn hwds ap2 ap3 ap4 hwf hlt Hjl.out.2.2 s0 (by omega) (by omega) hbk.rng
        rw [hzl] at hdoc
        have Hdoc := Lib.hid hdoc
        have Hsn : Hid (∀ W, NAt W p gs g jl x → Bk W b bg zs t → Calls Try.prog 17 #[.pointer (some ⟨p, 0, none⟩), .pointer (some ⟨b, 0, none⟩)] W (NdPost p gs g b bg jl zs (nst jl zs x) t W)) := Lib.hid (fun W h1 h2 => nstep_any h1 h2 ap1 hwf t0 (by omega) s0 (by omega))
        have hwf2 := nwf_nst hwf hbk.rng
        have hst2 := steps_nst jl zs x
        have hle2 := left_nst jl zs x
        have hdn2 := done_nst (xs := zs) hdn hwf
        generalize nst jl zs x = r at *
        have HR : Hid (NWf jl r.1 ∧ 0 ≤ r.1.steps ∧ r.1.steps ≤ q + 1 ∧ r.1.left ≤ tr ∧ 0 ≤ t + r.2 ∧ t + r.2 ≤ q + 1 ∧ (r.1.how = 1 → r.1.line = 2)) := Lib.hid ⟨hwf2, by omega, by omega, by omega, by omega, by omega, hdn2⟩
        have Hzl := Lib.hid hzl
        clear hM hzl t0 t1 hwf s0 s1 hlt hdn alt ap1 ap2 ap3 ap4 hbk hdoc hrn hwds hwf2 hst2 hle2 hdn2
        go_wp2_with fail
        refine Hdoc.out.mono ?_
        rintro e W1 ⟨rfl, V1, U1, hR1, hB1, _, _, hu1, hv1, hx1⟩
        have HM1' := (HM.out.1.docstep hu1 hR1 hv1 hx1).drew
        obtain ⟨gl, wl, hrw1, hrw2, _⟩ := hR1.rows
        obtain ⟨va, vc, rfl⟩ := owns_sl hrw1
        obtain ⟨ua, uc, rfl⟩ := owns_sl hrw2
        generalize gl.length = gn at *
        generalize wl.length = un at *
        have HM1 : Hid (NsM w jl tr ja jc pc3 ⟨b, bg, wb, w.heap.size, p, gs, g, o, d, off, .slice va gn vc, .slice ua un uc, x, r.1, zs, t⟩ W1.drew) := Lib.hid HM1'
        have mhh : (r.1.how != r.1.how) = false := by simp
        have mss : (r.1.steps != r.1.steps) = false := by simp
        have mbb : (r.1.bgn != r.1.bgn) = false := by simp
        clear hR1 hB1 hu1 hv1 hx1 hrw1 hrw2 HM1' Hdoc HM
        go_wp2_with fail
        refine wp_region_held_drew (S := DT o (.slice va gn vc) (.slice ua un uc) r.1.bgn r.1.how r.1.steps) (by kernel_rfl) (DT.of HM1.out.rn) (fun hHeld => ?_)
        refine wpAnyH_take (i := 0) (v := ?v59) rfl (by kernel_rfl) (by kernel_rfl) (by kernel_rfl) (fun _ _ _ h => h) (Or.inl ⟨by rfl, ?y59⟩) hHeld ?r59
        case y59 => (intro w hSw; obtain ⟨q0, q1, q2, q3, q4⟩ := hSw; go_simp; try with_reducible rfl)
        simp only [List.getElem_toArray, List.getElem_cons_zero, Act.put, List.setIfInBounds_toArray, List.set_cons_zero, List.set_cons_succ]
        refine wpAnyH_take (i := 1) (v := ?v60) rfl (by kernel_rfl) (by kernel_rfl) (by kernel_rfl) (fun _ _ _ h => h) (Or.inl ⟨by rfl, ?y60⟩) hHeld ?r60
        case y60 => (intro w hSw; obtain ⟨q0, q1, q2, q3, q4⟩ := hSw; go_simp; try with_reducible rfl)
        simp only [List.getElem_toArray, List.getElem_cons_zero, List.getElem_cons_succ, Act.put, List.setIfInBounds_toArray, List.set_cons_zero, List.set_cons_succ]
        refine wpAnyH_take (i := 3) (v := ?v61) rfl (by kernel_rfl) (by kernel_rfl) (by kernel_rfl) (fun _ _ _ h => h) (Or.inl ⟨by rfl, ?y61⟩) hHeld ?r61
        case y61 => (intro w hSw; obtain ⟨q0, q1, q2, q3, q4⟩ := hSw; go_simp; try with_reducible rfl)
        simp only [List.getElem_toArray, List.getElem_cons_zero, List.getElem_cons_succ, Act.put, List.setIfInBounds_toArray, List.set_cons_zero, List.set_cons_succ]
        refine wpAnyH_take (i := 4) (v := ?v62) rfl (by kernel_rfl) (by kernel_rfl) (by kernel_rfl) (fun _ _ _ h => h) (Or.inl ⟨by rfl, ?y62⟩) hHeld ?r62
        case y62 => (intro w hSw; obtain ⟨q0, q1, q2, q3, q4⟩ := hSw; go_simp; try with_reducible rfl)
        simp only [List.getElem_toArray, List.getElem_cons_zero, List.getElem_cons_succ, Act.put, List.setIfInBounds_toArray, List.set_cons_zero, List.set_cons_succ]
        refine wpAnyH_take (i := 5) (v := ?v63) rfl (by kernel_rfl) (by kernel_rfl) (by kernel_rfl) (fun _ _ _ h => h) (Or.inl ⟨by rfl, ?y63⟩) hHeld ?r63
        case y63 => (intro w hSw; obtain ⟨q0, q1, q2, q3, q4⟩ := hSw; go_simp; try with_reducible rfl)
        simp only [List.getElem_toArray, List.getElem_cons_zero, List.getElem_cons_succ, Act.put, List.setIfInBounds_toArray, List.set_cons_zero, List.set_cons_succ]
        refine wpAnyH_take (i := 6) (v := ?v64) rfl (by kernel_rfl) (by kernel_rfl) (by kernel_rfl) (fun _ _ _ h => h) (Or.inl ⟨by rfl, ?y64⟩) hHeld ?r64
        case y64 => (intro w hSw; obtain ⟨q0, q1, q2, q3, q4⟩ := hSw; go_simp; try with_reducible rfl)
        simp only [List.getElem_toArray, List.getElem_cons_zero, List.getElem_cons_succ, Act.put, List.setIfInBounds_toArray, List.set_cons_zero, List.set_cons_succ]
        refine wpAnyH_ready (rs := [2]) (by kernel_rfl) (by simp) (AllReadyH.cons rfl (fun K hK => ?_) AllReadyH.nil)
        go_simp
        refine (Hsn.out _ HM1.out.sn HM1.out.bank).mono ?_
        rintro e W2 ⟨rfl, hO2, hB2, hu2⟩
        have HM2 := Lib.hid (HM1.out.step hu2 hO2 hB2)
        clear hO2 hB2 hu2
        go_wp2_with fail
        refine hK.out _ _ (DT.of HM2.out.rn) (fun hHeld => ?_)
        clear hK K
        refine wpAnyH_take (i := 7) (v := .bool false) rfl (by kernel_rfl) (by kernel_rfl) (by kernel_rfl) (fun _ _ _ h => h) (Or.inl ⟨by rfl, ?y66⟩) hHeld ?r66
        case y66 => (intro w hSw; obtain ⟨q0, q1, q2, q3, q4⟩ := hSw; go_simp; try with_reducible rfl)
        simp only [List.getElem_toArray, List.getElem_cons_zero, List.getElem_cons_succ, Act.put, List.setIfInBounds_toArray, List.set_cons_zero, List.set_cons_succ]
        refine wpAnyH_take (i := 8) (v := ?v67) rfl (by kernel_rfl) (by kernel_rfl) (by kernel_rfl) (fun _ _ _ h => h) (Or.inl ⟨by rfl, ?y67⟩) hHeld ?r67
        case y67 => (intro w hSw; obtain ⟨q0, q1, q2, q3, q4⟩ := hSw; go_simp; try with_reducible rfl)
        simp only [List.getElem_toArray, List.getElem_cons_zero, List.getElem_cons_succ, Act.put, List.setIfInBounds_toArray, List.set_cons_zero, List.set_cons_succ]
        refine wpAnyH_take (i := 9) (v := ?v68) rfl (by kernel_rfl) (by kernel_rfl) (by kernel_rfl) (fun _ _ _ h => h) (Or.inl ⟨by rfl, ?y68⟩) hHeld ?r68
        case y68 => (intro w hSw; obtain ⟨q0, q1, q2, q3, q4⟩ := hSw; go_simp; try with_reducible rfl)
        simp only [List.getElem_toArray, List.getElem_cons_zero, List.getElem_cons_succ, Act.put, List.setIfInBounds_toArray, List.set_cons_zero, List.set_cons_succ]
        refine wpAnyH_take (i := 11) (v := ?v69) rfl (by kernel_rfl) (by kernel_rfl) (by kernel_rfl) (fun _ _ _ h => h) (Or.inl ⟨by rfl, ?y69⟩) hHeld ?r69
        case y69 => (intro w hSw; obtain ⟨q0, q1, q2, q3, q4⟩ := hSw; go_simp; try with_reducible rfl)
        simp only [List.getElem_toArray, List.getElem_cons_zero, List.getElem_cons_succ, Act.put, List.setIfInBounds_toArray, List.set_cons_zero, List.set_cons_succ]
        refine wpAnyH_take (i := 12) (v := ?v70) rfl (by kernel_rfl) (by kernel_rfl) (by kernel_rfl) (fun _ _ _ h => h) (Or.inl ⟨by rfl, ?y70⟩) hHeld ?r70
        case y70 => (intro w hSw; obtain ⟨q0, q1, q2, q3, q4⟩ := hSw; go_simp; try with_reducible rfl)
        simp only [List.getElem_toArray, List.getElem_cons_zero, List.getElem_cons_succ, Act.put, List.setIfInBounds_toArray, List.set_cons_zero, List.set_cons_succ]
        refine wpAnyH_take (i := 13) (v := ?v71) rfl (by kernel_rfl) (by kernel_rfl) (by kernel_rfl) (fun _ _ _ h => h) (Or.inl ⟨by rfl, ?y71⟩) hHeld ?r71
        case y71 => (intro w hSw; obtain ⟨q0, q1, q2, q3, q4⟩ := hSw; go_simp; try with_reducible rfl)
        simp only [List.getElem_toArray, List.getElem_cons_zero, List.getElem_cons_succ, Act.put, List.setIfInBounds_toArray, List.set_cons_zero, List.set_cons_succ]
        refine wpAnyH_take (i := 14) (v := ?v72) rfl (by kernel_rfl) (by kernel_rfl) (by kernel_rfl) (fun _ _ _ h => h) (Or.inl ⟨by rfl, ?y72⟩) hHeld ?r72
        case y72 => (intro w hSw; obtain ⟨q0, q1, q2, q3, q4⟩ := hSw; go_simp; try with_reducible rfl)
        simp only [List.getElem_toArray, List.getElem_cons_zero, List.getElem_cons_succ, Act.put, List.setIfInBounds_toArray, List.set_cons_zero, List.set_cons_succ]
        refine wpAnyH_ready (rs := [10]) (by kernel_rfl) (by simp) (AllReadyH.cons rfl (fun K hK => ?_) AllReadyH.nil)
        go_simp
        refine (nsteps_any HM2.out.sn).mono ?_
        rintro e w' ⟨rfl, rfl⟩
        go_wp2_with fail
        refine hK.out _ _ (DT.of HM2.out.rn) (fun hHeld => ?_)
        clear hK K
        refine wpAnyH_take (i := 15) (v := .bool false) rfl (by kernel_rfl) (by kernel_rfl) (by kernel_rfl) (fun _ _ _ h => h) (Or.inl ⟨by rfl, ?y74⟩) hHeld ?r74
        case y74 => (intro w hSw; obtain ⟨q0, q1, q2, q3, q4⟩ := hSw; go_simp; try with_reducible rfl)
        simp only [List.getElem_toArray, List.getElem_cons_zero, List.getElem_cons_succ, Act.put, List.setIfInBounds_toArray, List.set_cons_zero, List.set_cons_succ]
        refine wpAnyH_take (i := 16) (v := ?v75) rfl (by kernel_rfl) (by kernel_rfl) (by kernel_rfl) (fun _ _ _ h => h) (Or.inl ⟨by rfl, ?y75⟩) hHeld ?r75
        case y75 => (intro w hSw; obtain ⟨q0, q1, q2, q3, q4⟩ := hSw; go_simp; try with_reducible rfl)
        simp only [List.getElem_toArray, List.getElem_cons_zero, List.getElem_cons_succ, Act.put, List.setIfInBounds_toArray, List.set_cons_zero, List.set_cons_succ]
        refine wpAnyH_done (by kernel_rfl) ?_ _
        clear hHeld
        have HM3 := Lib.hid HM2.out
        clear HM2 HM1
        by_cases hd : r.1.how = 1
        · have hl2 := HR.out.2.2.2.2.2.2 hd
          have hlen := (HR.out.1.a2 hl2).1
          have hg := ngot_ok HM3.out.sn hd (wid jl) hlen Hjl.out.2.1.1 Hjl.out.1.1 Hjl.out.2.1.2 Hjl.out.1.2 (Nat.le_of_eq hlen)
          have Hg := Lib.hid hg
          have Hhd := Lib.hid (And.intro hd (And.intro hl2 hlen))
          clear hg hd hl2 hlen
          go_wp2_with fail
          refine Hg.out.mono ?_
          rintro e W3 ⟨q1, qc1, q2, qc2, rfl, hq1, hq2, hqn, hO1, hO2, hu3⟩
          have HM4 := Lib.hid (And.intro (HM3.out.low hu3) (And.intro hO1 hO2))
          clear hq1 hq2 hqn hO1 hO2 hu3 Hg HM3
          have hdt := DT.of HM4.out.1.rn
          dsimp only at hdt
          rw [Hhd.out.1] at hdt
          have e9 := hdt.2.2.2.1
          have lo9 := HM4.out.1.rn.cells.lt
          have HD4 := Lib.hid (show DT o (.slice va gn vc) (.slice ua un uc) r.1.bgn 1 r.1.steps W3 from hdt)
          have Hat : Hid (∀ W, NAt W p gs g jl r.1 → Calls Try.prog 21 #[.pointer (some ⟨p, 0, none⟩)] W (Pur (.int .i64 r.1.bgn) W)) := Lib.hid (fun W h => by
            have := nat_pur h
            unfold nat at this
            rw [if_pos Hhd.out.1] at this
            exact this)
          have Hw : Hid ((∀ W, Below W3.heap.size W3 W → Calls Try.prog 20 #[.slice (some ⟨q1, 0, none⟩) (wid jl) qc1, .slice ua un uc] W (Ret (.bool true) W)) ∧ (∀ W, Below W3.heap.size W3 W → Calls Try.prog 20 #[.slice (some ⟨q2, 0, none⟩) jl.length qc2, .slice va gn vc] W (Ret (.bool true) W))) := Lib.hid (by
            obtain ⟨gl', wl', o1, o2, o3⟩ := HM4.out.1.rn.rows
            obtain ⟨e1, e2⟩ := o3 (fun c => by have h1 : r.1.line = 0 := c.1; have := Hhd.out.2.1; omega)
            have n1 := owns_len o1
            have n2 := owns_len o2
            have e1 : gl' = r.1.tl.take jl.length := e1
            have e2 : wl' = r.1.tl.drop jl.length := e2
            subst e1 e2
            have hlen := Hhd.out.2.2
            have k1 : (r.1.tl.take jl.length).length = jl.length := by rw [List.length_take]; omega
            have k2 : (r.1.tl.drop jl.length).length = wid jl := by rw [List.length_drop]; omega
            have hj := Hjl.out
            refine ⟨fun W hb => ?_, fun W hb => ?_⟩
            · have h := words_any (some ⟨q1, 0, none⟩) ua (r.1.tl.drop jl.length) (r.1.tl.drop jl.length) qc1 uc W ((HM4.out.2.1.low hb).rdw) (owns_rdw (c := uc) (owns_low (n2 ▸ o2) hb)) (by omega)
              rw [decide_eq_true rfl, ← n2] at h
              rw [← k2, ← n2] 
              exact h
            · have h := words_any (some ⟨q2, 0, none⟩) va (r.1.tl.take jl.length) (r.1.tl.take jl.length) qc2 vc W ((HM4.out.2.2.low hb).rdw) (owns_rdw (c := vc) (owns_low (n1 ▸ o1) hb)) (by omega)
              rw [decide_eq_true rfl] at h
              rw [n1]
              rw [k1] at h ⊢
              exact h)
          have HM5 := Lib.hid HM4.out.1
          clear hdt HM4
          go_wp2_with fail
          refine wp_region_held_drew (S := DT o (.slice va gn vc) (.slice ua un uc) r.1.bgn 1 r.1.steps) (by kernel_rfl) (HD4.out) (fun hHeld => ?_)
          refine wpAnyH_take (i := 0) (v := ?v76) rfl (by kernel_rfl) (by kernel_rfl) (by kernel_rfl) (fun _ _ _ h => h) (Or.inl ⟨by rfl, ?y76⟩) hHeld ?r76
          case y76 => (intro w hSw; obtain ⟨q0, q1, q2, q3, q4⟩ := hSw; go_simp; try with_reducible rfl)
          simp only [List.getElem_toArray, List.getElem_cons_zero, Act.put, List.setIfInBounds_toArray, List.set_cons_zero, List.set_cons_succ]
          refine wpAnyH_take (i := 1) (v := ?v77) rfl (by kernel_rfl) (by kernel_rfl) (by kernel_rfl) (fun _ _ _ h => h) (Or.inl ⟨by rfl, ?y77⟩) hHeld ?r77
          case y77 => (intro w hSw; obtain ⟨q0, q1, q2, q3, q4⟩ := hSw; go_simp; try with_reducible rfl)
          simp only [List.getElem_toArray, List.getElem_cons_zero, List.getElem_cons_succ, Act.put, List.setIfInBounds_toArray, List.set_cons_zero, List.set_cons_succ]
          refine wpAnyH_take (i := 2) (v := ?v78) rfl (by kernel_rfl) (by kernel_rfl) (by kernel_rfl) (fun _ _ _ h => h) (Or.inl ⟨by rfl, ?y78⟩) hHeld ?r78
          case y78 => (intro w hSw; obtain ⟨q0, q1, q2, q3, q4⟩ := hSw; go_simp; try with_reducible rfl)
          simp only [List.getElem_toArray, List.getElem_cons_zero, List.getElem_cons_succ, Act.put, List.setIfInBounds_toArray, List.set_cons_zero, List.set_cons_succ]
          refine wpAnyH_take (i := 3) (v := ?v79) rfl (by kernel_rfl) (by kernel_rfl) (by kernel_rfl) (fun _ _ _ h => h) (Or.inl ⟨by rfl, ?y79⟩) hHeld ?r79
          case y79 => (intro w hSw; obtain ⟨q0, q1, q2, q3, q4⟩ := hSw; go_simp; try with_reducible rfl)
          simp only [List.getElem_toArray, List.getElem_cons_zero, List.getElem_cons_succ, Act.put, List.setIfInBounds_toArray, List.set_cons_zero, List.set_cons_succ]
          refine wpAnyH_take (i := 4) (v := ?v80) rfl (by kernel_rfl) (by kernel_rfl) (by kernel_rfl) (fun _ _ _ h => h) (Or.inl ⟨by rfl, ?y80⟩) hHeld ?r80
          case y80 => (intro w hSw; obtain ⟨q0, q1, q2, q3, q4⟩ := hSw; go_simp; try with_reducible rfl)
          simp only [List.getElem_toArray, List.getElem_cons_zero, List.getElem_cons_succ, Act.put, List.setIfInBounds_toArray, List.set_cons_zero, List.set_cons_succ]
          refine wpAnyH_ready (rs := [5]) (by kernel_rfl) (by simp) (AllReadyH.cons rfl (fun K hK => ?_) AllReadyH.nil)
          go_simp
          refine (Hw.out.1 _ (belN (Below.refl _ W3) 1)).mono ?_
          rintro e W6 ⟨rfl, hu6⟩
          have hu6' : Below W3.heap.size W3 W6 := (belN (Below.refl _ W3) 1).trans hu6
          have HM6 := Lib.hid (HM5.out.low hu6')
          have HD6 := Lib.hid (show DT o (.slice va gn vc) (.slice ua un uc) r.1.bgn 1 r.1.steps W6 from by
            have lo := HM5.out.rn.cells.lt
            have hb := hu6'.block o lo
            obtain ⟨d1, d2, d3, d4, d5⟩ := HD4.out
            exact ⟨(World.cell?_of_block (a := ⟨o, 6, none⟩) hb).trans d1, (World.cell?_of_block (a := ⟨o, 7, none⟩) hb).trans d2, (World.cell?_of_block (a := ⟨o, 8, none⟩) hb).trans d3, (World.cell?_of_block (a := ⟨o, 9, none⟩) hb).trans d4, (World.cell?_of_block (a := ⟨o, 10, none⟩) hb).trans d5⟩)
          have HU6 := Lib.hid hu6'
          clear hu6 hu6'
          go_wp2_with fail
          refine hK.out _ _ (HD6.out) (fun hHeld => ?_)
          clear hK K
          refine wpAnyH_take (i := 6) (v := .bool false) rfl (by kernel_rfl) (by kernel_rfl) (by kernel_rfl) (fun _ _ _ h => h) (Or.inl ⟨by rfl, ?y82⟩) hHeld ?r82
          case y82 => (intro w hSw; obtain ⟨q0, q1, q2, q3, q4⟩ := hSw; go_simp; try with_reducible rfl)
          simp only [List.getElem_toArray, List.getElem_cons_zero, List.getElem_cons_succ, Act.put, List.setIfInBounds_toArray, List.set_cons_zero, List.set_cons_succ]
          refine wpAnyH_take (i := 7) (v := ?v83) rfl (by kernel_rfl) (by kernel_rfl) (by kernel_rfl) (fun _ _ _ h => h) (Or.inl ⟨by rfl, ?y83⟩) hHeld ?r83
          case y83 => (intro w hSw; obtain ⟨q0, q1, q2, q3, q4⟩ := hSw; go_simp; try with_reducible rfl)
          simp only [List.getElem_toArray, List.getElem_cons_zero, List.getElem_cons_succ, Act.put, List.setIfInBounds_toArray, List.set_cons_zero, List.set_cons_succ]
          refine wpAnyH_take (i := 8) (v := ?v84) rfl (by kernel_rfl) (by kernel_rfl) (by kernel_rfl) (fun _ _ _ h => h) (Or.inl ⟨by rfl, ?y84⟩) hHeld ?r84
          case y84 => (intro w hSw; obtain ⟨q0, q1, q2, q3, q4⟩ := hSw; go_simp; try with_reducible rfl)
          simp only [List.getElem_toArray, List.getElem_cons_zero, List.getElem_cons_succ, Act.put, List.setIfInBounds_toArray, List.set_cons_zero, List.set_cons_succ]
          refine wpAnyH_take (i := 9) (v := ?v85) rfl (by kernel_rfl) (by kernel_rfl) (by kernel_rfl) (fun _ _ _ h => h) (Or.inl ⟨by rfl, ?y85⟩) hHeld ?r85
          case y85 => (intro w hSw; obtain ⟨q0, q1, q2, q3, q4⟩ := hSw; go_simp; try with_reducible rfl)
          simp only [List.getElem_toArray, List.getElem_cons_zero, List.getElem_cons_succ, Act.put, List.setIfInBounds_toArray, List.set_cons_zero, List.set_cons_succ]
          refine wpAnyH_take (i := 10) (v := ?v86) rfl (by kernel_rfl) (by kernel_rfl) (by kernel_rfl) (fun _ _ _ h => h) (Or.inl ⟨by rfl, ?y86⟩) hHeld ?r86
          case y86 => (intro w hSw; obtain ⟨q0, q1, q2, q3, q4⟩ := hSw; go_simp; try with_reducible rfl)
          simp only [List.getElem_toArray, List.getElem_cons_zero, List.getElem_cons_succ, Act.put, List.setIfInBounds_toArray, List.set_cons_zero, List.set_cons_succ]
          refine wpAnyH_take (i := 11) (v := ?v87) rfl (by kernel_rfl) (by kernel_rfl) (by kernel_rfl) (fun _ _ _ h => h) (Or.inl ⟨by rfl, ?y87⟩) hHeld ?r87
          case y87 => (intro w hSw; obtain ⟨q0, q1, q2, q3, q4⟩ := hSw; go_simp; try with_reducible rfl)
          simp only [List.getElem_toArray, List.getElem_cons_zero, List.getElem_cons_succ, Act.put, List.setIfInBounds_toArray, List.set_cons_zero, List.set_cons_succ]
          refine wpAnyH_take (i := 12) (v := ?v88) rfl (by kernel_rfl) (by kernel_rfl) (by kernel_rfl) (fun _ _ _ h => h) (Or.inl ⟨by rfl, ?y88⟩) hHeld ?r88
          case y88 => (intro w hSw; obtain ⟨q0, q1, q2, q3, q4⟩ := hSw; go_simp; try with_reducible rfl)
          simp only [List.getElem_toArray, List.getElem_cons_zero, List.getElem_cons_succ, Act.put, List.setIfInBounds_toArray, List.set_cons_zero, List.set_cons_succ]
          refine wpAnyH_ready (rs := [13]) (by kernel_rfl) (by simp) (AllReadyH.cons rfl (fun K hK => ?_) AllReadyH.nil)
          go_simp
          refine (Hw.out.2 _ HU6.out).mono ?_
          rintro e W7 ⟨rfl, hu7⟩
          have HM7 := Lib.hid (HM6.out.low hu7)
          have HD7 := Lib.hid (show DT o (.slice va gn vc) (.slice ua un uc) r.1.bgn 1 r.1.steps W7 from by
            have lo := HM6.out.rn.cells.lt
            have hb := hu7.block o lo
            obtain ⟨d1, d2, d3, d4, d5⟩ := HD6.out
            exact ⟨(World.cell?_of_block (a := ⟨o, 6, none⟩) hb).trans d1, (World.cell?_of_block (a := ⟨o, 7, none⟩) hb).trans d2, (World.cell?_of_block (a := ⟨o, 8, none⟩) hb).trans d3, (World.cell?_of_block (a := ⟨o, 9, none⟩) hb).trans d4, (World.cell?_of_block (a := ⟨o, 10, none⟩) hb).trans d5⟩)
          clear hu7
          go_wp2_with fail
          refine hK.out _ _ (HD7.out) (fun hHeld => ?_)
          clear hK K
          refine wpAnyH_take (i := 14) (v := .bool false) rfl (by kernel_rfl) (by kernel_rfl) (by kernel_rfl) (fun _ _ _ h => h) (Or.inl ⟨by rfl, ?y90⟩) hHeld ?r90
          case y90 => (intro w hSw; obtain ⟨q0, q1, q2, q3, q4⟩ := hSw; go_simp; try with_reducible rfl)
          simp only [List.getElem_toArray, List.getElem_cons_zero, List.getElem_cons_succ, Act.put, List.setIfInBounds_toArray, List.set_cons_zero, List.set_cons_succ]
          refine wpAnyH_take (i := 15) (v := ?v91) rfl (by kernel_rfl) (by kernel_rfl) (by kernel_rfl) (fun _ _ _ h => h) (Or.inl ⟨by rfl, ?y91⟩) hHeld ?r91
          case y91 => (intro w hSw; obtain ⟨q0, q1, q2, q3, q4⟩ := hSw; go_simp; try with_reducible rfl)
          simp only [List.getElem_toArray, List.getElem_cons_zero, List.getElem_cons_succ, Act.put, List.setIfInBounds_toArray, List.set_cons_zero, List.set_cons_succ]
          refine wpAnyH_take (i := 16) (v := ?v92) rfl (by kernel_rfl) (by kernel_rfl) (by kernel_rfl) (fun _ _ _ h => h) (Or.inl ⟨by rfl, ?y92⟩) hHeld ?r92
          case y92 => (intro w hSw; obtain ⟨q0, q1, q2, q3, q4⟩ := hSw; go_simp; try with_reducible rfl)
          simp only [List.getElem_toArray, List.getElem_cons_zero, List.getElem_cons_succ, Act.put, List.setIfInBounds_toArray, List.set_cons_zero, List.set_cons_succ]
          refine wpAnyH_take (i := 17) (v := ?v93) rfl (by kernel_rfl) (by kernel_rfl) (by kernel_rfl) (fun _ _ _ h => h) (Or.inl ⟨by rfl, ?y93⟩) hHeld ?r93
          case y93 => (intro w hSw; obtain ⟨q0, q1, q2, q3, q4⟩ := hSw; go_simp; try with_reducible rfl)
          simp only [List.getElem_toArray, List.getElem_cons_zero, List.getElem_cons_succ, Act.put, List.setIfInBounds_toArray, List.set_cons_zero, List.set_cons_succ]
          refine wpAnyH_take (i := 19) (v := ?v94) rfl (by kernel_rfl) (by kernel_rfl) (by kernel_rfl) (fun _ _ _ h => h) (Or.inl ⟨by rfl, ?y94⟩) hHeld ?r94
          case y94 => (intro w hSw; obtain ⟨q0, q1, q2, q3, q4⟩ := hSw; go_simp; try with_reducible rfl)
          simp only [List.getElem_toArray, List.getElem_cons_zero, List.getElem_cons_succ, Act.put, List.setIfInBounds_toArray, List.set_cons_zero, List.set_cons_succ]
          refine wpAnyH_take (i := 20) (v := ?v95) rfl (by kernel_rfl) (by kernel_rfl) (by kernel_rfl) (fun _ _ _ h => h) (Or.inl ⟨by rfl, ?y95⟩) hHeld ?r95
          case y95 => (intro w hSw; obtain ⟨q0, q1, q2, q3, q4⟩ := hSw; go_simp; try with_reducible rfl)
          simp only [List.getElem_toArray, List.getElem_cons_zero, List.getElem_cons_succ, Act.put, List.setIfInBounds_toArray, List.set_cons_zero, List.set_cons_succ]
          refine wpAnyH_take (i := 21) (v := ?v96) rfl (by kernel_rfl) (by kernel_rfl) (by kernel_rfl) (fun _ _ _ h => h) (Or.inl ⟨by rfl, ?y96⟩) hHeld ?r96
          case y96 => (intro w hSw; obtain ⟨q0, q1, q2, q3, q4⟩ := hSw; go_simp; try with_reducible rfl)
          simp only [List.getElem_toArray, List.getElem_cons_zero, List.getElem_cons_succ, Act.put, List.setIfInBounds_toArray, List.set_cons_zero, List.set_cons_succ]
          refine wpAnyH_take (i := 22) (v := ?v97) rfl (by kernel_rfl) (by kernel_rfl) (by kernel_rfl) (fun _ _ _ h => h) (Or.inl ⟨by rfl, ?y97⟩) hHeld ?r97
          case y97 => (intro w hSw; obtain ⟨q0, q1, q2, q3, q4⟩ := hSw; go_simp; try with_reducible rfl)
          simp only [List.getElem_toArray, List.getElem_cons_zero, List.getElem_cons_succ, Act.put, List.setIfInBounds_toArray, List.set_cons_zero, List.set_cons_succ]
          refine wpAnyH_ready (rs := [18]) (by kernel_rfl) (by simp) (AllReadyH.cons rfl (fun K hK => ?_) AllReadyH.nil)
          go_simp
          refine (Hat.out _ HM7.out.sn).mono ?_
          rintro e w' ⟨rfl, rfl⟩
          go_wp2_with fail
          refine hK.out _ _ (HD7.out) (fun hHeld => ?_)
          clear hK K
          refine wpAnyH_take (i := 23) (v := .bool false) rfl (by kernel_rfl) (by kernel_rfl) (by kernel_rfl) (fun _ _ _ h => h) (Or.inl ⟨by rfl, ?y99⟩) hHeld ?r99
          case y99 => (intro w hSw; obtain ⟨q0, q1, q2, q3, q4⟩ := hSw; go_simp; try with_reducible rfl)
          simp only [List.getElem_toArray, List.getElem_cons_zero, List.getElem_cons_succ, Act.put, List.setIfInBounds_toArray, List.set_cons_zero, List.set_cons_succ]
          refine wpAnyH_take (i := 24) (v := ?v100) rfl (by kernel_rfl) (by kernel_rfl) (by kernel_rfl) (fun _ _ _ h => h) (Or.inl ⟨by rfl, ?y100⟩) hHeld ?r100
          case y100 => (intro w hSw; obtain ⟨q0, q1, q2, q3, q4⟩ := hSw; go_simp; try with_reducible rfl)
          simp only [List.getElem_toArray, List.getElem_cons_zero, List.getElem_cons_succ, Act.put, List.setIfInBounds_toArray, List.set_cons_zero, List.set_cons_succ]
          refine wpAnyH_done (by kernel_rfl) ?_ _
          clear hHeld HM5 Hw Hat HD4 HD6 HD7 HM6
          have HM8 := Lib.hid HM7.out
          clear HM7 e9 lo9
          go_wp2_with fail
          go_loopw [17] (fun i wr => NsRel2 w jl tr ja jc pc3 n b bg wb w.heap.size p gs g o d off (.slice va gn vc) (.slice ua un uc) r.1 zs (t + r.2) i wr) (fun i _ => n - (intOf i).toNat)
          case atStart => exact ⟨0, rfl, by omega, HM8.out⟩
          case round =>
            clear HM8
            obtain ⟨j, rfl, hjn, hM⟩ := hrel
            by_cases hlt3 : (j : Int) < n
            · have hzj : zs[j]? = some (zs[j]'(by have := Hzl.out; omega)) := List.getElem?_eq_getElem _
              generalize zs[j]'(by have := Hzl.out; omega) = zv at *
              have Hzj := Lib.hid hzj
              have HMd := Lib.hid hM.drew
              have mzz : (zv != zv) = false := by simp
              have lw3 := hM.drew.wds.lt
              dsimp only at lw3
              clear hzj hM
              go_wp2_with fail
              refine wp_region_held_drew (S := CellA ⟨wb, j, none⟩ (.int .u64 zv)) (by kernel_rfl) (HMd.out.wds.cell Hzj.out) (fun hHeld => ?_)
              refine wpAnyH_take (i := 0) (v := ?v101) rfl (by kernel_rfl) (by kernel_rfl) (by kernel_rfl) (fun _ _ _ h => h) (Or.inl ⟨by rfl, ?y101⟩) hHeld ?r101
              case y101 => (intro w hSw; have cS := (show _ = _ from hSw); go_simp; try with_reducible rfl)
              simp only [List.getElem_toArray, List.getElem_cons_zero, Act.put, List.setIfInBounds_toArray, List.set_cons_zero, List.set_cons_succ]
              refine wpAnyH_take (i := 1) (v := ?v102) rfl (by kernel_rfl) (by kernel_rfl) (by kernel_rfl) (fun _ _ _ h => h) (Or.inl ⟨by rfl, ?y102⟩) hHeld ?r102
              case y102 => (intro w hSw; have cS := (show _ = _ from hSw); go_simp; try with_reducible rfl)
              simp only [List.getElem_toArray, List.getElem_cons_zero, List.getElem_cons_succ, Act.put, List.setIfInBounds_toArray, List.set_cons_zero, List.set_cons_succ]
              refine wpAnyH_take (i := 3) (v := ?v103) rfl (by kernel_rfl) (by kernel_rfl) (by kernel_rfl) (fun _ _ _ h => h) (Or.inl ⟨by rfl, ?y103⟩) hHeld ?r103
              case y103 => (intro w hSw; have cS := (show _ = _ from hSw); go_simp; try with_reducible rfl)
              simp only [List.getElem_toArray, List.getElem_cons_zero, List.getElem_cons_succ, Act.put, List.setIfInBounds_toArray, List.set_cons_zero, List.set_cons_succ]
              refine wpAnyH_take (i := 4) (v := ?v104) rfl (by kernel_rfl) (by kernel_rfl) (by kernel_rfl) (fun _ _ _ h => h) (Or.inl ⟨by rfl, ?y104⟩) hHeld ?r104
              case y104 => (intro w hSw; have cS := (show _ = _ from hSw); go_simp; try with_reducible rfl)
              simp only [List.getElem_toArray, List.getElem_cons_zero, List.getElem_cons_succ, Act.put, List.setIfInBounds_toArray, List.set_cons_zero, List.set_cons_succ]
              refine wpAnyH_take (i := 5) (v := ?v105) rfl (by kernel_rfl) (by kernel_rfl) (by kernel_rfl) (fun _ _ _ h => h) (Or.inl ⟨by rfl, ?y105⟩) hHeld ?r105
              case y105 => (intro w hSw; have cS := (show _ = _ from hSw); go_simp; try with_reducible rfl)
              simp only [List.getElem_toArray, List.getElem_cons_zero, List.getElem_cons_succ, Act.put, List.setIfInBounds_toArray, List.set_cons_zero, List.set_cons_succ]
              refine wpAnyH_take (i := 6) (v := ?v106) rfl (by kernel_rfl) (by kernel_rfl) (by kernel_rfl) (fun _ _ _ h => h) (Or.inl ⟨by rfl, ?y106⟩) hHeld ?r106
              case y106 => (intro w hSw; have cS := (show _ = _ from hSw); go_simp; try with_reducible rfl)
              simp only [List.getElem_toArray, List.getElem_cons_zero, List.getElem_cons_succ, Act.put, List.setIfInBounds_toArray, List.set_cons_zero, List.set_cons_succ]
              refine wpAnyH_ready (rs := [2]) (by kernel_rfl) (by simp) (AllReadyH.cons rfl (fun K hK => ?_) AllReadyH.nil)
              go_simp
              refine (peek_in b bg _ _ zv j _ HMd.out.bank Hzj.out).mono ?_
              rintro e W8 ⟨rfl, _, hu8⟩
              have HM9 := Lib.hid (HMd.out.low hu8)
              clear hu8
              go_wp2_with fail
              refine hK.out _ _ (HM9.out.wds.cell Hzj.out) (fun hHeld => ?_)
              clear hK K
              refine wpAnyH_take (i := 7) (v := .bool false) rfl (by kernel_rfl) (by kernel_rfl) (by kernel_rfl) (fun _ _ _ h => h) (Or.inl ⟨by rfl, ?y108⟩) hHeld ?r108
              case y108 => (intro w hSw; have cS := (show _ = _ from hSw); go_simp; try with_reducible rfl)
              simp only [List.getElem_toArray, List.getElem_cons_zero, List.getElem_cons_succ, Act.put, List.setIfInBounds_toArray, List.set_cons_zero, List.set_cons_succ]
              refine wpAnyH_done (by kernel_rfl) ?_ _
              clear hHeld HMd
              have HM10 := Lib.hid HM9.out
              clear HM9
              go_wp2_with fail
              go_roundw
              case rel => exact ⟨j + 1, by go_num, by omega, HM10.out⟩
              case measure => simp [intOf]; omega
            · obtain rfl : j = n := by omega
              have HM10 := Lib.hid hM
              clear hM
              go_wp2_with fail
              go_roundw
              case rel =>
                obtain ⟨z1, z2, z3, z4, z5, z6, z7⟩ := HR.out
                exact ⟨q + 1, _, _, r.1, zs, t + r.2, by go_num, by omega, Hzl.out, HM10.out, z5, by omega, z1, z2, by omega, z4, z7⟩
              case measure => simp [intOf]; omega
        · have hg := ngot_no HM3.out.sn hd
          have Hg := Lib.hid hg
          have Hat : Hid (Calls Try.prog 21 #[.pointer (some ⟨p, 0, none⟩)] W2 (Pur (.int .i64 0) W2)) := Lib.hid (by
            have := nat_pur HM3.out.sn
            unfold nat at this
            dsimp only at this
            rw [if_neg hd] at this
            exact this)
          have e9 := (DT.of HM3.out.rn).2.2.2.1
          dsimp only at e9
          have lo9 := HM3.out.rn.cells.lt
          dsimp only at lo9
          have mh1 : (r.1.how == 1) = false := by simpa using hd
          have HM8 := Lib.hid HM3.out
          clear hg HM3 hd
          generalize hhw : r.1.how = hw at *
          have Hhw := Lib.hid hhw
          clear hhw
          go_wp2_with fail
          refine Hg.out.mono ?_
          rintro e w' ⟨rfl, rfl⟩
          go_wp2_with fail
          refine Hat.out.mono ?_
          rintro e w' ⟨rfl, rfl⟩
          go_wp2_with fail
          go_loopw [17] (fun i wr => NsRel2 w jl tr ja jc pc3 n b bg wb w.heap.size p gs g o d off (.slice va gn vc) (.slice ua un uc) r.1 zs (t + r.2) i wr) (fun i _ => n - (intOf i).toNat)
          case atStart => exact ⟨0, rfl, by omega, HM8.out⟩
          case round =>
            clear HM8
            obtain ⟨j, rfl, hjn, hM⟩ := hrel
            by_cases hlt3 : (j : Int) < n
            · have hzj : zs[j]? = some (zs[j]'(by have := Hzl.out; omega)) := List.getElem?_eq_getElem _
              generalize zs[j]'(by have := Hzl.out; omega) = zv at *
              have Hzj := Lib.hid hzj
              have HMd := Lib.hid hM.drew
              have mzz : (zv != zv) = false := by simp
              have lw3 := hM.drew.wds.lt
              dsimp only at lw3
              clear hzj hM
              go_wp2_with fail
              refine wp_region_held_drew (S := CellA ⟨wb, j, none⟩ (.int .u64 zv)) (by kernel_rfl) (HMd.out.wds.cell Hzj.out) (fun hHeld => ?_)
              refine wpAnyH_take (i := 0) (v := ?v109) rfl (by kernel_rfl) (by kernel_rfl) (by kernel_rfl) (fun _ _ _ h => h) (Or.inl ⟨by rfl, ?y109⟩) hHeld ?r109
              case y109 => (intro w hSw; have cS := (show _ = _ from hSw); go_simp; try with_reducible rfl)
              simp only [List.getElem_toArray, List.getElem_cons_zero, Act.put, List.setIfInBounds_toArray, List.set_cons_zero, List.set_cons_succ]
              refine wpAnyH_take (i := 1) (v := ?v110) rfl (by kernel_rfl) (by kernel_rfl) (by kernel_rfl) (fun _ _ _ h => h) (Or.inl ⟨by rfl, ?y110⟩) hHeld ?r110
              case y110 => (intro w hSw; have cS := (show _ = _ from hSw); go_simp; try with_reducible rfl)
              simp only [List.getElem_toArray, List.getElem_cons_zero, List.getElem_cons_succ, Act.put, List.setIfInBounds_toArray, List.set_cons_zero, List.set_cons_succ]
              refine wpAnyH_take (i := 3) (v := ?v111) rfl (by kernel_rfl) (by kernel_rfl) (by kernel_rfl) (fun _ _ _ h => h) (Or.inl ⟨by rfl, ?y111⟩) hHeld ?r111
              case y111 => (intro w hSw; have cS := (show _ = _ from hSw); go_simp; try with_reducible rfl)
              simp only [List.getElem_toArray, List.getElem_cons_zero, List.getElem_cons_succ, Act.put, List.setIfInBounds_toArray, List.set_cons_zero, List.set_cons_succ]
              refine wpAnyH_take (i := 4) (v := ?v112) rfl (by kernel_rfl) (by kernel_rfl) (by kernel_rfl) (fun _ _ _ h => h) (Or.inl ⟨by rfl, ?y112⟩) hHeld ?r112
              case y112 => (intro w hSw; have cS := (show _ = _ from hSw); go_simp; try with_reducible rfl)
              simp only [List.getElem_toArray, List.getElem_cons_zero, List.getElem_cons_succ, Act.put, List.setIfInBounds_toArray, List.set_cons_zero, List.set_cons_succ]
              refine wpAnyH_take (i := 5) (v := ?v113) rfl (by kernel_rfl) (by kernel_rfl) (by kernel_rfl) (fun _ _ _ h => h) (Or.inl ⟨by rfl, ?y113⟩) hHeld ?r113
              case y113 => (intro w hSw; have cS := (show _ = _ from hSw); go_simp; try with_reducible rfl)
              simp only [List.getElem_toArray, List.getElem_cons_zero, List.getElem_cons_succ, Act.put, List.setIfInBounds_toArray, List.set_cons_zero, List.set_cons_succ]
              refine wpAnyH_take (i := 6) (v := ?v114) rfl (by kernel_rfl) (by kernel_rfl) (by kernel_rfl) (fun _ _ _ h => h) (Or.inl ⟨by rfl, ?y114⟩) hHeld ?r114
              case y114 => (intro w hSw; have cS := (show _ = _ from hSw); go_simp; try with_reducible rfl)
              simp only [List.getElem_toArray, List.getElem_cons_zero, List.getElem_cons_succ, Act.put, List.setIfInBounds_toArray, List.set_cons_zero, List.set_cons_succ]
              refine wpAnyH_ready (rs := [2]) (by kernel_rfl) (by simp) (AllReadyH.cons rfl (fun K hK => ?_) AllReadyH.nil)
              go_simp
              refine (peek_in b bg _ _ zv j _ HMd.out.bank Hzj.out).mono ?_
              rintro e W8 ⟨rfl, _, hu8⟩
              have HM9 := Lib.hid (HMd.out.low hu8)
              clear hu8
              go_wp2_with fail
              refine hK.out _ _ (HM9.out.wds.cell Hzj.out) (fun hHeld => ?_)
              clear hK K
              refine wpAnyH_take (i := 7) (v := .bool false) rfl (by kernel_rfl) (by kernel_rfl) (by kernel_rfl) (fun _ _ _ h => h) (Or.inl ⟨by rfl, ?y116⟩) hHeld ?r116
              case y116 => (intro w hSw; have cS := (show _ = _ from hSw); go_simp; try with_reducible rfl)
              simp only [List.getElem_toArray, List.getElem_cons_zero, List.getElem_cons_succ, Act.put, List.setIfInBounds_toArray, List.set_cons_zero, List.set_cons_succ]
              refine wpAnyH_done (by kernel_rfl) ?_ _
              clear hHeld HMd
              have HM10 := Lib.hid HM9.out
              clear HM9
              go_wp2_with fail
              go_roundw
              case rel => exact ⟨j + 1, by go_num, by omega, HM10.out⟩
              case measure => simp [intOf]; omega
            · obtain rfl : j = n := by omega
              have HM10 := Lib.hid hM
              clear hM
              go_wp2_with fail
              go_roundw
              case rel =>
                obtain ⟨z1, z2, z3, z4, z5, z6, z7⟩ := HR.out
                exact ⟨q + 1, _, _, r.1, zs, t + r.2, by go_num, by omega, Hzl.out, HM10.out, z5, by omega, z1, z2, by omega, z4, fun c => z7 (Hhw.out ▸ c)⟩
              case measure => simp [intOf]; omega
    · obtain rfl : q = acl.length := by omega
      have HM := Lib.hid hM.bel
      clear hM hzl t0 t1 hwf s0 s1 hlt hdn
      go_wp2_with fail
      refine (awake_any _).mono ?_
      rintro e V3 ⟨rfl, hu3⟩
      have HM3 := Lib.hid (HM.out.trans (hu3.mono HM.out.size))
      clear hu3 HM
      go_wp2
      go_ret
      exact ⟨rfl, HM3.out⟩
end Go.Proofs.Ytflgggfomhifeaa
/- SnapSteps: all inputs. -/
namespace Go.Proofs.Ytflgggfomhifeaa
open Go.RowKit
theorem steps_law (n : Int) (ja : Option Addr) (jl : List Sp) (jc : Nat) (tr : Int) (aa : Option Addr) (acl : List Ac) (ac : Nat) (w : World) (hS : Sps w.heap.size w ja jl) (hA : Acs w.heap.size w aa acl) : Calls Try.prog 3 #[.int .i64 n, .agg (jbx ja jl.length jc tr).toArray, .slice aa acl.length ac] w (True1 w) := by
  by_cases h : 1 ≤ n ∧ n ≤ 80 ∧ jl.length ≤ 70 ∧ acl.length ≤ 300
  · obtain ⟨h1, h2, h3, h4⟩ := h
    obtain ⟨k, rfl⟩ := Int.eq_ofNat_of_zero_le (by omega : 0 ≤ n)
    by_cases hm : flt jl tr = 0
    · exact steps_walk k ja jl jc tr aa acl ac w (by omega) (by omega) hS h3 hA h4 hm
    · exact steps_no k ja jl jc tr aa acl.length ac w (by omega) (by omega) hS h3 h4 hm
  · exact steps_bad n ja jl.length jc tr aa acl.length ac w h
end Go.Proofs.Ytflgggfomhifeaa
