/- ReadSteps: its walk. -/
import Derived.Test.YtajibhhmcjcchaaRsD
namespace Go.Proofs.Ytajibhhmcjcchaa
open Go.RowKit
set_option maxRecDepth 100000 in
set_option maxHeartbeats 8000000 in
theorem steps_walk (n : Nat) (S : Sp) (tr : Int) (aa : Option Addr) (acl : List Ac) (ac : Nat) (w : World) (n1 : 1 ≤ n) (n2 : n ≤ 60) (hA : Acs w.heap.size w aa acl) (hm : acl.length ≤ 200) (hmb : mb S tr = true) : Calls Try.prog 3 #[.int .i64 (n : Int), .agg (jbx S tr).toArray, .slice aa acl.length ac] w (True1 w) := by
  have HA := Lib.hid hA
  have Htr := Lib.hid ((mb_iff S tr).1 hmb)
  have Hmk : Hid (∀ w : World, (Instr.makeSlice 42 (.int .i64 (n : Int)) (.int .i64 (n : Int))).run Try.prog w = .ok (.slice (some ⟨w.heap.size, 0, none⟩) n n) (w.alloc (.cells (zeros n) 43))) := Lib.hid (fun w => by
    have := make_u64 n n (by omega) (Int.le_refl _) (by omega) w
    rw [Int.toNat_natCast] at this
    exact this)
  clear hA
  have Hmb := Lib.hid hmb
  have hbl := (Below.refl w.heap.size w).alloc (Nat.le_refl _) (bx6 S tr)
  have hC := Blk.new w #[.int .i64 S.ow, .int .i64 S.sq, .int .i64 S.fs, .int .i64 S.wd, .int .i64 S.dp, .int .i64 tr] 25
  have H0 := Lib.hid (show Blk (w.alloc (bx6 S tr)) w.heap.size (jbx S tr) ∧ Below w.heap.size w (w.alloc (bx6 S tr)) from ⟨hC, hbl⟩)
  have Hnb := Lib.hid (fun w => new_ok n w n1 (by omega))
  have k1 : 1 ≤ (n : Int) := by omega
  have k2 : (n : Int) ≤ 60 := by omega
  have k3 : (acl.length : Int) ≤ 200 := by omega
  have Hn := Lib.hid (And.intro n1 (And.intro n2 hm))
  have Hms : Hid (∀ W, Calls Try.prog 12 #[spV S, .int .i64 tr] W (Ret (.int .i64 (rmst S tr)) W)) := Lib.hid (fun W => rmost_any S tr W)
  have Hmd : Hid (∀ W, Calls Try.prog 13 #[spV S, .int .i64 tr] W (Ret (.int .i64 (rmst S tr)) W)) := Lib.hid (fun W => docmost_any S tr W)
  have mMM : ((rmst S tr) != (rmst S tr)) = false := by simp
  generalize rmst S tr = MS at *
  clear hbl hC n1 n2 hm hmb
  unfold jbx
  go_enter Try.func3, Try.ntmps3
  go_wp2_with fail
  generalize w.alloc (bx6 S tr) = w0 at H0 ⊢
  obtain ⟨xb, hxb⟩ : ∃ xb, w.heap.size = xb := ⟨_, rfl⟩
  refine (Hnb.out _).mono ?_
  rintro e w1 ⟨b, bg, hb, hg, rfl, hk1, hu1⟩
  have H1 := Lib.hid (show Bk w1 b bg (List.replicate n 0) 0 ∧ Blk w1 w.heap.size (jbx S tr) ∧ Below w.heap.size w w1 from ⟨hk1, H0.out.1.low hu1, H0.out.2.trans (hu1.mono H0.out.2.size)⟩)
  have Hap := Lib.hid (show b ≠ w.heap.size ∧ bg ≠ w.heap.size ∧ w.heap.size ≤ b ∧ w.heap.size ≤ bg from by have l1 := H0.out.1.lt; have l2 := H0.out.2.size; omega)
  clear hk1 hu1 hb hg H0 hxb xb
  have c0 := H1.out.2.1.cell (i := 0) rfl
  have c1 := H1.out.2.1.cell (i := 1) rfl
  have c2 := H1.out.2.1.cell (i := 2) rfl
  have c3 := H1.out.2.1.cell (i := 3) rfl
  have c4 := H1.out.2.1.cell (i := 4) rfl
  have c5 := H1.out.2.1.cell (i := 5) rfl
  go_wp2_with fail
  refine (rnew_ok S tr _ Hmb.out).mono ?_
  rintro e w2 ⟨p, pg, hp, hpg, rfl, hP, hu2⟩
  have H2 := Lib.hid (And.intro (H1.out.2.1.low hu2) (H1.out.2.2.trans (hu2.mono H1.out.2.2.size)))
  have HP := Lib.hid (show RdAt w2 p pg S (rst0 tr) ∧ Bk w2 b bg (List.replicate n 0) 0 ∧ (p ≠ b ∧ p ≠ bg ∧ p ≠ w.heap.size ∧ pg ≠ b ∧ pg ≠ bg ∧ pg ≠ w.heap.size ∧ w.heap.size ≤ p ∧ w.heap.size ≤ pg) from ⟨hP, H1.out.1.below hu2, by have l1 := H1.out.1.ltb; have l2 := H1.out.1.ltg; have l3 := H1.out.2.1.lt; omega⟩)
  clear hu2 H1 hp hpg hP c0 c1 c2 c3 c4 c5
  go_wp2_with fail
  refine wp_region_held_drew (S := XB w.heap.size S tr) (by kernel_rfl) (Blk.drew H2.out.1) (fun hHeld => ?_)
  refine wpAnyH_take (i := 0) (v := ?v33) rfl (by kernel_rfl) (by kernel_rfl) (by kernel_rfl) (fun _ _ _ h => h) (Or.inl ⟨by rfl, ?y33⟩) hHeld ?r33
  case y33 => (intro w hSw; have c0 := Blk.cell (i := 0) hSw rfl; have c1 := Blk.cell (i := 1) hSw rfl; have c2 := Blk.cell (i := 2) hSw rfl; have c3 := Blk.cell (i := 3) hSw rfl; have c4 := Blk.cell (i := 4) hSw rfl; have c5 := Blk.cell (i := 5) hSw rfl; clear hSw; go_simp; try with_reducible rfl)
  simp only [List.getElem_toArray, List.getElem_cons_zero, Act.put, List.setIfInBounds_toArray, List.set_cons_zero, List.set_cons_succ]
  refine wpAnyH_take (i := 1) (v := ?v34) rfl (by kernel_rfl) (by kernel_rfl) (by kernel_rfl) (fun _ _ _ h => h) (Or.inl ⟨by rfl, ?y34⟩) hHeld ?r34
  case y34 => (intro w hSw; have c0 := Blk.cell (i := 0) hSw rfl; have c1 := Blk.cell (i := 1) hSw rfl; have c2 := Blk.cell (i := 2) hSw rfl; have c3 := Blk.cell (i := 3) hSw rfl; have c4 := Blk.cell (i := 4) hSw rfl; have c5 := Blk.cell (i := 5) hSw rfl; clear hSw; go_simp; try with_reducible rfl)
  simp only [List.getElem_toArray, List.getElem_cons_zero, List.getElem_cons_succ, Act.put, List.setIfInBounds_toArray, List.set_cons_zero, List.set_cons_succ]
  refine wpAnyH_take (i := 3) (v := ?v35) rfl (by kernel_rfl) (by kernel_rfl) (by kernel_rfl) (fun _ _ _ h => h) (Or.inl ⟨by rfl, ?y35⟩) hHeld ?r35
  case y35 => (intro w hSw; have c0 := Blk.cell (i := 0) hSw rfl; have c1 := Blk.cell (i := 1) hSw rfl; have c2 := Blk.cell (i := 2) hSw rfl; have c3 := Blk.cell (i := 3) hSw rfl; have c4 := Blk.cell (i := 4) hSw rfl; have c5 := Blk.cell (i := 5) hSw rfl; clear hSw; go_simp; try with_reducible rfl)
  simp only [List.getElem_toArray, List.getElem_cons_zero, List.getElem_cons_succ, Act.put, List.setIfInBounds_toArray, List.set_cons_zero, List.set_cons_succ]
  refine wpAnyH_take (i := 4) (v := ?v36) rfl (by kernel_rfl) (by kernel_rfl) (by kernel_rfl) (fun _ _ _ h => h) (Or.inl ⟨by rfl, ?y36⟩) hHeld ?r36
  case y36 => (intro w hSw; have c0 := Blk.cell (i := 0) hSw rfl; have c1 := Blk.cell (i := 1) hSw rfl; have c2 := Blk.cell (i := 2) hSw rfl; have c3 := Blk.cell (i := 3) hSw rfl; have c4 := Blk.cell (i := 4) hSw rfl; have c5 := Blk.cell (i := 5) hSw rfl; clear hSw; go_simp; try with_reducible rfl)
  simp only [List.getElem_toArray, List.getElem_cons_zero, List.getElem_cons_succ, Act.put, List.setIfInBounds_toArray, List.set_cons_zero, List.set_cons_succ]
  refine wpAnyH_ready (rs := [2]) (by kernel_rfl) (by simp) (AllReadyH.cons rfl (fun K hK => ?_) AllReadyH.nil)
  go_simp
  have Hd2 := Lib.hid (And.intro (Blk.drew H2.out.1) (And.intro (belN H2.out.2 1) (And.intro (belN (Below.refl w2.heap.size w2) 1) trivial)))
  refine (plain_any S.ow S.sq S.fs S.wd S.dp _).mono ?_
  rintro e w3 ⟨rfl, hu3⟩
  have H3 := Lib.hid (And.intro (Hd2.out.1.low hu3) (And.intro (Hd2.out.2.1.trans (hu3.mono Hd2.out.2.1.size)) (And.intro (Hd2.out.2.2.1.trans (hu3.mono Hd2.out.2.2.1.size)) (trivial))))
  clear hu3
  go_wp2_with fail
  refine hK.out _ _ (H3.out.1) (fun hHeld => ?_)
  clear hK K
  refine wpAnyH_ready (rs := [5]) (by kernel_rfl) (by simp) (AllReadyH.cons rfl (fun K hK => ?_) AllReadyH.nil)
  go_simp
  refine (docnew_ok S tr _ Hmb.out).mono ?_
  rintro e w4 ⟨o, ho, rfl, hR, hu4⟩
  have H4 := Lib.hid (show Blk w4 w.heap.size (jbx S tr) ∧ Below w.heap.size w w4 ∧ Below w2.heap.size w2 w4 ∧ Blk w4 o (rfr S (.slice none 0 0) tr (rst0 tr)) from ⟨H3.out.1.low hu4, H3.out.2.1.trans (hu4.mono H3.out.2.1.size), H3.out.2.2.1.trans (hu4.mono H3.out.2.2.1.size), hR.cells⟩)
  have Ho := Lib.hid (show w2.heap.size ≤ o from Nat.le_trans H3.out.2.2.1.size ho)
  clear hu4 hR ho
  go_wp2_with fail
  refine hK.out _ _ (H4.out.1) (fun hHeld => ?_)
  clear hK K
  refine wpAnyH_take (i := 6) (v := ?v39) rfl (by kernel_rfl) (by kernel_rfl) (by kernel_rfl) (fun _ _ _ h => h) (Or.inl ⟨by rfl, ?y39⟩) hHeld ?r39
  case y39 => (intro w hSw; have c0 := Blk.cell (i := 0) hSw rfl; have c1 := Blk.cell (i := 1) hSw rfl; have c2 := Blk.cell (i := 2) hSw rfl; have c3 := Blk.cell (i := 3) hSw rfl; have c4 := Blk.cell (i := 4) hSw rfl; have c5 := Blk.cell (i := 5) hSw rfl; clear hSw; go_simp; try with_reducible rfl)
  simp only [List.getElem_toArray, List.getElem_cons_zero, List.getElem_cons_succ, Act.put, List.setIfInBounds_toArray, List.set_cons_zero, List.set_cons_succ]
  refine wpAnyH_take (i := 7) (v := ?v40) rfl (by kernel_rfl) (by kernel_rfl) (by kernel_rfl) (fun _ _ _ h => h) (Or.inl ⟨by rfl, ?y40⟩) hHeld ?r40
  case y40 => (intro w hSw; have c0 := Blk.cell (i := 0) hSw rfl; have c1 := Blk.cell (i := 1) hSw rfl; have c2 := Blk.cell (i := 2) hSw rfl; have c3 := Blk.cell (i := 3) hSw rfl; have c4 := Blk.cell (i := 4) hSw rfl; have c5 := Blk.cell (i := 5) hSw rfl; clear hSw; go_simp; try with_reducible rfl)
  simp only [List.getElem_toArray, List.getElem_cons_zero, List.getElem_cons_succ, Act.put, List.setIfInBounds_toArray, List.set_cons_zero, List.set_cons_succ]
  refine wpAnyH_take (i := 8) (v := ?v41) rfl (by kernel_rfl) (by kernel_rfl) (by kernel_rfl) (fun _ _ _ h => h) (Or.inl ⟨by rfl, ?y41⟩) hHeld ?r41
  case y41 => (intro w hSw; have c0 := Blk.cell (i := 0) hSw rfl; have c1 := Blk.cell (i := 1) hSw rfl; have c2 := Blk.cell (i := 2) hSw rfl; have c3 := Blk.cell (i := 3) hSw rfl; have c4 := Blk.cell (i := 4) hSw rfl; have c5 := Blk.cell (i := 5) hSw rfl; clear hSw; go_simp; try with_reducible rfl)
  simp only [List.getElem_toArray, List.getElem_cons_zero, List.getElem_cons_succ, Act.put, List.setIfInBounds_toArray, List.set_cons_zero, List.set_cons_succ]
  refine wpAnyH_take (i := 9) (v := ?v42) rfl (by kernel_rfl) (by kernel_rfl) (by kernel_rfl) (fun _ _ _ h => h) (Or.inl ⟨by rfl, ?y42⟩) hHeld ?r42
  case y42 => (intro w hSw; have c0 := Blk.cell (i := 0) hSw rfl; have c1 := Blk.cell (i := 1) hSw rfl; have c2 := Blk.cell (i := 2) hSw rfl; have c3 := Blk.cell (i := 3) hSw rfl; have c4 := Blk.cell (i := 4) hSw rfl; have c5 := Blk.cell (i := 5) hSw rfl; clear hSw; go_simp; try with_reducible rfl)
  simp only [List.getElem_toArray, List.getElem_cons_zero, List.getElem_cons_succ, Act.put, List.setIfInBounds_toArray, List.set_cons_zero, List.set_cons_succ]
  refine wpAnyH_take (i := 10) (v := ?v43) rfl (by kernel_rfl) (by kernel_rfl) (by kernel_rfl) (fun _ _ _ h => h) (Or.inl ⟨by rfl, ?y43⟩) hHeld ?r43
  case y43 => (intro w hSw; have c0 := Blk.cell (i := 0) hSw rfl; have c1 := Blk.cell (i := 1) hSw rfl; have c2 := Blk.cell (i := 2) hSw rfl; have c3 := Blk.cell (i := 3) hSw rfl; have c4 := Blk.cell (i := 4) hSw rfl; have c5 := Blk.cell (i := 5) hSw rfl; clear hSw; go_simp; try with_reducible rfl)
  simp only [List.getElem_toArray, List.getElem_cons_zero, List.getElem_cons_succ, Act.put, List.setIfInBounds_toArray, List.set_cons_zero, List.set_cons_succ]
  refine wpAnyH_done (by kernel_rfl) ?_ _
  clear hHeld
  have m00 : ((0 : Int) != 0) = false := by decide
  go_wp2_with fail
  refine wp_region_held_drew (S := XB w.heap.size S tr) (by kernel_rfl) (Blk.drew H4.out.1) (fun hHeld => ?_)
  refine wpAnyH_take (i := 0) (v := ?v44) rfl (by kernel_rfl) (by kernel_rfl) (by kernel_rfl) (fun _ _ _ h => h) (Or.inl ⟨by rfl, ?y44⟩) hHeld ?r44
  case y44 => (intro w hSw; have c0 := Blk.cell (i := 0) hSw rfl; have c1 := Blk.cell (i := 1) hSw rfl; have c2 := Blk.cell (i := 2) hSw rfl; have c3 := Blk.cell (i := 3) hSw rfl; have c4 := Blk.cell (i := 4) hSw rfl; have c5 := Blk.cell (i := 5) hSw rfl; clear hSw; go_simp; try with_reducible rfl)
  simp only [List.getElem_toArray, List.getElem_cons_zero, Act.put, List.setIfInBounds_toArray, List.set_cons_zero, List.set_cons_succ]
  refine wpAnyH_take (i := 1) (v := ?v45) rfl (by kernel_rfl) (by kernel_rfl) (by kernel_rfl) (fun _ _ _ h => h) (Or.inl ⟨by rfl, ?y45⟩) hHeld ?r45
  case y45 => (intro w hSw; have c0 := Blk.cell (i := 0) hSw rfl; have c1 := Blk.cell (i := 1) hSw rfl; have c2 := Blk.cell (i := 2) hSw rfl; have c3 := Blk.cell (i := 3) hSw rfl; have c4 := Blk.cell (i := 4) hSw rfl; have c5 := Blk.cell (i := 5) hSw rfl; clear hSw; go_simp; try with_reducible rfl)
  simp only [List.getElem_toArray, List.getElem_cons_zero, List.getElem_cons_succ, Act.put, List.setIfInBounds_toArray, List.set_cons_zero, List.set_cons_succ]
  refine wpAnyH_take (i := 2) (v := ?v46) rfl (by kernel_rfl) (by kernel_rfl) (by kernel_rfl) (fun _ _ _ h => h) (Or.inl ⟨by rfl, ?y46⟩) hHeld ?r46
  case y46 => (intro w hSw; have c0 := Blk.cell (i := 0) hSw rfl; have c1 := Blk.cell (i := 1) hSw rfl; have c2 := Blk.cell (i := 2) hSw rfl; have c3 := Blk.cell (i := 3) hSw rfl; have c4 := Blk.cell (i := 4) hSw rfl; have c5 := Blk.cell (i := 5) hSw rfl; clear hSw; go_simp; try with_reducible rfl)
  simp only [List.getElem_toArray, List.getElem_cons_zero, List.getElem_cons_succ, Act.put, List.setIfInBounds_toArray, List.set_cons_zero, List.set_cons_succ]
  refine wpAnyH_take (i := 3) (v := ?v47) rfl (by kernel_rfl) (by kernel_rfl) (by kernel_rfl) (fun _ _ _ h => h) (Or.inl ⟨by rfl, ?y47⟩) hHeld ?r47
  case y47 => (intro w hSw; have c0 := Blk.cell (i := 0) hSw rfl; have c1 := Blk.cell (i := 1) hSw rfl; have c2 := Blk.cell (i := 2) hSw rfl; have c3 := Blk.cell (i := 3) hSw rfl; have c4 := Blk.cell (i := 4) hSw rfl; have c5 := Blk.cell (i := 5) hSw rfl; clear hSw; go_simp; try with_reducible rfl)
  simp only [List.getElem_toArray, List.getElem_cons_zero, List.getElem_cons_succ, Act.put, List.setIfInBounds_toArray, List.set_cons_zero, List.set_cons_succ]
  refine wpAnyH_take (i := 4) (v := ?v48) rfl (by kernel_rfl) (by kernel_rfl) (by kernel_rfl) (fun _ _ _ h => h) (Or.inl ⟨by rfl, ?y48⟩) hHeld ?r48
  case y48 => (intro w hSw; have c0 := Blk.cell (i := 0) hSw rfl; have c1 := Blk.cell (i := 1) hSw rfl; have c2 := Blk.cell (i := 2) hSw rfl; have c3 := Blk.cell (i := 3) hSw rfl; have c4 := Blk.cell (i := 4) hSw rfl; have c5 := Blk.cell (i := 5) hSw rfl; clear hSw; go_simp; try with_reducible rfl)
  simp only [List.getElem_toArray, List.getElem_cons_zero, List.getElem_cons_succ, Act.put, List.setIfInBounds_toArray, List.set_cons_zero, List.set_cons_succ]
  refine wpAnyH_take (i := 5) (v := .bool false) rfl (by kernel_rfl) (by kernel_rfl) (by kernel_rfl) (fun _ _ _ h => h) (Or.inl ⟨by rfl, ?y49⟩) hHeld ?r49
  case y49 => (intro w hSw; have c0 := Blk.cell (i := 0) hSw rfl; have c1 := Blk.cell (i := 1) hSw rfl; have c2 := Blk.cell (i := 2) hSw rfl; have c3 := Blk.cell (i := 3) hSw rfl; have c4 := Blk.cell (i := 4) hSw rfl; have c5 := Blk.cell (i := 5) hSw rfl; clear hSw; go_simp; try with_reducible rfl)
  simp only [List.getElem_toArray, List.getElem_cons_zero, List.getElem_cons_succ, Act.put, List.setIfInBounds_toArray, List.set_cons_zero, List.set_cons_succ]
  refine wpAnyH_take (i := 6) (v := ?v50) rfl (by kernel_rfl) (by kernel_rfl) (by kernel_rfl) (fun _ _ _ h => h) (Or.inl ⟨by rfl, ?y50⟩) hHeld ?r50
  case y50 => (intro w hSw; have c0 := Blk.cell (i := 0) hSw rfl; have c1 := Blk.cell (i := 1) hSw rfl; have c2 := Blk.cell (i := 2) hSw rfl; have c3 := Blk.cell (i := 3) hSw rfl; have c4 := Blk.cell (i := 4) hSw rfl; have c5 := Blk.cell (i := 5) hSw rfl; clear hSw; go_simp; try with_reducible rfl)
  simp only [List.getElem_toArray, List.getElem_cons_zero, List.getElem_cons_succ, Act.put, List.setIfInBounds_toArray, List.set_cons_zero, List.set_cons_succ]
  refine wpAnyH_take (i := 7) (v := ?v51) rfl (by kernel_rfl) (by kernel_rfl) (by kernel_rfl) (fun _ _ _ h => h) (Or.inl ⟨by rfl, ?y51⟩) hHeld ?r51
  case y51 => (intro w hSw; have c0 := Blk.cell (i := 0) hSw rfl; have c1 := Blk.cell (i := 1) hSw rfl; have c2 := Blk.cell (i := 2) hSw rfl; have c3 := Blk.cell (i := 3) hSw rfl; have c4 := Blk.cell (i := 4) hSw rfl; have c5 := Blk.cell (i := 5) hSw rfl; clear hSw; go_simp; try with_reducible rfl)
  simp only [List.getElem_toArray, List.getElem_cons_zero, List.getElem_cons_succ, Act.put, List.setIfInBounds_toArray, List.set_cons_zero, List.set_cons_succ]
  refine wpAnyH_take (i := 8) (v := ?v52) rfl (by kernel_rfl) (by kernel_rfl) (by kernel_rfl) (fun _ _ _ h => h) (Or.inl ⟨by rfl, ?y52⟩) hHeld ?r52
  case y52 => (intro w hSw; have c0 := Blk.cell (i := 0) hSw rfl; have c1 := Blk.cell (i := 1) hSw rfl; have c2 := Blk.cell (i := 2) hSw rfl; have c3 := Blk.cell (i := 3) hSw rfl; have c4 := Blk.cell (i := 4) hSw rfl; have c5 := Blk.cell (i := 5) hSw rfl; clear hSw; go_simp; try with_reducible rfl)
  simp only [List.getElem_toArray, List.getElem_cons_zero, List.getElem_cons_succ, Act.put, List.setIfInBounds_toArray, List.set_cons_zero, List.set_cons_succ]
  refine wpAnyH_take (i := 9) (v := ?v53) rfl (by kernel_rfl) (by kernel_rfl) (by kernel_rfl) (fun _ _ _ h => h) (Or.inl ⟨by rfl, ?y53⟩) hHeld ?r53
  case y53 => (intro w hSw; have c0 := Blk.cell (i := 0) hSw rfl; have c1 := Blk.cell (i := 1) hSw rfl; have c2 := Blk.cell (i := 2) hSw rfl; have c3 := Blk.cell (i := 3) hSw rfl; have c4 := Blk.cell (i := 4) hSw rfl; have c5 := Blk.cell (i := 5) hSw rfl; clear hSw; go_simp; try with_reducible rfl)
  simp only [List.getElem_toArray, List.getElem_cons_zero, List.getElem_cons_succ, Act.put, List.setIfInBounds_toArray, List.set_cons_zero, List.set_cons_succ]
  refine wpAnyH_take (i := 10) (v := ?v54) rfl (by kernel_rfl) (by kernel_rfl) (by kernel_rfl) (fun _ _ _ h => h) (Or.inl ⟨by rfl, ?y54⟩) hHeld ?r54
  case y54 => (intro w hSw; have c0 := Blk.cell (i := 0) hSw rfl; have c1 := Blk.cell (i := 1) hSw rfl; have c2 := Blk.cell (i := 2) hSw rfl; have c3 := Blk.cell (i := 3) hSw rfl; have c4 := Blk.cell (i := 4) hSw rfl; have c5 := Blk.cell (i := 5) hSw rfl; clear hSw; go_simp; try with_reducible rfl)
  simp only [List.getElem_toArray, List.getElem_cons_zero, List.getElem_cons_succ, Act.put, List.setIfInBounds_toArray, List.set_cons_zero, List.set_cons_succ]
  refine wpAnyH_take (i := 11) (v := ?v55) rfl (by kernel_rfl) (by kernel_rfl) (by kernel_rfl) (fun _ _ _ h => h) (Or.inl ⟨by rfl, ?y55⟩) hHeld ?r55
  case y55 => (intro w hSw; have c0 := Blk.cell (i := 0) hSw rfl; have c1 := Blk.cell (i := 1) hSw rfl; have c2 := Blk.cell (i := 2) hSw rfl; have c3 := Blk.cell (i := 3) hSw rfl; have c4 := Blk.cell (i := 4) hSw rfl; have c5 := Blk.cell (i := 5) hSw rfl; clear hSw; go_simp; try with_reducible rfl)
  simp only [List.getElem_toArray, List.getElem_cons_zero, List.getElem_cons_succ, Act.put, List.setIfInBounds_toArray, List.set_cons_zero, List.set_cons_succ]
  refine wpAnyH_take (i := 13) (v := ?v56) rfl (by kernel_rfl) (by kernel_rfl) (by kernel_rfl) (fun _ _ _ h => h) (Or.inl ⟨by rfl, ?y56⟩) hHeld ?r56
  case y56 => (intro w hSw; have c0 := Blk.cell (i := 0) hSw rfl; have c1 := Blk.cell (i := 1) hSw rfl; have c2 := Blk.cell (i := 2) hSw rfl; have c3 := Blk.cell (i := 3) hSw rfl; have c4 := Blk.cell (i := 4) hSw rfl; have c5 := Blk.cell (i := 5) hSw rfl; clear hSw; go_simp; try with_reducible rfl)
  simp only [List.getElem_toArray, List.getElem_cons_zero, List.getElem_cons_succ, Act.put, List.setIfInBounds_toArray, List.set_cons_zero, List.set_cons_succ]
  refine wpAnyH_take (i := 14) (v := ?v57) rfl (by kernel_rfl) (by kernel_rfl) (by kernel_rfl) (fun _ _ _ h => h) (Or.inl ⟨by rfl, ?y57⟩) hHeld ?r57
  case y57 => (intro w hSw; have c0 := Blk.cell (i := 0) hSw rfl; have c1 := Blk.cell (i := 1) hSw rfl; have c2 := Blk.cell (i := 2) hSw rfl; have c3 := Blk.cell (i := 3) hSw rfl; have c4 := Blk.cell (i := 4) hSw rfl; have c5 := Blk.cell (i := 5) hSw rfl; clear hSw; go_simp; try with_reducible rfl)
  simp only [List.getElem_toArray, List.getElem_cons_zero, List.getElem_cons_succ, Act.put, List.setIfInBounds_toArray, List.set_cons_zero, List.set_cons_succ]
  refine wpAnyH_take (i := 16) (v := ?v58) rfl (by kernel_rfl) (by kernel_rfl) (by kernel_rfl) (fun _ _ _ h => h) (Or.inl ⟨by rfl, ?y58⟩) hHeld ?r58
  case y58 => (intro w hSw; have c0 := Blk.cell (i := 0) hSw rfl; have c1 := Blk.cell (i := 1) hSw rfl; have c2 := Blk.cell (i := 2) hSw rfl; have c3 := Blk.cell (i := 3) hSw rfl; have c4 := Blk.cell (i := 4) hSw rfl; have c5 := Blk.cell (i := 5) hSw rfl; clear hSw; go_simp; try with_reducible rfl)
  simp only [List.getElem_toArray, List.getElem_cons_zero, List.getElem_cons_succ, Act.put, List.setIfInBounds_toArray, List.set_cons_zero, List.set_cons_succ]
  refine wpAnyH_take (i := 17) (v := ?v59) rfl (by kernel_rfl) (by kernel_rfl) (by kernel_rfl) (fun _ _ _ h => h) (Or.inl ⟨by rfl, ?y59⟩) hHeld ?r59
  case y59 => (intro w hSw; have c0 := Blk.cell (i := 0) hSw rfl; have c1 := Blk.cell (i := 1) hSw rfl; have c2 := Blk.cell (i := 2) hSw rfl; have c3 := Blk.cell (i := 3) hSw rfl; have c4 := Blk.cell (i := 4) hSw rfl; have c5 := Blk.cell (i := 5) hSw rfl; clear hSw; go_simp; try with_reducible rfl)
  simp only [List.getElem_toArray, List.getElem_cons_zero, List.getElem_cons_succ, Act.put, List.setIfInBounds_toArray, List.set_cons_zero, List.set_cons_succ]
  refine wpAnyH_ready (rs := [12]) (by kernel_rfl) (by simp) (AllReadyH.cons rfl (fun K hK => ?_) AllReadyH.nil)
  go_simp
  have Hd4 := Lib.hid (And.intro (Blk.drew H4.out.1) (And.intro (belN H4.out.2.1 1) (And.intro (belN H4.out.2.2.1 1) (Blk.drew H4.out.2.2.2))))
  refine (Hms.out _).mono ?_
  rintro e w5 ⟨rfl, hu5⟩
  have H5 := Lib.hid (And.intro (Hd4.out.1.low hu5) (And.intro (Hd4.out.2.1.trans (hu5.mono Hd4.out.2.1.size)) (And.intro (Hd4.out.2.2.1.trans (hu5.mono Hd4.out.2.2.1.size)) (Hd4.out.2.2.2.low hu5))))
  clear hu5
  go_wp2_with fail
  refine hK.out _ _ (H5.out.1) (fun hHeld => ?_)
  clear hK K
  refine wpAnyH_ready (rs := [15]) (by kernel_rfl) (by simp) (AllReadyH.cons rfl (fun K hK => ?_) AllReadyH.nil)
  go_simp
  refine (plain_any S.ow S.sq S.fs S.wd S.dp _).mono ?_
  rintro e w6 ⟨rfl, hu6⟩
  have H6 := Lib.hid (And.intro (H5.out.1.low hu6) (And.intro (H5.out.2.1.trans (hu6.mono H5.out.2.1.size)) (And.intro (H5.out.2.2.1.trans (hu6.mono H5.out.2.2.1.size)) (H5.out.2.2.2.low hu6))))
  clear hu6
  go_wp2_with fail
  refine hK.out _ _ (H6.out.1) (fun hHeld => ?_)
  clear hK K
  refine wpAnyH_ready (rs := [18]) (by kernel_rfl) (by simp) (AllReadyH.cons rfl (fun K hK => ?_) AllReadyH.nil)
  go_simp
  refine (Hmd.out _).mono ?_
  rintro e w7 ⟨rfl, hu7⟩
  have H7 := Lib.hid (And.intro (H6.out.1.low hu7) (And.intro (H6.out.2.1.trans (hu7.mono H6.out.2.1.size)) (And.intro (H6.out.2.2.1.trans (hu7.mono H6.out.2.2.1.size)) (H6.out.2.2.2.low hu7))))
  clear hu7
  go_wp2_with fail
  refine hK.out _ _ (H7.out.1) (fun hHeld => ?_)
  clear hK K
  refine wpAnyH_take (i := 19) (v := .bool false) rfl (by kernel_rfl) (by kernel_rfl) (by kernel_rfl) (fun _ _ _ h => h) (Or.inl ⟨by rfl, ?y63⟩) hHeld ?r63
  case y63 => (intro w hSw; have c0 := Blk.cell (i := 0) hSw rfl; have c1 := Blk.cell (i := 1) hSw rfl; have c2 := Blk.cell (i := 2) hSw rfl; have c3 := Blk.cell (i := 3) hSw rfl; have c4 := Blk.cell (i := 4) hSw rfl; have c5 := Blk.cell (i := 5) hSw rfl; clear hSw; go_simp; try with_reducible rfl)
  simp only [List.getElem_toArray, List.getElem_cons_zero, List.getElem_cons_succ, Act.put, List.setIfInBounds_toArray, List.set_cons_zero, List.set_cons_succ]
  refine wpAnyH_take (i := 20) (v := ?v64) rfl (by kernel_rfl) (by kernel_rfl) (by kernel_rfl) (fun _ _ _ h => h) (Or.inl ⟨by rfl, ?y64⟩) hHeld ?r64
  case y64 => (intro w hSw; have c0 := Blk.cell (i := 0) hSw rfl; have c1 := Blk.cell (i := 1) hSw rfl; have c2 := Blk.cell (i := 2) hSw rfl; have c3 := Blk.cell (i := 3) hSw rfl; have c4 := Blk.cell (i := 4) hSw rfl; have c5 := Blk.cell (i := 5) hSw rfl; clear hSw; go_simp; try with_reducible rfl)
  simp only [List.getElem_toArray, List.getElem_cons_zero, List.getElem_cons_succ, Act.put, List.setIfInBounds_toArray, List.set_cons_zero, List.set_cons_succ]
  refine wpAnyH_done (by kernel_rfl) ?_ _
  clear hHeld H5 H6 Hd2 Hd4 H3 H4
  have hmk := Hmk.out w7
  have HW : Hid (RsM w S tr ⟨b, bg, w7.heap.size, w.heap.size, p, pg, o, .slice none 0 0, rst0 tr, rst0 tr, List.replicate n 0, 0⟩ (w7.alloc (.cells (zeros n) 43))) := Lib.hid (by
    obtain ⟨q1, q2, q3, q4⟩ := H7.out
    obtain ⟨r1, r2, r3, r4, r5, r6, r7, r8, r9, r10⟩ := HP.out
    obtain ⟨s1, s2, s3, s4⟩ := Hap.out
    have l1 := r1.lto
    have l2 := r1.ltg
    have l3 := r2.ltb
    have l4 := r2.ltg
    have l5 := H2.out.1.lt
    have l6 := Ho.out
    have l7 := H2.out.2.size
    exact rs_mem0 (r2.below q3) q1 (r1.below q3) q4 q2 (by omega) (by omega))
  go_wp2_with fail
  generalize hw8 : w7.alloc (.cells (zeros n) 43) = w8 at *
  generalize w7.heap.size = wb at *
  clear hmk hw8 H7 H2 HP Hap Ho Hms Hmd mMM m00 Hmk Hnb
  go_loopw [14] (fun i wr => RsRel w S tr n acl.length b bg wb w.heap.size p pg o i wr) (fun i _ => acl.length - (intOf i).toNat)
  case atStart => exact ⟨0, _, _, _, _, rfl, by omega, by simp, HW.out, by omega, by omega, rwf0 Hmb.out, by show (0 : Int) ≤ 0; omega, by show (0 : Int) ≤ 0; omega, by show tr ≤ tr; omega⟩
  case round =>
    clear HW
    obtain ⟨q, V, x, zs, t, rfl, hqm, hzl, hM, t0, t1, hwf, s0, s1, hlt⟩ := hrel
    by_cases hlt1 : (q : Int) < acl.length
    · have hqq : q < acl.length := by omega
      obtain ⟨⟨i1, i2⟩, ux, ab, aoff, rfl, alt, a1, a2, a3⟩ := (HA.out.keep hM.bel) q _ (List.getElem?_eq_getElem hqq)
      generalize acl[q] = act at *
      obtain ⟨who, att, xv⟩ := act
      dsimp only at i1 i2 ux a1 a2 a3
      have HM := Lib.hid (And.intro hM (And.intro hzl (And.intro t0 (And.intro t1 (And.intro hwf (And.intro s0 (And.intro s1 hlt)))))))
      have Hlt := Lib.hid alt
      have q200 : (q : Int) ≤ 200 := by omega
      cases who with
      | false =>
        by_cases hat : 0 ≤ att ∧ att < n
        · obtain ⟨h0, h1⟩ := hat
          obtain ⟨an, rfl⟩ := Int.eq_ofNat_of_zero_le h0
          have hza : zs[an]? = some (zs[an]'(by omega)) := List.getElem?_eq_getElem _
          generalize zs[an]'(by omega) = zv at *
          have hbk : Bk wr b bg zs t := hM.bank
          have Hst := Lib.hid (store_in b bg zs t xv zv an wr.drew hbk.drew hza t0 (by omega) ux)
          have Hza := Lib.hid hza
          have HS := Lib.hid (show AC ab (aoff + q * 3 + 1) (aoff + q * 3 + 2) (.int .i64 an) (.int .u64 xv) wr.drew from ⟨a2, a3⟩)
          clear hza hM hzl t0 t1 hwf s0 s1 hlt hbk alt
          go_wp2_with fail
          refine wp_region_held_drew (S := AC ab (aoff + q * 3 + 1) (aoff + q * 3 + 2) (.int .i64 an) (.int .u64 xv)) (by kernel_rfl) (HS.out) (fun hHeld => ?_)
          refine wpAnyH_take (i := 0) (v := ?v65) rfl (by kernel_rfl) (by kernel_rfl) (by kernel_rfl) (fun _ _ _ h => h) (Or.inl ⟨by rfl, ?y65⟩) hHeld ?r65
          case y65 => (intro w hSw; obtain ⟨q0, q1⟩ := hSw; go_simp; try with_reducible rfl)
          simp only [List.getElem_toArray, List.getElem_cons_zero, Act.put, List.setIfInBounds_toArray, List.set_cons_zero, List.set_cons_succ]
          refine wpAnyH_take (i := 1) (v := ?v66) rfl (by kernel_rfl) (by kernel_rfl) (by kernel_rfl) (fun _ _ _ h => h) (Or.inl ⟨by rfl, ?y66⟩) hHeld ?r66
          case y66 => (intro w hSw; obtain ⟨q0, q1⟩ := hSw; go_simp; try with_reducible rfl)
          simp only [List.getElem_toArray, List.getElem_cons_zero, List.getElem_cons_succ, Act.put, List.setIfInBounds_toArray, List.set_cons_zero, List.set_cons_succ]
          refine wpAnyH_take (i := 2) (v := ?v67) rfl (by kernel_rfl) (by kernel_rfl) (by kernel_rfl) (fun _ _ _ h => h) (Or.inl ⟨by rfl, ?y67⟩) hHeld ?r67
          case y67 => (intro w hSw; obtain ⟨q0, q1⟩ := hSw; go_simp; try with_reducible rfl)
          simp only [List.getElem_toArray, List.getElem_cons_zero, List.getElem_cons_succ, Act.put, List.setIfInBounds_toArray, List.set_cons_zero, List.set_cons_succ]
          refine wpAnyH_take (i := 3) (v := ?v68) rfl (by kernel_rfl) (by kernel_rfl) (by kernel_rfl) (fun _ _ _ h => h) (Or.inl ⟨by rfl, ?y68⟩) hHeld ?r68
          case y68 => (intro w hSw; obtain ⟨q0, q1⟩ := hSw; go_simp; try with_reducible rfl)
          simp only [List.getElem_toArray, List.getElem_cons_zero, List.getElem_cons_succ, Act.put, List.setIfInBounds_toArray, List.set_cons_zero, List.set_cons_succ]
          refine wpAnyH_take (i := 4) (v := ?v69) rfl (by kernel_rfl) (by kernel_rfl) (by kernel_rfl) (fun _ _ _ h => h) (Or.inl ⟨by rfl, ?y69⟩) hHeld ?r69
          case y69 => (intro w hSw; obtain ⟨q0, q1⟩ := hSw; go_simp; try with_reducible rfl)
          simp only [List.getElem_toArray, List.getElem_cons_zero, List.getElem_cons_succ, Act.put, List.setIfInBounds_toArray, List.set_cons_zero, List.set_cons_succ]
          refine wpAnyH_take (i := 5) (v := ?v70) rfl (by kernel_rfl) (by kernel_rfl) (by kernel_rfl) (fun _ _ _ h => h) (Or.inl ⟨by rfl, ?y70⟩) hHeld ?r70
          case y70 => (intro w hSw; obtain ⟨q0, q1⟩ := hSw; go_simp; try with_reducible rfl)
          simp only [List.getElem_toArray, List.getElem_cons_zero, List.getElem_cons_succ, Act.put, List.setIfInBounds_toArray, List.set_cons_zero, List.set_cons_succ]
          refine wpAnyH_take (i := 6) (v := ?v71) rfl (by kernel_rfl) (by kernel_rfl) (by kernel_rfl) (fun _ _ _ h => h) (Or.inl ⟨by rfl, ?y71⟩) hHeld ?r71
          case y71 => (intro w hSw; obtain ⟨q0, q1⟩ := hSw; go_simp; try with_reducible rfl)
          simp only [List.getElem_toArray, List.getElem_cons_zero, List.getElem_cons_succ, Act.put, List.setIfInBounds_toArray, List.set_cons_zero, List.set_cons_succ]
          refine wpAnyH_take (i := 7) (v := ?v72) rfl (by kernel_rfl) (by kernel_rfl) (by kernel_rfl) (fun _ _ _ h => h) (Or.inl ⟨by rfl, ?y72⟩) hHeld ?r72
          case y72 => (intro w hSw; obtain ⟨q0, q1⟩ := hSw; go_simp; try with_reducible rfl)
          simp only [List.getElem_toArray, List.getElem_cons_zero, List.getElem_cons_succ, Act.put, List.setIfInBounds_toArray, List.set_cons_zero, List.set_cons_succ]
          refine wpAnyH_take (i := 8) (v := ?v73) rfl (by kernel_rfl) (by kernel_rfl) (by kernel_rfl) (fun _ _ _ h => h) (Or.inl ⟨by rfl, ?y73⟩) hHeld ?r73
          case y73 => (intro w hSw; obtain ⟨q0, q1⟩ := hSw; go_simp; try with_reducible rfl)
          simp only [List.getElem_toArray, List.getElem_cons_zero, List.getElem_cons_succ, Act.put, List.setIfInBounds_toArray, List.set_cons_zero, List.set_cons_succ]
          refine wpAnyH_take (i := 9) (v := ?v74) rfl (by kernel_rfl) (by kernel_rfl) (by kernel_rfl) (fun _ _ _ h => h) (Or.inl ⟨by rfl, ?y74⟩) hHeld ?r74
          case y74 => (intro w hSw; obtain ⟨q0, q1⟩ := hSw; go_simp; try with_reducible rfl)
          simp only [List.getElem_toArray, List.getElem_cons_zero, List.getElem_cons_succ, Act.put, List.setIfInBounds_toArray, List.set_cons_zero, List.set_cons_succ]
          refine wpAnyH_take (i := 10) (v := ?v75) rfl (by kernel_rfl) (by kernel_rfl) (by kernel_rfl) (fun _ _ _ h => h) (Or.inl ⟨by rfl, ?y75⟩) hHeld ?r75
          case y75 => (intro w hSw; obtain ⟨q0, q1⟩ := hSw; go_simp; try with_reducible rfl)
          simp only [List.getElem_toArray, List.getElem_cons_zero, List.getElem_cons_succ, Act.put, List.setIfInBounds_toArray, List.set_cons_zero, List.set_cons_succ]
          refine wpAnyH_ready (rs := [11]) (by kernel_rfl) (by simp) (AllReadyH.cons rfl (fun K hK => ?_) AllReadyH.nil)
          go_simp
          refine Hst.out.mono ?_
          rintro e W1 ⟨rfl, hB1, hu1⟩
          have HS1 := Lib.hid (show AC ab (aoff + q * 3 + 1) (aoff + q * 3 + 2) (.int .i64 an) (.int .u64 xv) W1 from by
            have hne : ¬ Own b bg ab := fun c => by have := (HM.out.1.dj.bd 0 ab c).1; have := Hlt.out; omega
            have l1 := World.block_lt_of_cell? _ _ HS.out.1
            exact ⟨(World.cell?_of_block (a := ⟨ab, aoff + q * 3 + 1, none⟩) (hu1.block ab l1 hne)).trans HS.out.1, (World.cell?_of_block (a := ⟨ab, aoff + q * 3 + 2, none⟩) (hu1.block ab l1 hne)).trans HS.out.2⟩)
          have H1 := Lib.hid (show Row W1 wb zs ∧ RsM w S tr ⟨b, bg, wb, w.heap.size, p, pg, o, V, x, x, zs.set an xv, t + 1⟩ (W1.drew.setCell ⟨wb, an, none⟩ (.int .u64 xv)) from by
            have hMd := HM.out.1.drew
            have hwb : ¬ Own b bg wb := fun c => by
              have := hMd.dj.dj 0 1 wb c rfl
              omega
            have hst := hMd.store (a := an) (v := xv) (hu1.drew) hB1.drew
            exact ⟨hMd.wds.upd hu1 hwb, hst⟩)
          clear hB1 hu1
          go_wp2_with fail
          refine hK.out _ _ (HS1.out) (fun hHeld => ?_)
          clear hK K
          refine wpAnyH_take (i := 12) (v := .bool false) rfl (by kernel_rfl) (by kernel_rfl) (by kernel_rfl) (fun _ _ _ h => h) (Or.inl ⟨by rfl, ?y77⟩) hHeld ?r77
          case y77 => (intro w hSw; obtain ⟨q0, q1⟩ := hSw; go_simp; try with_reducible rfl)
          simp only [List.getElem_toArray, List.getElem_cons_zero, List.getElem_cons_succ, Act.put, List.setIfInBounds_toArray, List.set_cons_zero, List.set_cons_succ]
          refine wpAnyH_done (by kernel_rfl) ?_ _
          clear hHeld
          have HS2 := Lib.hid (show AC ab (aoff + q * 3 + 1) (aoff + q * 3 + 2) (.int .i64 an) (.int .u64 xv) W1.drew from HS1.out)
          have d3 := (Row.drew H1.out.1).cell Hza.out
          have d4 := (Row.drew H1.out.1).frozen an
          have d5 := (Row.drew H1.out.1).lt
          have hS3 : AC ab (aoff + q * 3 + 1) (aoff + q * 3 + 2) (.int .i64 an) (.int .u64 xv) (W1.drew.setCell ⟨wb, an, none⟩ (.int .u64 xv)) := by
            have hne : ab ≠ wb := by have := (HM.out.1.dj.bd 1 wb rfl).1; have := Hlt.out; omega
            unfold AC
            rw [World.cell?_of_block (Below.heap_setCell _ _ _ _ hne), World.cell?_of_block (Below.heap_setCell _ _ _ _ hne)]
            exact HS2.out
          have HM2 : Hid (RsM w S tr ⟨b, bg, wb, w.heap.size, p, pg, o, V, x, x, zs.set an xv, t + 1⟩ (W1.drew.setCell ⟨wb, an, none⟩ (.int .u64 xv))) := Lib.hid H1.out.2
          clear H1 HS HS1 Hst
          go_wp2_with fail
          refine wp_region_held_drew (S := AC ab (aoff + q * 3 + 1) (aoff + q * 3 + 2) (.int .i64 an) (.int .u64 xv)) (by kernel_rfl) (HS2.out) (fun hHeld => ?_)
          refine wpAnyH_take (i := 0) (v := ?v78) rfl (by kernel_rfl) (by kernel_rfl) (by kernel_rfl) (fun _ _ _ h => h) (Or.inl ⟨by rfl, ?y78⟩) hHeld ?r78
          case y78 => (intro w hSw; obtain ⟨q0, q1⟩ := hSw; go_simp; try with_reducible rfl)
          simp only [List.getElem_toArray, List.getElem_cons_zero, Act.put, List.setIfInBounds_toArray, List.set_cons_zero, List.set_cons_succ]
          refine wpAnyH_take (i := 1) (v := ?v79) rfl (by kernel_rfl) (by kernel_rfl) (by kernel_rfl) (fun _ _ _ h => h) (Or.inl ⟨by rfl, ?y79⟩) hHeld ?r79
          case y79 => (intro w hSw; obtain ⟨q0, q1⟩ := hSw; go_simp; try with_reducible rfl)
          simp only [List.getElem_toArray, List.getElem_cons_zero, List.getElem_cons_succ, Act.put, List.setIfInBounds_toArray, List.set_cons_zero, List.set_cons_succ]
          refine wpAnyH_take (i := 2) (v := ?v80) rfl (by kernel_rfl) (by kernel_rfl) (by kernel_rfl) (fun _ _ _ h => h) (Or.inl ⟨by rfl, ?y80⟩) hHeld ?r80
          case y80 => (intro w hSw; obtain ⟨q0, q1⟩ := hSw; go_simp; try with_reducible rfl)
          simp only [List.getElem_toArray, List.getElem_cons_zero, List.getElem_cons_succ, Act.put, List.setIfInBounds_toArray, List.set_cons_zero, List.set_cons_succ]
          refine wpAnyH_take (i := 3) (v := ?v81) rfl (by kernel_rfl) (by kernel_rfl) (by kernel_rfl) (fun _ _ _ h => h) (Or.inl ⟨by rfl, ?y81⟩) hHeld ?r81
          case y81 => (intro w hSw; obtain ⟨q0, q1⟩ := hSw; go_simp; try with_reducible rfl)
          simp only [List.getElem_toArray, List.getElem_cons_zero, List.getElem_cons_succ, Act.put, List.setIfInBounds_toArray, List.set_cons_zero, List.set_cons_succ]
          refine wpAnyH_take (i := 4) (v := ?v82) rfl (by kernel_rfl) (by kernel_rfl) (by kernel_rfl) (fun _ _ _ h => h) (Or.inl ⟨by rfl, ?y82⟩) hHeld ?r82
          case y82 => (intro w hSw; obtain ⟨q0, q1⟩ := hSw; go_simp; try with_reducible rfl)
          simp only [List.getElem_toArray, List.getElem_cons_zero, List.getElem_cons_succ, Act.put, List.setIfInBounds_toArray, List.set_cons_zero, List.set_cons_succ]
          refine wpAnyH_take (i := 5) (v := ?v83) rfl (by kernel_rfl) (by kernel_rfl) (by kernel_rfl) (fun _ _ _ h => h) (Or.inl ⟨by rfl, ?y83⟩) hHeld ?r83
          case y83 => (intro w hSw; obtain ⟨q0, q1⟩ := hSw; go_simp; try with_reducible rfl)
          simp only [List.getElem_toArray, List.getElem_cons_zero, List.getElem_cons_succ, Act.put, List.setIfInBounds_toArray, List.set_cons_zero, List.set_cons_succ]
          refine wpAnyH_take (i := 6) (v := ?v84) rfl (by kernel_rfl) (by kernel_rfl) (by kernel_rfl) (fun _ _ _ h => h) (Or.inl ⟨by rfl, ?y84⟩) hHeld ?r84
          case y84 => (intro w hSw; obtain ⟨q0, q1⟩ := hSw; go_simp; try with_reducible rfl)
          simp only [List.getElem_toArray, List.getElem_cons_zero, List.getElem_cons_succ, Act.put, List.setIfInBounds_toArray, List.set_cons_zero, List.set_cons_succ]
          refine wpAnyH_take (i := 7) (v := ?v85) rfl (by kernel_rfl) (by kernel_rfl) (by kernel_rfl) (fun _ _ _ h => h) (Or.inl ⟨by rfl, ?y85⟩) hHeld ?r85
          case y85 => (intro w hSw; obtain ⟨q0, q1⟩ := hSw; go_simp; try with_reducible rfl)
          simp only [List.getElem_toArray, List.getElem_cons_zero, List.getElem_cons_succ, Act.put, List.setIfInBounds_toArray, List.set_cons_zero, List.set_cons_succ]
          refine wpAnyH_take (i := 8) (v := ?v86) rfl (by kernel_rfl) (by kernel_rfl) (by kernel_rfl) (fun _ _ _ h => h) (Or.inl ⟨by rfl, ?y86⟩) hHeld ?r86
          case y86 => (intro w hSw; obtain ⟨q0, q1⟩ := hSw; go_simp; try with_reducible rfl)
          simp only [List.getElem_toArray, List.getElem_cons_zero, List.getElem_cons_succ, Act.put, List.setIfInBounds_toArray, List.set_cons_zero, List.set_cons_succ]
          refine wpAnyH_take (i := 9) (v := ?v87) rfl (by kernel_rfl) (by kernel_rfl) (by kernel_rfl) (fun _ _ _ h => h) (Or.inl ⟨by rfl, ?y87⟩) hHeld ?r87
          case y87 => (intro w hSw; obtain ⟨q0, q1⟩ := hSw; go_simp; try with_reducible rfl)
          simp only [List.getElem_toArray, List.getElem_cons_zero, List.getElem_cons_succ, Act.put, List.setIfInBounds_toArray, List.set_cons_zero, List.set_cons_succ]
          refine wpAnyH_take (i := 10) (v := ?v88) rfl (by kernel_rfl) (by kernel_rfl) (by kernel_rfl) (fun _ _ _ h => h) (Or.inl ⟨by rfl, ?y88⟩) hHeld ?r88
          case y88 => (intro w hSw; obtain ⟨q0, q1⟩ := hSw; go_simp; try with_reducible rfl)
          simp only [List.getElem_toArray, List.getElem_cons_zero, List.getElem_cons_succ, Act.put, List.setIfInBounds_toArray, List.set_cons_zero, List.set_cons_succ]
          refine wpAnyH_take (i := 11) (v := ?v89) rfl (by kernel_rfl) (by kernel_rfl) (by kernel_rfl) (fun _ _ _ h => h) (Or.inl ⟨by rfl, ?y89⟩) hHeld ?r89
          case y89 => (intro w hSw; obtain ⟨q0, q1⟩ := hSw; go_simp; try with_reducible rfl)
          simp only [List.getElem_toArray, List.getElem_cons_zero, List.getElem_cons_succ, Act.put, List.setIfInBounds_toArray, List.set_cons_zero, List.set_cons_succ]
          refine wpAnyH_ready (rs := [12]) (by kernel_rfl) (by simp) (AllReadyH.cons rfl (fun K hK => ?_) AllReadyH.nil)
          go_simp
          go_wp2_with fail
          refine hK.out _ _ (hS3) (fun hHeld => ?_)
          clear hK K
          refine wpAnyH_done (by kernel_rfl) ?_ _
          clear hHeld d3 d4 d5
          go_wp2_with fail
          go_roundw
          case rel =>
            obtain ⟨_, z1, z2, z3, z4, z5, z6, z7⟩ := HM.out
            exact ⟨q + 1, V, x, zs.set an xv, t + 1, by go_num, by omega, by rw [List.length_set]; exact z1, HM2.out, by omega, by omega, z4, z5, by omega, z7⟩
          case measure => simp [intOf]; omega
        · have hno : att < 0 ∨ (0 ≤ att ∧ (n : Int) ≤ att) := by omega
          clear hat hM hzl t0 t1 hwf s0 s1 hlt alt
          rcases hno with h0 | ⟨h0, h1⟩
          all_goals
            go_wp2_with fail
            go_roundw
            case rel =>
              obtain ⟨z0, z1, z2, z3, z4, z5, z6, z7⟩ := HM.out
              exact ⟨q + 1, V, x, zs, t, by go_num, by omega, z1, z0, z2, by omega, z4, z5, by omega, z7⟩
            case measure => simp [intOf]; omega
      | true =>
        obtain ⟨ap1, ap2, ap3, ap4, ap5, ap6⟩ := hM.ap
        dsimp only at ap1 ap2 ap3 ap4 ap5 ap6
        have hbk : Bk wr b bg zs t := hM.bank
        have hrr : RrAt wr o V S tr x := hM.rr
        have hwds : Row wr wb zs := hM.wds
        have hdoc := rr_any hrr hwds ap5 ap6 hwf hlt Htr.out.2.2 s0 (by omega) (by omega) hbk.rng
        rw [hzl] at hdoc
        have Hdoc := Lib.hid hdoc
        have Hrd : Hid (∀ W, RdAt W p pg S x → Bk W b bg zs t → Calls Try.prog 16 #[.pointer (some ⟨p, 0, none⟩), .pointer (some ⟨b, 0, none⟩)] W (RdPost p pg b bg S zs (rst S zs x) t W)) := Lib.hid (fun W h1 h2 => rstep_any h1 h2 ap1 ap2 ap3 ap4 hwf t0 (by omega) s0 (by omega))
        have hwf2 := rwf_rst hwf hbk.rng
        have hst2 := steps_rst S zs x
        have hle2 := left_rst S zs x
        generalize rst S zs x = r at *
        have HR : Hid (RWf S r.1 ∧ 0 ≤ r.1.steps ∧ r.1.steps ≤ q + 1 ∧ r.1.left ≤ tr ∧ 0 ≤ t + r.2 ∧ t + r.2 ≤ q + 1) := Lib.hid ⟨hwf2, by omega, by omega, by omega, by omega, by omega⟩
        have Hzl := Lib.hid hzl
        clear hM hzl t0 t1 hwf s0 s1 hlt alt ap1 ap2 ap3 ap4 ap5 ap6 hbk hdoc hrr hwds hwf2 hst2 hle2
        go_wp2_with fail
        refine Hdoc.out.mono ?_
        rintro e W1 ⟨rfl, V1, hR1, hB1, hu1, hv1⟩
        obtain ⟨va, vc, rfl⟩ := owns_form hR1.words
        have HM1 : Hid (RsM w S tr ⟨b, bg, wb, w.heap.size, p, pg, o, .slice va r.1.rw.length vc, x, r.1, zs, t⟩ W1.drew) := Lib.hid ((HM.out.1.docstep hu1 hR1 hv1).drew)
        have mhh : (r.1.how != r.1.how) = false := by simp
        have mss : (r.1.steps != r.1.steps) = false := by simp
        have mgg : (r.1.gen != r.1.gen) = false := by simp
        have mbb : (r.1.bgn != r.1.bgn) = false := by simp
        clear hR1 hB1 hu1 hv1 Hdoc HM
        go_wp2_with fail
        refine wp_region_held_drew (S := DT o (.slice va r.1.rw.length vc) r.1.gen r.1.bgn r.1.how r.1.steps) (by kernel_rfl) (DT.of HM1.out.rr) (fun hHeld => ?_)
        refine wpAnyH_take (i := 0) (v := ?v91) rfl (by kernel_rfl) (by kernel_rfl) (by kernel_rfl) (fun _ _ _ h => h) (Or.inl ⟨by rfl, ?y91⟩) hHeld ?r91
        case y91 => (intro w hSw; obtain ⟨q0, q1, q2, q3, q4⟩ := hSw; go_simp; try with_reducible rfl)
        simp only [List.getElem_toArray, List.getElem_cons_zero, Act.put, List.setIfInBounds_toArray, List.set_cons_zero, List.set_cons_succ]
        refine wpAnyH_take (i := 1) (v := ?v92) rfl (by kernel_rfl) (by kernel_rfl) (by kernel_rfl) (fun _ _ _ h => h) (Or.inl ⟨by rfl, ?y92⟩) hHeld ?r92
        case y92 => (intro w hSw; obtain ⟨q0, q1, q2, q3, q4⟩ := hSw; go_simp; try with_reducible rfl)
        simp only [List.getElem_toArray, List.getElem_cons_zero, List.getElem_cons_succ, Act.put, List.setIfInBounds_toArray, List.set_cons_zero, List.set_cons_succ]
        refine wpAnyH_take (i := 3) (v := ?v93) rfl (by kernel_rfl) (by kernel_rfl) (by kernel_rfl) (fun _ _ _ h => h) (Or.inl ⟨by rfl, ?y93⟩) hHeld ?r93
        case y93 => (intro w hSw; obtain ⟨q0, q1, q2, q3, q4⟩ := hSw; go_simp; try with_reducible rfl)
        simp only [List.getElem_toArray, List.getElem_cons_zero, List.getElem_cons_succ, Act.put, List.setIfInBounds_toArray, List.set_cons_zero, List.set_cons_succ]
        refine wpAnyH_take (i := 4) (v := ?v94) rfl (by kernel_rfl) (by kernel_rfl) (by kernel_rfl) (fun _ _ _ h => h) (Or.inl ⟨by rfl, ?y94⟩) hHeld ?r94
        case y94 => (intro w hSw; obtain ⟨q0, q1, q2, q3, q4⟩ := hSw; go_simp; try with_reducible rfl)
        simp only [List.getElem_toArray, List.getElem_cons_zero, List.getElem_cons_succ, Act.put, List.setIfInBounds_toArray, List.set_cons_zero, List.set_cons_succ]
        refine wpAnyH_take (i := 5) (v := ?v95) rfl (by kernel_rfl) (by kernel_rfl) (by kernel_rfl) (fun _ _ _ h => h) (Or.inl ⟨by rfl, ?y95⟩) hHeld ?r95
        case y95 => (intro w hSw; obtain ⟨q0, q1, q2, q3, q4⟩ := hSw; go_simp; try with_reducible rfl)
        simp only [List.getElem_toArray, List.getElem_cons_zero, List.getElem_cons_succ, Act.put, List.setIfInBounds_toArray, List.set_cons_zero, List.set_cons_succ]
        refine wpAnyH_take (i := 6) (v := ?v96) rfl (by kernel_rfl) (by kernel_rfl) (by kernel_rfl) (fun _ _ _ h => h) (Or.inl ⟨by rfl, ?y96⟩) hHeld ?r96
        case y96 => (intro w hSw; obtain ⟨q0, q1, q2, q3, q4⟩ := hSw; go_simp; try with_reducible rfl)
        simp only [List.getElem_toArray, List.getElem_cons_zero, List.getElem_cons_succ, Act.put, List.setIfInBounds_toArray, List.set_cons_zero, List.set_cons_succ]
        refine wpAnyH_ready (rs := [2]) (by kernel_rfl) (by simp) (AllReadyH.cons rfl (fun K hK => ?_) AllReadyH.nil)
        go_simp
        refine (Hrd.out _ HM1.out.rd HM1.out.bank).mono ?_
        rintro e W2 ⟨rfl, hO2, hB2, hu2⟩
        have HM2 := Lib.hid (HM1.out.step hu2 hO2 hB2)
        clear hO2 hB2 hu2
        go_wp2_with fail
        refine hK.out _ _ (DT.of HM2.out.rr) (fun hHeld => ?_)
        clear hK K
        refine wpAnyH_take (i := 7) (v := .bool false) rfl (by kernel_rfl) (by kernel_rfl) (by kernel_rfl) (fun _ _ _ h => h) (Or.inl ⟨by rfl, ?y98⟩) hHeld ?r98
        case y98 => (intro w hSw; obtain ⟨q0, q1, q2, q3, q4⟩ := hSw; go_simp; try with_reducible rfl)
        simp only [List.getElem_toArray, List.getElem_cons_zero, List.getElem_cons_succ, Act.put, List.setIfInBounds_toArray, List.set_cons_zero, List.set_cons_succ]
        refine wpAnyH_take (i := 8) (v := ?v99) rfl (by kernel_rfl) (by kernel_rfl) (by kernel_rfl) (fun _ _ _ h => h) (Or.inl ⟨by rfl, ?y99⟩) hHeld ?r99
        case y99 => (intro w hSw; obtain ⟨q0, q1, q2, q3, q4⟩ := hSw; go_simp; try with_reducible rfl)
        simp only [List.getElem_toArray, List.getElem_cons_zero, List.getElem_cons_succ, Act.put, List.setIfInBounds_toArray, List.set_cons_zero, List.set_cons_succ]
        refine wpAnyH_take (i := 9) (v := ?v100) rfl (by kernel_rfl) (by kernel_rfl) (by kernel_rfl) (fun _ _ _ h => h) (Or.inl ⟨by rfl, ?y100⟩) hHeld ?r100
        case y100 => (intro w hSw; obtain ⟨q0, q1, q2, q3, q4⟩ := hSw; go_simp; try with_reducible rfl)
        simp only [List.getElem_toArray, List.getElem_cons_zero, List.getElem_cons_succ, Act.put, List.setIfInBounds_toArray, List.set_cons_zero, List.set_cons_succ]
        refine wpAnyH_take (i := 11) (v := ?v101) rfl (by kernel_rfl) (by kernel_rfl) (by kernel_rfl) (fun _ _ _ h => h) (Or.inl ⟨by rfl, ?y101⟩) hHeld ?r101
        case y101 => (intro w hSw; obtain ⟨q0, q1, q2, q3, q4⟩ := hSw; go_simp; try with_reducible rfl)
        simp only [List.getElem_toArray, List.getElem_cons_zero, List.getElem_cons_succ, Act.put, List.setIfInBounds_toArray, List.set_cons_zero, List.set_cons_succ]
        refine wpAnyH_take (i := 12) (v := ?v102) rfl (by kernel_rfl) (by kernel_rfl) (by kernel_rfl) (fun _ _ _ h => h) (Or.inl ⟨by rfl, ?y102⟩) hHeld ?r102
        case y102 => (intro w hSw; obtain ⟨q0, q1, q2, q3, q4⟩ := hSw; go_simp; try with_reducible rfl)
        simp only [List.getElem_toArray, List.getElem_cons_zero, List.getElem_cons_succ, Act.put, List.setIfInBounds_toArray, List.set_cons_zero, List.set_cons_succ]
        refine wpAnyH_take (i := 13) (v := ?v103) rfl (by kernel_rfl) (by kernel_rfl) (by kernel_rfl) (fun _ _ _ h => h) (Or.inl ⟨by rfl, ?y103⟩) hHeld ?r103
        case y103 => (intro w hSw; obtain ⟨q0, q1, q2, q3, q4⟩ := hSw; go_simp; try with_reducible rfl)
        simp only [List.getElem_toArray, List.getElem_cons_zero, List.getElem_cons_succ, Act.put, List.setIfInBounds_toArray, List.set_cons_zero, List.set_cons_succ]
        refine wpAnyH_take (i := 14) (v := ?v104) rfl (by kernel_rfl) (by kernel_rfl) (by kernel_rfl) (fun _ _ _ h => h) (Or.inl ⟨by rfl, ?y104⟩) hHeld ?r104
        case y104 => (intro w hSw; obtain ⟨q0, q1, q2, q3, q4⟩ := hSw; go_simp; try with_reducible rfl)
        simp only [List.getElem_toArray, List.getElem_cons_zero, List.getElem_cons_succ, Act.put, List.setIfInBounds_toArray, List.set_cons_zero, List.set_cons_succ]
        refine wpAnyH_ready (rs := [10]) (by kernel_rfl) (by simp) (AllReadyH.cons rfl (fun K hK => ?_) AllReadyH.nil)
        go_simp
        refine (rsteps_any HM2.out.rd).mono ?_
        rintro e w' ⟨rfl, rfl⟩
        go_wp2_with fail
        refine hK.out _ _ (DT.of HM2.out.rr) (fun hHeld => ?_)
        clear hK K
        refine wpAnyH_take (i := 15) (v := .bool false) rfl (by kernel_rfl) (by kernel_rfl) (by kernel_rfl) (fun _ _ _ h => h) (Or.inl ⟨by rfl, ?y106⟩) hHeld ?r106
        case y106 => (intro w hSw; obtain ⟨q0, q1, q2, q3, q4⟩ := hSw; go_simp; try with_reducible rfl)
        simp only [List.getElem_toArray, List.getElem_cons_zero, List.getElem_cons_succ, Act.put, List.setIfInBounds_toArray, List.set_cons_zero, List.set_cons_succ]
        refine wpAnyH_take (i := 16) (v := ?v107) rfl (by kernel_rfl) (by kernel_rfl) (by kernel_rfl) (fun _ _ _ h => h) (Or.inl ⟨by rfl, ?y107⟩) hHeld ?r107
        case y107 => (intro w hSw; obtain ⟨q0, q1, q2, q3, q4⟩ := hSw; go_simp; try with_reducible rfl)
        simp only [List.getElem_toArray, List.getElem_cons_zero, List.getElem_cons_succ, Act.put, List.setIfInBounds_toArray, List.set_cons_zero, List.set_cons_succ]
        refine wpAnyH_done (by kernel_rfl) ?_ _
        clear hHeld
        have HM3 := Lib.hid HM2.out
        clear HM2 HM1
        by_cases hd : r.1.how = 1
        · have hg := got_ok HM3.out.rd hd (by have h1 := HR.out.1.len; have h2 := HR.out.1.rt.2.1; dsimp only; omega)
          unfold GotPost at hg
          dsimp only at hg
          have Hg := Lib.hid hg
          have Hhd := Lib.hid hd
          clear hg hd
          go_wp2_with fail
          refine Hg.out.mono ?_
          rintro e W3 ⟨q1, hq1, rfl, hB3, hu3⟩
          have HM4 := Lib.hid (And.intro (HM3.out.low hu3) hB3)
          clear hq1 hB3 hu3 Hg HM3
          have hdt := DT.of HM4.out.1.rr
          dsimp only at hdt
          rw [Hhd.out] at hdt
          have e11 := hdt.2.2.2.1
          have lo11 := HM4.out.1.rr.cells.lt
          have HD4 := Lib.hid (show DT o (.slice va r.1.rw.length vc) r.1.gen r.1.bgn 1 r.1.steps W3.drew from hdt)
          have Hat : Hid (∀ W, RdAt W p pg S r.1 → Calls Try.prog 20 #[.pointer (some ⟨p, 0, none⟩)] W (Pur (.int .i64 r.1.bgn) W)) := Lib.hid (fun W h => by
            have := rat_pur h
            unfold rat at this
            rw [if_pos Hhd.out] at this
            exact this)
          have Hwd : Hid (Calls Try.prog 19 #[.slice (some ⟨q1, 0, none⟩) r.1.rw.length r.1.rw.length, .slice va r.1.rw.length vc] W3.drew (Ret (.bool true) W3.drew)) := Lib.hid (by
            have hw3 : W3.ownsRow 0 43 1 (.slice va r.1.rw.length vc) r.1.rw.length (r.1.rw.map (Value.int .u64)) := HM4.out.1.rr.words
            have h := words_any (some ⟨q1, 0, none⟩) va r.1.rw r.1.rw r.1.rw.length vc W3.drew (Rdw.of_blk HM4.out.2.drew) (owns_rdw (owns_drew hw3 1)) (by have h1 := HR.out.1.len; have h2 := HR.out.1.rt.2.1; omega)
            rw [decide_eq_true rfl] at h
            exact h)
          have HM5 := Lib.hid HM4.out.1.drew
          clear hdt HM4
          go_wp2_with fail
          refine wp_region_held_drew (S := DT o (.slice va r.1.rw.length vc) r.1.gen r.1.bgn 1 r.1.steps) (by kernel_rfl) (HD4.out) (fun hHeld => ?_)
          refine wpAnyH_take (i := 0) (v := ?v108) rfl (by kernel_rfl) (by kernel_rfl) (by kernel_rfl) (fun _ _ _ h => h) (Or.inl ⟨by rfl, ?y108⟩) hHeld ?r108
          case y108 => (intro w hSw; obtain ⟨q0, q1, q2, q3, q4⟩ := hSw; go_simp; try with_reducible rfl)
          simp only [List.getElem_toArray, List.getElem_cons_zero, Act.put, List.setIfInBounds_toArray, List.set_cons_zero, List.set_cons_succ]
          refine wpAnyH_take (i := 1) (v := ?v109) rfl (by kernel_rfl) (by kernel_rfl) (by kernel_rfl) (fun _ _ _ h => h) (Or.inl ⟨by rfl, ?y109⟩) hHeld ?r109
          case y109 => (intro w hSw; obtain ⟨q0, q1, q2, q3, q4⟩ := hSw; go_simp; try with_reducible rfl)
          simp only [List.getElem_toArray, List.getElem_cons_zero, List.getElem_cons_succ, Act.put, List.setIfInBounds_toArray, List.set_cons_zero, List.set_cons_succ]
          refine wpAnyH_take (i := 2) (v := ?v110) rfl (by kernel_rfl) (by kernel_rfl) (by kernel_rfl) (fun _ _ _ h => h) (Or.inl ⟨by rfl, ?y110⟩) hHeld ?r110
          case y110 => (intro w hSw; obtain ⟨q0, q1, q2, q3, q4⟩ := hSw; go_simp; try with_reducible rfl)
          simp only [List.getElem_toArray, List.getElem_cons_zero, List.getElem_cons_succ, Act.put, List.setIfInBounds_toArray, List.set_cons_zero, List.set_cons_succ]
          refine wpAnyH_take (i := 3) (v := ?v111) rfl (by kernel_rfl) (by kernel_rfl) (by kernel_rfl) (fun _ _ _ h => h) (Or.inl ⟨by rfl, ?y111⟩) hHeld ?r111
          case y111 => (intro w hSw; obtain ⟨q0, q1, q2, q3, q4⟩ := hSw; go_simp; try with_reducible rfl)
          simp only [List.getElem_toArray, List.getElem_cons_zero, List.getElem_cons_succ, Act.put, List.setIfInBounds_toArray, List.set_cons_zero, List.set_cons_succ]
          refine wpAnyH_take (i := 4) (v := ?v112) rfl (by kernel_rfl) (by kernel_rfl) (by kernel_rfl) (fun _ _ _ h => h) (Or.inl ⟨by rfl, ?y112⟩) hHeld ?r112
          case y112 => (intro w hSw; obtain ⟨q0, q1, q2, q3, q4⟩ := hSw; go_simp; try with_reducible rfl)
          simp only [List.getElem_toArray, List.getElem_cons_zero, List.getElem_cons_succ, Act.put, List.setIfInBounds_toArray, List.set_cons_zero, List.set_cons_succ]
          refine wpAnyH_ready (rs := [5]) (by kernel_rfl) (by simp) (AllReadyH.cons rfl (fun K hK => ?_) AllReadyH.nil)
          go_simp
          refine Hwd.out.mono ?_
          rintro e W6 ⟨rfl, hu6⟩
          have HM6 := Lib.hid (HM5.out.low hu6)
          have HD6 := Lib.hid (show DT o (.slice va r.1.rw.length vc) r.1.gen r.1.bgn 1 r.1.steps W6 from by
            have lo := HM5.out.rr.cells.lt
            have hb := hu6.block o lo
            obtain ⟨d1, d2, d3, d4, d5⟩ := HD4.out
            exact ⟨(World.cell?_of_block (a := ⟨o, 8, none⟩) hb).trans d1, (World.cell?_of_block (a := ⟨o, 9, none⟩) hb).trans d2, (World.cell?_of_block (a := ⟨o, 10, none⟩) hb).trans d3, (World.cell?_of_block (a := ⟨o, 11, none⟩) hb).trans d4, (World.cell?_of_block (a := ⟨o, 12, none⟩) hb).trans d5⟩)
          clear hu6
          go_wp2_with fail
          refine hK.out _ _ (HD6.out) (fun hHeld => ?_)
          clear hK K
          refine wpAnyH_take (i := 6) (v := .bool false) rfl (by kernel_rfl) (by kernel_rfl) (by kernel_rfl) (fun _ _ _ h => h) (Or.inl ⟨by rfl, ?y114⟩) hHeld ?r114
          case y114 => (intro w hSw; obtain ⟨q0, q1, q2, q3, q4⟩ := hSw; go_simp; try with_reducible rfl)
          simp only [List.getElem_toArray, List.getElem_cons_zero, List.getElem_cons_succ, Act.put, List.setIfInBounds_toArray, List.set_cons_zero, List.set_cons_succ]
          refine wpAnyH_take (i := 7) (v := ?v115) rfl (by kernel_rfl) (by kernel_rfl) (by kernel_rfl) (fun _ _ _ h => h) (Or.inl ⟨by rfl, ?y115⟩) hHeld ?r115
          case y115 => (intro w hSw; obtain ⟨q0, q1, q2, q3, q4⟩ := hSw; go_simp; try with_reducible rfl)
          simp only [List.getElem_toArray, List.getElem_cons_zero, List.getElem_cons_succ, Act.put, List.setIfInBounds_toArray, List.set_cons_zero, List.set_cons_succ]
          refine wpAnyH_take (i := 8) (v := ?v116) rfl (by kernel_rfl) (by kernel_rfl) (by kernel_rfl) (fun _ _ _ h => h) (Or.inl ⟨by rfl, ?y116⟩) hHeld ?r116
          case y116 => (intro w hSw; obtain ⟨q0, q1, q2, q3, q4⟩ := hSw; go_simp; try with_reducible rfl)
          simp only [List.getElem_toArray, List.getElem_cons_zero, List.getElem_cons_succ, Act.put, List.setIfInBounds_toArray, List.set_cons_zero, List.set_cons_succ]
          refine wpAnyH_take (i := 9) (v := ?v117) rfl (by kernel_rfl) (by kernel_rfl) (by kernel_rfl) (fun _ _ _ h => h) (Or.inl ⟨by rfl, ?y117⟩) hHeld ?r117
          case y117 => (intro w hSw; obtain ⟨q0, q1, q2, q3, q4⟩ := hSw; go_simp; try with_reducible rfl)
          simp only [List.getElem_toArray, List.getElem_cons_zero, List.getElem_cons_succ, Act.put, List.setIfInBounds_toArray, List.set_cons_zero, List.set_cons_succ]
          refine wpAnyH_take (i := 10) (v := ?v118) rfl (by kernel_rfl) (by kernel_rfl) (by kernel_rfl) (fun _ _ _ h => h) (Or.inl ⟨by rfl, ?y118⟩) hHeld ?r118
          case y118 => (intro w hSw; obtain ⟨q0, q1, q2, q3, q4⟩ := hSw; go_simp; try with_reducible rfl)
          simp only [List.getElem_toArray, List.getElem_cons_zero, List.getElem_cons_succ, Act.put, List.setIfInBounds_toArray, List.set_cons_zero, List.set_cons_succ]
          refine wpAnyH_take (i := 11) (v := ?v119) rfl (by kernel_rfl) (by kernel_rfl) (by kernel_rfl) (fun _ _ _ h => h) (Or.inl ⟨by rfl, ?y119⟩) hHeld ?r119
          case y119 => (intro w hSw; obtain ⟨q0, q1, q2, q3, q4⟩ := hSw; go_simp; try with_reducible rfl)
          simp only [List.getElem_toArray, List.getElem_cons_zero, List.getElem_cons_succ, Act.put, List.setIfInBounds_toArray, List.set_cons_zero, List.set_cons_succ]
          refine wpAnyH_take (i := 12) (v := ?v120) rfl (by kernel_rfl) (by kernel_rfl) (by kernel_rfl) (fun _ _ _ h => h) (Or.inl ⟨by rfl, ?y120⟩) hHeld ?r120
          case y120 => (intro w hSw; obtain ⟨q0, q1, q2, q3, q4⟩ := hSw; go_simp; try with_reducible rfl)
          simp only [List.getElem_toArray, List.getElem_cons_zero, List.getElem_cons_succ, Act.put, List.setIfInBounds_toArray, List.set_cons_zero, List.set_cons_succ]
          refine wpAnyH_take (i := 13) (v := .bool false) rfl (by kernel_rfl) (by kernel_rfl) (by kernel_rfl) (fun _ _ _ h => h) (Or.inl ⟨by rfl, ?y121⟩) hHeld ?r121
          case y121 => (intro w hSw; obtain ⟨q0, q1, q2, q3, q4⟩ := hSw; go_simp; try with_reducible rfl)
          simp only [List.getElem_toArray, List.getElem_cons_zero, List.getElem_cons_succ, Act.put, List.setIfInBounds_toArray, List.set_cons_zero, List.set_cons_succ]
          refine wpAnyH_take (i := 14) (v := ?v122) rfl (by kernel_rfl) (by kernel_rfl) (by kernel_rfl) (fun _ _ _ h => h) (Or.inl ⟨by rfl, ?y122⟩) hHeld ?r122
          case y122 => (intro w hSw; obtain ⟨q0, q1, q2, q3, q4⟩ := hSw; go_simp; try with_reducible rfl)
          simp only [List.getElem_toArray, List.getElem_cons_zero, List.getElem_cons_succ, Act.put, List.setIfInBounds_toArray, List.set_cons_zero, List.set_cons_succ]
          refine wpAnyH_take (i := 15) (v := ?v123) rfl (by kernel_rfl) (by kernel_rfl) (by kernel_rfl) (fun _ _ _ h => h) (Or.inl ⟨by rfl, ?y123⟩) hHeld ?r123
          case y123 => (intro w hSw; obtain ⟨q0, q1, q2, q3, q4⟩ := hSw; go_simp; try with_reducible rfl)
          simp only [List.getElem_toArray, List.getElem_cons_zero, List.getElem_cons_succ, Act.put, List.setIfInBounds_toArray, List.set_cons_zero, List.set_cons_succ]
          refine wpAnyH_take (i := 16) (v := ?v124) rfl (by kernel_rfl) (by kernel_rfl) (by kernel_rfl) (fun _ _ _ h => h) (Or.inl ⟨by rfl, ?y124⟩) hHeld ?r124
          case y124 => (intro w hSw; obtain ⟨q0, q1, q2, q3, q4⟩ := hSw; go_simp; try with_reducible rfl)
          simp only [List.getElem_toArray, List.getElem_cons_zero, List.getElem_cons_succ, Act.put, List.setIfInBounds_toArray, List.set_cons_zero, List.set_cons_succ]
          refine wpAnyH_take (i := 18) (v := ?v125) rfl (by kernel_rfl) (by kernel_rfl) (by kernel_rfl) (fun _ _ _ h => h) (Or.inl ⟨by rfl, ?y125⟩) hHeld ?r125
          case y125 => (intro w hSw; obtain ⟨q0, q1, q2, q3, q4⟩ := hSw; go_simp; try with_reducible rfl)
          simp only [List.getElem_toArray, List.getElem_cons_zero, List.getElem_cons_succ, Act.put, List.setIfInBounds_toArray, List.set_cons_zero, List.set_cons_succ]
          refine wpAnyH_take (i := 19) (v := ?v126) rfl (by kernel_rfl) (by kernel_rfl) (by kernel_rfl) (fun _ _ _ h => h) (Or.inl ⟨by rfl, ?y126⟩) hHeld ?r126
          case y126 => (intro w hSw; obtain ⟨q0, q1, q2, q3, q4⟩ := hSw; go_simp; try with_reducible rfl)
          simp only [List.getElem_toArray, List.getElem_cons_zero, List.getElem_cons_succ, Act.put, List.setIfInBounds_toArray, List.set_cons_zero, List.set_cons_succ]
          refine wpAnyH_take (i := 20) (v := ?v127) rfl (by kernel_rfl) (by kernel_rfl) (by kernel_rfl) (fun _ _ _ h => h) (Or.inl ⟨by rfl, ?y127⟩) hHeld ?r127
          case y127 => (intro w hSw; obtain ⟨q0, q1, q2, q3, q4⟩ := hSw; go_simp; try with_reducible rfl)
          simp only [List.getElem_toArray, List.getElem_cons_zero, List.getElem_cons_succ, Act.put, List.setIfInBounds_toArray, List.set_cons_zero, List.set_cons_succ]
          refine wpAnyH_take (i := 21) (v := ?v128) rfl (by kernel_rfl) (by kernel_rfl) (by kernel_rfl) (fun _ _ _ h => h) (Or.inl ⟨by rfl, ?y128⟩) hHeld ?r128
          case y128 => (intro w hSw; obtain ⟨q0, q1, q2, q3, q4⟩ := hSw; go_simp; try with_reducible rfl)
          simp only [List.getElem_toArray, List.getElem_cons_zero, List.getElem_cons_succ, Act.put, List.setIfInBounds_toArray, List.set_cons_zero, List.set_cons_succ]
          refine wpAnyH_ready (rs := [17]) (by kernel_rfl) (by simp) (AllReadyH.cons rfl (fun K hK => ?_) AllReadyH.nil)
          go_simp
          refine (Hat.out _ HM6.out.rd).mono ?_
          rintro e w' ⟨rfl, rfl⟩
          go_wp2_with fail
          refine hK.out _ _ (HD6.out) (fun hHeld => ?_)
          clear hK K
          refine wpAnyH_take (i := 22) (v := .bool false) rfl (by kernel_rfl) (by kernel_rfl) (by kernel_rfl) (fun _ _ _ h => h) (Or.inl ⟨by rfl, ?y130⟩) hHeld ?r130
          case y130 => (intro w hSw; obtain ⟨q0, q1, q2, q3, q4⟩ := hSw; go_simp; try with_reducible rfl)
          simp only [List.getElem_toArray, List.getElem_cons_zero, List.getElem_cons_succ, Act.put, List.setIfInBounds_toArray, List.set_cons_zero, List.set_cons_succ]
          refine wpAnyH_take (i := 23) (v := ?v131) rfl (by kernel_rfl) (by kernel_rfl) (by kernel_rfl) (fun _ _ _ h => h) (Or.inl ⟨by rfl, ?y131⟩) hHeld ?r131
          case y131 => (intro w hSw; obtain ⟨q0, q1, q2, q3, q4⟩ := hSw; go_simp; try with_reducible rfl)
          simp only [List.getElem_toArray, List.getElem_cons_zero, List.getElem_cons_succ, Act.put, List.setIfInBounds_toArray, List.set_cons_zero, List.set_cons_succ]
          refine wpAnyH_done (by kernel_rfl) ?_ _
          clear hHeld HM5 Hwd Hat HD4 HD6
          have HM7 := Lib.hid HM6.out
          clear HM6 e11 lo11
          go_wp2_with fail
          go_loopw [17] (fun i wr => RsRel2 w S tr n b bg wb w.heap.size p pg o (.slice va r.1.rw.length vc) r.1 zs (t + r.2) i wr) (fun i _ => n - (intOf i).toNat)
          case atStart => exact ⟨0, rfl, by omega, HM7.out⟩
          case round =>
            clear HM7
            obtain ⟨j, rfl, hjn, hM⟩ := hrel
            by_cases hlt3 : (j : Int) < n
            · have hzj : zs[j]? = some (zs[j]'(by have := Hzl.out; omega)) := List.getElem?_eq_getElem _
              generalize zs[j]'(by have := Hzl.out; omega) = zv at *
              have Hzj := Lib.hid hzj
              have HMd := Lib.hid hM.drew
              have mzz : (zv != zv) = false := by simp
              have lw3 := hM.drew.wds.lt
              dsimp only at lw3
              clear hzj hM
              go_wp2_with fail
              refine wp_region_held_drew (S := CellA ⟨wb, j, none⟩ (.int .u64 zv)) (by kernel_rfl) (HMd.out.wds.cell Hzj.out) (fun hHeld => ?_)
              refine wpAnyH_take (i := 0) (v := ?v132) rfl (by kernel_rfl) (by kernel_rfl) (by kernel_rfl) (fun _ _ _ h => h) (Or.inl ⟨by rfl, ?y132⟩) hHeld ?r132
              case y132 => (intro w hSw; have cS := (show _ = _ from hSw); go_simp; try with_reducible rfl)
              simp only [List.getElem_toArray, List.getElem_cons_zero, Act.put, List.setIfInBounds_toArray, List.set_cons_zero, List.set_cons_succ]
              refine wpAnyH_take (i := 1) (v := ?v133) rfl (by kernel_rfl) (by kernel_rfl) (by kernel_rfl) (fun _ _ _ h => h) (Or.inl ⟨by rfl, ?y133⟩) hHeld ?r133
              case y133 => (intro w hSw; have cS := (show _ = _ from hSw); go_simp; try with_reducible rfl)
              simp only [List.getElem_toArray, List.getElem_cons_zero, List.getElem_cons_succ, Act.put, List.setIfInBounds_toArray, List.set_cons_zero, List.set_cons_succ]
              refine wpAnyH_take (i := 3) (v := ?v134) rfl (by kernel_rfl) (by kernel_rfl) (by kernel_rfl) (fun _ _ _ h => h) (Or.inl ⟨by rfl, ?y134⟩) hHeld ?r134
              case y134 => (intro w hSw; have cS := (show _ = _ from hSw); go_simp; try with_reducible rfl)
              simp only [List.getElem_toArray, List.getElem_cons_zero, List.getElem_cons_succ, Act.put, List.setIfInBounds_toArray, List.set_cons_zero, List.set_cons_succ]
              refine wpAnyH_take (i := 4) (v := ?v135) rfl (by kernel_rfl) (by kernel_rfl) (by kernel_rfl) (fun _ _ _ h => h) (Or.inl ⟨by rfl, ?y135⟩) hHeld ?r135
              case y135 => (intro w hSw; have cS := (show _ = _ from hSw); go_simp; try with_reducible rfl)
              simp only [List.getElem_toArray, List.getElem_cons_zero, List.getElem_cons_succ, Act.put, List.setIfInBounds_toArray, List.set_cons_zero, List.set_cons_succ]
              refine wpAnyH_take (i := 5) (v := ?v136) rfl (by kernel_rfl) (by kernel_rfl) (by kernel_rfl) (fun _ _ _ h => h) (Or.inl ⟨by rfl, ?y136⟩) hHeld ?r136
              case y136 => (intro w hSw; have cS := (show _ = _ from hSw); go_simp; try with_reducible rfl)
              simp only [List.getElem_toArray, List.getElem_cons_zero, List.getElem_cons_succ, Act.put, List.setIfInBounds_toArray, List.set_cons_zero, List.set_cons_succ]
              refine wpAnyH_take (i := 6) (v := ?v137) rfl (by kernel_rfl) (by kernel_rfl) (by kernel_rfl) (fun _ _ _ h => h) (Or.inl ⟨by rfl, ?y137⟩) hHeld ?r137
              case y137 => (intro w hSw; have cS := (show _ = _ from hSw); go_simp; try with_reducible rfl)
              simp only [List.getElem_toArray, List.getElem_cons_zero, List.getElem_cons_succ, Act.put, List.setIfInBounds_toArray, List.set_cons_zero, List.set_cons_succ]
              refine wpAnyH_ready (rs := [2]) (by kernel_rfl) (by simp) (AllReadyH.cons rfl (fun K hK => ?_) AllReadyH.nil)
              go_simp
              refine (peek_in b bg _ _ zv j _ HMd.out.bank Hzj.out).mono ?_
              rintro e W8 ⟨rfl, _, hu8⟩
              have HM8 := Lib.hid (HMd.out.low hu8)
              clear hu8
              go_wp2_with fail
              refine hK.out _ _ (HM8.out.wds.cell Hzj.out) (fun hHeld => ?_)
              clear hK K
              refine wpAnyH_take (i := 7) (v := .bool false) rfl (by kernel_rfl) (by kernel_rfl) (by kernel_rfl) (fun _ _ _ h => h) (Or.inl ⟨by rfl, ?y139⟩) hHeld ?r139
              case y139 => (intro w hSw; have cS := (show _ = _ from hSw); go_simp; try with_reducible rfl)
              simp only [List.getElem_toArray, List.getElem_cons_zero, List.getElem_cons_succ, Act.put, List.setIfInBounds_toArray, List.set_cons_zero, List.set_cons_succ]
              refine wpAnyH_done (by kernel_rfl) ?_ _
              clear hHeld HMd
              have HM9 := Lib.hid HM8.out
              clear HM8
              go_wp2_with fail
              go_roundw
              case rel => exact ⟨j + 1, by go_num, by omega, HM9.out⟩
              case measure => simp [intOf]; omega
            · obtain rfl : j = n := by omega
              have HM9 := Lib.hid hM
              clear hM
              go_wp2_with fail
              go_roundw
              case rel =>
                obtain ⟨z1, z2, z3, z4, z5, z6⟩ := HR.out
                exact ⟨q + 1, _, r.1, zs, t + r.2, by go_num, by omega, Hzl.out, HM9.out, z5, by omega, z1, z2, by omega, z4⟩
              case measure => simp [intOf]; omega
        · have hg := got_no HM3.out.rd hd
          have Hg := Lib.hid hg
          have Hat : Hid (Calls Try.prog 20 #[.pointer (some ⟨p, 0, none⟩)] W2 (Pur (.int .i64 0) W2)) := Lib.hid (by
            have := rat_pur HM3.out.rd
            unfold rat at this
            dsimp only at this
            rw [if_neg hd] at this
            exact this)
          have e11 := (DT.of HM3.out.rr).2.2.2.1
          dsimp only at e11
          have lo11 := HM3.out.rr.cells.lt
          dsimp only at lo11
          have mh1 : (r.1.how == 1) = false := by simpa using hd
          have HM7 := Lib.hid HM3.out
          clear hg HM3 hd
          generalize r.1.how = hw at *
          go_wp2_with fail
          refine Hg.out.mono ?_
          rintro e w' ⟨rfl, rfl⟩
          go_wp2_with fail
          refine Hat.out.mono ?_
          rintro e w' ⟨rfl, rfl⟩
          go_wp2_with fail
          go_loopw [17] (fun i wr => RsRel2 w S tr n b bg wb w.heap.size p pg o (.slice va r.1.rw.length vc) r.1 zs (t + r.2) i wr) (fun i _ => n - (intOf i).toNat)
          case atStart => exact ⟨0, rfl, by omega, HM7.out⟩
          case round =>
            clear HM7
            obtain ⟨j, rfl, hjn, hM⟩ := hrel
            by_cases hlt3 : (j : Int) < n
            · have hzj : zs[j]? = some (zs[j]'(by have := Hzl.out; omega)) := List.getElem?_eq_getElem _
              generalize zs[j]'(by have := Hzl.out; omega) = zv at *
              have Hzj := Lib.hid hzj
              have HMd := Lib.hid hM.drew
              have mzz : (zv != zv) = false := by simp
              have lw3 := hM.drew.wds.lt
              dsimp only at lw3
              clear hzj hM
              go_wp2_with fail
              refine wp_region_held_drew (S := CellA ⟨wb, j, none⟩ (.int .u64 zv)) (by kernel_rfl) (HMd.out.wds.cell Hzj.out) (fun hHeld => ?_)
              refine wpAnyH_take (i := 0) (v := ?v140) rfl (by kernel_rfl) (by kernel_rfl) (by kernel_rfl) (fun _ _ _ h => h) (Or.inl ⟨by rfl, ?y140⟩) hHeld ?r140
              case y140 => (intro w hSw; have cS := (show _ = _ from hSw); go_simp; try with_reducible rfl)
              simp only [List.getElem_toArray, List.getElem_cons_zero, Act.put, List.setIfInBounds_toArray, List.set_cons_zero, List.set_cons_succ]
              refine wpAnyH_take (i := 1) (v := ?v141) rfl (by kernel_rfl) (by kernel_rfl) (by kernel_rfl) (fun _ _ _ h => h) (Or.inl ⟨by rfl, ?y141⟩) hHeld ?r141
              case y141 => (intro w hSw; have cS := (show _ = _ from hSw); go_simp; try with_reducible rfl)
              simp only [List.getElem_toArray, List.getElem_cons_zero, List.getElem_cons_succ, Act.put, List.setIfInBounds_toArray, List.set_cons_zero, List.set_cons_succ]
              refine wpAnyH_take (i := 3) (v := ?v142) rfl (by kernel_rfl) (by kernel_rfl) (by kernel_rfl) (fun _ _ _ h => h) (Or.inl ⟨by rfl, ?y142⟩) hHeld ?r142
              case y142 => (intro w hSw; have cS := (show _ = _ from hSw); go_simp; try with_reducible rfl)
              simp only [List.getElem_toArray, List.getElem_cons_zero, List.getElem_cons_succ, Act.put, List.setIfInBounds_toArray, List.set_cons_zero, List.set_cons_succ]
              refine wpAnyH_take (i := 4) (v := ?v143) rfl (by kernel_rfl) (by kernel_rfl) (by kernel_rfl) (fun _ _ _ h => h) (Or.inl ⟨by rfl, ?y143⟩) hHeld ?r143
              case y143 => (intro w hSw; have cS := (show _ = _ from hSw); go_simp; try with_reducible rfl)
              simp only [List.getElem_toArray, List.getElem_cons_zero, List.getElem_cons_succ, Act.put, List.setIfInBounds_toArray, List.set_cons_zero, List.set_cons_succ]
              refine wpAnyH_take (i := 5) (v := ?v144) rfl (by kernel_rfl) (by kernel_rfl) (by kernel_rfl) (fun _ _ _ h => h) (Or.inl ⟨by rfl, ?y144⟩) hHeld ?r144
              case y144 => (intro w hSw; have cS := (show _ = _ from hSw); go_simp; try with_reducible rfl)
              simp only [List.getElem_toArray, List.getElem_cons_zero, List.getElem_cons_succ, Act.put, List.setIfInBounds_toArray, List.set_cons_zero, List.set_cons_succ]
              refine wpAnyH_take (i := 6) (v := ?v145) rfl (by kernel_rfl) (by kernel_rfl) (by kernel_rfl) (fun _ _ _ h => h) (Or.inl ⟨by rfl, ?y145⟩) hHeld ?r145
              case y145 => (intro w hSw; have cS := (show _ = _ from hSw); go_simp; try with_reducible rfl)
              simp only [List.getElem_toArray, List.getElem_cons_zero, List.getElem_cons_succ, Act.put, List.setIfInBounds_toArray, List.set_cons_zero, List.set_cons_succ]
              refine wpAnyH_ready (rs := [2]) (by kernel_rfl) (by simp) (AllReadyH.cons rfl (fun K hK => ?_) AllReadyH.nil)
              go_simp
              refine (peek_in b bg _ _ zv j _ HMd.out.bank Hzj.out).mono ?_
              rintro e W8 ⟨rfl, _, hu8⟩
              have HM8 := Lib.hid (HMd.out.low hu8)
              clear hu8
              go_wp2_with fail
              refine hK.out _ _ (HM8.out.wds.cell Hzj.out) (fun hHeld => ?_)
              clear hK K
              refine wpAnyH_take (i := 7) (v := .bool false) rfl (by kernel_rfl) (by kernel_rfl) (by kernel_rfl) (fun _ _ _ h => h) (Or.inl ⟨by rfl, ?y147⟩) hHeld ?r147
              case y147 => (intro w hSw; have cS := (show _ = _ from hSw); go_simp; try with_reducible rfl)
              simp only [List.getElem_toArray, List.getElem_cons_zero, List.getElem_cons_succ, Act.put, List.setIfInBounds_toArray, List.set_cons_zero, List.set_cons_succ]
              refine wpAnyH_done (by kernel_rfl) ?_ _
              clear hHeld HMd
              have HM9 := Lib.hid HM8.out
              clear HM8
              go_wp2_with fail
              go_roundw
              case rel => exact ⟨j + 1, by go_num, by omega, HM9.out⟩
              case measure => simp [intOf]; omega
            · obtain rfl : j = n := by omega
              have HM9 := Lib.hid hM
              clear hM
              go_wp2_with fail
              go_roundw
              case rel =>
                obtain ⟨z1, z2, z3, z4, z5, z6⟩ := HR.out
                exact ⟨q + 1, _, r.1, zs, t + r.2, by go_num, by omega, Hzl.out, HM9.out, z5, by omega, z1, z2, by omega, z4⟩
              case measure => simp [intOf]; omega
    · obtain rfl : q = acl.length := by omega
      have HM := Lib.hid hM.bel
      clear hM hzl t0 t1 hwf s0 s1 hlt
      go_wp2_with fail
      refine (awake_any _).mono ?_
      rintro e V3 ⟨rfl, hu3⟩
      have HM3 := Lib.hid (HM.out.trans (hu3.mono HM.out.size))
      clear hu3 HM
      go_wp2
      go_ret
      exact ⟨rfl, HM3.out⟩
end Go.Proofs.Ytajibhhmcjcchaa
