/- WriteOnce: its walk. -/
import Derived.Test.YtbfelghfimcenaaOnB
namespace Go.Proofs.Ytbfelghfimcenaa
open Go.RowKit
theorem wrap_add3 (A j : Nat) (h : (A : Int) ≤ 98) (h2 : (j : Int) ≤ 6) : IntKind.i64.wrap ((A : Int) + j) = ((A + j : Nat) : Int) := by
  rw [IntKind.wrap_i64]
  omega

set_option maxRecDepth 100000 in
set_option maxHeartbeats 8000000 in
theorem once_walk (R : Nat → Rw) (d : Nat) (pa : Option Addr) (ps : List Int) (pc : Nat) (w : World) (n : Nat) (hR : ∀ k, k < 3 → (R k).2.2.length = n ∧ Wds w.heap.size w (R k).1 (R k).2.2) (hP : Ids w.heap.size w pa ps) (n1 : 1 ≤ n) (n2 : n ≤ 6) (d1 : 2 ≤ d) (d2 : d ≤ 16) (hm : ps.length ≤ 300) :
    Calls Try.prog 5 #[.agg #[rwv (R 0), rwv (R 1), rwv (R 2)], .int .i64 (d : Int), .slice pa ps.length pc] w (True1 w) := by
  have HR := Lib.hid hR
  have HP := Lib.hid hP
  have Hb := Lib.hid (And.intro n1 (And.intro n2 (And.intro d1 (And.intro d2 hm))))
  have e0 : (R 0).2.2.length = n := (hR 0 (by omega)).1
  have e1 : (R 1).2.2.length = n := (hR 1 (by omega)).1
  have e2 : (R 2).2.2.length = n := (hR 2 (by omega)).1
  have Hnw : Hid (nwE (spS n d) n 4 = 0) := Lib.hid (by
    unfold nwE
    rw [if_pos ((mb_iff _ _).2 ⟨by unfold Rt spS; simp only; omega, by omega, by omega⟩), if_pos (show (n : Int) = (spS n d).wd from rfl)])
  have Hs := Lib.hid (fun w => spot_ok n d n1 (by omega) d1 d2 w)
  have Hbx : Hid (Blk (w.alloc (bx3 (R 0) (R 1) (R 2))) w.heap.size [rwv (R 0), rwv (R 1), rwv (R 2)] ∧ Below w.heap.size w (w.alloc (bx3 (R 0) (R 1) (R 2))) ∧ (w.alloc (bx3 (R 0) (R 1) (R 2))).heap.size = w.heap.size + 1) :=
    Lib.hid ⟨Blk.new w _ _, (Below.refl w.heap.size w).alloc (Nat.le_refl _) _, by simp⟩
  unfold bx3 rwv at Hbx
  unfold rwv
  rw [e0, e1, e2] at Hbx ⊢
  have k1 : 1 ≤ (n : Int) := by omega
  have k2 : (n : Int) ≤ 6 := by omega
  have k3 : 2 ≤ (d : Int) := by omega
  have k4 : (d : Int) ≤ 16 := by omega
  have k5 : (ps.length : Int) ≤ 300 := by omega
  have m0 : ((n : Int) != n) = false := by simp
  clear hR hP n1 n2 d1 d2 hm e0 e1 e2
  go_enter Try.func5, Try.ntmps5
  go_wp2_with fail
  generalize w.alloc _ = w0 at Hbx ⊢
  refine (Hs.out _).mono ?_
  rintro e w1 ⟨b, bg, hb, hg, rfl, hk1, hb1⟩
  have HW : Hid (∃ W0, W0 = (w1.alloc (bs n d)).alloc (.cells #[.pointer none, .pointer none, .pointer none] 38) ∧ OnMem w b bg w1.heap.size (w1.heap.size + 1) w.heap.size n d (fun _ => none) R (List.replicate (2 + n * d) 0) 0 W0 ∧ Dis w b bg w1.heap.size (w1.heap.size + 1) w.heap.size) := by
    obtain ⟨hx1, hx2, hx3⟩ := Hbx.out
    have hbl := hx2.trans (hb1.mono hx2.size)
    have s1 := hb1.size
    have s2 := hk1.ltb
    have s3 := hk1.ltg
    have r0 := HR.out 0 (by omega)
    have r1 := HR.out 1 (by omega)
    have r2 := HR.out 2 (by omega)
    refine Lib.hid ⟨_, rfl, ⟨(hk1.alloc _).alloc _, (Blk.new w1 #[.int .i64 0, .int .i64 1, .int .i64 2, .int .i64 n, .int .i64 d] 23).alloc _, ?_, ?_, fun _ _ _ _ c => (by cases c), fun _ _ _ _ _ _ _ _ _ c => (by cases c), (hbl.alloc hbl.size _).alloc (by simp; omega) _⟩, ⟨by omega, by omega, by omega, by omega, by omega, by omega, by omega, by omega, by omega, by omega, by omega, by omega⟩⟩
    · have := Blk.new (w1.alloc (bs n d)) #[.pointer none, .pointer none, .pointer none] 38
      simp only [World.size_alloc] at this
      exact this
    · unfold rwv
      rw [r0.1, r1.1, r2.1]
      exact ((hx1.low hb1).alloc _).alloc _
  clear hk1 hb1 hb hg Hs
  go_wp2_with fail
  obtain ⟨W0, hW0, hM, hD⟩ := HW.out
  rw [← hW0]
  generalize w1.heap.size + 1 = ob at *
  generalize w1.heap.size = sp at *
  clear hW0 HW Hbx
  go_loopw [12, 13, 14] (fun dn hd i wr => OnRel w b bg sp ob w.heap.size n d ps.length R dn hd i wr) (fun _ _ i _ => ps.length - (intOf i).toNat)
  case atStart => exact ⟨0, -1, 0, _, _, 0, rfl, rfl, rfl, by omega, on_start n d _ Hb.out.1, hM, by omega, by omega⟩
  case round =>
    clear hM
    obtain ⟨D, H, q, X, zs, t, rfl, rfl, rfl, hqm, hI, hM, t0, t1⟩ := hrel
    by_cases hlt : (q : Int) < ps.length
    · have hqq : q < ps.length := by omega
      obtain ⟨⟨i1, i2⟩, lb, loff, rfl, llt, lc⟩ := (HP.out.keep hM.bel) q _ (List.getElem?_eq_getElem hqq)
      generalize ps[q] = pk at *
      obtain ⟨k, hk3, hpk⟩ := pick3 pk
      have HI := Lib.hid (And.intro hI (And.intro hM (And.intro t0 t1)))
      have Hpk := Lib.hid hpk
      have HD := Lib.hid hD
      clear hI hM t0 t1 hpk hD
      go_upto_region 14 with fail
      rw [Hpk.out]
      have cop := HI.out.2.1.op hk3
      unfold ptr at cop
      obtain ⟨pp, hpp⟩ : ∃ pp, (X k).map (fun p => (⟨p.1, 0, none⟩ : Addr)) = pp := ⟨_, rfl⟩
      rw [hpp] at cop
      have Hpp := Lib.hid hpp
      clear hpp
      have ck0 : 0 ≤ (k : Int) := by omega
      have ck3 : (k : Int) < 3 := by omega
      go_upto_if 87 with fail
      clear lc Hpk
      go_cut [16, 17] (fun _ _ wx => OnMid w b bg sp ob w.heap.size n d R D H q k zs t wx)
      case first =>
        cases hXk : X k with
        | some v =>
          obtain ⟨o, g, x⟩ := v
          obtain rfl : some ⟨o, 0, none⟩ = pp := by have := Hpp.out; rw [hXk] at this; exact this
          have HX := Lib.hid hXk
          clear hXk
          go_wp2
          go_meet
          exact ⟨X, o, g, x, HX.out, HI.out.1, HI.out.2.1⟩
        | none =>
          obtain rfl : none = pp := by have := Hpp.out; rw [hXk] at this; exact this
          have HX := Lib.hid hXk
          have hM := HI.out.2.1
          have HF : Hid (OnMem w b bg sp ob w.heap.size n d X R zs t wr.drew ∧ Wds w.heap.size wr.drew (R k).1 (R k).2.2 ∧ wr.drew.cell? ⟨w.heap.size, k, none⟩ = some (.slice (R k).1 n (R k).2.1)) := Lib.hid ⟨hM.drew, (HR.out k hk3).2.keep hM.drew.bel, by
            have := hM.drew.row hk3
            unfold rwv at this
            rw [(HR.out k hk3).1] at this
            exact this⟩
          have Hnew : Hid (∀ W, Wds w.heap.size W (R k).1 (R k).2.2 → w.heap.size ≤ W.heap.size → Calls Try.prog 11 #[.agg #[.int .i64 0, .int .i64 1, .int .i64 2, .int .i64 n, .int .i64 d], .slice (R k).1 n (R k).2.1, .int .i64 4] W (NewOp (spS n d) (R k).2.2 4 W)) := Lib.hid (fun W h1 h2 => by
            have := newo_ok (spS n d) (R k).1 (R k).2.2 (R k).2.1 4 W w.heap.size h2 h1 (by rw [(HR.out k hk3).1]; exact Hnw.out)
            rw [(HR.out k hk3).1] at this
            exact this)
          clear hXk hM
          generalize (R k).1 = ra at *
          generalize (R k).2.1 = rcap at *
          go_wp2_with fail
          refine wp_region_held_drew (S := SpC sp n d ⟨w.heap.size, k, none⟩ (.slice ra n rcap)) (by kernel_rfl) (⟨HF.out.1.spot, HF.out.2.2⟩) (fun hHeld => ?_)
          refine wpAnyH_take (i := 0) (v := ?v13) rfl (by kernel_rfl) (by kernel_rfl) (by kernel_rfl) (fun _ _ _ h => h) (Or.inl ⟨by rfl, ?y13⟩) hHeld ?r13
          case y13 => (intro w hSw; obtain ⟨hSp, cS⟩ := hSw; have e0 := hSp.cell (i := 0) rfl; have e1 := hSp.cell (i := 1) rfl; have e2 := hSp.cell (i := 2) rfl; have e3 := hSp.cell (i := 3) rfl; have e4 := hSp.cell (i := 4) rfl; clear hSp; go_simp; try with_reducible rfl)
          simp only [List.getElem_toArray, List.getElem_cons_zero, Act.put, List.setIfInBounds_toArray, List.set_cons_zero, List.set_cons_succ]
          refine wpAnyH_take (i := 1) (v := ?v14) rfl (by kernel_rfl) (by kernel_rfl) (by kernel_rfl) (fun _ _ _ h => h) (Or.inl ⟨by rfl, ?y14⟩) hHeld ?r14
          case y14 => (intro w hSw; obtain ⟨hSp, cS⟩ := hSw; have e0 := hSp.cell (i := 0) rfl; have e1 := hSp.cell (i := 1) rfl; have e2 := hSp.cell (i := 2) rfl; have e3 := hSp.cell (i := 3) rfl; have e4 := hSp.cell (i := 4) rfl; clear hSp; go_simp; try with_reducible rfl)
          simp only [List.getElem_toArray, List.getElem_cons_zero, List.getElem_cons_succ, Act.put, List.setIfInBounds_toArray, List.set_cons_zero, List.set_cons_succ]
          refine wpAnyH_take (i := 2) (v := ?v15) rfl (by kernel_rfl) (by kernel_rfl) (by kernel_rfl) (fun _ _ _ h => h) (Or.inl ⟨by rfl, ?y15⟩) hHeld ?r15
          case y15 => (intro w hSw; obtain ⟨hSp, cS⟩ := hSw; have e0 := hSp.cell (i := 0) rfl; have e1 := hSp.cell (i := 1) rfl; have e2 := hSp.cell (i := 2) rfl; have e3 := hSp.cell (i := 3) rfl; have e4 := hSp.cell (i := 4) rfl; clear hSp; go_simp; try with_reducible rfl)
          simp only [List.getElem_toArray, List.getElem_cons_zero, List.getElem_cons_succ, Act.put, List.setIfInBounds_toArray, List.set_cons_zero, List.set_cons_succ]
          refine wpAnyH_take (i := 3) (v := ?v16) rfl (by kernel_rfl) (by kernel_rfl) (by kernel_rfl) (fun _ _ _ h => h) (Or.inl ⟨by rfl, ?y16⟩) hHeld ?r16
          case y16 => (intro w hSw; obtain ⟨hSp, cS⟩ := hSw; have e0 := hSp.cell (i := 0) rfl; have e1 := hSp.cell (i := 1) rfl; have e2 := hSp.cell (i := 2) rfl; have e3 := hSp.cell (i := 3) rfl; have e4 := hSp.cell (i := 4) rfl; clear hSp; go_simp; try with_reducible rfl)
          simp only [List.getElem_toArray, List.getElem_cons_zero, List.getElem_cons_succ, Act.put, List.setIfInBounds_toArray, List.set_cons_zero, List.set_cons_succ]
          refine wpAnyH_ready (rs := [4]) (by kernel_rfl) (by simp) (AllReadyH.cons rfl (fun K hK => ?_) AllReadyH.nil)
          go_simp
          refine (Hnew.out _ HF.out.2.1 HF.out.1.bel.size).mono ?_
          rintro e W2 ⟨o, g, ho, hgo, rfl, hO, hu3⟩
          have HG : Hid (OnMem w b bg sp ob w.heap.size n d X R zs t W2 ∧ OpAt W2 o g (spS n d) (R k).2.2 (st0 4) ∧ (Far w b bg sp ob w.heap.size o ∧ Far w b bg sp ob w.heap.size g) ∧ (∀ j o' g' x', X j = some (o', g', x') → o ≠ o' ∧ o ≠ g' ∧ o' ≠ g)) := by
            have hM := HF.out.1
            have l1 := hM.bank.ltb
            have l2 := hM.bank.ltg
            have l3 := hM.spot.lt
            have l4 := hM.ops.lt
            have l5 := hM.box.lt
            refine Lib.hid ⟨hM.low hu3, hO, ⟨⟨by omega, by omega, by omega, by omega, by omega, by omega⟩, ⟨by omega, by omega, by omega, by omega, by omega, by omega⟩⟩, fun j o' g' x' hX' => ?_⟩
            have l6 := (hM.each j _ _ _ hX').1.lto
            have l7 := (hM.each j _ _ _ hX').1.ltg
            exact ⟨by omega, by omega, by omega⟩
          have hSp3 := HG.out.1.spot
          have hce3 := cell_low hu3 HF.out.2.2
          have HS3 := Lib.hid (And.intro hSp3 hce3)
          clear hSp3 hce3 hO hu3 ho hgo
          go_wp2_with fail
          refine hK.out _ _ (HS3.out) (fun hHeld => ?_)
          clear hK K
          refine wpAnyH_take (i := 5) (v := ?v18) rfl (by kernel_rfl) (by kernel_rfl) (by kernel_rfl) (fun _ _ _ h => h) (Or.inl ⟨by rfl, ?y18⟩) hHeld ?r18
          case y18 => (intro w hSw; obtain ⟨hSp, cS⟩ := hSw; have e0 := hSp.cell (i := 0) rfl; have e1 := hSp.cell (i := 1) rfl; have e2 := hSp.cell (i := 2) rfl; have e3 := hSp.cell (i := 3) rfl; have e4 := hSp.cell (i := 4) rfl; clear hSp; go_simp; try with_reducible rfl)
          simp only [List.getElem_toArray, List.getElem_cons_zero, List.getElem_cons_succ, Act.put, List.setIfInBounds_toArray, List.set_cons_zero, List.set_cons_succ]
          refine wpAnyH_take (i := 6) (v := ?v19) rfl (by kernel_rfl) (by kernel_rfl) (by kernel_rfl) (fun _ _ _ h => h) (Or.inl ⟨by rfl, ?y19⟩) hHeld ?r19
          case y19 => (intro w hSw; obtain ⟨hSp, cS⟩ := hSw; have e0 := hSp.cell (i := 0) rfl; have e1 := hSp.cell (i := 1) rfl; have e2 := hSp.cell (i := 2) rfl; have e3 := hSp.cell (i := 3) rfl; have e4 := hSp.cell (i := 4) rfl; clear hSp; go_simp; try with_reducible rfl)
          simp only [List.getElem_toArray, List.getElem_cons_zero, List.getElem_cons_succ, Act.put, List.setIfInBounds_toArray, List.set_cons_zero, List.set_cons_succ]
          refine wpAnyH_take (i := 7) (v := ?v20) rfl (by kernel_rfl) (by kernel_rfl) (by kernel_rfl) (fun _ _ _ h => h) (Or.inl ⟨by rfl, ?y20⟩) hHeld ?r20
          case y20 => (intro w hSw; obtain ⟨hSp, cS⟩ := hSw; have e0 := hSp.cell (i := 0) rfl; have e1 := hSp.cell (i := 1) rfl; have e2 := hSp.cell (i := 2) rfl; have e3 := hSp.cell (i := 3) rfl; have e4 := hSp.cell (i := 4) rfl; clear hSp; go_simp; try with_reducible rfl)
          simp only [List.getElem_toArray, List.getElem_cons_zero, List.getElem_cons_succ, Act.put, List.setIfInBounds_toArray, List.set_cons_zero, List.set_cons_succ]
          refine wpAnyH_take (i := 8) (v := ?v21) rfl (by kernel_rfl) (by kernel_rfl) (by kernel_rfl) (fun _ _ _ h => h) (Or.inl ⟨by rfl, ?y21⟩) hHeld ?r21
          case y21 => (intro w hSw; obtain ⟨hSp, cS⟩ := hSw; have e0 := hSp.cell (i := 0) rfl; have e1 := hSp.cell (i := 1) rfl; have e2 := hSp.cell (i := 2) rfl; have e3 := hSp.cell (i := 3) rfl; have e4 := hSp.cell (i := 4) rfl; clear hSp; go_simp; try with_reducible rfl)
          simp only [List.getElem_toArray, List.getElem_cons_zero, List.getElem_cons_succ, Act.put, List.setIfInBounds_toArray, List.set_cons_zero, List.set_cons_succ]
          refine wpAnyH_take (i := 9) (v := ?v22) rfl (by kernel_rfl) (by kernel_rfl) (by kernel_rfl) (fun _ _ _ h => h) (Or.inl ⟨by rfl, ?y22⟩) hHeld ?r22
          case y22 => (intro w hSw; obtain ⟨hSp, cS⟩ := hSw; have e0 := hSp.cell (i := 0) rfl; have e1 := hSp.cell (i := 1) rfl; have e2 := hSp.cell (i := 2) rfl; have e3 := hSp.cell (i := 3) rfl; have e4 := hSp.cell (i := 4) rfl; clear hSp; go_simp; try with_reducible rfl)
          simp only [List.getElem_toArray, List.getElem_cons_zero, List.getElem_cons_succ, Act.put, List.setIfInBounds_toArray, List.set_cons_zero, List.set_cons_succ]
          refine wpAnyH_done (by kernel_rfl) ?_ _
          clear hHeld HF Hnew
          have cop2 := HG.out.1.op hk3
          rw [HX.out] at cop2
          have cf2 := HG.out.1.ops.frozen k
          go_wp2_with fail
          go_meet
          obtain ⟨hM2, hO2, f1, f2⟩ := HG.out
          refine ⟨_, o, g, st0 4, upd_self _ _ _, on_new HI.out.1 hk3 HX.out (wf0 (by rw [(HR.out k hk3).1]; exact Hnw.out) (HR.out k hk3).2.us), hM2.put HD.out hk3 (some (o, g, st0 4)) (fun _ _ _ c => by cases c; exact ⟨hO2, f1.1, f1.2⟩) (fun _ _ _ j o' g' x' c hj hX' => by
            cases c
            exact f2 j o' g' x' hX')⟩
      case rest =>
        obtain ⟨X1, o, g, x, hX, hI1, hM1⟩ := hcut
        obtain ⟨n1, n2, d1, d2, hm⟩ := Hb.out
        obtain ⟨_, _, t0, t1⟩ := HI.out
        clear HI Hpp cop
        obtain ⟨ho1, hwf, p0, p1, _, _⟩ := hI1.each k _ _ _ hX
        obtain ⟨hOp, ⟨f1, f2, f3, f4, f5, f6⟩, ⟨g1, g2', g3, g4, g5, g6⟩⟩ := hM1.each k _ _ _ hX
        have hRk := (HR.out k hk3).1
        have hres := on_step n1 (by omega) d1 d2 (by omega) hI1 hk3 hX hRk hM1.bank.rng
        have hzl := hI1.len
        have hDq := hI1.few
        have hnd : n * d ≤ 6 * 16 := Nat.mul_le_mul n2 d2
        have hlen2 := len_stp (spS n d) (R k).2.2 zs x
        obtain ⟨_, s2, s3⟩ := steps_stp (spS n d) (R k).2.2 zs x
        have Hst : Hid (∀ W, OpAt W o g (spS n d) (R k).2.2 x → Bk W b bg zs t → Calls Try.prog 18 #[.pointer (some ⟨o, 0, none⟩), .pointer (some ⟨b, 0, none⟩)] W (StepPost o g b bg (spS n d) (R k).2.2 (stp (spS n d) (R k).2.2 zs x) t W)) :=
          Lib.hid (fun W hO hK => step_any hO hK f1 f2 g1 g2' hwf t0 (by omega) p0 (by omega))
        have Hwf2 := Lib.hid (wf_stp hwf hM1.bank.rng)
        generalize stp (spS n d) (R k).2.2 zs x = r at *
        have Hres := Lib.hid hres
        have HX := Lib.hid hX
        have HM1 := Lib.hid hM1
        have Hzl : Hid (zs.length = 2 + n * d ∧ zs.length ≤ 98 ∧ r.2.1.length = zs.length) := Lib.hid ⟨hzl, by omega, hlen2⟩
        have Ht : Hid (0 ≤ t + r.2.2 ∧ t + r.2.2 ≤ q + 1) := Lib.hid (by omega)
        have D1 : (D : Int) ≤ 300 := by omega
        have D0 : 0 ≤ (D : Int) := by omega
        have HI1 := Lib.hid hI1
        clear hres hX hM1 hI1 hzl hlen2 s2 s3 t0 t1 ho1 hwf p0 p1 hOp hDq f1 f2 f3 f4 f5 f6 g1 g2' g3 g4 g5 g6 hnd n1 n2 d1 d2 hm hRk
        go_wp2_with fail
        refine (clone_any b bg zs t _ HM1.out.bank (by have := Hzl.out; omega)).mono ?_
        rintro e W1 ⟨b2, g2, hb2, hg2, rfl, hK2, hu1⟩
        have HM2 := Lib.hid (And.intro (HM1.out.low hu1) hK2)
        have cop1 := HM2.out.1.op hk3
        rw [HX.out] at cop1
        have hap : b2 ≠ o ∧ g2 ≠ o ∧ b2 ≠ b ∧ b2 ≠ bg ∧ g2 ≠ b ∧ g2 ≠ bg := by
          have l1 := HM1.out.bank.ltb
          have l2 := HM1.out.bank.ltg
          have l3 := (HM1.out.each k _ _ _ HX.out).1.lto
          omega
        have Hap := Lib.hid hap
        have Hst2 := Lib.hid (Hst.out W1 (HM2.out.1.each k _ _ _ HX.out).1 HM2.out.1.bank)
        clear hb2 hg2 hK2 hu1 HM1 hap Hst
        change W1.cell? ⟨ob, k, none⟩ = some (.pointer (some ⟨o, 0, none⟩)) at cop1
        go_wp2_with fail
        refine Hst2.out.mono ?_
        rintro e W3 ⟨rfl, hO3, hK3, hu3⟩
        have HM3 : Hid (OnMem w b bg sp ob w.heap.size n d (upd X1 k (some (o, g, r.1))) R r.2.1 (t + r.2.2) W3 ∧ Bk W3 b2 g2 zs t) := Lib.hid (by
          obtain ⟨a1, a2, a3, a4, a5, a6⟩ := Hap.out
          have nO : ∀ q, q ≠ o → q ≠ b → q ≠ bg → ¬ OwnS o b bg q := fun q c1 c2 c3 c => by rcases c with c | c | c <;> contradiction
          exact ⟨HM2.out.1.step HD.out hk3 HX.out hu3 hO3 hK3, HM2.out.2.upd hu3 (nO _ a1 a3 a4) (nO _ a2 a5 a6)⟩)
        clear Hst2 hO3 hK3 hu3 HM2 cop1 Hap
        obtain ⟨sv, hsv⟩ : ∃ sv, r.2.1[1]? = some sv := ⟨_, List.getElem?_eq_getElem (by have := Hzl.out; omega)⟩
        have Hsv := Lib.hid hsv
        obtain ⟨sv0, sv1⟩ := HM3.out.1.bank.rngAt hsv
        clear hsv
        generalize t + r.2.2 = t3 at *
        go_wp2_with fail
        refine (peek_in b bg _ _ sv 1 _ HM3.out.1.bank Hsv.out).mono ?_
        rintro e W4 ⟨rfl, _, hu4⟩
        have hM4 := HM3.out.1.low hu4
        have hK4 := HM3.out.2.below hu4
        clear HM3 hu4
        go_wp2_with fail
        go_loopw [21, 22] (fun tv i wr => OnRel2 w b bg sp ob w.heap.size b2 g2 n d (upd X1 k (some (o, g, r.1))) R r.2.1 zs t3 t tv i wr) (fun _ i _ => r.2.1.length - (intOf i).toNat)
        case atStart => exact ⟨false, 2, rfl, rfl, by omega, by have := Hzl.out; omega, fun _ => rfl, hM4, hK4⟩
        case round =>
          clear hM4 hK4
          obtain ⟨c, j, rfl, rfl, hj2, hjl, hc, hM, hK⟩ := hrel
          have HM := Lib.hid (And.intro hM hK)
          have Hc := Lib.hid hc
          obtain ⟨zl1, zl2, zl3⟩ := Hzl.out
          clear hM hK hc
          have jb : (j : Int) ≤ 98 := by omega
          have jc : (2 : Int) ≤ j := by omega
          by_cases hlt2 : (j : Int) < r.2.1.length
          · have e1 : r.2.1[j]? = some (r.2.1[j]'(by omega)) := List.getElem?_eq_getElem _
            have e2 : zs[j]? = some (zs[j]'(by omega)) := List.getElem?_eq_getElem _
            generalize r.2.1[j]'(by omega) = v1 at *
            generalize zs[j]'(by omega) = v2 at *
            have He := Lib.hid (And.intro e1 e2)
            have Hj := Lib.hid (show j + 1 ≤ r.2.1.length by omega)
            clear e1 e2 zl1 zl2 zl3 hjl
            cases c with
            | true =>
              go_wp2_with fail
              refine (len_any b bg _ _ _ HM.out.1.bank).mono ?_
              rintro e w' ⟨rfl, rfl⟩
              go_wp2_with fail
              go_roundw
              case rel => exact ⟨true, j + 1, rfl, by go_num, by omega, Hj.out, fun h => Hc.out h, HM.out.1, HM.out.2⟩
              case measure => simp [intOf]; have := Hj.out; omega
            | false =>
              go_wp2_with fail
              refine (len_any b bg _ _ _ HM.out.1.bank).mono ?_
              rintro e w' ⟨rfl, rfl⟩
              go_wp2_with fail
              refine (peek_in b bg _ _ v1 j _ HM.out.1.bank He.out.1).mono ?_
              rintro e W5 ⟨rfl, _, hu5⟩
              have HM5 := Lib.hid (And.intro (HM.out.1.low hu5) (HM.out.2.below hu5))
              clear hu5 HM
              go_wp2_with fail
              refine (peek_in b2 g2 _ _ v2 j _ HM5.out.2 He.out.2).mono ?_
              rintro e W6 ⟨rfl, _, hu6⟩
              have HM6 := Lib.hid (And.intro (HM5.out.1.low hu6) (HM5.out.2.below hu6))
              clear hu6 HM5
              go_wp2_with fail
              go_roundw
              case rel => exact ⟨_, j + 1, rfl, by go_num, by omega, Hj.out, fun h => by
                have := h j hj2
                rw [He.out.1, He.out.2] at this
                cases this
                simp, HM6.out.1, HM6.out.2⟩
              case measure => simp [intOf]; have := Hj.out; omega
          · obtain rfl : j = r.2.1.length := by omega
            have HM' := Lib.hid HM.out.1
            have cop2 := HM.out.1.op hk3
            rw [upd_self] at cop2
            change _ = some (Value.pointer (some ⟨o, 0, none⟩)) at cop2
            have cf2 := HM.out.1.ops.frozen k
            have Hq := Lib.hid (show q + 1 ≤ ps.length by omega)
            have Hll : Hid (∀ P : Int → Prop, P (r.2.1.length : Int) → P (r.2.1.length : Int)) := Lib.hid (fun _ h => h)
            clear zl1 zl2 zl3 hjl hj2 jb jc hlt2 HM
            have HGen := Lib.hid (gen_any (HM'.out.each k _ _ _ (upd_self _ _ _)).1 Hwf2.out.s)
            rcases Hres.out with ⟨z1, z2, z3, z4⟩ | ⟨z1, z2, z3, z4⟩ | ⟨z1, z2, z3, z4, z5⟩ | ⟨z1, z2, z3, z4⟩ | ⟨z1, z2, z3, z4, z5, z6, z7⟩
            · obtain rfl : c = false := Hc.out (fun j hj => by rw [z3])
              rw [z1]
              rw [if_neg (by rw [z1]; omega)] at HGen
              rw [z3] at Hsv
              have HZ := Lib.hid (And.intro z3 z4)
              rcases z4.hold with ⟨rfl, q1⟩ | ⟨h', h3, rfl, q1, _⟩
              · obtain rfl : 2 * (D : Int) = sv := by have := Hsv.out; rw [q1] at this; cases this; rfl
                have m1 : ((2 * (D : Int)) % 2 == 1) = false := by simp; try omega
                have m2 : ¬ (2 * (D : Int)) % 2 = 1 := by omega
                clear z1 z2 z3 z4 q1
                go_wp2_with fail
                refine (len_any b bg _ _ _ HM'.out.bank).mono ?_
                rintro e w' ⟨rfl, rfl⟩
                go_wp2_with fail
                refine HGen.out.mono ?_
                rintro e w' ⟨rfl, rfl⟩
                go_wp2_with fail
                go_roundw
                case rel => exact ⟨D, _, q + 1, _, _, t3, by go_num, rfl, by go_num, Hq.out, HZ.out.2, (by have := HM'.out; rw [HZ.out.1] at this; exact this), Ht.out.1, by have := Ht.out.2; omega⟩
                case measure => simp [intOf]; omega
              · obtain rfl : 2 * (D : Int) + 1 = sv := by have := Hsv.out; rw [q1] at this; cases this; rfl
                have m1 : ((2 * (D : Int) + 1) % 2 == 1) = true := by simp; try omega
                have m2 : (2 * (D : Int) + 1) % 2 = 1 := by omega
                clear z1 z2 z3 z4 q1
                have m3 : 0 ≤ (h' : Int) := by omega
                have m4 : decide ((h' : Int) < 0) = false := by simp
                go_wp2_with fail
                refine (len_any b bg _ _ _ HM'.out.bank).mono ?_
                rintro e w' ⟨rfl, rfl⟩
                go_wp2_with fail
                refine HGen.out.mono ?_
                rintro e w' ⟨rfl, rfl⟩
                go_wp2_with fail
                go_roundw
                case rel => exact ⟨D, _, q + 1, _, _, t3, by go_num, rfl, by go_num, Hq.out, HZ.out.2, (by have := HM'.out; rw [HZ.out.1] at this; exact this), Ht.out.1, by have := Ht.out.2; omega⟩
                case measure => simp [intOf]; omega
            · obtain rfl : c = false := Hc.out (fun j hj => by rw [z3])
              rw [z1]
              rw [if_neg (by rw [z1]; omega)] at HGen
              rw [z3] at Hsv
              have HZ := Lib.hid (And.intro z3 z4)
              rcases z4.hold with ⟨rfl, q1⟩ | ⟨h', h3, rfl, q1, _⟩
              · obtain rfl : 2 * (D : Int) = sv := by have := Hsv.out; rw [q1] at this; cases this; rfl
                have m1 : ((2 * (D : Int)) % 2 == 1) = false := by simp; try omega
                have m2 : ¬ (2 * (D : Int)) % 2 = 1 := by omega
                clear z1 z2 z3 z4 q1
                go_wp2_with fail
                refine (len_any b bg _ _ _ HM'.out.bank).mono ?_
                rintro e w' ⟨rfl, rfl⟩
                go_wp2_with fail
                go_roundw
                case rel => exact ⟨D, _, q + 1, _, _, t3, by go_num, rfl, by go_num, Hq.out, HZ.out.2, (by have := HM'.out.drop HD.out hk3; rw [HZ.out.1, upd_upd] at this; exact this), Ht.out.1, by have := Ht.out.2; omega⟩
                case measure => simp [intOf]; omega
              · obtain rfl : 2 * (D : Int) + 1 = sv := by have := Hsv.out; rw [q1] at this; cases this; rfl
                have m1 : ((2 * (D : Int) + 1) % 2 == 1) = true := by simp; try omega
                have m2 : (2 * (D : Int) + 1) % 2 = 1 := by omega
                clear z1 z2 z3 z4 q1
                have m3 : 0 ≤ (h' : Int) := by omega
                have m4 : decide ((h' : Int) < 0) = false := by simp
                go_wp2_with fail
                refine (len_any b bg _ _ _ HM'.out.bank).mono ?_
                rintro e w' ⟨rfl, rfl⟩
                go_wp2_with fail
                go_roundw
                case rel => exact ⟨D, _, q + 1, _, _, t3, by go_num, rfl, by go_num, Hq.out, HZ.out.2, (by have := HM'.out.drop HD.out hk3; rw [HZ.out.1, upd_upd] at this; exact this), Ht.out.1, by have := Ht.out.2; omega⟩
                case measure => simp [intOf]; omega
            · subst z2
              obtain rfl : c = false := Hc.out z3
              obtain rfl : 2 * (D : Int) + 1 = sv := by have := Hsv.out; rw [z4] at this; cases this; rfl
              rw [z1]
              rw [if_neg (by rw [z1]; omega)] at HGen
              have m1 : ((2 * (D : Int) + 1) % 2 == 1) = true := by simp; try omega
              have m2 : (2 * (D : Int) + 1) % 2 = 1 := by omega
              have HZ := Lib.hid z5
              have m4 : decide ((k : Int) < 0) = false := by simp
              clear z1 z3 z4 z5
              go_wp2_with fail
              refine (len_any b bg _ _ _ HM'.out.bank).mono ?_
              rintro e w' ⟨rfl, rfl⟩
              go_wp2_with fail
              refine HGen.out.mono ?_
              rintro e w' ⟨rfl, rfl⟩
              go_wp2_with fail
              go_roundw
              case rel => exact ⟨D, _, q + 1, _, _, t3, by go_num, rfl, by go_num, Hq.out, HZ.out, HM'.out, Ht.out.1, by have := Ht.out.2; omega⟩
              case measure => simp [intOf]; omega
            · subst z2
              obtain rfl : 2 * (D : Int) + 1 = sv := by have := Hsv.out; rw [z3] at this; cases this; rfl
              rw [z1]
              rw [if_neg (by rw [z1]; omega)] at HGen
              have m1 : ((2 * (D : Int) + 1) % 2 == 1) = true := by simp; try omega
              have m2 : (2 * (D : Int) + 1) % 2 = 1 := by omega
              have HZ := Lib.hid z4
              have m5 : ((k : Int) != k) = false := by simp
              have m4 : decide ((k : Int) < 0) = false := by simp
              clear z1 z3 z4
              cases c
              all_goals
                go_wp2_with fail
                refine (len_any b bg _ _ _ HM'.out.bank).mono ?_
                rintro e w' ⟨rfl, rfl⟩
                go_wp2_with fail
                refine HGen.out.mono ?_
                rintro e w' ⟨rfl, rfl⟩
                go_wp2_with fail
                go_roundw
                case rel => exact ⟨D, _, q + 1, _, _, t3, by go_num, rfl, by go_num, Hq.out, HZ.out, HM'.out, Ht.out.1, by have := Ht.out.2; omega⟩
                case measure => simp [intOf]; omega
            · subst z2
              obtain rfl : c = false := Hc.out z3
              obtain rfl : 2 * (D : Int) + 2 = sv := by have := Hsv.out; rw [z4] at this; cases this; rfl
              rw [z1]
              rw [if_pos z1, z5, show 2 * (D : Int) / 2 + 1 = D + 1 by omega] at HGen
              have m1 : ((2 * (D : Int) + 2) % 2 == 1) = false := by simp; try omega
              have m2 : ¬ (2 * (D : Int) + 2) % 2 = 1 := by omega
              have HZ := Lib.hid (And.intro z6 z7)
              have m5 : ((k : Int) != k) = false := by simp
              have m4 : decide ((k : Int) < 0) = false := by simp
              have HAt : Hid (∀ W, Calls Try.prog 26 #[.agg #[.int .i64 0, .int .i64 1, .int .i64 2, .int .i64 n, .int .i64 d], .int .u64 ((D : Int) + 1)] W (Ret (.int .i64 (plc n d D : Int)) W)) := Lib.hid (fun W => by
                have := at_any 0 1 2 n d ((D : Int) + 1) W (by omega) (by omega)
                rw [plc_at Hb.out.1 (by have := Hb.out.2.1; omega) Hb.out.2.2.1 Hb.out.2.2.2.1] at this
                exact this)
              have hpi := plc_in (n := n) (d := d) (k := D) Hb.out.2.2.1
              have A0 : (0 : Int) ≤ (plc n d D : Int) := by omega
              have A1 : ((plc n d D : Int)) ≤ 98 := by have := Hzl.out; omega
              have m6 : ((2 * (D : Int) + 2) != 2 * ((D : Int) + 1)) = false := by simp; omega
              have m7 : (((D : Int) + 1) != ((D : Int) + 1)) = false := by simp
              clear z1 z3 z4 z5 z6 z7 hpi
              generalize plc n d D = A at *
              go_wp2_with fail
              refine (len_any b bg _ _ _ HM'.out.bank).mono ?_
              rintro e w' ⟨rfl, rfl⟩
              go_wp2_with fail
              refine HGen.out.mono ?_
              rintro e w' ⟨rfl, rfl⟩
              go_wp2_with fail
              refine (peek_in b bg _ _ _ 1 _ HM'.out.bank Hsv.out).mono ?_
              rintro e V2 ⟨rfl, _, hu2⟩
              have HM2 := Lib.hid (HM'.out.low hu2)
              have hSp := HM2.out.spot
              have e0 := hSp.cell (i := 0) rfl
              have e1 := hSp.cell (i := 1) rfl
              have e2 := hSp.cell (i := 2) rfl
              have e3 := hSp.cell (i := 3) rfl
              have e4 := hSp.cell (i := 4) rfl
              clear hSp hu2 HM' HGen cop2 cf2
              go_wp2_with fail
              refine (HAt.out _).mono ?_
              rintro e V3 ⟨rfl, hu3⟩
              clear e0 e1 e2 e3 e4 HAt
              have hM3 := HM2.out.low hu3
              clear HM2 hu3
              go_wp2_with fail
              go_loopw [24] (fun i wr => OnRel3 w b bg sp ob w.heap.size n d (upd X1 k (some (o, g, r.1))) R r.2.1 t3 i wr) (fun i _ => n - (intOf i).toNat)
              case atStart => exact ⟨0, rfl, by omega, hM3⟩
              case round =>
                clear hM3
                obtain ⟨j, rfl, hjn, hM⟩ := hrel
                have HM' := Lib.hid hM
                by_cases hlt3 : (j : Int) < n
                · have hz := HZ.out.1 j (by omega)
                  have hlen := (HR.out k hk3).1
                  have hwj : (R k).2.2[j]? = some ((R k).2.2[j]'(by omega)) := List.getElem?_eq_getElem _
                  generalize (R k).2.2[j]'(by omega) = wv at *
                  obtain ⟨_, rb, roff, re, rlt, cw⟩ := ((HR.out k hk3).2.keep hM.bel) j _ hwj
                  have crow := hM.row hk3
                  unfold rwv at crow
                  rw [hlen, re] at crow
                  have Hz := Lib.hid (hz.trans hwj)
                  have HS : Hid (TwC ⟨w.heap.size, k, none⟩ (.slice (some ⟨rb, roff, none⟩) n (R k).2.1) ⟨rb, roff + j, none⟩ (.int .u64 wv) wr.drew) := Lib.hid ⟨crow, cw⟩
                  have HMd := Lib.hid hM.drew
                  have hw := wrap_add3 A j A1 (by omega)
                  have j6 : (j : Int) ≤ 6 := by omega
                  clear hM HM' hz hlen hwj re rlt cw crow
                  generalize (R k).2.1 = rcap at *
                  go_wp2_with fail
                  refine wp_region_held_drew (S := TwC ⟨w.heap.size, k, none⟩ (.slice (some ⟨rb, roff, none⟩) n rcap) ⟨rb, roff + j, none⟩ (.int .u64 wv)) (by kernel_rfl) (HS.out) (fun hHeld => ?_)
                  refine wpAnyH_take (i := 0) (v := ?v1) rfl (by kernel_rfl) (by kernel_rfl) (by kernel_rfl) (fun _ _ _ h => h) (Or.inl ⟨by rfl, ?y1⟩) hHeld ?r1
                  case y1 => (intro w hSw; obtain ⟨cS, cT⟩ := hSw; go_simp; try with_reducible rfl)
                  simp only [List.getElem_toArray, List.getElem_cons_zero, Act.put, List.setIfInBounds_toArray, List.set_cons_zero, List.set_cons_succ]
                  refine wpAnyH_take (i := 1) (v := ?v2) rfl (by kernel_rfl) (by kernel_rfl) (by kernel_rfl) (fun _ _ _ h => h) (Or.inl ⟨by rfl, ?y2⟩) hHeld ?r2
                  case y2 => (intro w hSw; obtain ⟨cS, cT⟩ := hSw; go_simp; try with_reducible rfl)
                  simp only [List.getElem_toArray, List.getElem_cons_zero, List.getElem_cons_succ, Act.put, List.setIfInBounds_toArray, List.set_cons_zero, List.set_cons_succ]
                  refine wpAnyH_take (i := 2) (v := ?v3) rfl (by kernel_rfl) (by kernel_rfl) (by kernel_rfl) (fun _ _ _ h => h) (Or.inl ⟨by rfl, ?y3⟩) hHeld ?r3
                  case y3 => (intro w hSw; obtain ⟨cS, cT⟩ := hSw; go_simp; try with_reducible rfl)
                  simp only [List.getElem_toArray, List.getElem_cons_zero, List.getElem_cons_succ, Act.put, List.setIfInBounds_toArray, List.set_cons_zero, List.set_cons_succ]
                  refine wpAnyH_take (i := 3) (v := .int .i64 ((A + j : Nat) : Int)) rfl (by kernel_rfl) (by kernel_rfl) (by kernel_rfl) (fun _ _ _ h => h) (Or.inl ⟨by rfl, ?y4⟩) hHeld ?r4
                  case y4 => (intro w hSw; obtain ⟨cS, cT⟩ := hSw; go_simp; try with_reducible rfl)
                  simp only [List.getElem_toArray, List.getElem_cons_zero, List.getElem_cons_succ, Act.put, List.setIfInBounds_toArray, List.set_cons_zero, List.set_cons_succ]
                  refine wpAnyH_take (i := 5) (v := ?v5) rfl (by kernel_rfl) (by kernel_rfl) (by kernel_rfl) (fun _ _ _ h => h) (Or.inl ⟨by rfl, ?y5⟩) hHeld ?r5
                  case y5 => (intro w hSw; obtain ⟨cS, cT⟩ := hSw; go_simp; try with_reducible rfl)
                  simp only [List.getElem_toArray, List.getElem_cons_zero, List.getElem_cons_succ, Act.put, List.setIfInBounds_toArray, List.set_cons_zero, List.set_cons_succ]
                  refine wpAnyH_take (i := 6) (v := ?v6) rfl (by kernel_rfl) (by kernel_rfl) (by kernel_rfl) (fun _ _ _ h => h) (Or.inl ⟨by rfl, ?y6⟩) hHeld ?r6
                  case y6 => (intro w hSw; obtain ⟨cS, cT⟩ := hSw; go_simp; try with_reducible rfl)
                  simp only [List.getElem_toArray, List.getElem_cons_zero, List.getElem_cons_succ, Act.put, List.setIfInBounds_toArray, List.set_cons_zero, List.set_cons_succ]
                  refine wpAnyH_take (i := 7) (v := ?v7) rfl (by kernel_rfl) (by kernel_rfl) (by kernel_rfl) (fun _ _ _ h => h) (Or.inl ⟨by rfl, ?y7⟩) hHeld ?r7
                  case y7 => (intro w hSw; obtain ⟨cS, cT⟩ := hSw; go_simp; try with_reducible rfl)
                  simp only [List.getElem_toArray, List.getElem_cons_zero, List.getElem_cons_succ, Act.put, List.setIfInBounds_toArray, List.set_cons_zero, List.set_cons_succ]
                  refine wpAnyH_take (i := 8) (v := ?v8) rfl (by kernel_rfl) (by kernel_rfl) (by kernel_rfl) (fun _ _ _ h => h) (Or.inl ⟨by rfl, ?y8⟩) hHeld ?r8
                  case y8 => (intro w hSw; obtain ⟨cS, cT⟩ := hSw; go_simp; try with_reducible rfl)
                  simp only [List.getElem_toArray, List.getElem_cons_zero, List.getElem_cons_succ, Act.put, List.setIfInBounds_toArray, List.set_cons_zero, List.set_cons_succ]
                  refine wpAnyH_take (i := 9) (v := ?v9) rfl (by kernel_rfl) (by kernel_rfl) (by kernel_rfl) (fun _ _ _ h => h) (Or.inl ⟨by rfl, ?y9⟩) hHeld ?r9
                  case y9 => (intro w hSw; obtain ⟨cS, cT⟩ := hSw; go_simp; try with_reducible rfl)
                  simp only [List.getElem_toArray, List.getElem_cons_zero, List.getElem_cons_succ, Act.put, List.setIfInBounds_toArray, List.set_cons_zero, List.set_cons_succ]
                  refine wpAnyH_take (i := 10) (v := ?v10) rfl (by kernel_rfl) (by kernel_rfl) (by kernel_rfl) (fun _ _ _ h => h) (Or.inl ⟨by rfl, ?y10⟩) hHeld ?r10
                  case y10 => (intro w hSw; obtain ⟨cS, cT⟩ := hSw; go_simp; try with_reducible rfl)
                  simp only [List.getElem_toArray, List.getElem_cons_zero, List.getElem_cons_succ, Act.put, List.setIfInBounds_toArray, List.set_cons_zero, List.set_cons_succ]
                  refine wpAnyH_ready (rs := [4]) (by kernel_rfl) (by simp) (AllReadyH.cons rfl (fun K hK => ?_) AllReadyH.nil)
                  go_simp
                  refine (peek_in b bg _ _ wv (A + j) _ HMd.out.bank Hz.out).mono ?_
                  rintro e V4 ⟨rfl, _, hu4⟩
                  have HV4 := Lib.hid (HMd.out.low hu4)
                  have HS4 := Lib.hid (show TwC ⟨w.heap.size, k, none⟩ (.slice (some ⟨rb, roff, none⟩) n rcap) ⟨rb, roff + j, none⟩ (.int .u64 wv) V4 from ⟨cell_low hu4 HS.out.1, cell_low hu4 HS.out.2⟩)
                  clear hu4
                  go_wp2_with fail
                  refine hK.out _ _ (HS4.out) (fun hHeld => ?_)
                  clear hK K
                  refine wpAnyH_take (i := 11) (v := ?v12) rfl (by kernel_rfl) (by kernel_rfl) (by kernel_rfl) (fun _ _ _ h => h) (Or.inl ⟨by rfl, ?y12⟩) hHeld ?r12
                  case y12 => (intro w hSw; obtain ⟨cS, cT⟩ := hSw; go_simp; try with_reducible rfl)
                  simp only [List.getElem_toArray, List.getElem_cons_zero, List.getElem_cons_succ, Act.put, List.setIfInBounds_toArray, List.set_cons_zero, List.set_cons_succ]
                  refine wpAnyH_done (by kernel_rfl) ?_ _
                  clear hHeld HMd HS
                  go_wp2_with fail
                  go_roundw
                  case rel => exact ⟨j + 1, by go_num, by omega, HV4.out⟩
                  case measure => simp [intOf]; omega
                · obtain rfl : j = n := by omega
                  have cop3 := HM'.out.op hk3
                  rw [upd_self] at cop3
                  change _ = some (Value.pointer (some ⟨o, 0, none⟩)) at cop3
                  have cf3 := HM'.out.ops.frozen k
                  clear hM
                  go_wp2_with fail
                  go_roundw
                  case rel => exact ⟨D + 1, _, q + 1, _, _, t3, by go_num, rfl, by go_num, Hq.out, HZ.out.2, (by have := HM'.out.drop HD.out hk3; rw [upd_upd] at this; exact this), Ht.out.1, by have := Ht.out.2; omega⟩
                  case measure => simp [intOf]; omega
    · obtain rfl : q = ps.length := by omega
      have HM := Lib.hid hM
      have hdb := hI.few
      obtain ⟨sv, hsv, hs2⟩ : ∃ sv : Int, zs[1]? = some sv ∧ sv / 2 = (D : Int) := by
        rcases hI.hold with ⟨_, q1⟩ | ⟨_, _, _, q1, _⟩
        · exact ⟨_, q1, by omega⟩
        · exact ⟨_, q1, by omega⟩
      obtain ⟨v0, v1⟩ := hM.bank.rngAt hsv
      have Hsv := Lib.hid hsv
      have ms : (sv / 2 == (D : Int)) = true := by simp [hs2]
      clear hI hM t0 t1 hsv hdb
      go_wp2_with fail
      refine (peek_in b bg _ _ sv 1 _ HM.out.bank Hsv.out).mono ?_
      rintro e V2 ⟨rfl, _, hu2⟩
      have HM2 := Lib.hid (HM.out.low hu2).bel
      clear hu2 HM
      go_wp2_with fail
      refine (awake_any _).mono ?_
      rintro e V3 ⟨rfl, hu3⟩
      have HM3 := Lib.hid (HM2.out.trans (hu3.mono HM2.out.size))
      clear hu3 HM2
      go_wp2
      go_ret
      exact ⟨rfl, HM3.out⟩
theorem once_law (R : Nat → Rw) (d : Int) (pa : Option Addr) (ps : List Int) (pc : Nat) (w : World) (hR : ∀ k, k < 3 → Wds w.heap.size w (R k).1 (R k).2.2) (hP : Ids w.heap.size w pa ps) :
    Calls Try.prog 5 #[.agg #[rwv (R 0), rwv (R 1), rwv (R 2)], .int .i64 d, .slice pa ps.length pc] w (True1 w) := by
  by_cases h : 1 ≤ (R 0).2.2.length ∧ (R 0).2.2.length ≤ 6 ∧ (R 1).2.2.length = (R 0).2.2.length ∧ (R 2).2.2.length = (R 0).2.2.length ∧ 2 ≤ d ∧ d ≤ 16 ∧ ps.length ≤ 300
  · obtain ⟨n1, n2, e1, e2, d1, d2, hm⟩ := h
    obtain ⟨e, rfl⟩ := Int.eq_ofNat_of_zero_le (by omega : 0 ≤ d)
    refine once_walk R e pa ps pc w _ (fun k hk => ⟨?_, hR k hk⟩) hP n1 n2 (by omega) (by omega) hm
    match k, hk with
    | 0, _ => rfl
    | 1, _ => exact e1
    | 2, _ => exact e2
  · exact once_bad _ _ _ _ _ _ _ _ _ d pa ps.length pc w h
end Go.Proofs.Ytbfelghfimcenaa
