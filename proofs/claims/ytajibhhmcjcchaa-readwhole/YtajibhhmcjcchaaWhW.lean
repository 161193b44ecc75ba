/- ReadWhole: its walk. -/
import Derived.Test.YtajibhhmcjcchaaWhD
namespace Go.Proofs.Ytajibhhmcjcchaa
open Go.RowKit
set_option maxRecDepth 100000 in
set_option maxHeartbeats 8000000 in
theorem who_walk (lb loff : Nat) (rs : List Rw) (cap d tr : Nat) (pa : Option Addr) (ps : List Int) (pc : Nat) (w : World) (hR : Rws w.heap.size w (some ⟨lb, loff, none⟩) rs) (hP : Ids w.heap.size w pa ps) (h1 : 1 ≤ rs.length) (h2 : rs.length ≤ 40) (r0 : Rw) (hr0 : rs[0]? = some r0) (n : Nat) (hn : r0.2.2.length = n) (n1 : 1 ≤ n) (n2 : n ≤ 6) (d1 : 2 ≤ d) (d2 : d ≤ 16) (t1 : 1 ≤ tr) (t2 : tr ≤ 16) (hm : ps.length ≤ 400) :
    Calls Try.prog 5 #[.slice (some ⟨lb, loff, none⟩) rs.length cap, .agg #[.int .i64 (d : Int), .int .i64 (tr : Int)], .slice pa ps.length pc] w (True1 w) := by
  have HR := Lib.hid hR
  have HP := Lib.hid hP
  have Hr0 : Hid (∀ W, Below w.heap.size w W → W.cell? ⟨lb, loff, none⟩ = some (.slice r0.1 n r0.2.1)) := Lib.hid (fun W hW => by
    obtain ⟨_, b', off', e, _, hc⟩ := (hR.keep hW) 0 r0 hr0
    cases e
    rw [hn] at hc
    exact hc)
  have Hrt : Rt (spS n d) := by unfold Rt spS; simp only; omega
  have Hnw : Hid (nwE (spS n d) n 16 = 0) := Lib.hid (by
    unfold nwE
    rw [if_pos ((mb_iff _ _).2 ⟨Hrt, by omega, by omega⟩), if_pos (show (n : Int) = (spS n d).wd from rfl)])
  have Hmb := Lib.hid ((mb_iff (spS n d) tr).2 ⟨Hrt, by omega, by omega⟩)
  have Hs := Lib.hid (fun w => spot_ok n d n1 (by omega) d1 d2 w)
  have Hmk : Hid (∀ w : World, (Instr.makeSlice 42 (.int .i64 (n : Int)) (.int .i64 (n : Int))).run Try.prog w = .ok (.slice (some ⟨w.heap.size, 0, none⟩) n n) (w.alloc (.cells (zeros n) 43))) := Lib.hid (fun w => by
    have := make_u64 n n (by omega) (Int.le_refl _) (by omega) w
    rw [Int.toNat_natCast] at this
    exact this)
  have k1 : 1 ≤ (rs.length : Int) := by omega
  have k2 : (rs.length : Int) ≤ 40 := by omega
  have k0 : (0 : Int) < rs.length := by omega
  have k3 : 1 ≤ (n : Int) := by omega
  have k4 : (n : Int) ≤ 6 := by omega
  have k5 : 2 ≤ (d : Int) := by omega
  have k6 : (d : Int) ≤ 16 := by omega
  have k7 : 1 ≤ (tr : Int) := by omega
  have k8 : (tr : Int) ≤ 16 := by omega
  have k9 : (ps.length : Int) ≤ 400 := by omega
  have Hb := Lib.hid (And.intro n1 (And.intro n2 (And.intro d1 (And.intro d2 (And.intro t1 (And.intro t2 (And.intro h1 (And.intro h2 hm))))))))
  have hbl := (Below.refl w.heap.size w).alloc (Nat.le_refl _) (bx2 d tr)
  have hC := Blk.new w #[.int .i64 (d : Int), .int .i64 (tr : Int)] 66
  have H0 := Lib.hid (And.intro hC hbl)
  have x0 := hC.cell (i := 0) rfl
  have x1 := hC.cell (i := 1) rfl
  have c0 := Hr0.out _ hbl
  clear hR hP h1 h2 hr0 hn n1 n2 d1 d2 t1 t2 hm Hrt hbl hC
  generalize r0.1 = a0 at *
  generalize r0.2.1 = cap0 at *
  clear r0
  go_enter Try.func5, Try.ntmps5
  go_wp2_with fail
  clear c0 x0 x1
  generalize w.alloc (bx2 d tr) = w0 at H0 ⊢
  obtain ⟨xb, hxb⟩ : ∃ xb, w.heap.size = xb := ⟨_, rfl⟩
  have Hxb := Lib.hid hxb
  rw [hxb] at H0 ⊢
  clear hxb
  go_loopw [7] (fun i wr => WhRel1 w xb n d tr rs i wr) (fun i _ => rs.length - (intOf i).toNat)
  case atStart => exact ⟨0, rfl, by omega, fun j r hj _ => by omega, H0.out.1, by rw [Hxb.out]; exact H0.out.2⟩
  case round =>
    obtain ⟨k, rfl, hkm, hlen, hX, hM⟩ := hrel
    have HM := Lib.hid (And.intro hlen (And.intro hX hM))
    clear hlen hX hM
    by_cases hlt : (k : Int) < rs.length
    · have hkk : k < rs.length := by omega
      obtain ⟨_, lb', loff', e, llt, cr⟩ := (HR.out.keep HM.out.2.2) k _ (List.getElem?_eq_getElem hkk)
      cases e
      have Hrk : Hid (rs[k]? = some rs[k]) := Lib.hid (List.getElem?_eq_getElem hkk)
      generalize rs[k] = r at *
      obtain ⟨ra, rcap, ws⟩ := r
      dsimp only at cr
      have c0 := Hr0.out wr HM.out.2.2
      go_wp2_with fail
      go_quiet (fail)
      by_cases hwn : ws.length = n
      · subst hwn
        have m0 : ((ws.length : Int) != ws.length) = false := by simp
        go_wp2_with fail
        go_roundw
        case rel => exact ⟨k + 1, by go_num, by omega, fun j r hj hr => by
          by_cases c : j = k
          · subst c
            have h := hr.symm.trans Hrk.out
            cases h
            rfl
          · exact HM.out.1 j r (by omega) hr, blkN HM.out.2.1 _, belN HM.out.2.2 _⟩
        case measure => simp [intOf]; omega
      · have m0 : ((ws.length : Int) != n) = true := by simp; omega
        clear cr c0
        go_wp2_with fail
        refine (awake_any _).mono ?_
        rintro e w3 ⟨rfl, hu3⟩
        have H3 := Lib.hid ((belN HM.out.2.2 nq).trans (hu3.mono (belN HM.out.2.2 nq).size))
        clear hu3
        go_wp2
        go_ret
        exact ⟨rfl, H3.out⟩
    · obtain rfl : k = rs.length := by omega
      have HL : Hid (∀ (j : Nat) (r : Rw), rs[j]? = some r → r.2.2.length = n) := Lib.hid (fun j r hr => HM.out.1 j r (List.getElem?_eq_some_iff.1 hr).1 hr)
      have HX := Lib.hid HM.out.2
      clear HM
      go_upto_region 8 with fail
      have HS8 := Lib.hid (show SA lb loff xb n cap0 a0 d wr.drew from ⟨Hr0.out wr HX.out.2, HX.out.1.cell (i := 0) rfl⟩)
      have Hxl : Hid (xb < wr.heap.size ∧ w.heap.size ≤ xb ∧ w.heap.size ≤ wr.heap.size) := Lib.hid ⟨HX.out.1.lt, by rw [Hxb.out]; exact Nat.le_refl _, HX.out.2.size⟩
      go_cut [8, 9, 10] (fun s8 s9 s10 wx => ∃ b bg sp, s8 = .pointer (some ⟨sp, 0, none⟩) ∧ s9 = .pointer (some ⟨b, 0, none⟩) ∧ s10 = .bool true ∧ Wh8 w b bg sp xb n d tr wx)
      case first =>
        as_aux_lemma =>
          refine wp_region_held_drew (S := SA lb loff xb n cap0 a0 d) (by kernel_rfl) (HS8.out) (fun hHeld => ?_)
          refine wpAnyH_take (i := 0) (v := ?v65) rfl (by kernel_rfl) (by kernel_rfl) (by kernel_rfl) (fun _ _ _ h => h) (Or.inl ⟨by rfl, ?y65⟩) hHeld ?r65
          case y65 => (intro w hSw; obtain ⟨q0, q1⟩ := hSw; go_simp; try with_reducible rfl)
          simp only [List.getElem_toArray, List.getElem_cons_zero, Act.put, List.setIfInBounds_toArray, List.set_cons_zero, List.set_cons_succ]
          refine wpAnyH_take (i := 1) (v := ?v66) rfl (by kernel_rfl) (by kernel_rfl) (by kernel_rfl) (fun _ _ _ h => h) (Or.inl ⟨by rfl, ?y66⟩) hHeld ?r66
          case y66 => (intro w hSw; obtain ⟨q0, q1⟩ := hSw; go_simp; try with_reducible rfl)
          simp only [List.getElem_toArray, List.getElem_cons_zero, List.getElem_cons_succ, Act.put, List.setIfInBounds_toArray, List.set_cons_zero, List.set_cons_succ]
          refine wpAnyH_take (i := 2) (v := ?v67) rfl (by kernel_rfl) (by kernel_rfl) (by kernel_rfl) (fun _ _ _ h => h) (Or.inl ⟨by rfl, ?y67⟩) hHeld ?r67
          case y67 => (intro w hSw; obtain ⟨q0, q1⟩ := hSw; go_simp; try with_reducible rfl)
          simp only [List.getElem_toArray, List.getElem_cons_zero, List.getElem_cons_succ, Act.put, List.setIfInBounds_toArray, List.set_cons_zero, List.set_cons_succ]
          refine wpAnyH_take (i := 3) (v := ?v68) rfl (by kernel_rfl) (by kernel_rfl) (by kernel_rfl) (fun _ _ _ h => h) (Or.inl ⟨by rfl, ?y68⟩) hHeld ?r68
          case y68 => (intro w hSw; obtain ⟨q0, q1⟩ := hSw; go_simp; try with_reducible rfl)
          simp only [List.getElem_toArray, List.getElem_cons_zero, List.getElem_cons_succ, Act.put, List.setIfInBounds_toArray, List.set_cons_zero, List.set_cons_succ]
          refine wpAnyH_take (i := 4) (v := ?v69) rfl (by kernel_rfl) (by kernel_rfl) (by kernel_rfl) (fun _ _ _ h => h) (Or.inl ⟨by rfl, ?y69⟩) hHeld ?r69
          case y69 => (intro w hSw; obtain ⟨q0, q1⟩ := hSw; go_simp; try with_reducible rfl)
          simp only [List.getElem_toArray, List.getElem_cons_zero, List.getElem_cons_succ, Act.put, List.setIfInBounds_toArray, List.set_cons_zero, List.set_cons_succ]
          refine wpAnyH_take (i := 5) (v := ?v70) rfl (by kernel_rfl) (by kernel_rfl) (by kernel_rfl) (fun _ _ _ h => h) (Or.inl ⟨by rfl, ?y70⟩) hHeld ?r70
          case y70 => (intro w hSw; obtain ⟨q0, q1⟩ := hSw; go_simp; try with_reducible rfl)
          simp only [List.getElem_toArray, List.getElem_cons_zero, List.getElem_cons_succ, Act.put, List.setIfInBounds_toArray, List.set_cons_zero, List.set_cons_succ]
          refine wpAnyH_ready (rs := [6, 11]) (by kernel_rfl) (by simp) (AllReadyH.cons rfl (fun K hK => ?_) (AllReadyH.cons rfl (fun K hK => ?_) AllReadyH.nil))
          · go_simp
            refine (Hs.out _).mono ?_
            rintro e W3 ⟨b, bg, hb, hg, rfl, hK3, hu3⟩
            have H3 := Lib.hid (show SA lb loff xb n cap0 a0 d W3 ∧ Bk W3 b bg (List.replicate (2 + n * d) 0) 0 ∧ Blk W3 xb [.int .i64 (d : Int), .int .i64 (tr : Int)] ∧ Below w.heap.size w W3 ∧ (b ≠ xb ∧ bg ≠ xb ∧ w.heap.size ≤ b ∧ w.heap.size ≤ bg) from by
              obtain ⟨l1, l2, l3⟩ := Hxl.out
              have hb' : wr.heap.size ≤ b := hb
              have hg' : wr.heap.size ≤ bg := hg
              exact ⟨⟨cell_low hu3 HS8.out.1, cell_low hu3 HS8.out.2⟩, hK3, HX.out.1.drew.low hu3, (belN HX.out.2 1).trans (hu3.mono l3), by omega, by omega, by omega, by omega⟩)
            clear hK3 hu3 hb hg
            go_wp2_with fail
            refine hK.out _ _ (H3.out.1) (fun hHeld => ?_)
            clear hK K
            refine wpAnyH_take (i := 7) (v := ?v72) rfl (by kernel_rfl) (by kernel_rfl) (by kernel_rfl) (fun _ _ _ h => h) (Or.inl ⟨by rfl, ?y72⟩) hHeld ?r72
            case y72 => (intro w hSw; obtain ⟨q0, q1⟩ := hSw; go_simp; try with_reducible rfl)
            simp only [List.getElem_toArray, List.getElem_cons_zero, List.getElem_cons_succ, Act.put, List.setIfInBounds_toArray, List.set_cons_zero, List.set_cons_succ]
            refine wpAnyH_take (i := 8) (v := ?v73) rfl (by kernel_rfl) (by kernel_rfl) (by kernel_rfl) (fun _ _ _ h => h) (Or.inl ⟨by rfl, ?y73⟩) hHeld ?r73
            case y73 => (intro w hSw; obtain ⟨q0, q1⟩ := hSw; go_simp; try with_reducible rfl)
            simp only [List.getElem_toArray, List.getElem_cons_zero, List.getElem_cons_succ, Act.put, List.setIfInBounds_toArray, List.set_cons_zero, List.set_cons_succ]
            refine wpAnyH_take (i := 9) (v := ?v74) rfl (by kernel_rfl) (by kernel_rfl) (by kernel_rfl) (fun _ _ _ h => h) (Or.inl ⟨by rfl, ?y74⟩) hHeld ?r74
            case y74 => (intro w hSw; obtain ⟨q0, q1⟩ := hSw; go_simp; try with_reducible rfl)
            simp only [List.getElem_toArray, List.getElem_cons_zero, List.getElem_cons_succ, Act.put, List.setIfInBounds_toArray, List.set_cons_zero, List.set_cons_succ]
            refine wpAnyH_take (i := 10) (v := ?v75) rfl (by kernel_rfl) (by kernel_rfl) (by kernel_rfl) (fun _ _ _ h => h) (Or.inl ⟨by rfl, ?y75⟩) hHeld ?r75
            case y75 => (intro w hSw; obtain ⟨q0, q1⟩ := hSw; go_simp; try with_reducible rfl)
            simp only [List.getElem_toArray, List.getElem_cons_zero, List.getElem_cons_succ, Act.put, List.setIfInBounds_toArray, List.set_cons_zero, List.set_cons_succ]
            refine wpAnyH_ready (rs := [11]) (by kernel_rfl) (by simp) (AllReadyH.cons rfl (fun K hK => ?_) AllReadyH.nil)
            go_simp
            have hS4 : SA lb loff xb n cap0 a0 d (W3.alloc (.cells #[.int .i64 0, .int .i64 0, .int .i64 0, .int .i64 0, .int .i64 0] 23)) := by
              have hz := (Below.refl W3.heap.size W3).alloc (Nat.le_refl _) (.cells #[.int .i64 0, .int .i64 0, .int .i64 0, .int .i64 0, .int .i64 0] 23)
              exact ⟨cell_low hz H3.out.1.1, cell_low hz H3.out.1.2⟩
            refine hK.out _ _ (hS4) (fun hHeld => ?_)
            clear hK K
            refine wpAnyH_ready (rs := [12]) (by kernel_rfl) (by simp) (AllReadyH.cons rfl (fun K hK => ?_) AllReadyH.nil)
            go_simp
            go_wp2_with fail
            have hS5 : SA lb loff xb n cap0 a0 d (W3.alloc (bs n d)) := by
              have hz := (Below.refl W3.heap.size W3).alloc (Nat.le_refl _) (bs n d)
              exact ⟨cell_low hz H3.out.1.1, cell_low hz H3.out.1.2⟩
            refine hK.out _ _ (hS5) (fun hHeld => ?_)
            clear hK K
            refine wpAnyH_take (i := 13) (v := ?v78) rfl (by kernel_rfl) (by kernel_rfl) (by kernel_rfl) (fun _ _ _ h => h) (Or.inl ⟨by rfl, ?y78⟩) hHeld ?r78
            case y78 => (intro w hSw; obtain ⟨q0, q1⟩ := hSw; go_simp; try with_reducible rfl)
            simp only [List.getElem_toArray, List.getElem_cons_zero, List.getElem_cons_succ, Act.put, List.setIfInBounds_toArray, List.set_cons_zero, List.set_cons_succ]
            refine wpAnyH_take (i := 14) (v := ?v79) rfl (by kernel_rfl) (by kernel_rfl) (by kernel_rfl) (fun _ _ _ h => h) (Or.inl ⟨by rfl, ?y79⟩) hHeld ?r79
            case y79 => (intro w hSw; obtain ⟨q0, q1⟩ := hSw; go_simp; try with_reducible rfl)
            simp only [List.getElem_toArray, List.getElem_cons_zero, List.getElem_cons_succ, Act.put, List.setIfInBounds_toArray, List.set_cons_zero, List.set_cons_succ]
            refine wpAnyH_done (by kernel_rfl) ?_ _
            go_wp2_with fail
            go_meet
            obtain ⟨z1, z2, z3, z4, z5, z6, z7, z8⟩ := H3.out
            have l1 := z2.ltb
            have l2 := z2.ltg
            have l3 := z3.lt
            have l4 := z4.size
            exact ⟨b, bg, W3.heap.size, rfl, rfl, rfl, ⟨z2.alloc _, Blk.new W3 #[.int .i64 0, .int .i64 1, .int .i64 2, .int .i64 n, .int .i64 d] 23, z3.alloc _, z4.alloc l4 _, by omega, by omega, z5, z6, by omega, z7, z8, by omega, by have := Hxl.out; omega⟩⟩
          · go_simp
            have hS4 : SA lb loff xb n cap0 a0 d (wr.drew.alloc (.cells #[.int .i64 0, .int .i64 0, .int .i64 0, .int .i64 0, .int .i64 0] 23)) := by
              have hz := (Below.refl wr.drew.heap.size wr.drew).alloc (Nat.le_refl _) (.cells #[.int .i64 0, .int .i64 0, .int .i64 0, .int .i64 0, .int .i64 0] 23)
              exact ⟨cell_low hz HS8.out.1, cell_low hz HS8.out.2⟩
            refine hK.out _ _ (hS4) (fun hHeld => ?_)
            clear hK K
            refine wpAnyH_ready (rs := [6]) (by kernel_rfl) (by simp) (AllReadyH.cons rfl (fun K hK => ?_) AllReadyH.nil)
            go_simp
            refine (Hs.out _).mono ?_
            rintro e W3 ⟨b, bg, hb, hg, rfl, hK3, hu3⟩
            have hN3 : Blk W3 wr.heap.size [.int .i64 0, .int .i64 0, .int .i64 0, .int .i64 0, .int .i64 0] := (Blk.new wr.drew #[.int .i64 0, .int .i64 0, .int .i64 0, .int .i64 0, .int .i64 0] 23).low hu3
            have H3 := Lib.hid (show SA lb loff xb n cap0 a0 d W3 ∧ Bk W3 b bg (List.replicate (2 + n * d) 0) 0 ∧ Blk W3 xb [.int .i64 (d : Int), .int .i64 (tr : Int)] ∧ Below w.heap.size w W3 ∧ (b ≠ xb ∧ bg ≠ xb ∧ w.heap.size ≤ b ∧ w.heap.size ≤ bg ∧ b ≠ wr.heap.size ∧ bg ≠ wr.heap.size) ∧ Blk W3 wr.heap.size [.int .i64 0, .int .i64 0, .int .i64 0, .int .i64 0, .int .i64 0] from by
              obtain ⟨l1, l2, l3⟩ := Hxl.out
              have hb' : wr.heap.size + 1 ≤ b := by simpa using hb
              have hg' : wr.heap.size + 1 ≤ bg := by simpa using hg
              have hbb : Below w.heap.size w (wr.drew.alloc (.cells #[.int .i64 0, .int .i64 0, .int .i64 0, .int .i64 0, .int .i64 0] 23)) := (belN HX.out.2 1).alloc l3 _
              exact ⟨⟨cell_low hu3 hS4.1, cell_low hu3 hS4.2⟩, hK3, (HX.out.1.drew.alloc _).low hu3, hbb.trans (hu3.mono hbb.size), ⟨by omega, by omega, by omega, by omega, by omega, by omega⟩, hN3⟩)
            have r0' := hN3.cell (i := 0) rfl
            have r1' := hN3.cell (i := 1) rfl
            have r2' := hN3.cell (i := 2) rfl
            have r3' := hN3.cell (i := 3) rfl
            have r4' := hN3.cell (i := 4) rfl
            have y0 := hN3.frozen 0
            have y1 := hN3.frozen 1
            have y2 := hN3.frozen 2
            have y3 := hN3.frozen 3
            have y4 := hN3.frozen 4
            have lN := hN3.lt
            clear hK3 hu3 hb hg hN3
            go_wp2_with fail
            refine hK.out _ _ (H3.out.1) (fun hHeld => ?_)
            clear hK K
            refine wpAnyH_take (i := 7) (v := ?v81) rfl (by kernel_rfl) (by kernel_rfl) (by kernel_rfl) (fun _ _ _ h => h) (Or.inl ⟨by rfl, ?y81⟩) hHeld ?r81
            case y81 => (intro w hSw; obtain ⟨q0, q1⟩ := hSw; go_simp; try with_reducible rfl)
            simp only [List.getElem_toArray, List.getElem_cons_zero, List.getElem_cons_succ, Act.put, List.setIfInBounds_toArray, List.set_cons_zero, List.set_cons_succ]
            refine wpAnyH_take (i := 8) (v := ?v82) rfl (by kernel_rfl) (by kernel_rfl) (by kernel_rfl) (fun _ _ _ h => h) (Or.inl ⟨by rfl, ?y82⟩) hHeld ?r82
            case y82 => (intro w hSw; obtain ⟨q0, q1⟩ := hSw; go_simp; try with_reducible rfl)
            simp only [List.getElem_toArray, List.getElem_cons_zero, List.getElem_cons_succ, Act.put, List.setIfInBounds_toArray, List.set_cons_zero, List.set_cons_succ]
            refine wpAnyH_take (i := 9) (v := ?v83) rfl (by kernel_rfl) (by kernel_rfl) (by kernel_rfl) (fun _ _ _ h => h) (Or.inl ⟨by rfl, ?y83⟩) hHeld ?r83
            case y83 => (intro w hSw; obtain ⟨q0, q1⟩ := hSw; go_simp; try with_reducible rfl)
            simp only [List.getElem_toArray, List.getElem_cons_zero, List.getElem_cons_succ, Act.put, List.setIfInBounds_toArray, List.set_cons_zero, List.set_cons_succ]
            refine wpAnyH_take (i := 10) (v := ?v84) rfl (by kernel_rfl) (by kernel_rfl) (by kernel_rfl) (fun _ _ _ h => h) (Or.inl ⟨by rfl, ?y84⟩) hHeld ?r84
            case y84 => (intro w hSw; obtain ⟨q0, q1⟩ := hSw; go_simp; try with_reducible rfl)
            simp only [List.getElem_toArray, List.getElem_cons_zero, List.getElem_cons_succ, Act.put, List.setIfInBounds_toArray, List.set_cons_zero, List.set_cons_succ]
            refine wpAnyH_ready (rs := [12]) (by kernel_rfl) (by simp) (AllReadyH.cons rfl (fun K hK => ?_) AllReadyH.nil)
            go_simp
            go_wp2_with fail
            have hS5 : Wh8 w b bg wr.heap.size xb n d tr (((((W3.setCell ⟨wr.heap.size, 0, none⟩ (.int .i64 0)).setCell ⟨wr.heap.size, 1, none⟩ (.int .i64 1)).setCell ⟨wr.heap.size, 2, none⟩ (.int .i64 2)).setCell ⟨wr.heap.size, 3, none⟩ (.int .i64 n)).setCell ⟨wr.heap.size, 4, none⟩ (.int .i64 d)) := by
              obtain ⟨z1, z2, z3, z4, ⟨z5, z6, z7, z8, z9, z10⟩, z11⟩ := H3.out
              obtain ⟨l1, l2, l3⟩ := Hxl.out
              refine ⟨((((z2.setFar (p := ⟨wr.heap.size, 0, none⟩) z9 z10 _).setFar (p := ⟨wr.heap.size, 1, none⟩) z9 z10 _).setFar (p := ⟨wr.heap.size, 2, none⟩) z9 z10 _).setFar (p := ⟨wr.heap.size, 3, none⟩) z9 z10 _).setFar (p := ⟨wr.heap.size, 4, none⟩) z9 z10 _, ((((z11.put 0 (.int .i64 0)).put 1 (.int .i64 1)).put 2 (.int .i64 2)).put 3 (.int .i64 n)).put 4 (.int .i64 d), ((((z3.setFar (p := ⟨wr.heap.size, 0, none⟩) (by show xb ≠ wr.heap.size; omega) _).setFar (p := ⟨wr.heap.size, 1, none⟩) (by show xb ≠ wr.heap.size; omega) _).setFar (p := ⟨wr.heap.size, 2, none⟩) (by show xb ≠ wr.heap.size; omega) _).setFar (p := ⟨wr.heap.size, 3, none⟩) (by show xb ≠ wr.heap.size; omega) _).setFar (p := ⟨wr.heap.size, 4, none⟩) (by show xb ≠ wr.heap.size; omega) _, ((((z4.setCell (p := ⟨wr.heap.size, 0, none⟩) l3 _).setCell (p := ⟨wr.heap.size, 1, none⟩) l3 _).setCell (p := ⟨wr.heap.size, 2, none⟩) l3 _).setCell (p := ⟨wr.heap.size, 3, none⟩) l3 _).setCell (p := ⟨wr.heap.size, 4, none⟩) l3 _, z9, z10, z5, z6, by omega, z7, z8, l3, l2⟩
            have hS6 : SA lb loff xb n cap0 a0 d (((((W3.setCell ⟨wr.heap.size, 0, none⟩ (.int .i64 0)).setCell ⟨wr.heap.size, 1, none⟩ (.int .i64 1)).setCell ⟨wr.heap.size, 2, none⟩ (.int .i64 2)).setCell ⟨wr.heap.size, 3, none⟩ (.int .i64 n)).setCell ⟨wr.heap.size, 4, none⟩ (.int .i64 d)) := ⟨Hr0.out _ hS5.bel, hS5.box.cell (i := 0) rfl⟩
            refine hK.out _ _ (hS6) (fun hHeld => ?_)
            clear hK K
            refine wpAnyH_take (i := 13) (v := ?v86) rfl (by kernel_rfl) (by kernel_rfl) (by kernel_rfl) (fun _ _ _ h => h) (Or.inl ⟨by rfl, ?y86⟩) hHeld ?r86
            case y86 => (intro w hSw; obtain ⟨q0, q1⟩ := hSw; go_simp; try with_reducible rfl)
            simp only [List.getElem_toArray, List.getElem_cons_zero, List.getElem_cons_succ, Act.put, List.setIfInBounds_toArray, List.set_cons_zero, List.set_cons_succ]
            refine wpAnyH_take (i := 14) (v := ?v87) rfl (by kernel_rfl) (by kernel_rfl) (by kernel_rfl) (fun _ _ _ h => h) (Or.inl ⟨by rfl, ?y87⟩) hHeld ?r87
            case y87 => (intro w hSw; obtain ⟨q0, q1⟩ := hSw; go_simp; try with_reducible rfl)
            simp only [List.getElem_toArray, List.getElem_cons_zero, List.getElem_cons_succ, Act.put, List.setIfInBounds_toArray, List.set_cons_zero, List.set_cons_succ]
            refine wpAnyH_done (by kernel_rfl) ?_ _
            go_wp2_with fail
            go_meet
            exact ⟨b, bg, wr.heap.size, rfl, rfl, rfl, hS5⟩
  
      case rest =>
        obtain ⟨b, bg, sp, rfl, rfl, rfl, h8⟩ := hcut
        have H8 := Lib.hid h8
        clear h8 HS8 Hxl HX Hs
        have c0 := Hr0.out _ H8.out.bel
        have hmk := Hmk.out wc
        obtain ⟨W0, hW0⟩ : ∃ W0, W0 = (((wc.alloc (.cells (zeros n) 43)).alloc (.cells #[.slice (some ⟨wc.heap.size, 0, none⟩) n n] 42)).alloc (.cells #[.pointer none, .pointer none] 68)).alloc (.cells #[.slice none 0 0, .slice none 0 0] 69) := ⟨_, rfl⟩
        have HM0 := Lib.hid (wh_mem0 H8.out hW0)
        have HW0 := Lib.hid hW0
        clear hW0
        go_wp2_with fail
        clear c0 hmk H8
        rw [← HW0.out]
        generalize wc.heap.size + 3 = mb at *
        generalize wc.heap.size + 2 = ob at *
        generalize wc.heap.size + 1 = q0 at *
        generalize wc.heap.size = z0 at *
        clear HW0
        go_loopw [11, 12, 15, 16, 17] (fun dn nx o ne i wr => WhRel w n d tr ps.length b bg sp ob mb xb z0 dn nx o ne i wr) (fun _ _ _ _ i _ => ps.length - (intOf i).toNat)
        case atStart => exact ⟨_, _, _, _, _, _, _, _, _, 0, -1, 0, 0, rfl, rfl, rfl, rfl, rfl, by omega, by omega, wh_start n d tr _ Hb.out.1 Hb.out.2.2.1, fun _ _ _ c => (by cases c), HM0.out, by omega, by omega, fun _ _ _ _ _ c => (by cases c), fun r hr => (by cases hr), by simp, fun a ha => (by cases ha)⟩
        case round =>
          clear HM0
          obtain ⟨X, R, zs, t, V, dl, N, nw, O, D, H, q, nxt, rfl, rfl, rfl, rfl, rfl, hqm, hnx, hI, hO, hM, t0, t1, hRX, hdl, hnw⟩ := hrel
          obtain ⟨va, vc, hva, hvc⟩ := owns_sl hM.c.done
          obtain ⟨na, nc, hna, hnc⟩ := owns_sl hM.c.news
          dsimp only at hva hna
          subst hva
          subst hna
          by_cases hlt : (q : Int) < ps.length
          · have hqq : q < ps.length := by omega
            obtain ⟨⟨i1, i2⟩, pb, poff, rfl, plt, lc⟩ := (HP.out.keep hM.bel) q _ (List.getElem?_eq_getElem hqq)
            generalize ps[q] = pk at *
            obtain ⟨k, hk4, hpk⟩ := pick4 pk
            have hD := hI.on.few
            have hdlD := hI.num
            have hdl2 : dl.length = D := by simpa using hdlD
            have HI := Lib.hid (And.intro hI (And.intro hO (And.intro hM (And.intro t0 (And.intro t1 (And.intro hRX (And.intro hdl (And.intro hdl2 (And.intro hD hnw)))))))))
            have Hpk := Lib.hid hpk
            have q400 : (q : Int) ≤ 400 := by omega
            clear hI hO hM t0 t1 hRX hdl hpk hD hdlD hdl2 hnw hvc hnc
            go_upto_region 21 with fail
            rw [Hpk.out]
            clear lc Hpk i1 i2
            by_cases hk2 : k < 2
            · have ck0 : 0 ≤ (k : Int) := by omega
              have ck2 : (k : Int) < 2 := by omega
              have cop := HI.out.2.2.1.op hk2
              unfold ptr at cop
              obtain ⟨pp, hpp⟩ : ∃ pp, (X k).map (fun p => (⟨p.1, 0, none⟩ : Addr)) = pp := ⟨_, rfl⟩
              dsimp only at cop
              rw [hpp] at cop
              have Hpp := Lib.hid hpp
              clear hpp
              go_upto_if 130 with fail
              go_cut [12, 19, 20] (fun s12 _ _ wx => WhMid w n d tr b bg sp ob mb xb z0 zs t (.slice va (dl.length + 1) vc) dl (.slice na nw.length nc) nw O D H q k s12 wx)
              case first =>
                as_aux_lemma =>
                  cases hXk : X k with
                  | some v =>
                    obtain ⟨o, g, x⟩ := v
                    obtain rfl : some ⟨o, 0, none⟩ = pp := by have := Hpp.out; rw [hXk] at this; exact this
                    have HX := Lib.hid hXk
                    clear hXk
                    go_wp2
                    go_meet
                    exact ⟨X, R, nxt, o, g, x, rfl, by omega, HX.out, HI.out.1, HI.out.2.2.1, HI.out.2.2.2.2.2.1⟩
                  | none =>
                    obtain rfl : none = pp := by have := Hpp.out; rw [hXk] at this; exact this
                    have HX := Lib.hid hXk
                    obtain ⟨j, hj, hrm⟩ : ∃ j : Nat, j < rs.length ∧ Int.tmod (nxt : Int) (rs.length : Int) = j := ⟨nxt % rs.length, Nat.mod_lt _ (by omega), by rw [Int.tmod_eq_emod_of_nonneg (by omega)]; rfl⟩
                    have hjz : (j : Int) < rs.length := by omega
                    have hM := HI.out.2.2.1
                    obtain ⟨hws, lb', loff', e, llt, cr⟩ := (HR.out.keep hM.bel) j _ (List.getElem?_eq_getElem hj)
                    cases e
                    have hrw := (HR.out j _ (List.getElem?_eq_getElem hj)).1
                    have hln := HL.out j _ (List.getElem?_eq_getElem hj)
                    generalize rs[j] = r at *
                    obtain ⟨ra, rcap, ws⟩ := r
                    dsimp only at cr hln hws hrw
                    have hM1 := hM.setRow hk2 hXk (ra, rcap, ws)
                    have cmb := hM.row hk2
                    have fmb := hM.c.mine.frozen k
                    dsimp only at cmb fmb
                    rw [show rwv (ra, rcap, ws) = .slice ra n rcap by unfold rwv; rw [← hln]] at hM1
                    rw [hln] at cr
                    have Hrw : Hid (Wds w.heap.size w ra ws ∧ ws.length = n) := Lib.hid ⟨hrw, hln⟩
                    generalize hwm : wr.setCell ⟨mb, k, none⟩ (.slice ra n rcap) = wm at hM1
                    have HM1 := Lib.hid hM1
                    have HK := Lib.hid (show SpC sp n d ⟨mb, k, none⟩ (.slice ra n rcap) wm.drew ∧ Below w.heap.size w wm.drew from ⟨⟨hM1.c.spot.drew, by
                      have h := hM1.row hk2
                      dsimp only at h
                      rw [if_pos rfl, show rwv (ra, rcap, ws) = .slice ra n rcap by unfold rwv; rw [← hln]] at h
                      exact h⟩, belN hM1.bel 1⟩)
                    have Hnew : Hid (Calls Try.prog 24 #[.agg #[.int .i64 0, .int .i64 1, .int .i64 2, .int .i64 n, .int .i64 d], .slice ra n rcap, .int .i64 16] wm.drew (NewOp (spS n d) ws 16 wm.drew)) := Lib.hid (by
                      have := newo_ok (spS n d) ra ws rcap 16 wm.drew w.heap.size HK.out.2.size (hrw.keep HK.out.2) (by rw [hln]; exact Hnw.out)
                      rw [hln] at this
                      exact this)
                    unfold rwv at cmb
                    clear hM hM1 hXk hws hrw hln llt hj cop
                    go_wp2_with fail
                    refine wp_region_held_drew (S := SpC sp n d ⟨mb, k, none⟩ (.slice ra n rcap)) (by kernel_rfl) (HK.out.1) (fun hHeld => ?_)
                    refine wpAnyH_take (i := 0) (v := ?v1) rfl (by kernel_rfl) (by kernel_rfl) (by kernel_rfl) (fun _ _ _ h => h) (Or.inl ⟨by rfl, ?y1⟩) hHeld ?r1
                    case y1 => (intro w hSw; obtain ⟨hSp, cS⟩ := hSw; have e0 := hSp.cell (i := 0) rfl; have e1 := hSp.cell (i := 1) rfl; have e2 := hSp.cell (i := 2) rfl; have e3 := hSp.cell (i := 3) rfl; have e4 := hSp.cell (i := 4) rfl; clear hSp; go_simp; try with_reducible rfl)
                    simp only [List.getElem_toArray, List.getElem_cons_zero, Act.put, List.setIfInBounds_toArray, List.set_cons_zero, List.set_cons_succ]
                    refine wpAnyH_take (i := 1) (v := ?v2) rfl (by kernel_rfl) (by kernel_rfl) (by kernel_rfl) (fun _ _ _ h => h) (Or.inl ⟨by rfl, ?y2⟩) hHeld ?r2
                    case y2 => (intro w hSw; obtain ⟨hSp, cS⟩ := hSw; have e0 := hSp.cell (i := 0) rfl; have e1 := hSp.cell (i := 1) rfl; have e2 := hSp.cell (i := 2) rfl; have e3 := hSp.cell (i := 3) rfl; have e4 := hSp.cell (i := 4) rfl; clear hSp; go_simp; try with_reducible rfl)
                    simp only [List.getElem_toArray, List.getElem_cons_zero, List.getElem_cons_succ, Act.put, List.setIfInBounds_toArray, List.set_cons_zero, List.set_cons_succ]
                    refine wpAnyH_take (i := 2) (v := ?v3) rfl (by kernel_rfl) (by kernel_rfl) (by kernel_rfl) (fun _ _ _ h => h) (Or.inl ⟨by rfl, ?y3⟩) hHeld ?r3
                    case y3 => (intro w hSw; obtain ⟨hSp, cS⟩ := hSw; have e0 := hSp.cell (i := 0) rfl; have e1 := hSp.cell (i := 1) rfl; have e2 := hSp.cell (i := 2) rfl; have e3 := hSp.cell (i := 3) rfl; have e4 := hSp.cell (i := 4) rfl; clear hSp; go_simp; try with_reducible rfl)
                    simp only [List.getElem_toArray, List.getElem_cons_zero, List.getElem_cons_succ, Act.put, List.setIfInBounds_toArray, List.set_cons_zero, List.set_cons_succ]
                    refine wpAnyH_take (i := 3) (v := ?v4) rfl (by kernel_rfl) (by kernel_rfl) (by kernel_rfl) (fun _ _ _ h => h) (Or.inl ⟨by rfl, ?y4⟩) hHeld ?r4
                    case y4 => (intro w hSw; obtain ⟨hSp, cS⟩ := hSw; have e0 := hSp.cell (i := 0) rfl; have e1 := hSp.cell (i := 1) rfl; have e2 := hSp.cell (i := 2) rfl; have e3 := hSp.cell (i := 3) rfl; have e4 := hSp.cell (i := 4) rfl; clear hSp; go_simp; try with_reducible rfl)
                    simp only [List.getElem_toArray, List.getElem_cons_zero, List.getElem_cons_succ, Act.put, List.setIfInBounds_toArray, List.set_cons_zero, List.set_cons_succ]
                    refine wpAnyH_ready (rs := [4]) (by kernel_rfl) (by simp) (AllReadyH.cons rfl (fun K hK => ?_) AllReadyH.nil)
                    go_simp
                    refine Hnew.out.mono ?_
                    rintro e W3 ⟨o, g, ho, hgo, rfl, hO, hu3⟩
                    have HG : Hid (WhM w n d tr ⟨b, bg, sp, ob, mb, xb, z0, X, (fun j => if j = k then (ra, rcap, ws) else R j), zs, t, .slice va (dl.length + 1) vc, dl, .slice na nw.length nc, nw, O⟩ W3 ∧ OpAt W3 o g (spS n d) ws (st0 16) ∧ wm.heap.size ≤ o ∧ wm.heap.size ≤ g) := Lib.hid ⟨HM1.out.drew.low hu3, hO, ho, hgo⟩
                    have HS3 := Lib.hid (show SpC sp n d ⟨mb, k, none⟩ (.slice ra n rcap) W3 from ⟨HG.out.1.c.spot, cell_low hu3 HK.out.1.2⟩)
                    clear hO hu3 ho hgo
                    go_wp2_with fail
                    refine hK.out _ _ (HS3.out) (fun hHeld => ?_)
                    clear hK K
                    refine wpAnyH_take (i := 5) (v := ?v6) rfl (by kernel_rfl) (by kernel_rfl) (by kernel_rfl) (fun _ _ _ h => h) (Or.inl ⟨by rfl, ?y6⟩) hHeld ?r6
                    case y6 => (intro w hSw; obtain ⟨hSp, cS⟩ := hSw; have e0 := hSp.cell (i := 0) rfl; have e1 := hSp.cell (i := 1) rfl; have e2 := hSp.cell (i := 2) rfl; have e3 := hSp.cell (i := 3) rfl; have e4 := hSp.cell (i := 4) rfl; clear hSp; go_simp; try with_reducible rfl)
                    simp only [List.getElem_toArray, List.getElem_cons_zero, List.getElem_cons_succ, Act.put, List.setIfInBounds_toArray, List.set_cons_zero, List.set_cons_succ]
                    refine wpAnyH_take (i := 6) (v := ?v7) rfl (by kernel_rfl) (by kernel_rfl) (by kernel_rfl) (fun _ _ _ h => h) (Or.inl ⟨by rfl, ?y7⟩) hHeld ?r7
                    case y7 => (intro w hSw; obtain ⟨hSp, cS⟩ := hSw; have e0 := hSp.cell (i := 0) rfl; have e1 := hSp.cell (i := 1) rfl; have e2 := hSp.cell (i := 2) rfl; have e3 := hSp.cell (i := 3) rfl; have e4 := hSp.cell (i := 4) rfl; clear hSp; go_simp; try with_reducible rfl)
                    simp only [List.getElem_toArray, List.getElem_cons_zero, List.getElem_cons_succ, Act.put, List.setIfInBounds_toArray, List.set_cons_zero, List.set_cons_succ]
                    refine wpAnyH_take (i := 7) (v := ?v8) rfl (by kernel_rfl) (by kernel_rfl) (by kernel_rfl) (fun _ _ _ h => h) (Or.inl ⟨by rfl, ?y8⟩) hHeld ?r8
                    case y8 => (intro w hSw; obtain ⟨hSp, cS⟩ := hSw; have e0 := hSp.cell (i := 0) rfl; have e1 := hSp.cell (i := 1) rfl; have e2 := hSp.cell (i := 2) rfl; have e3 := hSp.cell (i := 3) rfl; have e4 := hSp.cell (i := 4) rfl; clear hSp; go_simp; try with_reducible rfl)
                    simp only [List.getElem_toArray, List.getElem_cons_zero, List.getElem_cons_succ, Act.put, List.setIfInBounds_toArray, List.set_cons_zero, List.set_cons_succ]
                    refine wpAnyH_take (i := 8) (v := ?v9) rfl (by kernel_rfl) (by kernel_rfl) (by kernel_rfl) (fun _ _ _ h => h) (Or.inl ⟨by rfl, ?y9⟩) hHeld ?r9
                    case y9 => (intro w hSw; obtain ⟨hSp, cS⟩ := hSw; have e0 := hSp.cell (i := 0) rfl; have e1 := hSp.cell (i := 1) rfl; have e2 := hSp.cell (i := 2) rfl; have e3 := hSp.cell (i := 3) rfl; have e4 := hSp.cell (i := 4) rfl; clear hSp; go_simp; try with_reducible rfl)
                    simp only [List.getElem_toArray, List.getElem_cons_zero, List.getElem_cons_succ, Act.put, List.setIfInBounds_toArray, List.set_cons_zero, List.set_cons_succ]
                    refine wpAnyH_take (i := 9) (v := ?v10) rfl (by kernel_rfl) (by kernel_rfl) (by kernel_rfl) (fun _ _ _ h => h) (Or.inl ⟨by rfl, ?y10⟩) hHeld ?r10
                    case y10 => (intro w hSw; obtain ⟨hSp, cS⟩ := hSw; have e0 := hSp.cell (i := 0) rfl; have e1 := hSp.cell (i := 1) rfl; have e2 := hSp.cell (i := 2) rfl; have e3 := hSp.cell (i := 3) rfl; have e4 := hSp.cell (i := 4) rfl; clear hSp; go_simp; try with_reducible rfl)
                    simp only [List.getElem_toArray, List.getElem_cons_zero, List.getElem_cons_succ, Act.put, List.setIfInBounds_toArray, List.set_cons_zero, List.set_cons_succ]
                    refine wpAnyH_done (by kernel_rfl) ?_ _
                    clear hHeld HK Hnew
                    have cop2 := HG.out.1.op hk2
                    have fop2 := HG.out.1.c.ops.frozen k
                    dsimp only at cop2 fop2
                    rw [HX.out] at cop2
                    go_wp2_with fail
                    go_meet
                    obtain ⟨g1, g2, g3, g4⟩ := HG.out
                    refine ⟨upd X k (some (o, g, st0 16)), (fun j => if j = k then (ra, rcap, ws) else R j), nxt + 1, o, g, st0 16, by go_num, by omega, upd_self _ _ _, wh_new HI.out.1 (by omega) HX.out (fun j hj => by dsimp only; rw [if_neg hj]) ?_, g1.put hk2 wm.heap.size ?_ (fun i q hq => (HM1.out.dj.bd i q hq).2) g3 g4 HM1.out.bel.size, fun k' hk' o' g' x' hx' => ?_⟩
                    · dsimp only
                      rw [if_pos rfl]
                      exact wf0 (by rw [Hrw.out.2]; exact Hnw.out) Hrw.out.1.us
                    · dsimp only
                      rw [if_pos rfl]
                      exact g2
                    · dsimp only
                      by_cases c : k' = k
                      · rw [if_pos c]
                        exact Hrw.out
                      · rw [if_neg c]
                        rw [upd_ne _ _ c] at hx'
                        exact HI.out.2.2.2.2.2.1 k' hk' o' g' x' hx'
              case rest =>
                obtain ⟨X1, R1, nxt1, o, g, x, rfl, hn1, hX, hI1, hM1, hRX1⟩ := hcut
                as_aux_lemma =>
                  obtain ⟨p1, p2, p3, p4, p5, p6, p7, p8, p9⟩ := Hb.out
                  obtain ⟨_, hOr, _, t0, t1, _, hdl, hdl2, hDq, hnw, _⟩ := HI.out
                  have hRk := hRX1 k hk2 _ _ _ hX
                  obtain ⟨_, hwf, s0, s1, _, _⟩ := hI1.on.each k _ _ _ hX
                  obtain ⟨f1, f2, f3, f4⟩ := hM1.apK hk2 hX
                  dsimp only at f1 f2 f3 f4
                  have hstep := wh_step p1 (by omega) p3 p4 (by omega) hI1 (by omega) hX hRk.2 hM1.c.bank.rng
                  obtain ⟨_, q2, q3⟩ := steps_stp (spS n d) (R1 k).2.2 zs x
                  have hbk : Bk wc b bg zs t := hM1.c.bank
                  have Hst := Lib.hid (step_any (hM1.each hk2 hX) hbk f1 f2 f3 f4 hwf t0 (by omega) (by omega) (by omega))
                  have Hwf2 := Lib.hid (wf_stp hwf hbk.rng)
                  clear hbk
                  have cop1 := hM1.op hk2
                  dsimp only at cop1 hstep Hst Hwf2
                  rw [hX] at cop1
                  change wc.cell? ⟨ob, k, none⟩ = some (.pointer (some ⟨o, 0, none⟩)) at cop1
                  have hseq := hI1.seq
                  generalize stp (spS n d) (R1 k).2.2 zs x = r at *
                  have Hstep := Lib.hid hstep
                  have HM1 := Lib.hid (And.intro hM1 (And.intro hX (And.intro hRk hRX1)))
                  have Hseq := Lib.hid hseq
                  have Ht : Hid (0 ≤ t + r.2.2 ∧ t + r.2.2 ≤ q + 1) := Lib.hid (by omega)
                  have hdz : (dl.length : Int) ≤ 400 := by omega
                  have HDl := Lib.hid hdl2
                  clear hdl2
                  have HN : Hid (nxt1 ≤ q + 1 ∧ nw.length ≤ q) := Lib.hid ⟨hn1, hnw⟩
                  clear hstep hM1 hX hRk hRX1 hwf s0 s1 f1 f2 f3 f4 q2 q3 hseq t0 t1 hdl hDq hnw hOr hI1 cop p1 p2 p3 p4 p5 p6 p7 p8 p9 hn1
                  go_wp2_with fail
                  refine Hst.out.mono ?_
                  rintro e W3 ⟨rfl, hO3, hK3, hu3⟩
                  have HM3 := Lib.hid (HM1.out.1.step hk2 HM1.out.2.1 hu3 hO3 hK3)
                  clear hO3 hK3 hu3 Hst cop1
                  have cop2 := HM3.out.op hk2
                  have fop2 := HM3.out.c.ops.frozen k
                  have crow := HM3.out.row hk2
                  have HGen := Lib.hid (gen_any (HM3.out.each hk2 (upd_self _ _ _)) Hwf2.out.s)
                  dsimp only at cop2 fop2 crow HGen
                  rw [upd_self] at cop2
                  change W3.cell? ⟨ob, k, none⟩ = some (.pointer (some ⟨o, 0, none⟩)) at cop2
                  have HO2 : Hid (∀ D' dl' v', (∃ v, zs[1]? = some v ∧ Sq.bg v ≤ Sq.bg v') → D ≤ D' → (∀ g, g ≤ D → gw n dl' g = gw n (dl.map (fun r => r.2.2)) g) → ∀ p pg x, O = some (p, pg, x) → ∃ f, RdI n d tr D' dl' v' x nw f) := Lib.hid (fun D' dl' v' ⟨v, hv, hb⟩ hD hg p pg x hx => by
                    obtain ⟨f, hf⟩ := HI.out.2.1 p pg x hx v hv
                    exact ⟨f, rdi_more hf hD hb hg⟩)
                  obtain ⟨hres, hmono⟩ := Hstep.out
                  have Hmono : Hid (∀ v', r.2.1[1]? = some v' → ∃ v, zs[1]? = some v ∧ Sq.bg v ≤ Sq.bg v') := Lib.hid (fun v' hv' => by
                    obtain ⟨v, hv, _⟩ := Hseq.out
                    exact ⟨v, hv, hmono v v' hv hv'⟩)
                  clear hmono Hstep
                  generalize t + r.2.2 = t3 at *
                  rcases hres with ⟨z1, H', z2⟩ | ⟨z1, H', z2⟩ | ⟨z1, z3, H', z2⟩
                  · rw [z1]
                    have HZ := Lib.hid z2
                    clear z1 z2 HGen crow
                    go_wp2_with fail
                    go_roundw
                    case rel => exact ⟨_, R1, r.2.1, t3, _, dl, _, nw, O, D, H', q + 1, nxt1, rfl, rfl, rfl, rfl, by go_num, by omega, HN.out.1, HZ.out, fun p pg x hx v hv => HO2.out D _ v (Hmono.out v hv) (Nat.le_refl _) (fun _ _ => rfl) p pg x hx, HM3.out, Ht.out.1, by have := Ht.out.2; omega, fun k' hk' o' g' x' hx' => (by
                      by_cases c : k' = k
                      · rw [c]; exact HM1.out.2.2.1
                      · rw [upd_ne _ _ c] at hx'
                        exact HM1.out.2.2.2 k' hk' o' g' x' hx'), HI.out.2.2.2.2.2.2.1, by have := HN.out.2; omega, HI.out.2.2.2.2.2.2.2.2.2.2⟩
                    case measure => simp [intOf]; omega
                  · rw [z1]
                    have HZ := Lib.hid z2
                    clear z1 z2 HGen crow
                    go_wp2_with fail
                    go_roundw
                    case rel => exact ⟨_, R1, r.2.1, t3, _, dl, _, nw, O, D, H', q + 1, nxt1, rfl, rfl, rfl, rfl, by go_num, by omega, HN.out.1, HZ.out, fun p pg x hx v hv => HO2.out D _ v (Hmono.out v hv) (Nat.le_refl _) (fun _ _ => rfl) p pg x hx, (by
                      have h := HM3.out.drop hk2
                      dsimp only at h
                      rw [upd_upd] at h
                      exact h), Ht.out.1, by have := Ht.out.2; omega, fun k' hk' o' g' x' hx' => (by
                      by_cases c : k' = k
                      · rw [c, upd_self] at hx'; cases hx'
                      · rw [upd_ne _ _ c] at hx'
                        exact HM1.out.2.2.2 k' hk' o' g' x' hx'), HI.out.2.2.2.2.2.2.1, by have := HN.out.2; omega, HI.out.2.2.2.2.2.2.2.2.2.2⟩
                    case measure => simp [intOf]; omega
                  · rw [z1]
                    rw [if_pos z1, z3, show 2 * (D : Int) / 2 + 1 = (D : Int) + 1 by omega] at HGen
                    have HZ := Lib.hid z2
                    clear z1 z2 z3
                    have hdl2 := HDl.out
                    subst hdl2
                    unfold rwv at crow
                    have hlr := HM1.out.2.2.1.2
                    rw [hlr] at crow
                    have hown : W3.ownsRow 0 42 1 (.slice va (dl.length + 1) vc) (dl.length + 1) ((rwd n z0 dl).map rwv) := HM3.out.c.done
                    obtain ⟨i0, hi0, he0⟩ := Option.map_eq_some_iff.1 info42
                    simp only [Prod.mk.injEq] at he0
                    obtain ⟨hz0', hs0', hb0'⟩ := he0
                    have hA := HM3.out.low ((Below.refl W3.heap.size W3).alloc (Nat.le_refl _) (.cells #[.slice (R1 k).1 n (R1 k).2.1] 42))
                    obtain ⟨V', W4, hr4, ho4, hg4, hv4⟩ := append_one (P := Try.prog) (W3.alloc (.cells #[.slice (R1 k).1 n (R1 k).2.1] 42)) 57 42 i0 (.slice none 0 0) 24 Try.underlying57 hi0 hz0' hs0' hb0' rfl (Nat.le_refl _) (.slice va (dl.length + 1) vc) (dl.length + 1) _ hA.c.done W3.heap.size (.slice (R1 k).1 n (R1 k).2.1) ((Blk.new W3 #[.slice (R1 k).1 n (R1 k).2.1] 42).cell rfl) rfl (by have := HI.out.2.2.2.2.2.2.2.2.1; omega)
                    have Hap := Lib.hid hr4
                    have hM4 := hA.grow (V' := V') (r := R1 k) hg4 hv4 (by rw [show rwv (R1 k) = .slice (R1 k).1 n (R1 k).2.1 by unfold rwv; rw [hlr]]; exact ho4)
                    have cop4 := hM4.op hk2
                    have fop4 := hM4.c.ops.frozen k
                    dsimp only at cop4 fop4
                    rw [upd_self] at cop4
                    change W4.cell? ⟨ob, k, none⟩ = some (.pointer (some ⟨o, 0, none⟩)) at cop4
                    have HM4 := Lib.hid hM4
                    have mDD : (((dl.length : Int) + 1) != ((dl.length : Int) + 1)) = false := by simp
                    clear hown hA hr4 ho4 hg4 hv4 hM4 hlr
                    go_wp2_with fail
                    refine HGen.out.mono ?_
                    rintro e w' ⟨rfl, rfl⟩
                    go_wp2_with (at_builtin; refine wpList_append_run _ rfl (.tmp 170) (.tmp 174) 57 57 rfl _ _ rfl rfl Hap.out ?_)
                    go_roundw
                    case rel => exact ⟨_, R1, r.2.1, t3, _, dl ++ [R1 k], _, nw, O, dl.length + 1, H', q + 1, nxt1, rfl, rfl, rfl, rfl, by go_num, by omega, HN.out.1, (by rw [List.map_append]; exact HZ.out), fun p pg x hx v hv => (by
                      rw [List.map_append]
                      exact HO2.out (dl.length + 1) _ v (Hmono.out v hv) (by omega) (fun g hg => gw_more (by simpa using hg) _) p pg x hx), (by
                      have h := HM4.out.drop hk2
                      dsimp only at h
                      rw [upd_upd] at h
                      exact h), Ht.out.1, by have := Ht.out.2; omega, fun k' hk' o' g' x' hx' => (by
                      by_cases c : k' = k
                      · rw [c, upd_self] at hx'; cases hx'
                      · rw [upd_ne _ _ c] at hx'
                        exact HM1.out.2.2.2 k' hk' o' g' x' hx'), fun r' hr' => (by
                      rcases List.mem_append.1 hr' with h | h
                      · exact HI.out.2.2.2.2.2.2.1 r' h
                      · simp only [List.mem_cons, List.not_mem_nil, or_false] at h
                        rw [h]
                        exact HM1.out.2.2.1), by have := HN.out.2; omega, HI.out.2.2.2.2.2.2.2.2.2.2⟩
                    case measure => simp [intOf]; omega
            · have mk2 : decide ((k : Int) < 2) = false := by simp; omega
              go_upto_if 181 with fail
              go_cut [15, 16, 22, 23] (fun s15 s16 _ _ wx => WhMidR w n d tr b bg sp ob mb xb z0 X R zs t (.slice va (dl.length + 1) vc) dl D q s15 s16 wx)
              case first =>
                as_aux_lemma =>
                  obtain ⟨v, hv, _⟩ := HI.out.1.seq
                  have Hv := Lib.hid hv
                  clear hv
                  cases hO : O with
                  | some y =>
                    obtain ⟨p, pg, x⟩ := y
                    have HO := Lib.hid hO
                    clear hO
                    change Code.wp _ _ _ _ _
                    go_wp2
                    go_meet
                    obtain ⟨f, hf⟩ := HI.out.2.1 p pg x HO.out v Hv.out
                    exact ⟨_, nw, p, pg, f, x, v, rfl, rfl, Hv.out, hf, (by have h := HI.out.2.2.1; rw [HO.out] at h; exact h), HI.out.2.2.2.2.2.2.2.2.2⟩
                  | none =>
                    have HO := Lib.hid hO
                    clear hO
                    have hsp := HI.out.2.2.1.c.spot
                    have hbx := HI.out.2.2.1.c.box
                    dsimp only at hsp hbx
                    have e0 := hsp.cell (i := 0) rfl
                    have e1 := hsp.cell (i := 1) rfl
                    have e2 := hsp.cell (i := 2) rfl
                    have e3 := hsp.cell (i := 3) rfl
                    have e4 := hsp.cell (i := 4) rfl
                    have x1 := hbx.cell (i := 1) rfl
                    have Hnr : Hid (Calls Try.prog 9 #[.agg #[.int .i64 0, .int .i64 1, .int .i64 2, .int .i64 n, .int .i64 d], .int .i64 tr] wr (RNewOp (spS n d) tr wr)) := Lib.hid (rnew_ok (spS n d) tr wr Hmb.out)
                    clear hsp hbx
                    go_wp2_with fail
                    refine Hnr.out.mono ?_
                    rintro e W3 ⟨p, pg, hp, hpg, rfl, hP, hu3⟩
                    have H3 := Lib.hid (HI.out.2.2.1.rnew hu3 hP hp hpg)
                    clear hp hpg hP hu3 e0 e1 e2 e3 e4 x1 Hnr
                    go_wp2
                    go_meet
                    exact ⟨.slice none 0 0, [], p, pg, 0, rst0 tr, v, rfl, rfl, Hv.out, rd_new (rwf0 Hmb.out) Hb.out.2.2.2.2.1, H3.out, by simp, fun a ha => (by cases ha)⟩
              case rest =>
                obtain ⟨N1, nw1, p, pg, f, x, v, rfl, rfl, hv, hrd, hM1, hnw1, hnn⟩ := hcut
                have Hnn := Lib.hid hnn
                clear hnn
                obtain ⟨n1a, n1c, hN1, _⟩ := owns_sl hM1.c.news
                dsimp only at hN1
                subst hN1
                obtain ⟨p1, p2, p3, p4, p5, p6, p7, p8, p9⟩ := Hb.out
                obtain ⟨hIw, _, _, t0, t1, hRX, hdl, hdl2, hDq, _, _⟩ := HI.out
                subst hdl2
                obtain ⟨v', hv', s1, s2, s3, s4⟩ := hIw.seq
                obtain rfl : v' = v := by rw [hv] at hv'; exact (Option.some.inj hv').symm
                have hgl : ∀ g, g ≤ dl.length → (gw n (dl.map (fun r => r.2.2)) g).length = n ∧ ∃ r, (rwd n z0 dl)[g]? = some r ∧ r.2.2 = gw n (dl.map (fun r => r.2.2)) g ∧ ∀ W, Blk W z0 ((List.replicate n (0 : Int)).map (Value.int .u64)) → Below w.heap.size w W → Rdw W r.1 r.2.2 := fun g hg => by
                  cases g with
                  | zero =>
                    refine ⟨by simp [gw], _, rfl, by simp [gw], fun W hW _ => Rdw.of_blk hW⟩
                  | succ g =>
                    have hlt : g < dl.length := by omega
                    have hr : dl[g]? = some dl[g] := List.getElem?_eq_getElem hlt
                    have e1 : gw n (dl.map (fun r => r.2.2)) (g + 1) = dl[g].2.2 := by
                      unfold gw
                      rw [List.getD_cons_succ, List.getD_eq_getElem?_getD, List.getElem?_map, hr]
                      rfl
                    have h := hdl _ (List.mem_of_getElem? hr)
                    exact ⟨by rw [e1]; exact h.2, dl[g], hr, e1.symm, fun W _ hB => (h.1.keep hB).rdw⟩
                have hres := rd_step p1 (by omega) p3 p4 hIw.on.len hv s1 s2 s4 (fun g hg => (hgl g hg).1) hM1.c.bank.rng hrd
                obtain ⟨i0, hi0, he0⟩ := Option.map_eq_some_iff.1 info3
                simp only [Prod.mk.injEq] at he0
                obtain ⟨hz0', hs0', hb0'⟩ := he0
                have hA := hM1.low ((Below.refl wc.heap.size wc).alloc (Nat.le_refl _) (.cells #[.int .i64 (dl.length : Int)] 3))
                obtain ⟨N', W4, hr4, ho4, hg4, hv4⟩ := append_one (P := Try.prog) (wc.alloc (.cells #[.int .i64 (dl.length : Int)] 3)) 67 3 i0 (.int .i64 0) 8 Try.underlying67 hi0 hz0' hs0' hb0' rfl (by omega) (.slice n1a nw1.length n1c) nw1.length _ hA.c.news wc.heap.size (.int .i64 (dl.length : Int)) ((Blk.new wc #[.int .i64 (dl.length : Int)] 3).cell rfl) rfl (by omega)
                have Hap := Lib.hid hr4
                have hM4 := hA.growN (N' := N') (a := (dl.length : Int)) hg4 hv4 ho4
                obtain ⟨n4a, n4c, hN4, hcN⟩ := owns_sl hM4.c.news
                dsimp only at hN4
                subst hN4
                have hle : (nw1 ++ [(dl.length : Int)]).length = nw1.length + 1 := by simp
                rw [hle] at Hap hM4
                obtain ⟨f1, f2, f3, f4⟩ := hM4.apR rfl
                dsimp only at f1 f2 f3 f4
                have hrd4 : RdAt W4 p pg (spS n d) x := hM4.c.rd p pg x rfl
                have hbk4 : Bk W4 b bg zs t := hM4.c.bank
                have hstp : x.steps = (nw1.length : Int) := hrd.len.symm
                have Hst := Lib.hid (rstep_any hrd4 hbk4 f1 f2 f3 f4 hrd.wf t0 (by omega) (by omega) (by omega))
                have Hrwf := Lib.hid (rwf_rst hrd.wf hbk4.rng)
                generalize rst (spS n d) zs x = r at *
                have Hres := Lib.hid hres
                have HM4 := Lib.hid (And.intro hM4 hcN)
                have Hgl := Lib.hid hgl
                have Hv := Lib.hid (And.intro hv hIw)
                have HR2 := Lib.hid (And.intro hRX (And.intro hdl (And.intro t0 t1)))
                have hDz : (dl.length : Int) ≤ 400 := by omega
                have hNz : (nw1.length : Int) ≤ 400 := by omega
                have HN := Lib.hid hnw1
                have Hms : Hid (∀ W, Calls Try.prog 12 #[.agg #[.int .i64 0, .int .i64 1, .int .i64 2, .int .i64 n, .int .i64 d], .int .i64 tr] W (Ret (.int .i64 ((tr * (n + 2) : Nat) : Int)) W)) := Lib.hid (fun W => by
                  have h := rmost_any (spS n d) tr W
                  unfold rmst at h
                  rw [if_pos Hmb.out] at h
                  rw [show ((tr * (n + 2) : Nat) : Int) = (tr : Int) * ((n : Int) + 2) by push_cast; rfl]
                  exact h)
                have hMS : tr * (n + 2) ≤ 16 * 8 := Nat.mul_le_mul (by omega) (by omega)
                have hMD : tr * (d - 1) ≤ 16 * 15 := Nat.mul_le_mul (by omega) (by omega)
                have hmul : (tr : Int) * ((d : Int) - 1) = ((tr * (d - 1) : Nat) : Int) := by
                  rw [Int.natCast_mul]
                  congr 1
                  omega
                clear hres hM4 hcN hgl hv hIw hRX hdl t0 t1 hnw1 hle hA hr4 ho4 hg4 hv4 hM1 hrd hv' s1 s2 s3 s4 hDq f1 f2 f3 f4 hrd4 hbk4 hstp p1 p2 p3 p4 p5 p6 p7 p8 p9
                go_wp2_with (at_builtin; refine wpList_append_run _ rfl (.tmp 196) (.tmp 200) 67 67 rfl _ _ rfl rfl Hap.out ?_)
                refine Hst.out.mono ?_
                rintro e W5 ⟨rfl, hR5, hK5, hu5⟩
                have hM5 := HM4.out.1.rstep rfl hu5 hR5 hK5
                dsimp only at hM5
                obtain ⟨r2, rs1, rs2, hcase⟩ := Hres.out
                rw [r2] at hM5
                have hss := rsteps_any hR5
                rw [rs1] at hss
                have Hss := Lib.hid hss
                have HM5 := Lib.hid hM5
                have Hcase := Lib.hid hcase
                have hsp := hM5.c.spot
                have hbx := hM5.c.box
                dsimp only at hsp hbx
                have e0 := hsp.cell (i := 0) rfl
                have e1 := hsp.cell (i := 1) rfl
                have e2 := hsp.cell (i := 2) rfl
                have e3 := hsp.cell (i := 3) rfl
                have e4 := hsp.cell (i := 4) rfl
                have x1 := hbx.cell (i := 1) rfl
                have mss : (((nw1.length : Int) + 1) != ((nw1.length : Int) + 1)) = false := by simp
                have mmm : decide (((tr * (n + 2) : Nat) : Int) < (nw1.length : Int) + 1) = false := decide_eq_false (by omega)
                have hms0 : 0 ≤ ((tr * (n + 2) : Nat) : Int) := by omega
                clear Hst hR5 hK5 hu5 hM5 hss hcase hsp hbx r2 rs1 rs2 Hres HM4
                generalize ((tr * (n + 2) : Nat) : Int) = MS at *
                rcases Hcase.out with ⟨f2, hf2⟩ | ⟨hd1, G, c, g1, g2, g3, g4, g5, g6⟩ | ⟨hd1, hd2⟩
                · rw [hf2.how]
                  as_aux_lemma =>
                    have HF := Lib.hid hf2
                    clear hf2 Hcase
                    go_wp2_with fail
                    refine Hss.out.mono ?_
                    rintro e w' ⟨rfl, rfl⟩
                    go_wp2_with fail
                    refine (Hms.out _).mono ?_
                    rintro e W6 ⟨rfl, hu6⟩
                    have HM6 := Lib.hid (HM5.out.low hu6)
                    clear hu6 e0 e1 e2 e3 e4 x1
                    go_wp2_with fail
                    refine wp_region_held_drew (S := fun _ => True) (by kernel_rfl) (trivial) (fun hHeld => ?_)
                    refine wpAnyH_take (i := 0) (v := ?v11) rfl (by kernel_rfl) (by kernel_rfl) (by kernel_rfl) (fun _ _ _ h => h) (Or.inl ⟨by rfl, ?y11⟩) hHeld ?r11
                    case y11 => (intro w hSw; clear hSw; go_simp; try with_reducible rfl)
                    simp only [List.getElem_toArray, List.getElem_cons_zero, Act.put, List.setIfInBounds_toArray, List.set_cons_zero, List.set_cons_succ]
                    refine wpAnyH_take (i := 1) (v := ?v12) rfl (by kernel_rfl) (by kernel_rfl) (by kernel_rfl) (fun _ _ _ h => h) (Or.inl ⟨by rfl, ?y12⟩) hHeld ?r12
                    case y12 => (intro w hSw; clear hSw; go_simp; try with_reducible rfl)
                    simp only [List.getElem_toArray, List.getElem_cons_zero, List.getElem_cons_succ, Act.put, List.setIfInBounds_toArray, List.set_cons_zero, List.set_cons_succ]
                    refine wpAnyH_take (i := 2) (v := ?v13) rfl (by kernel_rfl) (by kernel_rfl) (by kernel_rfl) (fun _ _ _ h => h) (Or.inl ⟨by rfl, ?y13⟩) hHeld ?r13
                    case y13 => (intro w hSw; clear hSw; go_simp; try with_reducible rfl)
                    simp only [List.getElem_toArray, List.getElem_cons_zero, List.getElem_cons_succ, Act.put, List.setIfInBounds_toArray, List.set_cons_zero, List.set_cons_succ]
                    refine wpAnyH_take (i := 3) (v := undef) rfl (by kernel_rfl) (by kernel_rfl) (by kernel_rfl) (fun _ _ _ h => h) (Or.inr ⟨by rfl, rfl⟩) hHeld ?_
                    simp only [List.getElem_toArray, List.getElem_cons_zero, List.getElem_cons_succ, Act.put, List.setIfInBounds_toArray, List.set_cons_zero, List.set_cons_succ]
                    refine wpAnyH_take (i := 4) (v := undef) rfl (by kernel_rfl) (by kernel_rfl) (by kernel_rfl) (fun _ _ _ h => h) (Or.inr ⟨by rfl, rfl⟩) hHeld ?_
                    simp only [List.getElem_toArray, List.getElem_cons_zero, List.getElem_cons_succ, Act.put, List.setIfInBounds_toArray, List.set_cons_zero, List.set_cons_succ]
                    refine wpAnyH_take (i := 5) (v := undef) rfl (by kernel_rfl) (by kernel_rfl) (by kernel_rfl) (fun _ _ _ h => h) (Or.inr ⟨by rfl, rfl⟩) hHeld ?_
                    simp only [List.getElem_toArray, List.getElem_cons_zero, List.getElem_cons_succ, Act.put, List.setIfInBounds_toArray, List.set_cons_zero, List.set_cons_succ]
                    refine wpAnyH_take (i := 6) (v := undef) rfl (by kernel_rfl) (by kernel_rfl) (by kernel_rfl) (fun _ _ _ h => h) (Or.inr ⟨by rfl, rfl⟩) hHeld ?_
                    simp only [List.getElem_toArray, List.getElem_cons_zero, List.getElem_cons_succ, Act.put, List.setIfInBounds_toArray, List.set_cons_zero, List.set_cons_succ]
                    refine wpAnyH_take (i := 7) (v := undef) rfl (by kernel_rfl) (by kernel_rfl) (by kernel_rfl) (fun _ _ _ h => h) (Or.inr ⟨by rfl, rfl⟩) hHeld ?_
                    simp only [List.getElem_toArray, List.getElem_cons_zero, List.getElem_cons_succ, Act.put, List.setIfInBounds_toArray, List.set_cons_zero, List.set_cons_succ]
                    refine wpAnyH_take (i := 8) (v := undef) rfl (by kernel_rfl) (by kernel_rfl) (by kernel_rfl) (fun _ _ _ h => h) (Or.inr ⟨by rfl, rfl⟩) hHeld ?_
                    simp only [List.getElem_toArray, List.getElem_cons_zero, List.getElem_cons_succ, Act.put, List.setIfInBounds_toArray, List.set_cons_zero, List.set_cons_succ]
                    refine wpAnyH_take (i := 9) (v := undef) rfl (by kernel_rfl) (by kernel_rfl) (by kernel_rfl) (fun _ _ _ h => h) (Or.inr ⟨by rfl, rfl⟩) hHeld ?_
                    simp only [List.getElem_toArray, List.getElem_cons_zero, List.getElem_cons_succ, Act.put, List.setIfInBounds_toArray, List.set_cons_zero, List.set_cons_succ]
                    refine wpAnyH_take (i := 10) (v := undef) rfl (by kernel_rfl) (by kernel_rfl) (by kernel_rfl) (fun _ _ _ h => h) (Or.inr ⟨by rfl, rfl⟩) hHeld ?_
                    simp only [List.getElem_toArray, List.getElem_cons_zero, List.getElem_cons_succ, Act.put, List.setIfInBounds_toArray, List.set_cons_zero, List.set_cons_succ]
                    refine wpAnyH_take (i := 11) (v := undef) rfl (by kernel_rfl) (by kernel_rfl) (by kernel_rfl) (fun _ _ _ h => h) (Or.inr ⟨by rfl, rfl⟩) hHeld ?_
                    simp only [List.getElem_toArray, List.getElem_cons_zero, List.getElem_cons_succ, Act.put, List.setIfInBounds_toArray, List.set_cons_zero, List.set_cons_succ]
                    refine wpAnyH_take (i := 12) (v := undef) rfl (by kernel_rfl) (by kernel_rfl) (by kernel_rfl) (fun _ _ _ h => h) (Or.inr ⟨by rfl, rfl⟩) hHeld ?_
                    simp only [List.getElem_toArray, List.getElem_cons_zero, List.getElem_cons_succ, Act.put, List.setIfInBounds_toArray, List.set_cons_zero, List.set_cons_succ]
                    refine wpAnyH_take (i := 13) (v := undef) rfl (by kernel_rfl) (by kernel_rfl) (by kernel_rfl) (fun _ _ _ h => h) (Or.inr ⟨by rfl, rfl⟩) hHeld ?_
                    simp only [List.getElem_toArray, List.getElem_cons_zero, List.getElem_cons_succ, Act.put, List.setIfInBounds_toArray, List.set_cons_zero, List.set_cons_succ]
                    refine wpAnyH_take (i := 14) (v := undef) rfl (by kernel_rfl) (by kernel_rfl) (by kernel_rfl) (fun _ _ _ h => h) (Or.inr ⟨by rfl, rfl⟩) hHeld ?_
                    simp only [List.getElem_toArray, List.getElem_cons_zero, List.getElem_cons_succ, Act.put, List.setIfInBounds_toArray, List.set_cons_zero, List.set_cons_succ]
                    refine wpAnyH_take (i := 15) (v := undef) rfl (by kernel_rfl) (by kernel_rfl) (by kernel_rfl) (fun _ _ _ h => h) (Or.inr ⟨by rfl, rfl⟩) hHeld ?_
                    simp only [List.getElem_toArray, List.getElem_cons_zero, List.getElem_cons_succ, Act.put, List.setIfInBounds_toArray, List.set_cons_zero, List.set_cons_succ]
                    refine wpAnyH_take (i := 16) (v := undef) rfl (by kernel_rfl) (by kernel_rfl) (by kernel_rfl) (fun _ _ _ h => h) (Or.inr ⟨by rfl, rfl⟩) hHeld ?_
                    simp only [List.getElem_toArray, List.getElem_cons_zero, List.getElem_cons_succ, Act.put, List.setIfInBounds_toArray, List.set_cons_zero, List.set_cons_succ]
                    refine wpAnyH_take (i := 17) (v := ?v28) rfl (by kernel_rfl) (by kernel_rfl) (by kernel_rfl) (fun _ _ _ h => h) (Or.inl ⟨by rfl, ?y28⟩) hHeld ?r28
                    case y28 => (intro w hSw; clear hSw; go_simp; try with_reducible rfl)
                    simp only [List.getElem_toArray, List.getElem_cons_zero, List.getElem_cons_succ, Act.put, List.setIfInBounds_toArray, List.set_cons_zero, List.set_cons_succ]
                    refine wpAnyH_done (by kernel_rfl) ?_ _
                    go_wp2_with fail
                    go_roundw
                    case rel => exact ⟨X, R, zs, t + 1, _, dl, _, nw1 ++ [(dl.length : Int)], some (p, pg, r.1), dl.length, H, q + 1, nxt, rfl, rfl, rfl, rfl, by go_num, by omega, by omega, wh_more Hv.out.2, fun p' pg' x' hx' v' hv' => (by
                      cases hx'
                      have h := hv'.symm.trans Hv.out.1
                      cases h
                      exact ⟨f2, HF.out⟩), HM6.out.drew, by have := HR2.out.2.2.1; omega, by have := HR2.out.2.2.2; omega, HR2.out.1, HR2.out.2.1, by have := HN.out; simp; omega, fun a ha => (by
                      rcases List.mem_append.1 ha with h | h
                      · exact Hnn.out a h
                      · simp only [List.mem_cons, List.not_mem_nil, or_false] at h
                        omega)⟩
                    case measure => simp [intOf]; omega
                · rw [hd1]
                  have HG := Lib.hid (And.intro hd1 (And.intro g1 (And.intro g2 (And.intro g3 (And.intro g4 (And.intro g5 g6))))))
                  as_aux_lemma =>
                    have G4 : (G : Int) ≤ 400 := by omega
                    have cz : (c : Int) ≤ nw1.length := by omega
                    clear hd1 g1 g2 g3 g4 g5 g6 Hcase
                    go_wp2_with fail
                    refine Hss.out.mono ?_
                    rintro e w' ⟨rfl, rfl⟩
                    go_wp2_with fail
                    refine (Hms.out _).mono ?_
                    rintro e W6 ⟨rfl, hu6⟩
                    have HM6 := Lib.hid (HM5.out.low hu6)
                    clear hu6 e0 e1 e2 e3 e4 x1
                    have Hgot : Hid (Calls Try.prog 18 #[.pointer (some ⟨p, 0, none⟩)] W6 (fun e w' => ∃ q1 : Nat, W6.heap.size ≤ q1 ∧ e = .returned (.tuple #[.slice (some ⟨q1, 0, none⟩) n n, .int .u64 (G : Int)]) ∧ Blk w' q1 ((gw n (dl.map (fun r => r.2.2)) G).map (Value.int .u64)) ∧ Below W6.heap.size W6 w')) := Lib.hid (by
                      obtain ⟨y0, y1, y2, y3, y4, y5, y6⟩ := HG.out
                      have hl := (Hgl.out G y2).1
                      have h := got_ok (HM6.out.c.rd p pg r.1 rfl) y0 (by rw [y6, hl]; have := Hb.out; omega)
                      unfold GotPost at h
                      rw [y6, y1, hl] at h
                      exact h)
                    have Hat : Hid (∀ W, RdAt W p pg (spS n d) r.1 → Calls Try.prog 20 #[.pointer (some ⟨p, 0, none⟩)] W (Pur (.int .i64 ((c : Int) + 1)) W)) := Lib.hid (fun W h => by
                      obtain ⟨y0, y1, y2, y3, y4, y5, y6⟩ := HG.out
                      have := rat_pur h
                      unfold rat at this
                      rw [if_pos y0, y3] at this
                      exact this)
                    go_wp2_with fail
                    refine Hgot.out.mono ?_
                    rintro e W7 ⟨q1, hq1, rfl, hB7, hu7⟩
                    have HM7 := Lib.hid (And.intro (HM6.out.low hu7) hB7)
                    clear hq1 hB7 hu7 HM6 Hgot
                    obtain ⟨rr, hrr, he6, hrd6⟩ := (Hgl.out G HG.out.2.2.1).2
                    have hnews := HM7.out.1.c.news
                    have hdone := HM7.out.1.c.done
                    dsimp only at hnews hdone
                    rw [show (nw1 ++ [(dl.length : Int)]).length = nw1.length + 1 by simp] at hnews
                    obtain ⟨ng, rfl, cng⟩ := owns_at hnews (j := c) (u := .int .i64 (G : Int)) (by rw [List.getElem?_map, HG.out.2.2.2.2.2.1]; rfl)
                    obtain ⟨vg, rfl, cvg⟩ := owns_at hdone (j := G) (u := rwv rr) (by rw [List.getElem?_map, hrr]; rfl)
                    have hlr : rr.2.2.length = n := by rw [he6]; exact (Hgl.out G HG.out.2.2.1).1
                    unfold rwv at cvg
                    rw [hlr] at cvg
                    have Hwd : Hid (Calls Try.prog 19 #[.slice (some ⟨q1, 0, none⟩) n n, .slice rr.1 n rr.2.1] W7 (Ret (.bool true) W7)) := Lib.hid (by
                      have h := words_any (some ⟨q1, 0, none⟩) rr.1 (gw n (dl.map (fun r => r.2.2)) G) rr.2.2 n rr.2.1 W7 (Rdw.of_blk HM7.out.2) (hrd6 W7 HM7.out.1.c.zero HM7.out.1.bel) (by have := Hb.out; rw [(Hgl.out G HG.out.2.2.1).1]; omega)
                      rw [decide_eq_true he6.symm, (Hgl.out G HG.out.2.2.1).1, hlr] at h
                      exact h)
                    have mG : ((G : Int) != (G : Int)) = false := by simp
                    have G0 : 0 ≤ (G : Int) := by omega
                    have G5 : (G : Int) < (dl.length : Int) + 1 := by have := HG.out.2.2.1; omega
                    have c5 : (c : Int) < (nw1.length : Int) + 1 := by omega
                    clear hrr he6 hrd6 hnews hdone hlr
                    generalize rr.1 = ra at *
                    generalize rr.2.1 = rcap at *
                    go_wp2_with fail
                    refine (Hat.out _ (HM7.out.1.c.rd p pg r.1 rfl)).mono ?_
                    rintro e w' ⟨rfl, rfl⟩
                    go_wp2_with fail
                    refine Hwd.out.mono ?_
                    rintro e W8 ⟨rfl, hu8⟩
                    have HM8 := Lib.hid (HM7.out.1.low hu8)
                    clear hu8 cng cvg Hwd HM7 Hat
                    go_wp2_with fail
                    refine wp_region_held_drew (S := fun _ => True) (by kernel_rfl) (trivial) (fun hHeld => ?_)
                    refine wpAnyH_take (i := 0) (v := ?v29) rfl (by kernel_rfl) (by kernel_rfl) (by kernel_rfl) (fun _ _ _ h => h) (Or.inl ⟨by rfl, ?y29⟩) hHeld ?r29
                    case y29 => (intro w hSw; clear hSw; go_simp; try with_reducible rfl)
                    simp only [List.getElem_toArray, List.getElem_cons_zero, Act.put, List.setIfInBounds_toArray, List.set_cons_zero, List.set_cons_succ]
                    refine wpAnyH_take (i := 1) (v := ?v30) rfl (by kernel_rfl) (by kernel_rfl) (by kernel_rfl) (fun _ _ _ h => h) (Or.inl ⟨by rfl, ?y30⟩) hHeld ?r30
                    case y30 => (intro w hSw; clear hSw; go_simp; try with_reducible rfl)
                    simp only [List.getElem_toArray, List.getElem_cons_zero, List.getElem_cons_succ, Act.put, List.setIfInBounds_toArray, List.set_cons_zero, List.set_cons_succ]
                    refine wpAnyH_take (i := 2) (v := ?v31) rfl (by kernel_rfl) (by kernel_rfl) (by kernel_rfl) (fun _ _ _ h => h) (Or.inl ⟨by rfl, ?y31⟩) hHeld ?r31
                    case y31 => (intro w hSw; clear hSw; go_simp; try with_reducible rfl)
                    simp only [List.getElem_toArray, List.getElem_cons_zero, List.getElem_cons_succ, Act.put, List.setIfInBounds_toArray, List.set_cons_zero, List.set_cons_succ]
                    refine wpAnyH_take (i := 3) (v := undef) rfl (by kernel_rfl) (by kernel_rfl) (by kernel_rfl) (fun _ _ _ h => h) (Or.inr ⟨by rfl, rfl⟩) hHeld ?_
                    simp only [List.getElem_toArray, List.getElem_cons_zero, List.getElem_cons_succ, Act.put, List.setIfInBounds_toArray, List.set_cons_zero, List.set_cons_succ]
                    refine wpAnyH_take (i := 4) (v := undef) rfl (by kernel_rfl) (by kernel_rfl) (by kernel_rfl) (fun _ _ _ h => h) (Or.inr ⟨by rfl, rfl⟩) hHeld ?_
                    simp only [List.getElem_toArray, List.getElem_cons_zero, List.getElem_cons_succ, Act.put, List.setIfInBounds_toArray, List.set_cons_zero, List.set_cons_succ]
                    refine wpAnyH_take (i := 5) (v := undef) rfl (by kernel_rfl) (by kernel_rfl) (by kernel_rfl) (fun _ _ _ h => h) (Or.inr ⟨by rfl, rfl⟩) hHeld ?_
                    simp only [List.getElem_toArray, List.getElem_cons_zero, List.getElem_cons_succ, Act.put, List.setIfInBounds_toArray, List.set_cons_zero, List.set_cons_succ]
                    refine wpAnyH_take (i := 6) (v := undef) rfl (by kernel_rfl) (by kernel_rfl) (by kernel_rfl) (fun _ _ _ h => h) (Or.inr ⟨by rfl, rfl⟩) hHeld ?_
                    simp only [List.getElem_toArray, List.getElem_cons_zero, List.getElem_cons_succ, Act.put, List.setIfInBounds_toArray, List.set_cons_zero, List.set_cons_succ]
                    refine wpAnyH_take (i := 7) (v := undef) rfl (by kernel_rfl) (by kernel_rfl) (by kernel_rfl) (fun _ _ _ h => h) (Or.inr ⟨by rfl, rfl⟩) hHeld ?_
                    simp only [List.getElem_toArray, List.getElem_cons_zero, List.getElem_cons_succ, Act.put, List.setIfInBounds_toArray, List.set_cons_zero, List.set_cons_succ]
                    refine wpAnyH_take (i := 8) (v := undef) rfl (by kernel_rfl) (by kernel_rfl) (by kernel_rfl) (fun _ _ _ h => h) (Or.inr ⟨by rfl, rfl⟩) hHeld ?_
                    simp only [List.getElem_toArray, List.getElem_cons_zero, List.getElem_cons_succ, Act.put, List.setIfInBounds_toArray, List.set_cons_zero, List.set_cons_succ]
                    refine wpAnyH_take (i := 9) (v := undef) rfl (by kernel_rfl) (by kernel_rfl) (by kernel_rfl) (fun _ _ _ h => h) (Or.inr ⟨by rfl, rfl⟩) hHeld ?_
                    simp only [List.getElem_toArray, List.getElem_cons_zero, List.getElem_cons_succ, Act.put, List.setIfInBounds_toArray, List.set_cons_zero, List.set_cons_succ]
                    refine wpAnyH_take (i := 10) (v := undef) rfl (by kernel_rfl) (by kernel_rfl) (by kernel_rfl) (fun _ _ _ h => h) (Or.inr ⟨by rfl, rfl⟩) hHeld ?_
                    simp only [List.getElem_toArray, List.getElem_cons_zero, List.getElem_cons_succ, Act.put, List.setIfInBounds_toArray, List.set_cons_zero, List.set_cons_succ]
                    refine wpAnyH_take (i := 11) (v := undef) rfl (by kernel_rfl) (by kernel_rfl) (by kernel_rfl) (fun _ _ _ h => h) (Or.inr ⟨by rfl, rfl⟩) hHeld ?_
                    simp only [List.getElem_toArray, List.getElem_cons_zero, List.getElem_cons_succ, Act.put, List.setIfInBounds_toArray, List.set_cons_zero, List.set_cons_succ]
                    refine wpAnyH_take (i := 12) (v := undef) rfl (by kernel_rfl) (by kernel_rfl) (by kernel_rfl) (fun _ _ _ h => h) (Or.inr ⟨by rfl, rfl⟩) hHeld ?_
                    simp only [List.getElem_toArray, List.getElem_cons_zero, List.getElem_cons_succ, Act.put, List.setIfInBounds_toArray, List.set_cons_zero, List.set_cons_succ]
                    refine wpAnyH_take (i := 13) (v := undef) rfl (by kernel_rfl) (by kernel_rfl) (by kernel_rfl) (fun _ _ _ h => h) (Or.inr ⟨by rfl, rfl⟩) hHeld ?_
                    simp only [List.getElem_toArray, List.getElem_cons_zero, List.getElem_cons_succ, Act.put, List.setIfInBounds_toArray, List.set_cons_zero, List.set_cons_succ]
                    refine wpAnyH_take (i := 14) (v := undef) rfl (by kernel_rfl) (by kernel_rfl) (by kernel_rfl) (fun _ _ _ h => h) (Or.inr ⟨by rfl, rfl⟩) hHeld ?_
                    simp only [List.getElem_toArray, List.getElem_cons_zero, List.getElem_cons_succ, Act.put, List.setIfInBounds_toArray, List.set_cons_zero, List.set_cons_succ]
                    refine wpAnyH_take (i := 15) (v := undef) rfl (by kernel_rfl) (by kernel_rfl) (by kernel_rfl) (fun _ _ _ h => h) (Or.inr ⟨by rfl, rfl⟩) hHeld ?_
                    simp only [List.getElem_toArray, List.getElem_cons_zero, List.getElem_cons_succ, Act.put, List.setIfInBounds_toArray, List.set_cons_zero, List.set_cons_succ]
                    refine wpAnyH_take (i := 16) (v := undef) rfl (by kernel_rfl) (by kernel_rfl) (by kernel_rfl) (fun _ _ _ h => h) (Or.inr ⟨by rfl, rfl⟩) hHeld ?_
                    simp only [List.getElem_toArray, List.getElem_cons_zero, List.getElem_cons_succ, Act.put, List.setIfInBounds_toArray, List.set_cons_zero, List.set_cons_succ]
                    refine wpAnyH_take (i := 17) (v := ?v46) rfl (by kernel_rfl) (by kernel_rfl) (by kernel_rfl) (fun _ _ _ h => h) (Or.inl ⟨by rfl, ?y46⟩) hHeld ?r46
                    case y46 => (intro w hSw; clear hSw; go_simp; try with_reducible rfl)
                    simp only [List.getElem_toArray, List.getElem_cons_zero, List.getElem_cons_succ, Act.put, List.setIfInBounds_toArray, List.set_cons_zero, List.set_cons_succ]
                    refine wpAnyH_done (by kernel_rfl) ?_ _
                    go_wp2_with fail
                    go_roundw
                    case rel => exact ⟨X, R, zs, t + 1, _, dl, _, nw1 ++ [(dl.length : Int)], none, dl.length, H, q + 1, nxt, rfl, rfl, rfl, rfl, by go_num, by omega, by omega, wh_more Hv.out.2, fun p' pg' x' hx' => (by cases hx'), HM8.out.drew.rdrop, by have := HR2.out.2.2.1; omega, by have := HR2.out.2.2.2; omega, HR2.out.1, HR2.out.2.1, by have := HN.out; simp; omega, fun a ha => (by
                      rcases List.mem_append.1 ha with h | h
                      · exact Hnn.out a h
                      · simp only [List.mem_cons, List.not_mem_nil, or_false] at h
                        omega)⟩
                    case measure => simp [intOf]; omega
                · rw [hd1]
                  have HG := Lib.hid hd2
                  as_aux_lemma =>
                    clear hd1 hd2 Hcase
                    go_wp2_with fail
                    refine Hss.out.mono ?_
                    rintro e w' ⟨rfl, rfl⟩
                    go_wp2_with fail
                    refine (Hms.out _).mono ?_
                    rintro e W6 ⟨rfl, hu6⟩
                    have HM6 := Lib.hid (HM5.out.low hu6)
                    clear hu6 e0 e1 e2 e3 e4 x1
                    obtain ⟨a0, ha0⟩ : ∃ a0, (nw1 ++ [(dl.length : Int)])[0]? = some a0 := ⟨_, List.getElem?_eq_getElem (by simp)⟩
                    have hnews := HM6.out.c.news
                    dsimp only at hnews
                    rw [show (nw1 ++ [(dl.length : Int)]).length = nw1.length + 1 by simp] at hnews
                    obtain ⟨ng, rfl, cng⟩ := owns_at hnews (j := 0) (u := .int .i64 a0) (by rw [List.getElem?_map, ha0]; rfl)
                    have h1 := HG.out a0 ha0
                    have z0a : 0 ≤ a0 := by
                      rcases List.mem_append.1 (List.mem_of_getElem? ha0) with h | h
                      · exact Hnn.out a0 h
                      · simp only [List.mem_cons, List.not_mem_nil, or_false] at h
                        omega
                    have z1a : a0 ≤ 400 := by omega
                    have hbx := HM6.out.c.box
                    dsimp only at hbx
                    have HS6 := Lib.hid (show SQ ng xb a0 d tr W6.drew from ⟨cng, hbx.cell (i := 0) rfl, hbx.cell (i := 1) rfl⟩)
                    have w5 : IntKind.i64.wrap (dl.length : Int) = (dl.length : Int) := by rw [IntKind.wrap_i64]; omega
                    have w9 : IntKind.i64.wrap ((dl.length : Int) - a0) = (dl.length : Int) - a0 := by rw [IntKind.wrap_i64]; omega
                    have w14 : IntKind.i64.wrap ((d : Int) - 1) = (d : Int) - 1 := by rw [IntKind.wrap_i64]; omega
                    have w15 : IntKind.i64.wrap ((tr : Int) * ((d : Int) - 1)) = ((tr * (d - 1) : Nat) : Int) := by rw [hmul, IntKind.wrap_i64]; omega
                    have w16 : decide ((dl.length : Int) - a0 < ((tr * (d - 1) : Nat) : Int)) = false := decide_eq_false (by omega)
                    clear hnews ha0 h1 z0a z1a hbx cng hmul hMS hMD
                    generalize ((tr * (d - 1) : Nat) : Int) = MD at *
                    go_wp2_with fail
                    refine wp_region_held_drew (S := SQ ng xb a0 d tr) (by kernel_rfl) (HS6.out) (fun hHeld => ?_)
                    refine wpAnyH_take (i := 0) (v := ?v47) rfl (by kernel_rfl) (by kernel_rfl) (by kernel_rfl) (fun _ _ _ h => h) (Or.inl ⟨by rfl, ?y47⟩) hHeld ?r47
                    case y47 => (intro w hSw; obtain ⟨q0, q1, q2⟩ := hSw; go_simp; try with_reducible rfl)
                    simp only [List.getElem_toArray, List.getElem_cons_zero, Act.put, List.setIfInBounds_toArray, List.set_cons_zero, List.set_cons_succ]
                    refine wpAnyH_take (i := 1) (v := ?v48) rfl (by kernel_rfl) (by kernel_rfl) (by kernel_rfl) (fun _ _ _ h => h) (Or.inl ⟨by rfl, ?y48⟩) hHeld ?r48
                    case y48 => (intro w hSw; obtain ⟨q0, q1, q2⟩ := hSw; go_simp; try with_reducible rfl)
                    simp only [List.getElem_toArray, List.getElem_cons_zero, List.getElem_cons_succ, Act.put, List.setIfInBounds_toArray, List.set_cons_zero, List.set_cons_succ]
                    refine wpAnyH_take (i := 2) (v := ?v49) rfl (by kernel_rfl) (by kernel_rfl) (by kernel_rfl) (fun _ _ _ h => h) (Or.inl ⟨by rfl, ?y49⟩) hHeld ?r49
                    case y49 => (intro w hSw; obtain ⟨q0, q1, q2⟩ := hSw; go_simp; try with_reducible rfl)
                    simp only [List.getElem_toArray, List.getElem_cons_zero, List.getElem_cons_succ, Act.put, List.setIfInBounds_toArray, List.set_cons_zero, List.set_cons_succ]
                    refine wpAnyH_take (i := 3) (v := ?v50) rfl (by kernel_rfl) (by kernel_rfl) (by kernel_rfl) (fun _ _ _ h => h) (Or.inl ⟨by rfl, ?y50⟩) hHeld ?r50
                    case y50 => (intro w hSw; obtain ⟨q0, q1, q2⟩ := hSw; go_simp; try with_reducible rfl)
                    simp only [List.getElem_toArray, List.getElem_cons_zero, List.getElem_cons_succ, Act.put, List.setIfInBounds_toArray, List.set_cons_zero, List.set_cons_succ]
                    refine wpAnyH_take (i := 4) (v := ?v51) rfl (by kernel_rfl) (by kernel_rfl) (by kernel_rfl) (fun _ _ _ h => h) (Or.inl ⟨by rfl, ?y51⟩) hHeld ?r51
                    case y51 => (intro w hSw; obtain ⟨q0, q1, q2⟩ := hSw; go_simp; try with_reducible rfl)
                    simp only [List.getElem_toArray, List.getElem_cons_zero, List.getElem_cons_succ, Act.put, List.setIfInBounds_toArray, List.set_cons_zero, List.set_cons_succ]
                    refine wpAnyH_take (i := 5) (v := .int .i64 (dl.length : Int)) rfl (by kernel_rfl) (by kernel_rfl) (by kernel_rfl) (fun _ _ _ h => h) (Or.inl ⟨by rfl, ?y52⟩) hHeld ?r52
                    case y52 => (intro w hSw; obtain ⟨q0, q1, q2⟩ := hSw; go_simp; try with_reducible rfl)
                    simp only [List.getElem_toArray, List.getElem_cons_zero, List.getElem_cons_succ, Act.put, List.setIfInBounds_toArray, List.set_cons_zero, List.set_cons_succ]
                    refine wpAnyH_take (i := 6) (v := ?v53) rfl (by kernel_rfl) (by kernel_rfl) (by kernel_rfl) (fun _ _ _ h => h) (Or.inl ⟨by rfl, ?y53⟩) hHeld ?r53
                    case y53 => (intro w hSw; obtain ⟨q0, q1, q2⟩ := hSw; go_simp; try with_reducible rfl)
                    simp only [List.getElem_toArray, List.getElem_cons_zero, List.getElem_cons_succ, Act.put, List.setIfInBounds_toArray, List.set_cons_zero, List.set_cons_succ]
                    refine wpAnyH_take (i := 7) (v := ?v54) rfl (by kernel_rfl) (by kernel_rfl) (by kernel_rfl) (fun _ _ _ h => h) (Or.inl ⟨by rfl, ?y54⟩) hHeld ?r54
                    case y54 => (intro w hSw; obtain ⟨q0, q1, q2⟩ := hSw; go_simp; try with_reducible rfl)
                    simp only [List.getElem_toArray, List.getElem_cons_zero, List.getElem_cons_succ, Act.put, List.setIfInBounds_toArray, List.set_cons_zero, List.set_cons_succ]
                    refine wpAnyH_take (i := 8) (v := ?v55) rfl (by kernel_rfl) (by kernel_rfl) (by kernel_rfl) (fun _ _ _ h => h) (Or.inl ⟨by rfl, ?y55⟩) hHeld ?r55
                    case y55 => (intro w hSw; obtain ⟨q0, q1, q2⟩ := hSw; go_simp; try with_reducible rfl)
                    simp only [List.getElem_toArray, List.getElem_cons_zero, List.getElem_cons_succ, Act.put, List.setIfInBounds_toArray, List.set_cons_zero, List.set_cons_succ]
                    refine wpAnyH_take (i := 9) (v := .int .i64 ((dl.length : Int) - a0)) rfl (by kernel_rfl) (by kernel_rfl) (by kernel_rfl) (fun _ _ _ h => h) (Or.inl ⟨by rfl, ?y56⟩) hHeld ?r56
                    case y56 => (intro w hSw; obtain ⟨q0, q1, q2⟩ := hSw; go_simp; try with_reducible rfl)
                    simp only [List.getElem_toArray, List.getElem_cons_zero, List.getElem_cons_succ, Act.put, List.setIfInBounds_toArray, List.set_cons_zero, List.set_cons_succ]
                    refine wpAnyH_take (i := 10) (v := ?v57) rfl (by kernel_rfl) (by kernel_rfl) (by kernel_rfl) (fun _ _ _ h => h) (Or.inl ⟨by rfl, ?y57⟩) hHeld ?r57
                    case y57 => (intro w hSw; obtain ⟨q0, q1, q2⟩ := hSw; go_simp; try with_reducible rfl)
                    simp only [List.getElem_toArray, List.getElem_cons_zero, List.getElem_cons_succ, Act.put, List.setIfInBounds_toArray, List.set_cons_zero, List.set_cons_succ]
                    refine wpAnyH_take (i := 11) (v := ?v58) rfl (by kernel_rfl) (by kernel_rfl) (by kernel_rfl) (fun _ _ _ h => h) (Or.inl ⟨by rfl, ?y58⟩) hHeld ?r58
                    case y58 => (intro w hSw; obtain ⟨q0, q1, q2⟩ := hSw; go_simp; try with_reducible rfl)
                    simp only [List.getElem_toArray, List.getElem_cons_zero, List.getElem_cons_succ, Act.put, List.setIfInBounds_toArray, List.set_cons_zero, List.set_cons_succ]
                    refine wpAnyH_take (i := 12) (v := ?v59) rfl (by kernel_rfl) (by kernel_rfl) (by kernel_rfl) (fun _ _ _ h => h) (Or.inl ⟨by rfl, ?y59⟩) hHeld ?r59
                    case y59 => (intro w hSw; obtain ⟨q0, q1, q2⟩ := hSw; go_simp; try with_reducible rfl)
                    simp only [List.getElem_toArray, List.getElem_cons_zero, List.getElem_cons_succ, Act.put, List.setIfInBounds_toArray, List.set_cons_zero, List.set_cons_succ]
                    refine wpAnyH_take (i := 13) (v := ?v60) rfl (by kernel_rfl) (by kernel_rfl) (by kernel_rfl) (fun _ _ _ h => h) (Or.inl ⟨by rfl, ?y60⟩) hHeld ?r60
                    case y60 => (intro w hSw; obtain ⟨q0, q1, q2⟩ := hSw; go_simp; try with_reducible rfl)
                    simp only [List.getElem_toArray, List.getElem_cons_zero, List.getElem_cons_succ, Act.put, List.setIfInBounds_toArray, List.set_cons_zero, List.set_cons_succ]
                    refine wpAnyH_take (i := 14) (v := .int .i64 ((d : Int) - 1)) rfl (by kernel_rfl) (by kernel_rfl) (by kernel_rfl) (fun _ _ _ h => h) (Or.inl ⟨by rfl, ?y61⟩) hHeld ?r61
                    case y61 => (intro w hSw; obtain ⟨q0, q1, q2⟩ := hSw; go_simp; try with_reducible rfl)
                    simp only [List.getElem_toArray, List.getElem_cons_zero, List.getElem_cons_succ, Act.put, List.setIfInBounds_toArray, List.set_cons_zero, List.set_cons_succ]
                    refine wpAnyH_take (i := 15) (v := .int .i64 MD) rfl (by kernel_rfl) (by kernel_rfl) (by kernel_rfl) (fun _ _ _ h => h) (Or.inl ⟨by rfl, ?y62⟩) hHeld ?r62
                    case y62 => (intro w hSw; obtain ⟨q0, q1, q2⟩ := hSw; go_simp; try with_reducible rfl)
                    simp only [List.getElem_toArray, List.getElem_cons_zero, List.getElem_cons_succ, Act.put, List.setIfInBounds_toArray, List.set_cons_zero, List.set_cons_succ]
                    refine wpAnyH_take (i := 16) (v := .bool false) rfl (by kernel_rfl) (by kernel_rfl) (by kernel_rfl) (fun _ _ _ h => h) (Or.inl ⟨by rfl, ?y63⟩) hHeld ?r63
                    case y63 => (intro w hSw; obtain ⟨q0, q1, q2⟩ := hSw; go_simp; try with_reducible rfl)
                    simp only [List.getElem_toArray, List.getElem_cons_zero, List.getElem_cons_succ, Act.put, List.setIfInBounds_toArray, List.set_cons_zero, List.set_cons_succ]
                    refine wpAnyH_take (i := 17) (v := ?v64) rfl (by kernel_rfl) (by kernel_rfl) (by kernel_rfl) (fun _ _ _ h => h) (Or.inl ⟨by rfl, ?y64⟩) hHeld ?r64
                    case y64 => (intro w hSw; obtain ⟨q0, q1, q2⟩ := hSw; go_simp; try with_reducible rfl)
                    simp only [List.getElem_toArray, List.getElem_cons_zero, List.getElem_cons_succ, Act.put, List.setIfInBounds_toArray, List.set_cons_zero, List.set_cons_succ]
                    refine wpAnyH_done (by kernel_rfl) ?_ _
                    go_wp2_with fail
                    go_roundw
                    case rel => exact ⟨X, R, zs, t + 1, _, dl, _, nw1 ++ [(dl.length : Int)], none, dl.length, H, q + 1, nxt, rfl, rfl, rfl, rfl, by go_num, by omega, by omega, wh_more Hv.out.2, fun p' pg' x' hx' => (by cases hx'), HM6.out.drew.rdrop, by have := HR2.out.2.2.1; omega, by have := HR2.out.2.2.2; omega, HR2.out.1, HR2.out.2.1, by have := HN.out; simp; omega, fun a ha => (by
                      rcases List.mem_append.1 ha with h | h
                      · exact Hnn.out a h
                      · simp only [List.mem_cons, List.not_mem_nil, or_false] at h
                        omega)⟩
                    case measure => simp [intOf]; omega
          · obtain rfl : q = ps.length := by omega
            have HM := Lib.hid hM.bel
            clear hI hO hM t0 t1 hRX hdl hnw hvc hnc
            go_wp2_with fail
            refine (awake_any _).mono ?_
            rintro e V3 ⟨rfl, hu3⟩
            have HM3 := Lib.hid (HM.out.trans (hu3.mono HM.out.size))
            clear hu3 HM
            go_wp2
            go_ret
            exact ⟨rfl, HM3.out⟩
end Go.Proofs.Ytajibhhmcjcchaa
