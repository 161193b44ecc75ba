/- The document's reading: whether it is whole. -/
import Derived.Test.YtajibhhmcjcchaaRrA
import Derived.Deep.RegionHeld3
import Derived.BigQuiet
namespace Go.Proofs.Ytajibhhmcjcchaa
open Go.RowKit
section
variable {w : World} {o wb : Nat} {V : Value} {S : Sp} {tr : Int} {x : RSt} {ys : List Int}
/-- What the third line reads. -/
def RZ (o wb i : Nat) (gen dp v : Int) (w' : World) : Prop := w'.cell? ⟨o, 8, none⟩ = some (.int .u64 gen) ∧ w'.cell? ⟨o, 4, none⟩ = some (.int .i64 dp) ∧ w'.cell? ⟨wb, i, none⟩ = some (.int .u64 v)
set_option maxRecDepth 100000 in
set_option maxHeartbeats 2000000 in
theorem rr_kept (h : RrAt w o V S tr x) (hB : Row w wb ys) (hne : o ≠ wb) (hvw : V.ownBlock ≠ some wb) (hw : RWf S x) (hh : x.how = 0) (t1 : x.left ≤ tr) (t2 : tr ≤ 16) (p0 : 0 ≤ x.steps) (p1 : x.steps ≤ 1000000) (hyl : ys.length ≤ 1000) (hl : x.line = 2) (v : Int) (hv : getI ys (rdl S x) = some v) (Hu : U64 v) (hkp : Sq.kp v x.gen S.dp = true)  :
    Calls Try.prog 15 #[.pointer (some ⟨o, 0, none⟩), .slice (some ⟨wb, 0, none⟩) ys.length ys.length] w (RrPost o wb V S tr ys ({ x with steps := x.steps + 1, how := 1 }) w) := by
  have Hkp := Lib.hid (fun W => Sq.rkept_any v x.gen S.dp Hu hw.gen W)
  rw [hkp] at Hkp
  clear hkp
  have hb := h.cells
  unfold rfr at hb
  rw [hh, hl] at hb
  have Hl := Lib.hid hl
  have Hh := Lib.hid hh
  have hwb := hne.symm
  have hvo := h.ne
  simp only [show ((2 : Int) + 1) = 3 from rfl] at hb
  have c1 := hb.cell (i := 1) rfl
  have c6 := hb.cell (i := 6) rfl
  have c11 := hb.cell (i := 11) rfl
  have c12 := hb.cell (i := 12) rfl
  have z12 := hb.frozen 12
  have lo := hb.lt
  have lw := hB.lt
  unfold rdl at hv
  rw [if_neg (by omega)] at hv
  obtain ⟨q0, hv1⟩ := getI_some hv
  have hlt := lt_of_some hv1
  obtain ⟨i, hi⟩ := Int.eq_ofNat_of_zero_le q0
  rw [hi] at c1
  rw [hi, Int.toNat_natCast] at hv1 hlt
  have hlt2 : (i : Int) < ys.length := by omega
  have hb2 := hb.put 12 (.int .i64 (x.steps + 1))
  have hB2 := hB.setFar (p := ⟨o, 12, none⟩) hwb (.int .i64 (x.steps + 1))
  have hwd2 := owns_set h.words (p := ⟨o, 12, none⟩) hvo (.int .i64 (x.steps + 1))
  have hu2 : Upd (fun k => k = o ∨ V.ownBlock = some k) w (w.setCell ⟨o, 12, none⟩ (.int .i64 (x.steps + 1))) := (Upd.refl _ w).setCell (.inl (.inl rfl)) _
  generalize hw2 : w.setCell ⟨o, 12, none⟩ (.int .i64 (x.steps + 1)) = w2 at hb2 hB2 hwd2 hu2
  have lo2 := hb2.lt
  have lw2 := hB2.lt
  have hq : RZ o wb i x.gen S.dp v w2.drew := ⟨hb2.cell (i := 8) rfl, hb2.cell (i := 4) rfl, hB2.cell hv1⟩
  have f6 := hb2.cell (i := 6) rfl
  have hb3 := hb2.drew
  have hB3 : Row w2.drew wb ys := hB2.drew
  have hwd3 := owns_drew hwd2 1
  have hu3 := hu2.drew
  have H := Lib.hid (And.intro hb3 (And.intro hB3 (And.intro hwd3 (And.intro hu3 (And.intro hvo (And.intro hne hvw))))))
  have hleft := hw.f0
  have Hf := Lib.hid (And.intro t1 t2)
  clear h hb hB hb2 hB2 hwd2 hu2 hb3 hB3 hwd3 hu3 hl hv hv1 hw hh hvo hvw hlt Hu q0 t1 t2
  go_enter Try.func15, Try.ntmps15
  go_wp2_with fail
  refine wp_region_held_drew (S := RZ o wb i x.gen S.dp v) (by kernel_rfl) (hq) (fun hHeld => ?_)
  refine wpAnyH_take (i := 0) (v := ?v1) rfl (by kernel_rfl) (by kernel_rfl) (by kernel_rfl) (fun _ _ _ h => h) (Or.inl ⟨by rfl, ?y1⟩) hHeld ?r1
  case y1 => (intro w hSw; obtain ⟨q0, q1, q2⟩ := hSw; go_simp; try with_reducible rfl)
  simp only [List.getElem_toArray, List.getElem_cons_zero, Act.put, List.setIfInBounds_toArray, List.set_cons_zero, List.set_cons_succ]
  refine wpAnyH_take (i := 1) (v := ?v2) rfl (by kernel_rfl) (by kernel_rfl) (by kernel_rfl) (fun _ _ _ h => h) (Or.inl ⟨by rfl, ?y2⟩) hHeld ?r2
  case y2 => (intro w hSw; obtain ⟨q0, q1, q2⟩ := hSw; go_simp; try with_reducible rfl)
  simp only [List.getElem_toArray, List.getElem_cons_zero, List.getElem_cons_succ, Act.put, List.setIfInBounds_toArray, List.set_cons_zero, List.set_cons_succ]
  refine wpAnyH_take (i := 2) (v := ?v3) rfl (by kernel_rfl) (by kernel_rfl) (by kernel_rfl) (fun _ _ _ h => h) (Or.inl ⟨by rfl, ?y3⟩) hHeld ?r3
  case y3 => (intro w hSw; obtain ⟨q0, q1, q2⟩ := hSw; go_simp; try with_reducible rfl)
  simp only [List.getElem_toArray, List.getElem_cons_zero, List.getElem_cons_succ, Act.put, List.setIfInBounds_toArray, List.set_cons_zero, List.set_cons_succ]
  refine wpAnyH_take (i := 3) (v := ?v4) rfl (by kernel_rfl) (by kernel_rfl) (by kernel_rfl) (fun _ _ _ h => h) (Or.inl ⟨by rfl, ?y4⟩) hHeld ?r4
  case y4 => (intro w hSw; obtain ⟨q0, q1, q2⟩ := hSw; go_simp; try with_reducible rfl)
  simp only [List.getElem_toArray, List.getElem_cons_zero, List.getElem_cons_succ, Act.put, List.setIfInBounds_toArray, List.set_cons_zero, List.set_cons_succ]
  refine wpAnyH_take (i := 4) (v := ?v5) rfl (by kernel_rfl) (by kernel_rfl) (by kernel_rfl) (fun _ _ _ h => h) (Or.inl ⟨by rfl, ?y5⟩) hHeld ?r5
  case y5 => (intro w hSw; obtain ⟨q0, q1, q2⟩ := hSw; go_simp; try with_reducible rfl)
  simp only [List.getElem_toArray, List.getElem_cons_zero, List.getElem_cons_succ, Act.put, List.setIfInBounds_toArray, List.set_cons_zero, List.set_cons_succ]
  refine wpAnyH_take (i := 5) (v := ?v6) rfl (by kernel_rfl) (by kernel_rfl) (by kernel_rfl) (fun _ _ _ h => h) (Or.inl ⟨by rfl, ?y6⟩) hHeld ?r6
  case y6 => (intro w hSw; obtain ⟨q0, q1, q2⟩ := hSw; go_simp; try with_reducible rfl)
  simp only [List.getElem_toArray, List.getElem_cons_zero, List.getElem_cons_succ, Act.put, List.setIfInBounds_toArray, List.set_cons_zero, List.set_cons_succ]
  refine wpAnyH_take (i := 6) (v := ?v7) rfl (by kernel_rfl) (by kernel_rfl) (by kernel_rfl) (fun _ _ _ h => h) (Or.inl ⟨by rfl, ?y7⟩) hHeld ?r7
  case y7 => (intro w hSw; obtain ⟨q0, q1, q2⟩ := hSw; go_simp; try with_reducible rfl)
  simp only [List.getElem_toArray, List.getElem_cons_zero, List.getElem_cons_succ, Act.put, List.setIfInBounds_toArray, List.set_cons_zero, List.set_cons_succ]
  refine wpAnyH_take (i := 7) (v := ?v8) rfl (by kernel_rfl) (by kernel_rfl) (by kernel_rfl) (fun _ _ _ h => h) (Or.inl ⟨by rfl, ?y8⟩) hHeld ?r8
  case y8 => (intro w hSw; obtain ⟨q0, q1, q2⟩ := hSw; go_simp; try with_reducible rfl)
  simp only [List.getElem_toArray, List.getElem_cons_zero, List.getElem_cons_succ, Act.put, List.setIfInBounds_toArray, List.set_cons_zero, List.set_cons_succ]
  refine wpAnyH_take (i := 8) (v := ?v9) rfl (by kernel_rfl) (by kernel_rfl) (by kernel_rfl) (fun _ _ _ h => h) (Or.inl ⟨by rfl, ?y9⟩) hHeld ?r9
  case y9 => (intro w hSw; obtain ⟨q0, q1, q2⟩ := hSw; go_simp; try with_reducible rfl)
  simp only [List.getElem_toArray, List.getElem_cons_zero, List.getElem_cons_succ, Act.put, List.setIfInBounds_toArray, List.set_cons_zero, List.set_cons_succ]
  refine wpAnyH_take (i := 9) (v := ?v10) rfl (by kernel_rfl) (by kernel_rfl) (by kernel_rfl) (fun _ _ _ h => h) (Or.inl ⟨by rfl, ?y10⟩) hHeld ?r10
  case y10 => (intro w hSw; obtain ⟨q0, q1, q2⟩ := hSw; go_simp; try with_reducible rfl)
  simp only [List.getElem_toArray, List.getElem_cons_zero, List.getElem_cons_succ, Act.put, List.setIfInBounds_toArray, List.set_cons_zero, List.set_cons_succ]
  refine wpAnyH_take (i := 10) (v := ?v11) rfl (by kernel_rfl) (by kernel_rfl) (by kernel_rfl) (fun _ _ _ h => h) (Or.inl ⟨by rfl, ?y11⟩) hHeld ?r11
  case y11 => (intro w hSw; obtain ⟨q0, q1, q2⟩ := hSw; go_simp; try with_reducible rfl)
  simp only [List.getElem_toArray, List.getElem_cons_zero, List.getElem_cons_succ, Act.put, List.setIfInBounds_toArray, List.set_cons_zero, List.set_cons_succ]
  refine wpAnyH_take (i := 11) (v := ?v12) rfl (by kernel_rfl) (by kernel_rfl) (by kernel_rfl) (fun _ _ _ h => h) (Or.inl ⟨by rfl, ?y12⟩) hHeld ?r12
  case y12 => (intro w hSw; obtain ⟨q0, q1, q2⟩ := hSw; go_simp; try with_reducible rfl)
  simp only [List.getElem_toArray, List.getElem_cons_zero, List.getElem_cons_succ, Act.put, List.setIfInBounds_toArray, List.set_cons_zero, List.set_cons_succ]
  refine wpAnyH_take (i := 12) (v := ?v13) rfl (by kernel_rfl) (by kernel_rfl) (by kernel_rfl) (fun _ _ _ h => h) (Or.inl ⟨by rfl, ?y13⟩) hHeld ?r13
  case y13 => (intro w hSw; obtain ⟨q0, q1, q2⟩ := hSw; go_simp; try with_reducible rfl)
  simp only [List.getElem_toArray, List.getElem_cons_zero, List.getElem_cons_succ, Act.put, List.setIfInBounds_toArray, List.set_cons_zero, List.set_cons_succ]
  refine wpAnyH_ready (rs := [13]) (by kernel_rfl) (by simp) (AllReadyH.cons rfl (fun K hK => ?_) AllReadyH.nil)
  go_simp
  refine (Hkp.out _).mono ?_
  rintro e v3 ⟨rfl, hb3⟩
  obtain ⟨a1, a2, a3, a4, a5, a6, a7⟩ := H.out
  have HV := Lib.hid (show Blk v3 o _ ∧ Row v3 wb ys ∧ v3.ownsRow 0 43 1 V x.rw.length (x.rw.map (Value.int .u64)) ∧ Upd (fun k => k = o ∨ V.ownBlock = some k) w v3 from ⟨a1.low hb3, a2.below hb3, owns_blocks a3 (fun g hg => by
    rcases a3.2 with ⟨c, _⟩ | ⟨g', _, _, e, _, hg', _⟩
    · rw [c] at hg; cases hg
    · have e' : g' = g := by rw [e] at hg; simpa [Value.ownBlock] using hg
      subst e'
      exact hb3.block g' (Array.getElem?_eq_some_iff.1 hg').1), a4.trans (Upd.of_below _ hb3)⟩)
  have hq3 : RZ o wb i x.gen S.dp v v3 := ⟨HV.out.1.cell (i := 8) rfl, HV.out.1.cell (i := 4) rfl, by rw [World.cell?_of_block (hb3.block wb a2.lt)]; exact hq.2.2⟩
  clear hb3 a1 a2 a3 a4 a5 a6 a7
  go_wp2_with fail
  refine hK.out _ _ (hq3) (fun hHeld => ?_)
  clear hK K
  refine wpAnyH_done (by kernel_rfl) ?_ _
  clear hHeld hq hq3 Hkp
  obtain ⟨a1, a2, a3, a4⟩ := HV.out
  have H3 := Lib.hid (And.intro a1 (And.intro a2 (And.intro a3 a4)))
  have lo3 := a1.lt
  have e11 := a1.cell (i := 11) rfl
  have z3 := a1.frozen 11
  clear a1 a2 a3 a4 HV
  go_wp2
  go_end0
  obtain ⟨a1, a2, a3, a4⟩ := H3.out
  obtain ⟨_, _, _, _, hvo, hne, hvw⟩ := H.out
  exact ⟨rfl, V, ⟨(a1.put 11 (.int .i64 1)).to' (by unfold rfr; simp [Hl.out]), owns_set a3 hvo _, hvo⟩, a2.setFar hwb _, a4.setCell (.inl (.inl rfl)) _, .inl rfl⟩
set_option maxRecDepth 100000 in
set_option maxHeartbeats 2000000 in
theorem rr_again (h : RrAt w o V S tr x) (hB : Row w wb ys) (hne : o ≠ wb) (hvw : V.ownBlock ≠ some wb) (hw : RWf S x) (hh : x.how = 0) (t1 : x.left ≤ tr) (t2 : tr ≤ 16) (p0 : 0 ≤ x.steps) (p1 : x.steps ≤ 1000000) (hyl : ys.length ≤ 1000) (hl : x.line = 2) (v : Int) (hv : getI ys (rdl S x) = some v) (Hu : U64 v) (hkp : Sq.kp v x.gen S.dp = false) (hf : ¬ tr - x.left + 1 = tr)  :
    Calls Try.prog 15 #[.pointer (some ⟨o, 0, none⟩), .slice (some ⟨wb, 0, none⟩) ys.length ys.length] w (RrPost o wb V S tr ys (ragn x) w) := by
  have Hgoal : Hid ((((rfw S V tr 3 (tr - x.left) x.gen x.bgn 0 x.steps).set 12 (.int .i64 (x.steps + 1))).set 7 (.int .i64 (tr - x.left + 1))).set 6 (.int .i64 1) = rfr S V tr (ragn x)) := Lib.hid (by unfold rfr ragn; simp [hh, show ¬ x.left - 1 = 0 by omega]; omega)
  have Hkp := Lib.hid (fun W => Sq.rkept_any v x.gen S.dp Hu hw.gen W)
  rw [hkp] at Hkp
  clear hkp
  have hb := h.cells
  unfold rfr at hb
  rw [hh, hl] at hb
  have Hl := Lib.hid hl
  have Hh := Lib.hid hh
  have hwb := hne.symm
  have hvo := h.ne
  simp only [show ((2 : Int) + 1) = 3 from rfl] at hb
  have c1 := hb.cell (i := 1) rfl
  have c6 := hb.cell (i := 6) rfl
  have c11 := hb.cell (i := 11) rfl
  have c12 := hb.cell (i := 12) rfl
  have z12 := hb.frozen 12
  have lo := hb.lt
  have lw := hB.lt
  unfold rdl at hv
  rw [if_neg (by omega)] at hv
  obtain ⟨q0, hv1⟩ := getI_some hv
  have hlt := lt_of_some hv1
  obtain ⟨i, hi⟩ := Int.eq_ofNat_of_zero_le q0
  rw [hi] at c1
  rw [hi, Int.toNat_natCast] at hv1 hlt
  have hlt2 : (i : Int) < ys.length := by omega
  have hb2 := hb.put 12 (.int .i64 (x.steps + 1))
  have hB2 := hB.setFar (p := ⟨o, 12, none⟩) hwb (.int .i64 (x.steps + 1))
  have hwd2 := owns_set h.words (p := ⟨o, 12, none⟩) hvo (.int .i64 (x.steps + 1))
  have hu2 : Upd (fun k => k = o ∨ V.ownBlock = some k) w (w.setCell ⟨o, 12, none⟩ (.int .i64 (x.steps + 1))) := (Upd.refl _ w).setCell (.inl (.inl rfl)) _
  generalize hw2 : w.setCell ⟨o, 12, none⟩ (.int .i64 (x.steps + 1)) = w2 at hb2 hB2 hwd2 hu2
  have lo2 := hb2.lt
  have lw2 := hB2.lt
  have hq : RZ o wb i x.gen S.dp v w2.drew := ⟨hb2.cell (i := 8) rfl, hb2.cell (i := 4) rfl, hB2.cell hv1⟩
  have f6 := hb2.cell (i := 6) rfl
  have hb3 := hb2.drew
  have hB3 : Row w2.drew wb ys := hB2.drew
  have hwd3 := owns_drew hwd2 1
  have hu3 := hu2.drew
  have H := Lib.hid (And.intro hb3 (And.intro hB3 (And.intro hwd3 (And.intro hu3 (And.intro hvo (And.intro hne hvw))))))
  have hleft := hw.f0
  have Hf := Lib.hid (And.intro t1 t2)
  clear h hb hB hb2 hB2 hwd2 hu2 hb3 hB3 hwd3 hu3 hl hv hv1 hw hh hvo hvw hlt Hu q0 t1 t2
  go_enter Try.func15, Try.ntmps15
  go_wp2_with fail
  refine wp_region_held_drew (S := RZ o wb i x.gen S.dp v) (by kernel_rfl) (hq) (fun hHeld => ?_)
  refine wpAnyH_take (i := 0) (v := ?v15) rfl (by kernel_rfl) (by kernel_rfl) (by kernel_rfl) (fun _ _ _ h => h) (Or.inl ⟨by rfl, ?y15⟩) hHeld ?r15
  case y15 => (intro w hSw; obtain ⟨q0, q1, q2⟩ := hSw; go_simp; try with_reducible rfl)
  simp only [List.getElem_toArray, List.getElem_cons_zero, Act.put, List.setIfInBounds_toArray, List.set_cons_zero, List.set_cons_succ]
  refine wpAnyH_take (i := 1) (v := ?v16) rfl (by kernel_rfl) (by kernel_rfl) (by kernel_rfl) (fun _ _ _ h => h) (Or.inl ⟨by rfl, ?y16⟩) hHeld ?r16
  case y16 => (intro w hSw; obtain ⟨q0, q1, q2⟩ := hSw; go_simp; try with_reducible rfl)
  simp only [List.getElem_toArray, List.getElem_cons_zero, List.getElem_cons_succ, Act.put, List.setIfInBounds_toArray, List.set_cons_zero, List.set_cons_succ]
  refine wpAnyH_take (i := 2) (v := ?v17) rfl (by kernel_rfl) (by kernel_rfl) (by kernel_rfl) (fun _ _ _ h => h) (Or.inl ⟨by rfl, ?y17⟩) hHeld ?r17
  case y17 => (intro w hSw; obtain ⟨q0, q1, q2⟩ := hSw; go_simp; try with_reducible rfl)
  simp only [List.getElem_toArray, List.getElem_cons_zero, List.getElem_cons_succ, Act.put, List.setIfInBounds_toArray, List.set_cons_zero, List.set_cons_succ]
  refine wpAnyH_take (i := 3) (v := ?v18) rfl (by kernel_rfl) (by kernel_rfl) (by kernel_rfl) (fun _ _ _ h => h) (Or.inl ⟨by rfl, ?y18⟩) hHeld ?r18
  case y18 => (intro w hSw; obtain ⟨q0, q1, q2⟩ := hSw; go_simp; try with_reducible rfl)
  simp only [List.getElem_toArray, List.getElem_cons_zero, List.getElem_cons_succ, Act.put, List.setIfInBounds_toArray, List.set_cons_zero, List.set_cons_succ]
  refine wpAnyH_take (i := 4) (v := ?v19) rfl (by kernel_rfl) (by kernel_rfl) (by kernel_rfl) (fun _ _ _ h => h) (Or.inl ⟨by rfl, ?y19⟩) hHeld ?r19
  case y19 => (intro w hSw; obtain ⟨q0, q1, q2⟩ := hSw; go_simp; try with_reducible rfl)
  simp only [List.getElem_toArray, List.getElem_cons_zero, List.getElem_cons_succ, Act.put, List.setIfInBounds_toArray, List.set_cons_zero, List.set_cons_succ]
  refine wpAnyH_take (i := 5) (v := ?v20) rfl (by kernel_rfl) (by kernel_rfl) (by kernel_rfl) (fun _ _ _ h => h) (Or.inl ⟨by rfl, ?y20⟩) hHeld ?r20
  case y20 => (intro w hSw; obtain ⟨q0, q1, q2⟩ := hSw; go_simp; try with_reducible rfl)
  simp only [List.getElem_toArray, List.getElem_cons_zero, List.getElem_cons_succ, Act.put, List.setIfInBounds_toArray, List.set_cons_zero, List.set_cons_succ]
  refine wpAnyH_take (i := 6) (v := ?v21) rfl (by kernel_rfl) (by kernel_rfl) (by kernel_rfl) (fun _ _ _ h => h) (Or.inl ⟨by rfl, ?y21⟩) hHeld ?r21
  case y21 => (intro w hSw; obtain ⟨q0, q1, q2⟩ := hSw; go_simp; try with_reducible rfl)
  simp only [List.getElem_toArray, List.getElem_cons_zero, List.getElem_cons_succ, Act.put, List.setIfInBounds_toArray, List.set_cons_zero, List.set_cons_succ]
  refine wpAnyH_take (i := 7) (v := ?v22) rfl (by kernel_rfl) (by kernel_rfl) (by kernel_rfl) (fun _ _ _ h => h) (Or.inl ⟨by rfl, ?y22⟩) hHeld ?r22
  case y22 => (intro w hSw; obtain ⟨q0, q1, q2⟩ := hSw; go_simp; try with_reducible rfl)
  simp only [List.getElem_toArray, List.getElem_cons_zero, List.getElem_cons_succ, Act.put, List.setIfInBounds_toArray, List.set_cons_zero, List.set_cons_succ]
  refine wpAnyH_take (i := 8) (v := ?v23) rfl (by kernel_rfl) (by kernel_rfl) (by kernel_rfl) (fun _ _ _ h => h) (Or.inl ⟨by rfl, ?y23⟩) hHeld ?r23
  case y23 => (intro w hSw; obtain ⟨q0, q1, q2⟩ := hSw; go_simp; try with_reducible rfl)
  simp only [List.getElem_toArray, List.getElem_cons_zero, List.getElem_cons_succ, Act.put, List.setIfInBounds_toArray, List.set_cons_zero, List.set_cons_succ]
  refine wpAnyH_take (i := 9) (v := ?v24) rfl (by kernel_rfl) (by kernel_rfl) (by kernel_rfl) (fun _ _ _ h => h) (Or.inl ⟨by rfl, ?y24⟩) hHeld ?r24
  case y24 => (intro w hSw; obtain ⟨q0, q1, q2⟩ := hSw; go_simp; try with_reducible rfl)
  simp only [List.getElem_toArray, List.getElem_cons_zero, List.getElem_cons_succ, Act.put, List.setIfInBounds_toArray, List.set_cons_zero, List.set_cons_succ]
  refine wpAnyH_take (i := 10) (v := ?v25) rfl (by kernel_rfl) (by kernel_rfl) (by kernel_rfl) (fun _ _ _ h => h) (Or.inl ⟨by rfl, ?y25⟩) hHeld ?r25
  case y25 => (intro w hSw; obtain ⟨q0, q1, q2⟩ := hSw; go_simp; try with_reducible rfl)
  simp only [List.getElem_toArray, List.getElem_cons_zero, List.getElem_cons_succ, Act.put, List.setIfInBounds_toArray, List.set_cons_zero, List.set_cons_succ]
  refine wpAnyH_take (i := 11) (v := ?v26) rfl (by kernel_rfl) (by kernel_rfl) (by kernel_rfl) (fun _ _ _ h => h) (Or.inl ⟨by rfl, ?y26⟩) hHeld ?r26
  case y26 => (intro w hSw; obtain ⟨q0, q1, q2⟩ := hSw; go_simp; try with_reducible rfl)
  simp only [List.getElem_toArray, List.getElem_cons_zero, List.getElem_cons_succ, Act.put, List.setIfInBounds_toArray, List.set_cons_zero, List.set_cons_succ]
  refine wpAnyH_take (i := 12) (v := ?v27) rfl (by kernel_rfl) (by kernel_rfl) (by kernel_rfl) (fun _ _ _ h => h) (Or.inl ⟨by rfl, ?y27⟩) hHeld ?r27
  case y27 => (intro w hSw; obtain ⟨q0, q1, q2⟩ := hSw; go_simp; try with_reducible rfl)
  simp only [List.getElem_toArray, List.getElem_cons_zero, List.getElem_cons_succ, Act.put, List.setIfInBounds_toArray, List.set_cons_zero, List.set_cons_succ]
  refine wpAnyH_ready (rs := [13]) (by kernel_rfl) (by simp) (AllReadyH.cons rfl (fun K hK => ?_) AllReadyH.nil)
  go_simp
  refine (Hkp.out _).mono ?_
  rintro e v3 ⟨rfl, hb3⟩
  obtain ⟨a1, a2, a3, a4, a5, a6, a7⟩ := H.out
  have HV := Lib.hid (show Blk v3 o _ ∧ Row v3 wb ys ∧ v3.ownsRow 0 43 1 V x.rw.length (x.rw.map (Value.int .u64)) ∧ Upd (fun k => k = o ∨ V.ownBlock = some k) w v3 from ⟨a1.low hb3, a2.below hb3, owns_blocks a3 (fun g hg => by
    rcases a3.2 with ⟨c, _⟩ | ⟨g', _, _, e, _, hg', _⟩
    · rw [c] at hg; cases hg
    · have e' : g' = g := by rw [e] at hg; simpa [Value.ownBlock] using hg
      subst e'
      exact hb3.block g' (Array.getElem?_eq_some_iff.1 hg').1), a4.trans (Upd.of_below _ hb3)⟩)
  have hq3 : RZ o wb i x.gen S.dp v v3 := ⟨HV.out.1.cell (i := 8) rfl, HV.out.1.cell (i := 4) rfl, by rw [World.cell?_of_block (hb3.block wb a2.lt)]; exact hq.2.2⟩
  clear hb3 a1 a2 a3 a4 a5 a6 a7
  go_wp2_with fail
  refine hK.out _ _ (hq3) (fun hHeld => ?_)
  clear hK K
  refine wpAnyH_done (by kernel_rfl) ?_ _
  clear hHeld hq hq3 Hkp
  obtain ⟨a1, a2, a3, a4⟩ := HV.out
  have H3 := Lib.hid (And.intro a1 (And.intro a2 (And.intro a3 a4)))
  have lo3 := a1.lt
  have e7 := a1.cell (i := 7) rfl
  have z7 := a1.frozen 7
  have e6 := a1.cell (i := 6) rfl
  have z6 := a1.frozen 6
  have hff := Hf.out
  have hd0 : 0 ≤ tr - x.left := by omega
  have hd1 : tr - x.left ≤ 16 := by omega
  have a1b := (a1.put 7 (.int .i64 (tr - x.left + 1))).put 6 (.int .i64 1)
  have a2b := (a2.setFar (p := ⟨o, 7, none⟩) hwb (.int .i64 (tr - x.left + 1))).setFar (p := ⟨o, 6, none⟩) hwb (.int .i64 1)
  have a3b := owns_set (owns_set a3 (p := ⟨o, 7, none⟩) H.out.2.2.2.2.1 (.int .i64 (tr - x.left + 1))) (p := ⟨o, 6, none⟩) H.out.2.2.2.2.1 (.int .i64 1)
  have a4b := (a4.setCell (p := ⟨o, 7, none⟩) (.inl (.inl rfl)) (.int .i64 (tr - x.left + 1))).setCell (p := ⟨o, 6, none⟩) (.inl (.inl rfl)) (.int .i64 1)
  generalize hv4 : (v3.setCell ⟨o, 7, none⟩ (.int .i64 (tr - x.left + 1))).setCell ⟨o, 6, none⟩ (.int .i64 1) = v4 at a1b a2b a3b a4b
  have g7 := a1b.cell (i := 7) rfl
  have g5 := a1b.cell (i := 5) rfl
  have g11 := a1b.cell (i := 11) rfl
  have y11 := a1b.frozen 11
  have lo4 := a1b.lt
  have H4 := Lib.hid (And.intro a1b (And.intro a2b (And.intro a3b a4b)))
  clear a1 a2 a3 a4 a1b a2b a3b a4b HV H3
  generalize tr - x.left = hd at *
  have mh : (hd + 1 == tr) = false := by simpa using hf
  go_wp2_with fail
  go_quiet (fail)
  go_wp2
  go_end0
  obtain ⟨a1, a2, a3, a4⟩ := H4.out
  obtain ⟨_, _, _, _, hvo, hne, hvw⟩ := H.out
  exact ⟨rfl, V, ⟨(blkN a1 _).to' Hgoal.out, owns_drew a3 _, hvo⟩, row_drew a2 _, a4.drewN _, .inl rfl⟩
set_option maxRecDepth 100000 in
set_option maxHeartbeats 2000000 in
theorem rr_spent (h : RrAt w o V S tr x) (hB : Row w wb ys) (hne : o ≠ wb) (hvw : V.ownBlock ≠ some wb) (hw : RWf S x) (hh : x.how = 0) (t1 : x.left ≤ tr) (t2 : tr ≤ 16) (p0 : 0 ≤ x.steps) (p1 : x.steps ≤ 1000000) (hyl : ys.length ≤ 1000) (hl : x.line = 2) (v : Int) (hv : getI ys (rdl S x) = some v) (Hu : U64 v) (hkp : Sq.kp v x.gen S.dp = false) (hf : tr - x.left + 1 = tr)  :
    Calls Try.prog 15 #[.pointer (some ⟨o, 0, none⟩), .slice (some ⟨wb, 0, none⟩) ys.length ys.length] w (RrPost o wb V S tr ys (ragn x) w) := by
  have Hgoal : Hid (((((rfw S V tr 3 (tr - x.left) x.gen x.bgn 0 x.steps).set 12 (.int .i64 (x.steps + 1))).set 7 (.int .i64 (tr - x.left + 1))).set 6 (.int .i64 1)).set 11 (.int .i64 2) = rfr S V tr (ragn x)) := Lib.hid (by unfold rfr ragn; simp [show x.left - 1 = 0 by omega]; omega)
  have Hkp := Lib.hid (fun W => Sq.rkept_any v x.gen S.dp Hu hw.gen W)
  rw [hkp] at Hkp
  clear hkp
  have hb := h.cells
  unfold rfr at hb
  rw [hh, hl] at hb
  have Hl := Lib.hid hl
  have Hh := Lib.hid hh
  have hwb := hne.symm
  have hvo := h.ne
  simp only [show ((2 : Int) + 1) = 3 from rfl] at hb
  have c1 := hb.cell (i := 1) rfl
  have c6 := hb.cell (i := 6) rfl
  have c11 := hb.cell (i := 11) rfl
  have c12 := hb.cell (i := 12) rfl
  have z12 := hb.frozen 12
  have lo := hb.lt
  have lw := hB.lt
  unfold rdl at hv
  rw [if_neg (by omega)] at hv
  obtain ⟨q0, hv1⟩ := getI_some hv
  have hlt := lt_of_some hv1
  obtain ⟨i, hi⟩ := Int.eq_ofNat_of_zero_le q0
  rw [hi] at c1
  rw [hi, Int.toNat_natCast] at hv1 hlt
  have hlt2 : (i : Int) < ys.length := by omega
  have hb2 := hb.put 12 (.int .i64 (x.steps + 1))
  have hB2 := hB.setFar (p := ⟨o, 12, none⟩) hwb (.int .i64 (x.steps + 1))
  have hwd2 := owns_set h.words (p := ⟨o, 12, none⟩) hvo (.int .i64 (x.steps + 1))
  have hu2 : Upd (fun k => k = o ∨ V.ownBlock = some k) w (w.setCell ⟨o, 12, none⟩ (.int .i64 (x.steps + 1))) := (Upd.refl _ w).setCell (.inl (.inl rfl)) _
  generalize hw2 : w.setCell ⟨o, 12, none⟩ (.int .i64 (x.steps + 1)) = w2 at hb2 hB2 hwd2 hu2
  have lo2 := hb2.lt
  have lw2 := hB2.lt
  have hq : RZ o wb i x.gen S.dp v w2.drew := ⟨hb2.cell (i := 8) rfl, hb2.cell (i := 4) rfl, hB2.cell hv1⟩
  have f6 := hb2.cell (i := 6) rfl
  have hb3 := hb2.drew
  have hB3 : Row w2.drew wb ys := hB2.drew
  have hwd3 := owns_drew hwd2 1
  have hu3 := hu2.drew
  have H := Lib.hid (And.intro hb3 (And.intro hB3 (And.intro hwd3 (And.intro hu3 (And.intro hvo (And.intro hne hvw))))))
  have hleft := hw.f0
  have Hf := Lib.hid (And.intro t1 t2)
  clear h hb hB hb2 hB2 hwd2 hu2 hb3 hB3 hwd3 hu3 hl hv hv1 hw hh hvo hvw hlt Hu q0 t1 t2
  go_enter Try.func15, Try.ntmps15
  go_wp2_with fail
  refine wp_region_held_drew (S := RZ o wb i x.gen S.dp v) (by kernel_rfl) (hq) (fun hHeld => ?_)
  refine wpAnyH_take (i := 0) (v := ?v29) rfl (by kernel_rfl) (by kernel_rfl) (by kernel_rfl) (fun _ _ _ h => h) (Or.inl ⟨by rfl, ?y29⟩) hHeld ?r29
  case y29 => (intro w hSw; obtain ⟨q0, q1, q2⟩ := hSw; go_simp; try with_reducible rfl)
  simp only [List.getElem_toArray, List.getElem_cons_zero, Act.put, List.setIfInBounds_toArray, List.set_cons_zero, List.set_cons_succ]
  refine wpAnyH_take (i := 1) (v := ?v30) rfl (by kernel_rfl) (by kernel_rfl) (by kernel_rfl) (fun _ _ _ h => h) (Or.inl ⟨by rfl, ?y30⟩) hHeld ?r30
  case y30 => (intro w hSw; obtain ⟨q0, q1, q2⟩ := hSw; go_simp; try with_reducible rfl)
  simp only [List.getElem_toArray, List.getElem_cons_zero, List.getElem_cons_succ, Act.put, List.setIfInBounds_toArray, List.set_cons_zero, List.set_cons_succ]
  refine wpAnyH_take (i := 2) (v := ?v31) rfl (by kernel_rfl) (by kernel_rfl) (by kernel_rfl) (fun _ _ _ h => h) (Or.inl ⟨by rfl, ?y31⟩) hHeld ?r31
  case y31 => (intro w hSw; obtain ⟨q0, q1, q2⟩ := hSw; go_simp; try with_reducible rfl)
  simp only [List.getElem_toArray, List.getElem_cons_zero, List.getElem_cons_succ, Act.put, List.setIfInBounds_toArray, List.set_cons_zero, List.set_cons_succ]
  refine wpAnyH_take (i := 3) (v := ?v32) rfl (by kernel_rfl) (by kernel_rfl) (by kernel_rfl) (fun _ _ _ h => h) (Or.inl ⟨by rfl, ?y32⟩) hHeld ?r32
  case y32 => (intro w hSw; obtain ⟨q0, q1, q2⟩ := hSw; go_simp; try with_reducible rfl)
  simp only [List.getElem_toArray, List.getElem_cons_zero, List.getElem_cons_succ, Act.put, List.setIfInBounds_toArray, List.set_cons_zero, List.set_cons_succ]
  refine wpAnyH_take (i := 4) (v := ?v33) rfl (by kernel_rfl) (by kernel_rfl) (by kernel_rfl) (fun _ _ _ h => h) (Or.inl ⟨by rfl, ?y33⟩) hHeld ?r33
  case y33 => (intro w hSw; obtain ⟨q0, q1, q2⟩ := hSw; go_simp; try with_reducible rfl)
  simp only [List.getElem_toArray, List.getElem_cons_zero, List.getElem_cons_succ, Act.put, List.setIfInBounds_toArray, List.set_cons_zero, List.set_cons_succ]
  refine wpAnyH_take (i := 5) (v := ?v34) rfl (by kernel_rfl) (by kernel_rfl) (by kernel_rfl) (fun _ _ _ h => h) (Or.inl ⟨by rfl, ?y34⟩) hHeld ?r34
  case y34 => (intro w hSw; obtain ⟨q0, q1, q2⟩ := hSw; go_simp; try with_reducible rfl)
  simp only [List.getElem_toArray, List.getElem_cons_zero, List.getElem_cons_succ, Act.put, List.setIfInBounds_toArray, List.set_cons_zero, List.set_cons_succ]
  refine wpAnyH_take (i := 6) (v := ?v35) rfl (by kernel_rfl) (by kernel_rfl) (by kernel_rfl) (fun _ _ _ h => h) (Or.inl ⟨by rfl, ?y35⟩) hHeld ?r35
  case y35 => (intro w hSw; obtain ⟨q0, q1, q2⟩ := hSw; go_simp; try with_reducible rfl)
  simp only [List.getElem_toArray, List.getElem_cons_zero, List.getElem_cons_succ, Act.put, List.setIfInBounds_toArray, List.set_cons_zero, List.set_cons_succ]
  refine wpAnyH_take (i := 7) (v := ?v36) rfl (by kernel_rfl) (by kernel_rfl) (by kernel_rfl) (fun _ _ _ h => h) (Or.inl ⟨by rfl, ?y36⟩) hHeld ?r36
  case y36 => (intro w hSw; obtain ⟨q0, q1, q2⟩ := hSw; go_simp; try with_reducible rfl)
  simp only [List.getElem_toArray, List.getElem_cons_zero, List.getElem_cons_succ, Act.put, List.setIfInBounds_toArray, List.set_cons_zero, List.set_cons_succ]
  refine wpAnyH_take (i := 8) (v := ?v37) rfl (by kernel_rfl) (by kernel_rfl) (by kernel_rfl) (fun _ _ _ h => h) (Or.inl ⟨by rfl, ?y37⟩) hHeld ?r37
  case y37 => (intro w hSw; obtain ⟨q0, q1, q2⟩ := hSw; go_simp; try with_reducible rfl)
  simp only [List.getElem_toArray, List.getElem_cons_zero, List.getElem_cons_succ, Act.put, List.setIfInBounds_toArray, List.set_cons_zero, List.set_cons_succ]
  refine wpAnyH_take (i := 9) (v := ?v38) rfl (by kernel_rfl) (by kernel_rfl) (by kernel_rfl) (fun _ _ _ h => h) (Or.inl ⟨by rfl, ?y38⟩) hHeld ?r38
  case y38 => (intro w hSw; obtain ⟨q0, q1, q2⟩ := hSw; go_simp; try with_reducible rfl)
  simp only [List.getElem_toArray, List.getElem_cons_zero, List.getElem_cons_succ, Act.put, List.setIfInBounds_toArray, List.set_cons_zero, List.set_cons_succ]
  refine wpAnyH_take (i := 10) (v := ?v39) rfl (by kernel_rfl) (by kernel_rfl) (by kernel_rfl) (fun _ _ _ h => h) (Or.inl ⟨by rfl, ?y39⟩) hHeld ?r39
  case y39 => (intro w hSw; obtain ⟨q0, q1, q2⟩ := hSw; go_simp; try with_reducible rfl)
  simp only [List.getElem_toArray, List.getElem_cons_zero, List.getElem_cons_succ, Act.put, List.setIfInBounds_toArray, List.set_cons_zero, List.set_cons_succ]
  refine wpAnyH_take (i := 11) (v := ?v40) rfl (by kernel_rfl) (by kernel_rfl) (by kernel_rfl) (fun _ _ _ h => h) (Or.inl ⟨by rfl, ?y40⟩) hHeld ?r40
  case y40 => (intro w hSw; obtain ⟨q0, q1, q2⟩ := hSw; go_simp; try with_reducible rfl)
  simp only [List.getElem_toArray, List.getElem_cons_zero, List.getElem_cons_succ, Act.put, List.setIfInBounds_toArray, List.set_cons_zero, List.set_cons_succ]
  refine wpAnyH_take (i := 12) (v := ?v41) rfl (by kernel_rfl) (by kernel_rfl) (by kernel_rfl) (fun _ _ _ h => h) (Or.inl ⟨by rfl, ?y41⟩) hHeld ?r41
  case y41 => (intro w hSw; obtain ⟨q0, q1, q2⟩ := hSw; go_simp; try with_reducible rfl)
  simp only [List.getElem_toArray, List.getElem_cons_zero, List.getElem_cons_succ, Act.put, List.setIfInBounds_toArray, List.set_cons_zero, List.set_cons_succ]
  refine wpAnyH_ready (rs := [13]) (by kernel_rfl) (by simp) (AllReadyH.cons rfl (fun K hK => ?_) AllReadyH.nil)
  go_simp
  refine (Hkp.out _).mono ?_
  rintro e v3 ⟨rfl, hb3⟩
  obtain ⟨a1, a2, a3, a4, a5, a6, a7⟩ := H.out
  have HV := Lib.hid (show Blk v3 o _ ∧ Row v3 wb ys ∧ v3.ownsRow 0 43 1 V x.rw.length (x.rw.map (Value.int .u64)) ∧ Upd (fun k => k = o ∨ V.ownBlock = some k) w v3 from ⟨a1.low hb3, a2.below hb3, owns_blocks a3 (fun g hg => by
    rcases a3.2 with ⟨c, _⟩ | ⟨g', _, _, e, _, hg', _⟩
    · rw [c] at hg; cases hg
    · have e' : g' = g := by rw [e] at hg; simpa [Value.ownBlock] using hg
      subst e'
      exact hb3.block g' (Array.getElem?_eq_some_iff.1 hg').1), a4.trans (Upd.of_below _ hb3)⟩)
  have hq3 : RZ o wb i x.gen S.dp v v3 := ⟨HV.out.1.cell (i := 8) rfl, HV.out.1.cell (i := 4) rfl, by rw [World.cell?_of_block (hb3.block wb a2.lt)]; exact hq.2.2⟩
  clear hb3 a1 a2 a3 a4 a5 a6 a7
  go_wp2_with fail
  refine hK.out _ _ (hq3) (fun hHeld => ?_)
  clear hK K
  refine wpAnyH_done (by kernel_rfl) ?_ _
  clear hHeld hq hq3 Hkp
  obtain ⟨a1, a2, a3, a4⟩ := HV.out
  have H3 := Lib.hid (And.intro a1 (And.intro a2 (And.intro a3 a4)))
  have lo3 := a1.lt
  have e7 := a1.cell (i := 7) rfl
  have z7 := a1.frozen 7
  have e6 := a1.cell (i := 6) rfl
  have z6 := a1.frozen 6
  have hff := Hf.out
  have hd0 : 0 ≤ tr - x.left := by omega
  have hd1 : tr - x.left ≤ 16 := by omega
  have a1b := (a1.put 7 (.int .i64 (tr - x.left + 1))).put 6 (.int .i64 1)
  have a2b := (a2.setFar (p := ⟨o, 7, none⟩) hwb (.int .i64 (tr - x.left + 1))).setFar (p := ⟨o, 6, none⟩) hwb (.int .i64 1)
  have a3b := owns_set (owns_set a3 (p := ⟨o, 7, none⟩) H.out.2.2.2.2.1 (.int .i64 (tr - x.left + 1))) (p := ⟨o, 6, none⟩) H.out.2.2.2.2.1 (.int .i64 1)
  have a4b := (a4.setCell (p := ⟨o, 7, none⟩) (.inl (.inl rfl)) (.int .i64 (tr - x.left + 1))).setCell (p := ⟨o, 6, none⟩) (.inl (.inl rfl)) (.int .i64 1)
  generalize hv4 : (v3.setCell ⟨o, 7, none⟩ (.int .i64 (tr - x.left + 1))).setCell ⟨o, 6, none⟩ (.int .i64 1) = v4 at a1b a2b a3b a4b
  have g7 := a1b.cell (i := 7) rfl
  have g5 := a1b.cell (i := 5) rfl
  have g11 := a1b.cell (i := 11) rfl
  have y11 := a1b.frozen 11
  have lo4 := a1b.lt
  have H4 := Lib.hid (And.intro a1b (And.intro a2b (And.intro a3b a4b)))
  clear a1 a2 a3 a4 a1b a2b a3b a4b HV H3
  generalize tr - x.left = hd at *
  subst hf
  have mh : ((hd + 1) == (hd + 1)) = true := by simp
  go_wp2_with fail
  go_quiet (fail)
  have y11n : (v4.drewN nq).frozen? ⟨o, 11, none⟩ = false := y11
  have g11n : (v4.drewN nq).cell? ⟨o, 11, none⟩ = some (.int .i64 0) := g11
  go_wp2
  go_end0
  obtain ⟨a1, a2, a3, a4⟩ := H4.out
  obtain ⟨_, _, _, _, hvo, hne, hvw⟩ := H.out
  exact ⟨rfl, V, ⟨((blkN a1 _).put 11 (.int .i64 2)).to' Hgoal.out, owns_set (owns_drew a3 _) hvo _, hvo⟩, (row_drew a2 _).setFar hwb _, (a4.drewN _).setCell (.inl (.inl rfl)) _, .inl rfl⟩
end
end Go.Proofs.Ytajibhhmcjcchaa
