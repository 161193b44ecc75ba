/- The last line: it gives. -/
import Derived.Test.YtflgggfomhifeaaStB
namespace Go.Proofs.Ytflgggfomhifeaa
open Go.RowKit
section
variable {w : World} {o g b bg : Nat} {S : Sp} {ws xs : List Int} {x : St} {t : Int}
set_option maxRecDepth 100000 in
set_option maxHeartbeats 1000000 in
theorem step_give_in (h : OpAt w o g S ws x) (hB : Bk w b bg xs t) (d1 : o ≠ b) (d2 : o ≠ bg) (d3 : g ≠ b) (d4 : g ≠ bg) (hh : x.how = 0) (hl : x.line = 3) (v : Int) (hv : getI xs S.sq = some v) (t0 : 0 ≤ t) (t1 : t ≤ 1000000) (p0 : 0 ≤ x.steps) (p1 : x.steps ≤ 1000000) :
    Calls Try.prog 26 #[.pointer (some ⟨o, 0, none⟩), .pointer (some ⟨b, 0, none⟩)] w (StepPost o g b bg S ws ({ x with how := 1, steps := x.steps + 1 }, xs.set S.sq.toNat (addw x.s 2), 1) t w) := by
  have c0 := h.cell (i := 0) (fun _ => rfl)
  have c9 := h.cell (i := 9) (fun _ => rfl)
  rw [hh] at c0
  rw [hl] at c9
  have lo := h.lto
  have Hh := Lib.hid hh
  clear hh
  obtain ⟨q0, hv'⟩ := getI_some hv
  have hc := store_at b bg xs t (addw x.s 2) v S.sq w.drew q0 hB.drew hv' t0 t1 (u64_addw _ _)
  unfold addw at hc
  have Hc := Lib.hid hc
  have H := Lib.hid h.drew
  have Hu := Lib.hid ((Upd.refl (OwnS o b bg) w).drew)
  clear h hv hl hB hc hv'
  go_enter Try.func26, Try.ntmps26
  go_wp2
  refine wp_scope_ahead 2 rfl ?_
  go_wp2_with fail
  refine wp_region_held_drew (S := TK o S.sq x.s) (by kernel_rfl) (TK.of H.out) (fun hHeld => ?_)
  refine wpAnyH_take (i := 0) (v := ?v139) rfl (by kernel_rfl) (by kernel_rfl) (by kernel_rfl) (fun _ _ _ h => h) (Or.inl ⟨by rfl, ?y139⟩) hHeld ?r139
  case y139 => (intro w hSw; obtain ⟨hSa, hSb⟩ := hSw; go_simp; try with_reducible rfl)
  simp only [List.getElem_toArray, List.getElem_cons_zero, Act.put, List.setIfInBounds_toArray, List.set_cons_zero, List.set_cons_succ]
  refine wpAnyH_take (i := 1) (v := ?v140) rfl (by kernel_rfl) (by kernel_rfl) (by kernel_rfl) (fun _ _ _ h => h) (Or.inl ⟨by rfl, ?y140⟩) hHeld ?r140
  case y140 => (intro w hSw; obtain ⟨hSa, hSb⟩ := hSw; go_simp; try with_reducible rfl)
  simp only [List.getElem_toArray, List.getElem_cons_zero, List.getElem_cons_succ, Act.put, List.setIfInBounds_toArray, List.set_cons_zero, List.set_cons_succ]
  refine wpAnyH_take (i := 2) (v := ?v141) rfl (by kernel_rfl) (by kernel_rfl) (by kernel_rfl) (fun _ _ _ h => h) (Or.inl ⟨by rfl, ?y141⟩) hHeld ?r141
  case y141 => (intro w hSw; obtain ⟨hSa, hSb⟩ := hSw; go_simp; try with_reducible rfl)
  simp only [List.getElem_toArray, List.getElem_cons_zero, List.getElem_cons_succ, Act.put, List.setIfInBounds_toArray, List.set_cons_zero, List.set_cons_succ]
  refine wpAnyH_take (i := 3) (v := ?v142) rfl (by kernel_rfl) (by kernel_rfl) (by kernel_rfl) (fun _ _ _ h => h) (Or.inl ⟨by rfl, ?y142⟩) hHeld ?r142
  case y142 => (intro w hSw; obtain ⟨hSa, hSb⟩ := hSw; go_simp; try with_reducible rfl)
  simp only [List.getElem_toArray, List.getElem_cons_zero, List.getElem_cons_succ, Act.put, List.setIfInBounds_toArray, List.set_cons_zero, List.set_cons_succ]
  refine wpAnyH_take (i := 4) (v := ?v143) rfl (by kernel_rfl) (by kernel_rfl) (by kernel_rfl) (fun _ _ _ h => h) (Or.inl ⟨by rfl, ?y143⟩) hHeld ?r143
  case y143 => (intro w hSw; obtain ⟨hSa, hSb⟩ := hSw; go_simp; try with_reducible rfl)
  simp only [List.getElem_toArray, List.getElem_cons_zero, List.getElem_cons_succ, Act.put, List.setIfInBounds_toArray, List.set_cons_zero, List.set_cons_succ]
  refine wpAnyH_take (i := 5) (v := ?v144) rfl (by kernel_rfl) (by kernel_rfl) (by kernel_rfl) (fun _ _ _ h => h) (Or.inl ⟨by rfl, ?y144⟩) hHeld ?r144
  case y144 => (intro w hSw; obtain ⟨hSa, hSb⟩ := hSw; go_simp; try with_reducible rfl)
  simp only [List.getElem_toArray, List.getElem_cons_zero, List.getElem_cons_succ, Act.put, List.setIfInBounds_toArray, List.set_cons_zero, List.set_cons_succ]
  refine wpAnyH_take (i := 6) (v := ?v145) rfl (by kernel_rfl) (by kernel_rfl) (by kernel_rfl) (fun _ _ _ h => h) (Or.inl ⟨by rfl, ?y145⟩) hHeld ?r145
  case y145 => (intro w hSw; obtain ⟨hSa, hSb⟩ := hSw; go_simp; try with_reducible rfl)
  simp only [List.getElem_toArray, List.getElem_cons_zero, List.getElem_cons_succ, Act.put, List.setIfInBounds_toArray, List.set_cons_zero, List.set_cons_succ]
  refine wpAnyH_take (i := 7) (v := ?v146) rfl (by kernel_rfl) (by kernel_rfl) (by kernel_rfl) (fun _ _ _ h => h) (Or.inl ⟨by rfl, ?y146⟩) hHeld ?r146
  case y146 => (intro w hSw; obtain ⟨hSa, hSb⟩ := hSw; go_simp; try with_reducible rfl)
  simp only [List.getElem_toArray, List.getElem_cons_zero, List.getElem_cons_succ, Act.put, List.setIfInBounds_toArray, List.set_cons_zero, List.set_cons_succ]
  refine wpAnyH_take (i := 8) (v := ?v147) rfl (by kernel_rfl) (by kernel_rfl) (by kernel_rfl) (fun _ _ _ h => h) (Or.inl ⟨by rfl, ?y147⟩) hHeld ?r147
  case y147 => (intro w hSw; obtain ⟨hSa, hSb⟩ := hSw; go_simp; try with_reducible rfl)
  simp only [List.getElem_toArray, List.getElem_cons_zero, List.getElem_cons_succ, Act.put, List.setIfInBounds_toArray, List.set_cons_zero, List.set_cons_succ]
  refine wpAnyH_take (i := 9) (v := ?v148) rfl (by kernel_rfl) (by kernel_rfl) (by kernel_rfl) (fun _ _ _ h => h) (Or.inl ⟨by rfl, ?y148⟩) hHeld ?r148
  case y148 => (intro w hSw; obtain ⟨hSa, hSb⟩ := hSw; go_simp; try with_reducible rfl)
  simp only [List.getElem_toArray, List.getElem_cons_zero, List.getElem_cons_succ, Act.put, List.setIfInBounds_toArray, List.set_cons_zero, List.set_cons_succ]
  refine wpAnyH_take (i := 10) (v := ?v149) rfl (by kernel_rfl) (by kernel_rfl) (by kernel_rfl) (fun _ _ _ h => h) (Or.inl ⟨by rfl, ?y149⟩) hHeld ?r149
  case y149 => (intro w hSw; obtain ⟨hSa, hSb⟩ := hSw; go_simp; try with_reducible rfl)
  simp only [List.getElem_toArray, List.getElem_cons_zero, List.getElem_cons_succ, Act.put, List.setIfInBounds_toArray, List.set_cons_zero, List.set_cons_succ]
  refine wpAnyH_ready (rs := [11]) (by kernel_rfl) (by simp) (AllReadyH.cons rfl (fun K hK => ?_) AllReadyH.nil)
  go_simp
  refine Hc.out.mono ?_
  rintro e v1 ⟨rfl, hk1, hu1'⟩
  have h1 := H.out.upd hu1' (fun q => q.elim d1 d2) (fun q => q.elim d3 d4)
  have hu1 := Hu.out.trans (hu1'.mono (ownS_of (o := o)))
  go_wp2_with fail
  refine hK.out _ _ (TK.of h1) (fun hHeld => ?_)
  clear hK K
  refine wpAnyH_take (i := 12) (v := ?v151) rfl (by kernel_rfl) (by kernel_rfl) (by kernel_rfl) (fun _ _ _ h => h) (Or.inl ⟨by rfl, ?y151⟩) hHeld ?r151
  case y151 => (intro w hSw; obtain ⟨hSa, hSb⟩ := hSw; go_simp; try with_reducible rfl)
  simp only [List.getElem_toArray, List.getElem_cons_zero, List.getElem_cons_succ, Act.put, List.setIfInBounds_toArray, List.set_cons_zero, List.set_cons_succ]
  refine wpAnyH_done (by kernel_rfl) ?_ _
  clear Hc H Hu c0 c9 lo hu1' hHeld
  have lo1 := h1.lto
  have z1 := h1.frozen 0
  have e1 := h1.cell (i := 0) (fun _ => rfl)
  have H2 := Lib.hid (And.intro (h1.put 0 (.int .i64 1) ({ x with how := 1 }) (fun _ => rfl)) (And.intro (hk1.setFar (p := ⟨o, 0, none⟩) d1.symm d2.symm (.int .i64 1)) (hu1.setCell (p := ⟨o, 0, none⟩) (.inl (.inl rfl)) (.int .i64 1))))
  clear h1 hk1 hu1
  go_wp2
  go_step3
  refine ahead_goto ?_
  obtain ⟨h2, hk2, hu2⟩ := H2.out
  clear H2 lo1 z1 e1
  generalize v1.setCell ⟨o, 0, none⟩ (.int .i64 1) = v2 at h2 hk2 hu2 ⊢
  have lo2 := h2.lto
  have z2 := h2.frozen 1
  have e02 := h2.cell (i := 0) (fun _ => rfl)
  have e12 := h2.cell (i := 1) (fun _ => rfl)
  dsimp only at e02 e12
  have HH := Lib.hid (And.intro h2 (And.intro hk2 hu2))
  clear h2 hk2 hu2
  go_wp2
  try rw [Exit.noGoto_ret]
  go_ret
  obtain ⟨h2, hk2, hu2⟩ := HH.out
  refine ⟨rfl, ?_, hk2.setFar d1.symm d2.symm _, hu2.setCell (.inl (.inl rfl)) _⟩
  exact h2.put 1 _ _ (fun _ => rfl)

set_option maxRecDepth 100000 in
set_option maxHeartbeats 1000000 in
theorem step_give_out (h : OpAt w o g S ws x) (hB : Bk w b bg xs t) (d1 : o ≠ b) (d2 : o ≠ bg) (_d3 : g ≠ b) (_d4 : g ≠ bg) (hh : x.how = 0) (hl : x.line = 3) (hv : getI xs S.sq = none) :
    Calls Try.prog 26 #[.pointer (some ⟨o, 0, none⟩), .pointer (some ⟨b, 0, none⟩)] w (StepPost o g b bg S ws ({ x with how := 3 }, xs, 0) t w) := by
  have c0 := h.cell (i := 0) (fun _ => rfl)
  have c9 := h.cell (i := 9) (fun _ => rfl)
  rw [hh] at c0
  rw [hl] at c9
  have lo := h.lto
  have Hh := Lib.hid hh
  clear hh
  have hc := store_out b bg xs t S.sq (addw x.s 2) w.drew hB.drew (getI_none hv)
  unfold addw at hc
  have Hc := Lib.hid hc
  have H := Lib.hid h.drew
  have Hu := Lib.hid ((Upd.refl (OwnS o b bg) w).drew)
  clear h hv hl hB hc
  go_enter Try.func26, Try.ntmps26
  go_wp2
  refine wp_scope_ahead 0 rfl ?_
  go_wp2_with fail
  refine wp_region_held_drew (S := TK o S.sq x.s) (by kernel_rfl) (TK.of H.out) (fun hHeld => ?_)
  refine wpAnyH_take (i := 0) (v := ?v152) rfl (by kernel_rfl) (by kernel_rfl) (by kernel_rfl) (fun _ _ _ h => h) (Or.inl ⟨by rfl, ?y152⟩) hHeld ?r152
  case y152 => (intro w hSw; obtain ⟨hSa, hSb⟩ := hSw; go_simp; try with_reducible rfl)
  simp only [List.getElem_toArray, List.getElem_cons_zero, Act.put, List.setIfInBounds_toArray, List.set_cons_zero, List.set_cons_succ]
  refine wpAnyH_take (i := 1) (v := ?v153) rfl (by kernel_rfl) (by kernel_rfl) (by kernel_rfl) (fun _ _ _ h => h) (Or.inl ⟨by rfl, ?y153⟩) hHeld ?r153
  case y153 => (intro w hSw; obtain ⟨hSa, hSb⟩ := hSw; go_simp; try with_reducible rfl)
  simp only [List.getElem_toArray, List.getElem_cons_zero, List.getElem_cons_succ, Act.put, List.setIfInBounds_toArray, List.set_cons_zero, List.set_cons_succ]
  refine wpAnyH_take (i := 2) (v := ?v154) rfl (by kernel_rfl) (by kernel_rfl) (by kernel_rfl) (fun _ _ _ h => h) (Or.inl ⟨by rfl, ?y154⟩) hHeld ?r154
  case y154 => (intro w hSw; obtain ⟨hSa, hSb⟩ := hSw; go_simp; try with_reducible rfl)
  simp only [List.getElem_toArray, List.getElem_cons_zero, List.getElem_cons_succ, Act.put, List.setIfInBounds_toArray, List.set_cons_zero, List.set_cons_succ]
  refine wpAnyH_take (i := 3) (v := ?v155) rfl (by kernel_rfl) (by kernel_rfl) (by kernel_rfl) (fun _ _ _ h => h) (Or.inl ⟨by rfl, ?y155⟩) hHeld ?r155
  case y155 => (intro w hSw; obtain ⟨hSa, hSb⟩ := hSw; go_simp; try with_reducible rfl)
  simp only [List.getElem_toArray, List.getElem_cons_zero, List.getElem_cons_succ, Act.put, List.setIfInBounds_toArray, List.set_cons_zero, List.set_cons_succ]
  refine wpAnyH_take (i := 4) (v := ?v156) rfl (by kernel_rfl) (by kernel_rfl) (by kernel_rfl) (fun _ _ _ h => h) (Or.inl ⟨by rfl, ?y156⟩) hHeld ?r156
  case y156 => (intro w hSw; obtain ⟨hSa, hSb⟩ := hSw; go_simp; try with_reducible rfl)
  simp only [List.getElem_toArray, List.getElem_cons_zero, List.getElem_cons_succ, Act.put, List.setIfInBounds_toArray, List.set_cons_zero, List.set_cons_succ]
  refine wpAnyH_take (i := 5) (v := ?v157) rfl (by kernel_rfl) (by kernel_rfl) (by kernel_rfl) (fun _ _ _ h => h) (Or.inl ⟨by rfl, ?y157⟩) hHeld ?r157
  case y157 => (intro w hSw; obtain ⟨hSa, hSb⟩ := hSw; go_simp; try with_reducible rfl)
  simp only [List.getElem_toArray, List.getElem_cons_zero, List.getElem_cons_succ, Act.put, List.setIfInBounds_toArray, List.set_cons_zero, List.set_cons_succ]
  refine wpAnyH_take (i := 6) (v := ?v158) rfl (by kernel_rfl) (by kernel_rfl) (by kernel_rfl) (fun _ _ _ h => h) (Or.inl ⟨by rfl, ?y158⟩) hHeld ?r158
  case y158 => (intro w hSw; obtain ⟨hSa, hSb⟩ := hSw; go_simp; try with_reducible rfl)
  simp only [List.getElem_toArray, List.getElem_cons_zero, List.getElem_cons_succ, Act.put, List.setIfInBounds_toArray, List.set_cons_zero, List.set_cons_succ]
  refine wpAnyH_take (i := 7) (v := ?v159) rfl (by kernel_rfl) (by kernel_rfl) (by kernel_rfl) (fun _ _ _ h => h) (Or.inl ⟨by rfl, ?y159⟩) hHeld ?r159
  case y159 => (intro w hSw; obtain ⟨hSa, hSb⟩ := hSw; go_simp; try with_reducible rfl)
  simp only [List.getElem_toArray, List.getElem_cons_zero, List.getElem_cons_succ, Act.put, List.setIfInBounds_toArray, List.set_cons_zero, List.set_cons_succ]
  refine wpAnyH_take (i := 8) (v := ?v160) rfl (by kernel_rfl) (by kernel_rfl) (by kernel_rfl) (fun _ _ _ h => h) (Or.inl ⟨by rfl, ?y160⟩) hHeld ?r160
  case y160 => (intro w hSw; obtain ⟨hSa, hSb⟩ := hSw; go_simp; try with_reducible rfl)
  simp only [List.getElem_toArray, List.getElem_cons_zero, List.getElem_cons_succ, Act.put, List.setIfInBounds_toArray, List.set_cons_zero, List.set_cons_succ]
  refine wpAnyH_take (i := 9) (v := ?v161) rfl (by kernel_rfl) (by kernel_rfl) (by kernel_rfl) (fun _ _ _ h => h) (Or.inl ⟨by rfl, ?y161⟩) hHeld ?r161
  case y161 => (intro w hSw; obtain ⟨hSa, hSb⟩ := hSw; go_simp; try with_reducible rfl)
  simp only [List.getElem_toArray, List.getElem_cons_zero, List.getElem_cons_succ, Act.put, List.setIfInBounds_toArray, List.set_cons_zero, List.set_cons_succ]
  refine wpAnyH_take (i := 10) (v := ?v162) rfl (by kernel_rfl) (by kernel_rfl) (by kernel_rfl) (fun _ _ _ h => h) (Or.inl ⟨by rfl, ?y162⟩) hHeld ?r162
  case y162 => (intro w hSw; obtain ⟨hSa, hSb⟩ := hSw; go_simp; try with_reducible rfl)
  simp only [List.getElem_toArray, List.getElem_cons_zero, List.getElem_cons_succ, Act.put, List.setIfInBounds_toArray, List.set_cons_zero, List.set_cons_succ]
  refine wpAnyH_ready (rs := [11]) (by kernel_rfl) (by simp) (AllReadyH.cons rfl (fun K hK => ?_) AllReadyH.nil)
  go_simp
  refine Hc.out.mono ?_
  rintro e v1 ⟨rfl, hk1, hu1'⟩
  have h1 := H.out.below hu1'
  have hu1 := Hu.out.trans (Upd.of_below (OwnS o b bg) hu1')
  go_wp2_with fail
  refine hK.out _ _ (TK.of h1) (fun hHeld => ?_)
  clear hK K
  refine wpAnyH_take (i := 12) (v := ?v164) rfl (by kernel_rfl) (by kernel_rfl) (by kernel_rfl) (fun _ _ _ h => h) (Or.inl ⟨by rfl, ?y164⟩) hHeld ?r164
  case y164 => (intro w hSw; obtain ⟨hSa, hSb⟩ := hSw; go_simp; try with_reducible rfl)
  simp only [List.getElem_toArray, List.getElem_cons_zero, List.getElem_cons_succ, Act.put, List.setIfInBounds_toArray, List.set_cons_zero, List.set_cons_succ]
  refine wpAnyH_done (by kernel_rfl) ?_ _
  clear Hc H Hu c0 c9 lo hu1' hHeld
  go_wp2
  go_step3
  refine ahead_goto ?_
  have lo1 := h1.lto
  have z1 := h1.frozen 0
  have e1 := h1.cell (i := 0) (fun _ => rfl)
  have H2 := Lib.hid (And.intro (h1.put 0 (.int .i64 3) ({ x with how := 3 }) (fun _ => rfl)) (And.intro (hk1.setFar (p := ⟨o, 0, none⟩) d1.symm d2.symm (.int .i64 3)) (hu1.setCell (p := ⟨o, 0, none⟩) (.inl (.inl rfl)) (.int .i64 3))))
  clear h1 hk1 hu1
  go_wp2
  try rw [Exit.noGoto_ret]
  go_ret
  obtain ⟨h2, hk2, hu2⟩ := H2.out
  exact ⟨rfl, h2, by rw [Int.add_zero]; exact hk2, hu2⟩

end
end Go.Proofs.Ytflgggfomhifeaa
