/- The third line: it lays a word. -/
import Derived.Test.YtflgggfomhifeaaStB
namespace Go.Proofs.Ytflgggfomhifeaa
open Go.RowKit
section
variable {w : World} {o g b bg : Nat} {S : Sp} {ws xs : List Int} {x : St} {t : Int}
/-- What laying a word reads. -/
def LK (o g cap : Nat) (S : Sp) (n : Nat) (len : Nat) (v : Int) (w' : World) : Prop :=
  (w'.cell? ⟨o, 3, none⟩ = some (.int .i64 S.ow) ∧ w'.cell? ⟨o, 4, none⟩ = some (.int .i64 S.sq) ∧ w'.cell? ⟨o, 5, none⟩ = some (.int .i64 S.fs) ∧ w'.cell? ⟨o, 6, none⟩ = some (.int .i64 S.wd) ∧ w'.cell? ⟨o, 7, none⟩ = some (.int .i64 S.dp)) ∧
  w'.cell? ⟨o, 8, none⟩ = some (.slice (some ⟨g, 0, none⟩) len cap) ∧ w'.cell? ⟨o, 10, none⟩ = some (.int .i64 n) ∧ w'.cell? ⟨g, 0 + n, none⟩ = some (.int .u64 v) ∧ w'.cell? ⟨g, n, none⟩ = some (.int .u64 v)
theorem LK.keep {o g cap : Nat} {S : Sp} {n len : Nat} {v : Int} {a a' : World} (h : LK o g cap S n len v a) (ho : o < a.heap.size) (hg : g < a.heap.size) {T : Nat → Prop} (u : Upd T a a') (h1 : ¬ T o) (h2 : ¬ T g) : LK o g cap S n len v a' := by
  have e1 : ∀ i, a'.cell? ⟨o, i, none⟩ = a.cell? ⟨o, i, none⟩ := fun i => u.cell ho h1
  have e2 : ∀ i, a'.cell? ⟨g, i, none⟩ = a.cell? ⟨g, i, none⟩ := fun i => u.cell hg h2
  unfold LK at *
  simp only [e1, e2]
  exact h
theorem LK.of {o g : Nat} {S : Sp} {ws : List Int} {x : St} {a : World} (h : OpAt a o g S ws x) {n : Nat} (hn : x.n = n) {v : Int} (hv : ws[n]? = some v) : ∃ cap, LK o g cap S n ws.length v a := by
  obtain ⟨cap, hc⟩ := h.slice
  have c10 := h.cell (i := 10) (fun _ => rfl)
  rw [hn] at c10
  refine ⟨cap, ⟨h.cell (fun _ => rfl), h.cell (fun _ => rfl), h.cell (fun _ => rfl), h.cell (fun _ => rfl), h.cell (fun _ => rfl)⟩, hc, c10, ?_, h.word hv⟩
  rw [Nat.zero_add]
  exact h.word hv
set_option maxRecDepth 100000 in
set_option maxHeartbeats 1000000 in
theorem step_lay_mid (h : OpAt w o g S ws x) (hB : Bk w b bg xs t) (d1 : o ≠ b) (d2 : o ≠ bg) (d3 : g ≠ b) (d4 : g ≠ bg) (hh : x.how = 0) (hl : x.line = 2) (hw : Wf S ws x) (v : Int) (hv : getI xs (lie S x) = some v) (hm : ¬ x.n + 1 = ws.length) (t0 : 0 ≤ t) (t1 : t ≤ 1000000) (p0 : 0 ≤ x.steps) (p1 : x.steps ≤ 1000000) :
    Calls Try.prog 26 #[.pointer (some ⟨o, 0, none⟩), .pointer (some ⟨b, 0, none⟩)] w (StepPost o g b bg S ws ({ x with n := x.n + 1, line := 2, steps := x.steps + 1 }, xs.set (lie S x).toNat (ws.getD x.n.toNat 0), 1) t w) := by
  have Hl := Lib.hid hl
  have ws0 := hw.s
  obtain ⟨s0, s1⟩ := hw.s
  obtain ⟨ok, l0, l1⟩ := lie_bd hw
  have hn0 := hw.n0
  have hn1 := hw.n1
  have hnl := hw.nl hl
  have c0 := h.cell (i := 0) (fun _ => rfl)
  have c9 := h.cell (i := 9) (fun _ => rfl)
  rw [hh] at c0
  rw [hl] at c9
  have lo := h.lto
  have Hh := Lib.hid hh
  clear hh
  obtain ⟨k, hk⟩ := Int.eq_ofNat_of_zero_le hn0
  have hkl : k < ws.length := by omega
  have hvv : ws[k]? = some (ws[k]'hkl) := List.getElem?_eq_getElem _
  have hd : ws.getD x.n.toNat 0 = ws[k]'hkl := by rw [hk, Int.toNat_natCast, List.getD_eq_getElem?_getD, hvv]; rfl
  have huv : U64 (ws[k]'hkl) := hw.us _ (List.getElem_mem _)
  generalize ws[k]'hkl = vv at hvv hd huv
  have hlie : lie S x = atv S.fs S.wd S.dp (x.s / 2 + 1) + k := by unfold lie; rw [hk]
  rw [hlie] at hv
  rw [hd, hlie]
  have Hat := Lib.hid (fun w => at_any S.ow S.sq S.fs S.wd S.dp (x.s / 2 + 1) w (by omega) (by omega))
  generalize atv S.fs S.wd S.dp (x.s / 2 + 1) = A at *
  obtain ⟨q0, hv'⟩ := getI_some hv
  have Hc := Lib.hid (fun w' (hB' : Bk w' b bg xs t) => store_at b bg xs t vv v (A + k) w' q0 hB' hv' t0 t1 huv)
  have H := Lib.hid h.drew
  have Hu := Lib.hid ((Upd.refl (OwnS o b bg) w).drew)
  have HB := Lib.hid hB.drew
  obtain ⟨cap, hL⟩ := LK.of h.drew hk hvv
  have HL := Lib.hid hL
  have Hn := Lib.hid (And.intro hk (And.intro hkl ws0))
  have hkl' : (k : Int) < ws.length := by omega
  have hk64 : (k : Int) ≤ 64 := by omega
  have HwA := Lib.hid (show IntKind.i64.wrap (A + (k : Int)) = A + k by rw [IntKind.wrap_i64]; omega)
  clear h hv hl hB hL hvv huv hd hw hnl hn0 hn1 ok hlie hk ws0 hv' q0
  go_enter Try.func26, Try.ntmps26
  go_wp2
  refine wp_scope_ahead 2 rfl ?_
  go_wp2_with fail
  refine wp_region_held_drew (S := LK o g cap S k ws.length vv) (by kernel_rfl) (HL.out) (fun hHeld => ?_)
  refine wpAnyH_take (i := 0) (v := ?v64) rfl (by kernel_rfl) (by kernel_rfl) (by kernel_rfl) (fun _ _ _ h => h) (Or.inl ⟨by rfl, ?y64⟩) hHeld ?r64
  case y64 => (intro w hSw; obtain ⟨⟨hS0, hS1, hS2, hS3, hS4⟩, hS5, hS6, hS7, hS8⟩ := hSw; go_simp; try with_reducible rfl)
  simp only [List.getElem_toArray, List.getElem_cons_zero, Act.put, List.setIfInBounds_toArray, List.set_cons_zero, List.set_cons_succ]
  refine wpAnyH_take (i := 1) (v := ?v65) rfl (by kernel_rfl) (by kernel_rfl) (by kernel_rfl) (fun _ _ _ h => h) (Or.inl ⟨by rfl, ?y65⟩) hHeld ?r65
  case y65 => (intro w hSw; obtain ⟨⟨hS0, hS1, hS2, hS3, hS4⟩, hS5, hS6, hS7, hS8⟩ := hSw; go_simp; try with_reducible rfl)
  simp only [List.getElem_toArray, List.getElem_cons_zero, List.getElem_cons_succ, Act.put, List.setIfInBounds_toArray, List.set_cons_zero, List.set_cons_succ]
  refine wpAnyH_take (i := 2) (v := ?v66) rfl (by kernel_rfl) (by kernel_rfl) (by kernel_rfl) (fun _ _ _ h => h) (Or.inl ⟨by rfl, ?y66⟩) hHeld ?r66
  case y66 => (intro w hSw; obtain ⟨⟨hS0, hS1, hS2, hS3, hS4⟩, hS5, hS6, hS7, hS8⟩ := hSw; go_simp; try with_reducible rfl)
  simp only [List.getElem_toArray, List.getElem_cons_zero, List.getElem_cons_succ, Act.put, List.setIfInBounds_toArray, List.set_cons_zero, List.set_cons_succ]
  refine wpAnyH_take (i := 3) (v := ?v67) rfl (by kernel_rfl) (by kernel_rfl) (by kernel_rfl) (fun _ _ _ h => h) (Or.inl ⟨by rfl, ?y67⟩) hHeld ?r67
  case y67 => (intro w hSw; obtain ⟨⟨hS0, hS1, hS2, hS3, hS4⟩, hS5, hS6, hS7, hS8⟩ := hSw; go_simp; try with_reducible rfl)
  simp only [List.getElem_toArray, List.getElem_cons_zero, List.getElem_cons_succ, Act.put, List.setIfInBounds_toArray, List.set_cons_zero, List.set_cons_succ]
  refine wpAnyH_take (i := 4) (v := ?v68) rfl (by kernel_rfl) (by kernel_rfl) (by kernel_rfl) (fun _ _ _ h => h) (Or.inl ⟨by rfl, ?y68⟩) hHeld ?r68
  case y68 => (intro w hSw; obtain ⟨⟨hS0, hS1, hS2, hS3, hS4⟩, hS5, hS6, hS7, hS8⟩ := hSw; go_simp; try with_reducible rfl)
  simp only [List.getElem_toArray, List.getElem_cons_zero, List.getElem_cons_succ, Act.put, List.setIfInBounds_toArray, List.set_cons_zero, List.set_cons_succ]
  refine wpAnyH_take (i := 5) (v := ?v69) rfl (by kernel_rfl) (by kernel_rfl) (by kernel_rfl) (fun _ _ _ h => h) (Or.inl ⟨by rfl, ?y69⟩) hHeld ?r69
  case y69 => (intro w hSw; obtain ⟨⟨hS0, hS1, hS2, hS3, hS4⟩, hS5, hS6, hS7, hS8⟩ := hSw; go_simp; try with_reducible rfl)
  simp only [List.getElem_toArray, List.getElem_cons_zero, List.getElem_cons_succ, Act.put, List.setIfInBounds_toArray, List.set_cons_zero, List.set_cons_succ]
  refine wpAnyH_take (i := 8) (v := ?v70) rfl (by kernel_rfl) (by kernel_rfl) (by kernel_rfl) (fun _ _ _ h => h) (Or.inl ⟨by rfl, ?y70⟩) hHeld ?r70
  case y70 => (intro w hSw; obtain ⟨⟨hS0, hS1, hS2, hS3, hS4⟩, hS5, hS6, hS7, hS8⟩ := hSw; go_simp; try with_reducible rfl)
  simp only [List.getElem_toArray, List.getElem_cons_zero, List.getElem_cons_succ, Act.put, List.setIfInBounds_toArray, List.set_cons_zero, List.set_cons_succ]
  refine wpAnyH_take (i := 9) (v := ?v71) rfl (by kernel_rfl) (by kernel_rfl) (by kernel_rfl) (fun _ _ _ h => h) (Or.inl ⟨by rfl, ?y71⟩) hHeld ?r71
  case y71 => (intro w hSw; obtain ⟨⟨hS0, hS1, hS2, hS3, hS4⟩, hS5, hS6, hS7, hS8⟩ := hSw; go_simp; try with_reducible rfl)
  simp only [List.getElem_toArray, List.getElem_cons_zero, List.getElem_cons_succ, Act.put, List.setIfInBounds_toArray, List.set_cons_zero, List.set_cons_succ]
  refine wpAnyH_take (i := 10) (v := ?v72) rfl (by kernel_rfl) (by kernel_rfl) (by kernel_rfl) (fun _ _ _ h => h) (Or.inl ⟨by rfl, ?y72⟩) hHeld ?r72
  case y72 => (intro w hSw; obtain ⟨⟨hS0, hS1, hS2, hS3, hS4⟩, hS5, hS6, hS7, hS8⟩ := hSw; go_simp; try with_reducible rfl)
  simp only [List.getElem_toArray, List.getElem_cons_zero, List.getElem_cons_succ, Act.put, List.setIfInBounds_toArray, List.set_cons_zero, List.set_cons_succ]
  refine wpAnyH_take (i := 11) (v := ?v73) rfl (by kernel_rfl) (by kernel_rfl) (by kernel_rfl) (fun _ _ _ h => h) (Or.inl ⟨by rfl, ?y73⟩) hHeld ?r73
  case y73 => (intro w hSw; obtain ⟨⟨hS0, hS1, hS2, hS3, hS4⟩, hS5, hS6, hS7, hS8⟩ := hSw; go_simp; try with_reducible rfl)
  simp only [List.getElem_toArray, List.getElem_cons_zero, List.getElem_cons_succ, Act.put, List.setIfInBounds_toArray, List.set_cons_zero, List.set_cons_succ]
  refine wpAnyH_take (i := 13) (v := ?v74) rfl (by kernel_rfl) (by kernel_rfl) (by kernel_rfl) (fun _ _ _ h => h) (Or.inl ⟨by rfl, ?y74⟩) hHeld ?r74
  case y74 => (intro w hSw; obtain ⟨⟨hS0, hS1, hS2, hS3, hS4⟩, hS5, hS6, hS7, hS8⟩ := hSw; go_simp; try with_reducible rfl)
  simp only [List.getElem_toArray, List.getElem_cons_zero, List.getElem_cons_succ, Act.put, List.setIfInBounds_toArray, List.set_cons_zero, List.set_cons_succ]
  refine wpAnyH_take (i := 14) (v := ?v75) rfl (by kernel_rfl) (by kernel_rfl) (by kernel_rfl) (fun _ _ _ h => h) (Or.inl ⟨by rfl, ?y75⟩) hHeld ?r75
  case y75 => (intro w hSw; obtain ⟨⟨hS0, hS1, hS2, hS3, hS4⟩, hS5, hS6, hS7, hS8⟩ := hSw; go_simp; try with_reducible rfl)
  simp only [List.getElem_toArray, List.getElem_cons_zero, List.getElem_cons_succ, Act.put, List.setIfInBounds_toArray, List.set_cons_zero, List.set_cons_succ]
  refine wpAnyH_take (i := 15) (v := ?v76) rfl (by kernel_rfl) (by kernel_rfl) (by kernel_rfl) (fun _ _ _ h => h) (Or.inl ⟨by rfl, ?y76⟩) hHeld ?r76
  case y76 => (intro w hSw; obtain ⟨⟨hS0, hS1, hS2, hS3, hS4⟩, hS5, hS6, hS7, hS8⟩ := hSw; go_simp; try with_reducible rfl)
  simp only [List.getElem_toArray, List.getElem_cons_zero, List.getElem_cons_succ, Act.put, List.setIfInBounds_toArray, List.set_cons_zero, List.set_cons_succ]
  refine wpAnyH_take (i := 16) (v := ?v77) rfl (by kernel_rfl) (by kernel_rfl) (by kernel_rfl) (fun _ _ _ h => h) (Or.inl ⟨by rfl, ?y77⟩) hHeld ?r77
  case y77 => (intro w hSw; obtain ⟨⟨hS0, hS1, hS2, hS3, hS4⟩, hS5, hS6, hS7, hS8⟩ := hSw; go_simp; try with_reducible rfl)
  simp only [List.getElem_toArray, List.getElem_cons_zero, List.getElem_cons_succ, Act.put, List.setIfInBounds_toArray, List.set_cons_zero, List.set_cons_succ]
  refine wpAnyH_take (i := 17) (v := ?v78) rfl (by kernel_rfl) (by kernel_rfl) (by kernel_rfl) (fun _ _ _ h => h) (Or.inl ⟨by rfl, ?y78⟩) hHeld ?r78
  case y78 => (intro w hSw; obtain ⟨⟨hS0, hS1, hS2, hS3, hS4⟩, hS5, hS6, hS7, hS8⟩ := hSw; go_simp; try with_reducible rfl)
  simp only [List.getElem_toArray, List.getElem_cons_zero, List.getElem_cons_succ, Act.put, List.setIfInBounds_toArray, List.set_cons_zero, List.set_cons_succ]
  refine wpAnyH_take (i := 18) (v := ?v79) rfl (by kernel_rfl) (by kernel_rfl) (by kernel_rfl) (fun _ _ _ h => h) (Or.inl ⟨by rfl, ?y79⟩) hHeld ?r79
  case y79 => (intro w hSw; obtain ⟨⟨hS0, hS1, hS2, hS3, hS4⟩, hS5, hS6, hS7, hS8⟩ := hSw; go_simp; try with_reducible rfl)
  simp only [List.getElem_toArray, List.getElem_cons_zero, List.getElem_cons_succ, Act.put, List.setIfInBounds_toArray, List.set_cons_zero, List.set_cons_succ]
  refine wpAnyH_take (i := 19) (v := ?v80) rfl (by kernel_rfl) (by kernel_rfl) (by kernel_rfl) (fun _ _ _ h => h) (Or.inl ⟨by rfl, ?y80⟩) hHeld ?r80
  case y80 => (intro w hSw; obtain ⟨⟨hS0, hS1, hS2, hS3, hS4⟩, hS5, hS6, hS7, hS8⟩ := hSw; go_simp; try with_reducible rfl)
  simp only [List.getElem_toArray, List.getElem_cons_zero, List.getElem_cons_succ, Act.put, List.setIfInBounds_toArray, List.set_cons_zero, List.set_cons_succ]
  refine wpAnyH_take (i := 20) (v := ?v81) rfl (by kernel_rfl) (by kernel_rfl) (by kernel_rfl) (fun _ _ _ h => h) (Or.inl ⟨by rfl, ?y81⟩) hHeld ?r81
  case y81 => (intro w hSw; obtain ⟨⟨hS0, hS1, hS2, hS3, hS4⟩, hS5, hS6, hS7, hS8⟩ := hSw; go_simp; try with_reducible rfl)
  simp only [List.getElem_toArray, List.getElem_cons_zero, List.getElem_cons_succ, Act.put, List.setIfInBounds_toArray, List.set_cons_zero, List.set_cons_succ]
  refine wpAnyH_take (i := 21) (v := ?v82) rfl (by kernel_rfl) (by kernel_rfl) (by kernel_rfl) (fun _ _ _ h => h) (Or.inl ⟨by rfl, ?y82⟩) hHeld ?r82
  case y82 => (intro w hSw; obtain ⟨⟨hS0, hS1, hS2, hS3, hS4⟩, hS5, hS6, hS7, hS8⟩ := hSw; go_simp; try with_reducible rfl)
  simp only [List.getElem_toArray, List.getElem_cons_zero, List.getElem_cons_succ, Act.put, List.setIfInBounds_toArray, List.set_cons_zero, List.set_cons_succ]
  refine wpAnyH_take (i := 22) (v := ?v83) rfl (by kernel_rfl) (by kernel_rfl) (by kernel_rfl) (fun _ _ _ h => h) (Or.inl ⟨by rfl, ?y83⟩) hHeld ?r83
  case y83 => (intro w hSw; obtain ⟨⟨hS0, hS1, hS2, hS3, hS4⟩, hS5, hS6, hS7, hS8⟩ := hSw; go_simp; try with_reducible rfl)
  simp only [List.getElem_toArray, List.getElem_cons_zero, List.getElem_cons_succ, Act.put, List.setIfInBounds_toArray, List.set_cons_zero, List.set_cons_succ]
  refine wpAnyH_ready (rs := [6]) (by kernel_rfl) (by simp) (AllReadyH.cons rfl (fun K hK => ?_) AllReadyH.nil)
  go_simp
  refine (next_any H.out Hn.out.2.2).mono ?_
  rintro e v0 ⟨rfl, rfl⟩
  go_wp2_with fail
  refine hK.out _ _ (HL.out) (fun hHeld => ?_)
  clear hK K
  refine wpAnyH_ready (rs := [7]) (by kernel_rfl) (by simp) (AllReadyH.cons rfl (fun K hK => ?_) AllReadyH.nil)
  go_simp
  refine (Hat.out _).mono ?_
  rintro e v3 ⟨rfl, hb3⟩
  have h3 := H.out.below hb3
  have hk3 := HB.out.below hb3
  have hu3 := Hu.out.trans (Upd.of_below (OwnS o b bg) hb3)
  have hL3 := HL.out.keep H.out.lto H.out.ltg (Upd.of_below (fun _ => False) hb3) (fun q => q) (fun q => q)
  have H3 := Lib.hid (And.intro h3 (And.intro hk3 (And.intro hu3 hL3)))
  clear h3 hk3 hu3 hL3 hb3
  go_wp2_with fail
  refine hK.out _ _ (H3.out.2.2.2) (fun hHeld => ?_)
  clear hK K
  refine wpAnyH_take (i := 12) (v := ?v86) rfl (by kernel_rfl) (by kernel_rfl) (by kernel_rfl) (fun _ _ _ h => h) (Or.inl ⟨by rfl, ?y86⟩) hHeld ?r86
  case y86 => (intro w hSw; obtain ⟨⟨hS0, hS1, hS2, hS3, hS4⟩, hS5, hS6, hS7, hS8⟩ := hSw; go_simp; try with_reducible rfl)
  simp only [List.getElem_toArray, List.getElem_cons_zero, List.getElem_cons_succ, Act.put, List.setIfInBounds_toArray, List.set_cons_zero, List.set_cons_succ]
  refine wpAnyH_ready (rs := [23]) (by kernel_rfl) (by simp) (AllReadyH.cons rfl (fun K hK => ?_) AllReadyH.nil)
  go_simp
  rw [HwA.out]
  refine (Hc.out _ H3.out.2.1).mono ?_
  rintro e v1 ⟨rfl, hk1, hu1'⟩
  have h1 := H3.out.1.upd hu1' (fun q => q.elim d1 d2) (fun q => q.elim d3 d4)
  have hu1 := H3.out.2.2.1.trans (hu1'.mono (ownS_of (o := o)))
  have hL1 := Lib.hid (H3.out.2.2.2.keep H3.out.1.lto H3.out.1.ltg hu1' (fun q => q.elim d1 d2) (fun q => q.elim d3 d4))
  go_wp2_with fail
  refine hK.out _ _ (hL1.out) (fun hHeld => ?_)
  clear hK K
  refine wpAnyH_take (i := 24) (v := ?v88) rfl (by kernel_rfl) (by kernel_rfl) (by kernel_rfl) (fun _ _ _ h => h) (Or.inl ⟨by rfl, ?y88⟩) hHeld ?r88
  case y88 => (intro w hSw; obtain ⟨⟨hS0, hS1, hS2, hS3, hS4⟩, hS5, hS6, hS7, hS8⟩ := hSw; go_simp; try with_reducible rfl)
  simp only [List.getElem_toArray, List.getElem_cons_zero, List.getElem_cons_succ, Act.put, List.setIfInBounds_toArray, List.set_cons_zero, List.set_cons_succ]
  refine wpAnyH_done (by kernel_rfl) ?_ _
  clear Hc HB H H3 HL Hu Hat c0 c9 lo hu1' hHeld
  obtain ⟨hk, hkl, _⟩ := Hn.out
  have e10 := h1.cell (i := 10) (fun _ => rfl)
  rw [hk] at e10
  have z10 := h1.frozen 10
  have lo1 := h1.lto
  obtain ⟨cap2, e8⟩ := h1.slice
  have H2 := Lib.hid (And.intro (h1.put 10 (.int .i64 (k + 1)) { x with n := x.n + 1 } (fun _ => by rw [hk]; rfl)) (And.intro (hk1.setFar (p := ⟨o, 10, none⟩) d1.symm d2.symm (.int .i64 (k + 1))) (hu1.setCell (p := ⟨o, 10, none⟩) (.inl (.inl rfl)) (.int .i64 (k + 1)))))
  clear h1 hk1 hu1 hL1 hk hkl
  have Hm := Lib.hid hm
  clear hm
  have hm : decide ((k : Int) + 1 = ws.length) = false := by have h1 := Hm.out; have h2 := Hn.out.1; rw [h2] at h1; simpa using h1
  have hm2 : (((k : Int) + 1) == (ws.length : Int)) = false := by simpa using hm
  go_wp2_with fail
  obtain ⟨h2, hk2, hu2⟩ := H2.out
  clear H2 z10 e10 e8 lo1
  generalize v1.setCell ⟨o, 10, none⟩ (.int .i64 (k + 1)) = v2 at h2 hk2 hu2 ⊢
  have lo2 := h2.lto
  have e10 := h2.cell (i := 10) (fun _ => rfl)
  dsimp only at e10
  rw [Hn.out.1] at e10
  obtain ⟨cap3, e8⟩ := h2.slice
  have H3 := Lib.hid (fun n => And.intro (h2.drewN n) (And.intro (hk2.drewN n) (hu2.drewN n)))
  clear h2 hk2 hu2 hHeld hkl
  go_quiet (fail)
  obtain ⟨h3, hk3, hu3⟩ := H3.out nq
  clear H3 e10 e8 lo2
  generalize v2.drewN nq = v3 at h3 hk3 hu3 ⊢
  go_wp2
  go_step3
  refine ahead_goto ?_
  have lo3 := h3.lto
  have z3 := h3.frozen 1
  have e03 := h3.cell (i := 0) (fun _ => rfl)
  have e13 := h3.cell (i := 1) (fun _ => rfl)
  dsimp only at e03 e13
  rw [Hh.out] at e03
  have HH := Lib.hid (And.intro h3 (And.intro hk3 hu3))
  clear h3 hk3 hu3
  go_wp2
  try rw [Exit.noGoto_ret]
  go_ret
  obtain ⟨h3, hk3, hu3⟩ := HH.out
  refine ⟨by rw [← Hh.out]; rfl, ?_, hk3.setFar d1.symm d2.symm _, hu3.setCell (.inl (.inl rfl)) _⟩
  exact h3.put 1 _ _ (fun _ => by rw [show (2 : Int) = x.line from Hl.out.symm]; rfl)

set_option maxRecDepth 100000 in
set_option maxHeartbeats 1000000 in
theorem step_lay_last (h : OpAt w o g S ws x) (hB : Bk w b bg xs t) (d1 : o ≠ b) (d2 : o ≠ bg) (d3 : g ≠ b) (d4 : g ≠ bg) (hh : x.how = 0) (hl : x.line = 2) (hw : Wf S ws x) (v : Int) (hv : getI xs (lie S x) = some v) (hm :  x.n + 1 = ws.length) (t0 : 0 ≤ t) (t1 : t ≤ 1000000) (p0 : 0 ≤ x.steps) (p1 : x.steps ≤ 1000000) :
    Calls Try.prog 26 #[.pointer (some ⟨o, 0, none⟩), .pointer (some ⟨b, 0, none⟩)] w (StepPost o g b bg S ws ({ x with n := x.n + 1, line := 3, steps := x.steps + 1 }, xs.set (lie S x).toNat (ws.getD x.n.toNat 0), 1) t w) := by
  have Hl := Lib.hid hl
  have ws0 := hw.s
  obtain ⟨s0, s1⟩ := hw.s
  obtain ⟨ok, l0, l1⟩ := lie_bd hw
  have hn0 := hw.n0
  have hn1 := hw.n1
  have hnl := hw.nl hl
  have c0 := h.cell (i := 0) (fun _ => rfl)
  have c9 := h.cell (i := 9) (fun _ => rfl)
  rw [hh] at c0
  rw [hl] at c9
  have lo := h.lto
  have Hh := Lib.hid hh
  clear hh
  obtain ⟨k, hk⟩ := Int.eq_ofNat_of_zero_le hn0
  have hkl : k < ws.length := by omega
  have hvv : ws[k]? = some (ws[k]'hkl) := List.getElem?_eq_getElem _
  have hd : ws.getD x.n.toNat 0 = ws[k]'hkl := by rw [hk, Int.toNat_natCast, List.getD_eq_getElem?_getD, hvv]; rfl
  have huv : U64 (ws[k]'hkl) := hw.us _ (List.getElem_mem _)
  generalize ws[k]'hkl = vv at hvv hd huv
  have hlie : lie S x = atv S.fs S.wd S.dp (x.s / 2 + 1) + k := by unfold lie; rw [hk]
  rw [hlie] at hv
  rw [hd, hlie]
  have Hat := Lib.hid (fun w => at_any S.ow S.sq S.fs S.wd S.dp (x.s / 2 + 1) w (by omega) (by omega))
  generalize atv S.fs S.wd S.dp (x.s / 2 + 1) = A at *
  obtain ⟨q0, hv'⟩ := getI_some hv
  have Hc := Lib.hid (fun w' (hB' : Bk w' b bg xs t) => store_at b bg xs t vv v (A + k) w' q0 hB' hv' t0 t1 huv)
  have H := Lib.hid h.drew
  have Hu := Lib.hid ((Upd.refl (OwnS o b bg) w).drew)
  have HB := Lib.hid hB.drew
  obtain ⟨cap, hL⟩ := LK.of h.drew hk hvv
  have HL := Lib.hid hL
  have Hn := Lib.hid (And.intro hk (And.intro hkl ws0))
  have hkl' : (k : Int) < ws.length := by omega
  have hk64 : (k : Int) ≤ 64 := by omega
  have HwA := Lib.hid (show IntKind.i64.wrap (A + (k : Int)) = A + k by rw [IntKind.wrap_i64]; omega)
  clear h hv hl hB hL hvv huv hd hw hnl hn0 hn1 ok hlie hk ws0 hv' q0
  go_enter Try.func26, Try.ntmps26
  go_wp2
  refine wp_scope_ahead 2 rfl ?_
  go_wp2_with fail
  refine wp_region_held_drew (S := LK o g cap S k ws.length vv) (by kernel_rfl) (HL.out) (fun hHeld => ?_)
  refine wpAnyH_take (i := 0) (v := ?v89) rfl (by kernel_rfl) (by kernel_rfl) (by kernel_rfl) (fun _ _ _ h => h) (Or.inl ⟨by rfl, ?y89⟩) hHeld ?r89
  case y89 => (intro w hSw; obtain ⟨⟨hS0, hS1, hS2, hS3, hS4⟩, hS5, hS6, hS7, hS8⟩ := hSw; go_simp; try with_reducible rfl)
  simp only [List.getElem_toArray, List.getElem_cons_zero, Act.put, List.setIfInBounds_toArray, List.set_cons_zero, List.set_cons_succ]
  refine wpAnyH_take (i := 1) (v := ?v90) rfl (by kernel_rfl) (by kernel_rfl) (by kernel_rfl) (fun _ _ _ h => h) (Or.inl ⟨by rfl, ?y90⟩) hHeld ?r90
  case y90 => (intro w hSw; obtain ⟨⟨hS0, hS1, hS2, hS3, hS4⟩, hS5, hS6, hS7, hS8⟩ := hSw; go_simp; try with_reducible rfl)
  simp only [List.getElem_toArray, List.getElem_cons_zero, List.getElem_cons_succ, Act.put, List.setIfInBounds_toArray, List.set_cons_zero, List.set_cons_succ]
  refine wpAnyH_take (i := 2) (v := ?v91) rfl (by kernel_rfl) (by kernel_rfl) (by kernel_rfl) (fun _ _ _ h => h) (Or.inl ⟨by rfl, ?y91⟩) hHeld ?r91
  case y91 => (intro w hSw; obtain ⟨⟨hS0, hS1, hS2, hS3, hS4⟩, hS5, hS6, hS7, hS8⟩ := hSw; go_simp; try with_reducible rfl)
  simp only [List.getElem_toArray, List.getElem_cons_zero, List.getElem_cons_succ, Act.put, List.setIfInBounds_toArray, List.set_cons_zero, List.set_cons_succ]
  refine wpAnyH_take (i := 3) (v := ?v92) rfl (by kernel_rfl) (by kernel_rfl) (by kernel_rfl) (fun _ _ _ h => h) (Or.inl ⟨by rfl, ?y92⟩) hHeld ?r92
  case y92 => (intro w hSw; obtain ⟨⟨hS0, hS1, hS2, hS3, hS4⟩, hS5, hS6, hS7, hS8⟩ := hSw; go_simp; try with_reducible rfl)
  simp only [List.getElem_toArray, List.getElem_cons_zero, List.getElem_cons_succ, Act.put, List.setIfInBounds_toArray, List.set_cons_zero, List.set_cons_succ]
  refine wpAnyH_take (i := 4) (v := ?v93) rfl (by kernel_rfl) (by kernel_rfl) (by kernel_rfl) (fun _ _ _ h => h) (Or.inl ⟨by rfl, ?y93⟩) hHeld ?r93
  case y93 => (intro w hSw; obtain ⟨⟨hS0, hS1, hS2, hS3, hS4⟩, hS5, hS6, hS7, hS8⟩ := hSw; go_simp; try with_reducible rfl)
  simp only [List.getElem_toArray, List.getElem_cons_zero, List.getElem_cons_succ, Act.put, List.setIfInBounds_toArray, List.set_cons_zero, List.set_cons_succ]
  refine wpAnyH_take (i := 5) (v := ?v94) rfl (by kernel_rfl) (by kernel_rfl) (by kernel_rfl) (fun _ _ _ h => h) (Or.inl ⟨by rfl, ?y94⟩) hHeld ?r94
  case y94 => (intro w hSw; obtain ⟨⟨hS0, hS1, hS2, hS3, hS4⟩, hS5, hS6, hS7, hS8⟩ := hSw; go_simp; try with_reducible rfl)
  simp only [List.getElem_toArray, List.getElem_cons_zero, List.getElem_cons_succ, Act.put, List.setIfInBounds_toArray, List.set_cons_zero, List.set_cons_succ]
  refine wpAnyH_take (i := 8) (v := ?v95) rfl (by kernel_rfl) (by kernel_rfl) (by kernel_rfl) (fun _ _ _ h => h) (Or.inl ⟨by rfl, ?y95⟩) hHeld ?r95
  case y95 => (intro w hSw; obtain ⟨⟨hS0, hS1, hS2, hS3, hS4⟩, hS5, hS6, hS7, hS8⟩ := hSw; go_simp; try with_reducible rfl)
  simp only [List.getElem_toArray, List.getElem_cons_zero, List.getElem_cons_succ, Act.put, List.setIfInBounds_toArray, List.set_cons_zero, List.set_cons_succ]
  refine wpAnyH_take (i := 9) (v := ?v96) rfl (by kernel_rfl) (by kernel_rfl) (by kernel_rfl) (fun _ _ _ h => h) (Or.inl ⟨by rfl, ?y96⟩) hHeld ?r96
  case y96 => (intro w hSw; obtain ⟨⟨hS0, hS1, hS2, hS3, hS4⟩, hS5, hS6, hS7, hS8⟩ := hSw; go_simp; try with_reducible rfl)
  simp only [List.getElem_toArray, List.getElem_cons_zero, List.getElem_cons_succ, Act.put, List.setIfInBounds_toArray, List.set_cons_zero, List.set_cons_succ]
  refine wpAnyH_take (i := 10) (v := ?v97) rfl (by kernel_rfl) (by kernel_rfl) (by kernel_rfl) (fun _ _ _ h => h) (Or.inl ⟨by rfl, ?y97⟩) hHeld ?r97
  case y97 => (intro w hSw; obtain ⟨⟨hS0, hS1, hS2, hS3, hS4⟩, hS5, hS6, hS7, hS8⟩ := hSw; go_simp; try with_reducible rfl)
  simp only [List.getElem_toArray, List.getElem_cons_zero, List.getElem_cons_succ, Act.put, List.setIfInBounds_toArray, List.set_cons_zero, List.set_cons_succ]
  refine wpAnyH_take (i := 11) (v := ?v98) rfl (by kernel_rfl) (by kernel_rfl) (by kernel_rfl) (fun _ _ _ h => h) (Or.inl ⟨by rfl, ?y98⟩) hHeld ?r98
  case y98 => (intro w hSw; obtain ⟨⟨hS0, hS1, hS2, hS3, hS4⟩, hS5, hS6, hS7, hS8⟩ := hSw; go_simp; try with_reducible rfl)
  simp only [List.getElem_toArray, List.getElem_cons_zero, List.getElem_cons_succ, Act.put, List.setIfInBounds_toArray, List.set_cons_zero, List.set_cons_succ]
  refine wpAnyH_take (i := 13) (v := ?v99) rfl (by kernel_rfl) (by kernel_rfl) (by kernel_rfl) (fun _ _ _ h => h) (Or.inl ⟨by rfl, ?y99⟩) hHeld ?r99
  case y99 => (intro w hSw; obtain ⟨⟨hS0, hS1, hS2, hS3, hS4⟩, hS5, hS6, hS7, hS8⟩ := hSw; go_simp; try with_reducible rfl)
  simp only [List.getElem_toArray, List.getElem_cons_zero, List.getElem_cons_succ, Act.put, List.setIfInBounds_toArray, List.set_cons_zero, List.set_cons_succ]
  refine wpAnyH_take (i := 14) (v := ?v100) rfl (by kernel_rfl) (by kernel_rfl) (by kernel_rfl) (fun _ _ _ h => h) (Or.inl ⟨by rfl, ?y100⟩) hHeld ?r100
  case y100 => (intro w hSw; obtain ⟨⟨hS0, hS1, hS2, hS3, hS4⟩, hS5, hS6, hS7, hS8⟩ := hSw; go_simp; try with_reducible rfl)
  simp only [List.getElem_toArray, List.getElem_cons_zero, List.getElem_cons_succ, Act.put, List.setIfInBounds_toArray, List.set_cons_zero, List.set_cons_succ]
  refine wpAnyH_take (i := 15) (v := ?v101) rfl (by kernel_rfl) (by kernel_rfl) (by kernel_rfl) (fun _ _ _ h => h) (Or.inl ⟨by rfl, ?y101⟩) hHeld ?r101
  case y101 => (intro w hSw; obtain ⟨⟨hS0, hS1, hS2, hS3, hS4⟩, hS5, hS6, hS7, hS8⟩ := hSw; go_simp; try with_reducible rfl)
  simp only [List.getElem_toArray, List.getElem_cons_zero, List.getElem_cons_succ, Act.put, List.setIfInBounds_toArray, List.set_cons_zero, List.set_cons_succ]
  refine wpAnyH_take (i := 16) (v := ?v102) rfl (by kernel_rfl) (by kernel_rfl) (by kernel_rfl) (fun _ _ _ h => h) (Or.inl ⟨by rfl, ?y102⟩) hHeld ?r102
  case y102 => (intro w hSw; obtain ⟨⟨hS0, hS1, hS2, hS3, hS4⟩, hS5, hS6, hS7, hS8⟩ := hSw; go_simp; try with_reducible rfl)
  simp only [List.getElem_toArray, List.getElem_cons_zero, List.getElem_cons_succ, Act.put, List.setIfInBounds_toArray, List.set_cons_zero, List.set_cons_succ]
  refine wpAnyH_take (i := 17) (v := ?v103) rfl (by kernel_rfl) (by kernel_rfl) (by kernel_rfl) (fun _ _ _ h => h) (Or.inl ⟨by rfl, ?y103⟩) hHeld ?r103
  case y103 => (intro w hSw; obtain ⟨⟨hS0, hS1, hS2, hS3, hS4⟩, hS5, hS6, hS7, hS8⟩ := hSw; go_simp; try with_reducible rfl)
  simp only [List.getElem_toArray, List.getElem_cons_zero, List.getElem_cons_succ, Act.put, List.setIfInBounds_toArray, List.set_cons_zero, List.set_cons_succ]
  refine wpAnyH_take (i := 18) (v := ?v104) rfl (by kernel_rfl) (by kernel_rfl) (by kernel_rfl) (fun _ _ _ h => h) (Or.inl ⟨by rfl, ?y104⟩) hHeld ?r104
  case y104 => (intro w hSw; obtain ⟨⟨hS0, hS1, hS2, hS3, hS4⟩, hS5, hS6, hS7, hS8⟩ := hSw; go_simp; try with_reducible rfl)
  simp only [List.getElem_toArray, List.getElem_cons_zero, List.getElem_cons_succ, Act.put, List.setIfInBounds_toArray, List.set_cons_zero, List.set_cons_succ]
  refine wpAnyH_take (i := 19) (v := ?v105) rfl (by kernel_rfl) (by kernel_rfl) (by kernel_rfl) (fun _ _ _ h => h) (Or.inl ⟨by rfl, ?y105⟩) hHeld ?r105
  case y105 => (intro w hSw; obtain ⟨⟨hS0, hS1, hS2, hS3, hS4⟩, hS5, hS6, hS7, hS8⟩ := hSw; go_simp; try with_reducible rfl)
  simp only [List.getElem_toArray, List.getElem_cons_zero, List.getElem_cons_succ, Act.put, List.setIfInBounds_toArray, List.set_cons_zero, List.set_cons_succ]
  refine wpAnyH_take (i := 20) (v := ?v106) rfl (by kernel_rfl) (by kernel_rfl) (by kernel_rfl) (fun _ _ _ h => h) (Or.inl ⟨by rfl, ?y106⟩) hHeld ?r106
  case y106 => (intro w hSw; obtain ⟨⟨hS0, hS1, hS2, hS3, hS4⟩, hS5, hS6, hS7, hS8⟩ := hSw; go_simp; try with_reducible rfl)
  simp only [List.getElem_toArray, List.getElem_cons_zero, List.getElem_cons_succ, Act.put, List.setIfInBounds_toArray, List.set_cons_zero, List.set_cons_succ]
  refine wpAnyH_take (i := 21) (v := ?v107) rfl (by kernel_rfl) (by kernel_rfl) (by kernel_rfl) (fun _ _ _ h => h) (Or.inl ⟨by rfl, ?y107⟩) hHeld ?r107
  case y107 => (intro w hSw; obtain ⟨⟨hS0, hS1, hS2, hS3, hS4⟩, hS5, hS6, hS7, hS8⟩ := hSw; go_simp; try with_reducible rfl)
  simp only [List.getElem_toArray, List.getElem_cons_zero, List.getElem_cons_succ, Act.put, List.setIfInBounds_toArray, List.set_cons_zero, List.set_cons_succ]
  refine wpAnyH_take (i := 22) (v := ?v108) rfl (by kernel_rfl) (by kernel_rfl) (by kernel_rfl) (fun _ _ _ h => h) (Or.inl ⟨by rfl, ?y108⟩) hHeld ?r108
  case y108 => (intro w hSw; obtain ⟨⟨hS0, hS1, hS2, hS3, hS4⟩, hS5, hS6, hS7, hS8⟩ := hSw; go_simp; try with_reducible rfl)
  simp only [List.getElem_toArray, List.getElem_cons_zero, List.getElem_cons_succ, Act.put, List.setIfInBounds_toArray, List.set_cons_zero, List.set_cons_succ]
  refine wpAnyH_ready (rs := [6]) (by kernel_rfl) (by simp) (AllReadyH.cons rfl (fun K hK => ?_) AllReadyH.nil)
  go_simp
  refine (next_any H.out Hn.out.2.2).mono ?_
  rintro e v0 ⟨rfl, rfl⟩
  go_wp2_with fail
  refine hK.out _ _ (HL.out) (fun hHeld => ?_)
  clear hK K
  refine wpAnyH_ready (rs := [7]) (by kernel_rfl) (by simp) (AllReadyH.cons rfl (fun K hK => ?_) AllReadyH.nil)
  go_simp
  refine (Hat.out _).mono ?_
  rintro e v3 ⟨rfl, hb3⟩
  have h3 := H.out.below hb3
  have hk3 := HB.out.below hb3
  have hu3 := Hu.out.trans (Upd.of_below (OwnS o b bg) hb3)
  have hL3 := HL.out.keep H.out.lto H.out.ltg (Upd.of_below (fun _ => False) hb3) (fun q => q) (fun q => q)
  have H3 := Lib.hid (And.intro h3 (And.intro hk3 (And.intro hu3 hL3)))
  clear h3 hk3 hu3 hL3 hb3
  go_wp2_with fail
  refine hK.out _ _ (H3.out.2.2.2) (fun hHeld => ?_)
  clear hK K
  refine wpAnyH_take (i := 12) (v := ?v111) rfl (by kernel_rfl) (by kernel_rfl) (by kernel_rfl) (fun _ _ _ h => h) (Or.inl ⟨by rfl, ?y111⟩) hHeld ?r111
  case y111 => (intro w hSw; obtain ⟨⟨hS0, hS1, hS2, hS3, hS4⟩, hS5, hS6, hS7, hS8⟩ := hSw; go_simp; try with_reducible rfl)
  simp only [List.getElem_toArray, List.getElem_cons_zero, List.getElem_cons_succ, Act.put, List.setIfInBounds_toArray, List.set_cons_zero, List.set_cons_succ]
  refine wpAnyH_ready (rs := [23]) (by kernel_rfl) (by simp) (AllReadyH.cons rfl (fun K hK => ?_) AllReadyH.nil)
  go_simp
  rw [HwA.out]
  refine (Hc.out _ H3.out.2.1).mono ?_
  rintro e v1 ⟨rfl, hk1, hu1'⟩
  have h1 := H3.out.1.upd hu1' (fun q => q.elim d1 d2) (fun q => q.elim d3 d4)
  have hu1 := H3.out.2.2.1.trans (hu1'.mono (ownS_of (o := o)))
  have hL1 := Lib.hid (H3.out.2.2.2.keep H3.out.1.lto H3.out.1.ltg hu1' (fun q => q.elim d1 d2) (fun q => q.elim d3 d4))
  go_wp2_with fail
  refine hK.out _ _ (hL1.out) (fun hHeld => ?_)
  clear hK K
  refine wpAnyH_take (i := 24) (v := ?v113) rfl (by kernel_rfl) (by kernel_rfl) (by kernel_rfl) (fun _ _ _ h => h) (Or.inl ⟨by rfl, ?y113⟩) hHeld ?r113
  case y113 => (intro w hSw; obtain ⟨⟨hS0, hS1, hS2, hS3, hS4⟩, hS5, hS6, hS7, hS8⟩ := hSw; go_simp; try with_reducible rfl)
  simp only [List.getElem_toArray, List.getElem_cons_zero, List.getElem_cons_succ, Act.put, List.setIfInBounds_toArray, List.set_cons_zero, List.set_cons_succ]
  refine wpAnyH_done (by kernel_rfl) ?_ _
  clear Hc HB H H3 HL Hu Hat c0 c9 lo hu1' hHeld
  obtain ⟨hk, hkl, _⟩ := Hn.out
  have e10 := h1.cell (i := 10) (fun _ => rfl)
  rw [hk] at e10
  have z10 := h1.frozen 10
  have lo1 := h1.lto
  obtain ⟨cap2, e8⟩ := h1.slice
  have H2 := Lib.hid (And.intro (h1.put 10 (.int .i64 (k + 1)) { x with n := x.n + 1 } (fun _ => by rw [hk]; rfl)) (And.intro (hk1.setFar (p := ⟨o, 10, none⟩) d1.symm d2.symm (.int .i64 (k + 1))) (hu1.setCell (p := ⟨o, 10, none⟩) (.inl (.inl rfl)) (.int .i64 (k + 1)))))
  clear h1 hk1 hu1 hL1 hk hkl
  have Hm := Lib.hid hm
  clear hm
  have hm : decide ((k : Int) + 1 = ws.length) = true := by have h1 := Hm.out; have h2 := Hn.out.1; rw [h2] at h1; simpa using h1
  have hm2 : (((k : Int) + 1) == (ws.length : Int)) = true := by simpa using hm
  go_wp2_with fail
  obtain ⟨h2, hk2, hu2⟩ := H2.out
  clear H2 z10 e10 e8 lo1
  generalize v1.setCell ⟨o, 10, none⟩ (.int .i64 (k + 1)) = v2 at h2 hk2 hu2 ⊢
  have lo2 := h2.lto
  have e10 := h2.cell (i := 10) (fun _ => rfl)
  dsimp only at e10
  rw [Hn.out.1] at e10
  obtain ⟨cap3, e8⟩ := h2.slice
  have H3 := Lib.hid (fun n => And.intro (h2.drewN n) (And.intro (hk2.drewN n) (hu2.drewN n)))
  clear h2 hk2 hu2 hHeld hkl
  go_quiet (fail)
  obtain ⟨h3, hk3, hu3⟩ := H3.out nq
  clear H3 e10 e8 lo2
  generalize v2.drewN nq = v3 at h3 hk3 hu3 ⊢
  have lo3 := h3.lto
  have z3 := h3.frozen 9
  have e3 := h3.cell (i := 9) (fun _ => rfl)
  have H4 := Lib.hid (And.intro (h3.put 9 (.int .i64 3) ({ x with n := x.n + 1, line := 3 }) (fun _ => rfl)) (And.intro (hk3.setFar (p := ⟨o, 9, none⟩) d1.symm d2.symm (.int .i64 3)) (hu3.setCell (p := ⟨o, 9, none⟩) (.inl (.inl rfl)) (.int .i64 3))))
  clear h3 hk3 hu3
  go_wp2
  go_step3
  refine ahead_goto ?_
  obtain ⟨h4, hk4, hu4⟩ := H4.out
  clear H4 lo3 z3 e3
  generalize v3.setCell ⟨o, 9, none⟩ (.int .i64 3) = v4 at h4 hk4 hu4 ⊢
  have lo4 := h4.lto
  have z4 := h4.frozen 1
  have e04 := h4.cell (i := 0) (fun _ => rfl)
  have e14 := h4.cell (i := 1) (fun _ => rfl)
  dsimp only at e04 e14
  rw [Hh.out] at e04
  have HH := Lib.hid (And.intro h4 (And.intro hk4 hu4))
  clear h4 hk4 hu4
  go_wp2
  try rw [Exit.noGoto_ret]
  go_ret
  obtain ⟨h4, hk4, hu4⟩ := HH.out
  refine ⟨by rw [← Hh.out]; rfl, ?_, hk4.setFar d1.symm d2.symm _, hu4.setCell (.inl (.inl rfl)) _⟩
  exact h4.put 1 _ _ (fun _ => rfl)

set_option maxRecDepth 100000 in
set_option maxHeartbeats 1000000 in
theorem step_lay_out (h : OpAt w o g S ws x) (hB : Bk w b bg xs t) (d1 : o ≠ b) (d2 : o ≠ bg) (_d3 : g ≠ b) (_d4 : g ≠ bg) (hh : x.how = 0) (hl : x.line = 2) (hw : Wf S ws x) (hv : getI xs (lie S x) = none) :
    Calls Try.prog 26 #[.pointer (some ⟨o, 0, none⟩), .pointer (some ⟨b, 0, none⟩)] w (StepPost o g b bg S ws ({ x with how := 3 }, xs, 0) t w) := by
  have Hl := Lib.hid hl
  have ws0 := hw.s
  obtain ⟨s0, s1⟩ := hw.s
  obtain ⟨ok, l0, l1⟩ := lie_bd hw
  have hn0 := hw.n0
  have hn1 := hw.n1
  have hnl := hw.nl hl
  have c0 := h.cell (i := 0) (fun _ => rfl)
  have c9 := h.cell (i := 9) (fun _ => rfl)
  rw [hh] at c0
  rw [hl] at c9
  have lo := h.lto
  have Hh := Lib.hid hh
  clear hh
  obtain ⟨k, hk⟩ := Int.eq_ofNat_of_zero_le hn0
  have hkl : k < ws.length := by omega
  have hvv : ws[k]? = some (ws[k]'hkl) := List.getElem?_eq_getElem _
  have hd : ws.getD x.n.toNat 0 = ws[k]'hkl := by rw [hk, Int.toNat_natCast, List.getD_eq_getElem?_getD, hvv]; rfl
  have huv : U64 (ws[k]'hkl) := hw.us _ (List.getElem_mem _)
  generalize ws[k]'hkl = vv at hvv hd huv
  have hlie : lie S x = atv S.fs S.wd S.dp (x.s / 2 + 1) + k := by unfold lie; rw [hk]
  rw [hlie] at hv
  have Hat := Lib.hid (fun w => at_any S.ow S.sq S.fs S.wd S.dp (x.s / 2 + 1) w (by omega) (by omega))
  generalize atv S.fs S.wd S.dp (x.s / 2 + 1) = A at *
  have Hc := Lib.hid (fun w' (hB' : Bk w' b bg xs t) => store_out b bg xs t (A + k) vv w' hB' (getI_none hv))
  have H := Lib.hid h.drew
  have Hu := Lib.hid ((Upd.refl (OwnS o b bg) w).drew)
  have HB := Lib.hid hB.drew
  obtain ⟨cap, hL⟩ := LK.of h.drew hk hvv
  have HL := Lib.hid hL
  have Hn := Lib.hid (And.intro hk (And.intro hkl ws0))
  have hkl' : (k : Int) < ws.length := by omega
  have hk64 : (k : Int) ≤ 64 := by omega
  have HwA := Lib.hid (show IntKind.i64.wrap (A + (k : Int)) = A + k by rw [IntKind.wrap_i64]; omega)
  clear h hv hl hB hL hvv huv hd hw hnl hn0 hn1 ok hlie hk ws0
  go_enter Try.func26, Try.ntmps26
  go_wp2
  refine wp_scope_ahead 0 rfl ?_
  go_wp2_with fail
  refine wp_region_held_drew (S := LK o g cap S k ws.length vv) (by kernel_rfl) (HL.out) (fun hHeld => ?_)
  refine wpAnyH_take (i := 0) (v := ?v114) rfl (by kernel_rfl) (by kernel_rfl) (by kernel_rfl) (fun _ _ _ h => h) (Or.inl ⟨by rfl, ?y114⟩) hHeld ?r114
  case y114 => (intro w hSw; obtain ⟨⟨hS0, hS1, hS2, hS3, hS4⟩, hS5, hS6, hS7, hS8⟩ := hSw; go_simp; try with_reducible rfl)
  simp only [List.getElem_toArray, List.getElem_cons_zero, Act.put, List.setIfInBounds_toArray, List.set_cons_zero, List.set_cons_succ]
  refine wpAnyH_take (i := 1) (v := ?v115) rfl (by kernel_rfl) (by kernel_rfl) (by kernel_rfl) (fun _ _ _ h => h) (Or.inl ⟨by rfl, ?y115⟩) hHeld ?r115
  case y115 => (intro w hSw; obtain ⟨⟨hS0, hS1, hS2, hS3, hS4⟩, hS5, hS6, hS7, hS8⟩ := hSw; go_simp; try with_reducible rfl)
  simp only [List.getElem_toArray, List.getElem_cons_zero, List.getElem_cons_succ, Act.put, List.setIfInBounds_toArray, List.set_cons_zero, List.set_cons_succ]
  refine wpAnyH_take (i := 2) (v := ?v116) rfl (by kernel_rfl) (by kernel_rfl) (by kernel_rfl) (fun _ _ _ h => h) (Or.inl ⟨by rfl, ?y116⟩) hHeld ?r116
  case y116 => (intro w hSw; obtain ⟨⟨hS0, hS1, hS2, hS3, hS4⟩, hS5, hS6, hS7, hS8⟩ := hSw; go_simp; try with_reducible rfl)
  simp only [List.getElem_toArray, List.getElem_cons_zero, List.getElem_cons_succ, Act.put, List.setIfInBounds_toArray, List.set_cons_zero, List.set_cons_succ]
  refine wpAnyH_take (i := 3) (v := ?v117) rfl (by kernel_rfl) (by kernel_rfl) (by kernel_rfl) (fun _ _ _ h => h) (Or.inl ⟨by rfl, ?y117⟩) hHeld ?r117
  case y117 => (intro w hSw; obtain ⟨⟨hS0, hS1, hS2, hS3, hS4⟩, hS5, hS6, hS7, hS8⟩ := hSw; go_simp; try with_reducible rfl)
  simp only [List.getElem_toArray, List.getElem_cons_zero, List.getElem_cons_succ, Act.put, List.setIfInBounds_toArray, List.set_cons_zero, List.set_cons_succ]
  refine wpAnyH_take (i := 4) (v := ?v118) rfl (by kernel_rfl) (by kernel_rfl) (by kernel_rfl) (fun _ _ _ h => h) (Or.inl ⟨by rfl, ?y118⟩) hHeld ?r118
  case y118 => (intro w hSw; obtain ⟨⟨hS0, hS1, hS2, hS3, hS4⟩, hS5, hS6, hS7, hS8⟩ := hSw; go_simp; try with_reducible rfl)
  simp only [List.getElem_toArray, List.getElem_cons_zero, List.getElem_cons_succ, Act.put, List.setIfInBounds_toArray, List.set_cons_zero, List.set_cons_succ]
  refine wpAnyH_take (i := 5) (v := ?v119) rfl (by kernel_rfl) (by kernel_rfl) (by kernel_rfl) (fun _ _ _ h => h) (Or.inl ⟨by rfl, ?y119⟩) hHeld ?r119
  case y119 => (intro w hSw; obtain ⟨⟨hS0, hS1, hS2, hS3, hS4⟩, hS5, hS6, hS7, hS8⟩ := hSw; go_simp; try with_reducible rfl)
  simp only [List.getElem_toArray, List.getElem_cons_zero, List.getElem_cons_succ, Act.put, List.setIfInBounds_toArray, List.set_cons_zero, List.set_cons_succ]
  refine wpAnyH_take (i := 8) (v := ?v120) rfl (by kernel_rfl) (by kernel_rfl) (by kernel_rfl) (fun _ _ _ h => h) (Or.inl ⟨by rfl, ?y120⟩) hHeld ?r120
  case y120 => (intro w hSw; obtain ⟨⟨hS0, hS1, hS2, hS3, hS4⟩, hS5, hS6, hS7, hS8⟩ := hSw; go_simp; try with_reducible rfl)
  simp only [List.getElem_toArray, List.getElem_cons_zero, List.getElem_cons_succ, Act.put, List.setIfInBounds_toArray, List.set_cons_zero, List.set_cons_succ]
  refine wpAnyH_take (i := 9) (v := ?v121) rfl (by kernel_rfl) (by kernel_rfl) (by kernel_rfl) (fun _ _ _ h => h) (Or.inl ⟨by rfl, ?y121⟩) hHeld ?r121
  case y121 => (intro w hSw; obtain ⟨⟨hS0, hS1, hS2, hS3, hS4⟩, hS5, hS6, hS7, hS8⟩ := hSw; go_simp; try with_reducible rfl)
  simp only [List.getElem_toArray, List.getElem_cons_zero, List.getElem_cons_succ, Act.put, List.setIfInBounds_toArray, List.set_cons_zero, List.set_cons_succ]
  refine wpAnyH_take (i := 10) (v := ?v122) rfl (by kernel_rfl) (by kernel_rfl) (by kernel_rfl) (fun _ _ _ h => h) (Or.inl ⟨by rfl, ?y122⟩) hHeld ?r122
  case y122 => (intro w hSw; obtain ⟨⟨hS0, hS1, hS2, hS3, hS4⟩, hS5, hS6, hS7, hS8⟩ := hSw; go_simp; try with_reducible rfl)
  simp only [List.getElem_toArray, List.getElem_cons_zero, List.getElem_cons_succ, Act.put, List.setIfInBounds_toArray, List.set_cons_zero, List.set_cons_succ]
  refine wpAnyH_take (i := 11) (v := ?v123) rfl (by kernel_rfl) (by kernel_rfl) (by kernel_rfl) (fun _ _ _ h => h) (Or.inl ⟨by rfl, ?y123⟩) hHeld ?r123
  case y123 => (intro w hSw; obtain ⟨⟨hS0, hS1, hS2, hS3, hS4⟩, hS5, hS6, hS7, hS8⟩ := hSw; go_simp; try with_reducible rfl)
  simp only [List.getElem_toArray, List.getElem_cons_zero, List.getElem_cons_succ, Act.put, List.setIfInBounds_toArray, List.set_cons_zero, List.set_cons_succ]
  refine wpAnyH_take (i := 13) (v := ?v124) rfl (by kernel_rfl) (by kernel_rfl) (by kernel_rfl) (fun _ _ _ h => h) (Or.inl ⟨by rfl, ?y124⟩) hHeld ?r124
  case y124 => (intro w hSw; obtain ⟨⟨hS0, hS1, hS2, hS3, hS4⟩, hS5, hS6, hS7, hS8⟩ := hSw; go_simp; try with_reducible rfl)
  simp only [List.getElem_toArray, List.getElem_cons_zero, List.getElem_cons_succ, Act.put, List.setIfInBounds_toArray, List.set_cons_zero, List.set_cons_succ]
  refine wpAnyH_take (i := 14) (v := ?v125) rfl (by kernel_rfl) (by kernel_rfl) (by kernel_rfl) (fun _ _ _ h => h) (Or.inl ⟨by rfl, ?y125⟩) hHeld ?r125
  case y125 => (intro w hSw; obtain ⟨⟨hS0, hS1, hS2, hS3, hS4⟩, hS5, hS6, hS7, hS8⟩ := hSw; go_simp; try with_reducible rfl)
  simp only [List.getElem_toArray, List.getElem_cons_zero, List.getElem_cons_succ, Act.put, List.setIfInBounds_toArray, List.set_cons_zero, List.set_cons_succ]
  refine wpAnyH_take (i := 15) (v := ?v126) rfl (by kernel_rfl) (by kernel_rfl) (by kernel_rfl) (fun _ _ _ h => h) (Or.inl ⟨by rfl, ?y126⟩) hHeld ?r126
  case y126 => (intro w hSw; obtain ⟨⟨hS0, hS1, hS2, hS3, hS4⟩, hS5, hS6, hS7, hS8⟩ := hSw; go_simp; try with_reducible rfl)
  simp only [List.getElem_toArray, List.getElem_cons_zero, List.getElem_cons_succ, Act.put, List.setIfInBounds_toArray, List.set_cons_zero, List.set_cons_succ]
  refine wpAnyH_take (i := 16) (v := ?v127) rfl (by kernel_rfl) (by kernel_rfl) (by kernel_rfl) (fun _ _ _ h => h) (Or.inl ⟨by rfl, ?y127⟩) hHeld ?r127
  case y127 => (intro w hSw; obtain ⟨⟨hS0, hS1, hS2, hS3, hS4⟩, hS5, hS6, hS7, hS8⟩ := hSw; go_simp; try with_reducible rfl)
  simp only [List.getElem_toArray, List.getElem_cons_zero, List.getElem_cons_succ, Act.put, List.setIfInBounds_toArray, List.set_cons_zero, List.set_cons_succ]
  refine wpAnyH_take (i := 17) (v := ?v128) rfl (by kernel_rfl) (by kernel_rfl) (by kernel_rfl) (fun _ _ _ h => h) (Or.inl ⟨by rfl, ?y128⟩) hHeld ?r128
  case y128 => (intro w hSw; obtain ⟨⟨hS0, hS1, hS2, hS3, hS4⟩, hS5, hS6, hS7, hS8⟩ := hSw; go_simp; try with_reducible rfl)
  simp only [List.getElem_toArray, List.getElem_cons_zero, List.getElem_cons_succ, Act.put, List.setIfInBounds_toArray, List.set_cons_zero, List.set_cons_succ]
  refine wpAnyH_take (i := 18) (v := ?v129) rfl (by kernel_rfl) (by kernel_rfl) (by kernel_rfl) (fun _ _ _ h => h) (Or.inl ⟨by rfl, ?y129⟩) hHeld ?r129
  case y129 => (intro w hSw; obtain ⟨⟨hS0, hS1, hS2, hS3, hS4⟩, hS5, hS6, hS7, hS8⟩ := hSw; go_simp; try with_reducible rfl)
  simp only [List.getElem_toArray, List.getElem_cons_zero, List.getElem_cons_succ, Act.put, List.setIfInBounds_toArray, List.set_cons_zero, List.set_cons_succ]
  refine wpAnyH_take (i := 19) (v := ?v130) rfl (by kernel_rfl) (by kernel_rfl) (by kernel_rfl) (fun _ _ _ h => h) (Or.inl ⟨by rfl, ?y130⟩) hHeld ?r130
  case y130 => (intro w hSw; obtain ⟨⟨hS0, hS1, hS2, hS3, hS4⟩, hS5, hS6, hS7, hS8⟩ := hSw; go_simp; try with_reducible rfl)
  simp only [List.getElem_toArray, List.getElem_cons_zero, List.getElem_cons_succ, Act.put, List.setIfInBounds_toArray, List.set_cons_zero, List.set_cons_succ]
  refine wpAnyH_take (i := 20) (v := ?v131) rfl (by kernel_rfl) (by kernel_rfl) (by kernel_rfl) (fun _ _ _ h => h) (Or.inl ⟨by rfl, ?y131⟩) hHeld ?r131
  case y131 => (intro w hSw; obtain ⟨⟨hS0, hS1, hS2, hS3, hS4⟩, hS5, hS6, hS7, hS8⟩ := hSw; go_simp; try with_reducible rfl)
  simp only [List.getElem_toArray, List.getElem_cons_zero, List.getElem_cons_succ, Act.put, List.setIfInBounds_toArray, List.set_cons_zero, List.set_cons_succ]
  refine wpAnyH_take (i := 21) (v := ?v132) rfl (by kernel_rfl) (by kernel_rfl) (by kernel_rfl) (fun _ _ _ h => h) (Or.inl ⟨by rfl, ?y132⟩) hHeld ?r132
  case y132 => (intro w hSw; obtain ⟨⟨hS0, hS1, hS2, hS3, hS4⟩, hS5, hS6, hS7, hS8⟩ := hSw; go_simp; try with_reducible rfl)
  simp only [List.getElem_toArray, List.getElem_cons_zero, List.getElem_cons_succ, Act.put, List.setIfInBounds_toArray, List.set_cons_zero, List.set_cons_succ]
  refine wpAnyH_take (i := 22) (v := ?v133) rfl (by kernel_rfl) (by kernel_rfl) (by kernel_rfl) (fun _ _ _ h => h) (Or.inl ⟨by rfl, ?y133⟩) hHeld ?r133
  case y133 => (intro w hSw; obtain ⟨⟨hS0, hS1, hS2, hS3, hS4⟩, hS5, hS6, hS7, hS8⟩ := hSw; go_simp; try with_reducible rfl)
  simp only [List.getElem_toArray, List.getElem_cons_zero, List.getElem_cons_succ, Act.put, List.setIfInBounds_toArray, List.set_cons_zero, List.set_cons_succ]
  refine wpAnyH_ready (rs := [6]) (by kernel_rfl) (by simp) (AllReadyH.cons rfl (fun K hK => ?_) AllReadyH.nil)
  go_simp
  refine (next_any H.out Hn.out.2.2).mono ?_
  rintro e v0 ⟨rfl, rfl⟩
  go_wp2_with fail
  refine hK.out _ _ (HL.out) (fun hHeld => ?_)
  clear hK K
  refine wpAnyH_ready (rs := [7]) (by kernel_rfl) (by simp) (AllReadyH.cons rfl (fun K hK => ?_) AllReadyH.nil)
  go_simp
  refine (Hat.out _).mono ?_
  rintro e v3 ⟨rfl, hb3⟩
  have h3 := H.out.below hb3
  have hk3 := HB.out.below hb3
  have hu3 := Hu.out.trans (Upd.of_below (OwnS o b bg) hb3)
  have hL3 := HL.out.keep H.out.lto H.out.ltg (Upd.of_below (fun _ => False) hb3) (fun q => q) (fun q => q)
  have H3 := Lib.hid (And.intro h3 (And.intro hk3 (And.intro hu3 hL3)))
  clear h3 hk3 hu3 hL3 hb3
  go_wp2_with fail
  refine hK.out _ _ (H3.out.2.2.2) (fun hHeld => ?_)
  clear hK K
  refine wpAnyH_take (i := 12) (v := ?v136) rfl (by kernel_rfl) (by kernel_rfl) (by kernel_rfl) (fun _ _ _ h => h) (Or.inl ⟨by rfl, ?y136⟩) hHeld ?r136
  case y136 => (intro w hSw; obtain ⟨⟨hS0, hS1, hS2, hS3, hS4⟩, hS5, hS6, hS7, hS8⟩ := hSw; go_simp; try with_reducible rfl)
  simp only [List.getElem_toArray, List.getElem_cons_zero, List.getElem_cons_succ, Act.put, List.setIfInBounds_toArray, List.set_cons_zero, List.set_cons_succ]
  refine wpAnyH_ready (rs := [23]) (by kernel_rfl) (by simp) (AllReadyH.cons rfl (fun K hK => ?_) AllReadyH.nil)
  go_simp
  rw [HwA.out]
  refine (Hc.out _ H3.out.2.1).mono ?_
  rintro e v1 ⟨rfl, hk1, hu1'⟩
  have h1 := H3.out.1.below hu1'
  have hu1 := H3.out.2.2.1.trans (Upd.of_below (OwnS o b bg) hu1')
  have hL1 := Lib.hid (H3.out.2.2.2.keep H3.out.1.lto H3.out.1.ltg (Upd.of_below (fun _ => False) hu1') (fun q => q) (fun q => q))
  go_wp2_with fail
  refine hK.out _ _ (hL1.out) (fun hHeld => ?_)
  clear hK K
  refine wpAnyH_take (i := 24) (v := ?v138) rfl (by kernel_rfl) (by kernel_rfl) (by kernel_rfl) (fun _ _ _ h => h) (Or.inl ⟨by rfl, ?y138⟩) hHeld ?r138
  case y138 => (intro w hSw; obtain ⟨⟨hS0, hS1, hS2, hS3, hS4⟩, hS5, hS6, hS7, hS8⟩ := hSw; go_simp; try with_reducible rfl)
  simp only [List.getElem_toArray, List.getElem_cons_zero, List.getElem_cons_succ, Act.put, List.setIfInBounds_toArray, List.set_cons_zero, List.set_cons_succ]
  refine wpAnyH_done (by kernel_rfl) ?_ _
  clear Hc HB H H3 HL Hu Hat c0 c9 lo hu1' hHeld
  go_wp2
  go_step3
  refine ahead_goto ?_
  have lo1 := h1.lto
  have z1 := h1.frozen 0
  have e1 := h1.cell (i := 0) (fun _ => rfl)
  have H2 := Lib.hid (And.intro (h1.put 0 (.int .i64 3) ({ x with how := 3 }) (fun _ => rfl)) (And.intro (hk1.setFar (p := ⟨o, 0, none⟩) d1.symm d2.symm (.int .i64 3)) (hu1.setCell (p := ⟨o, 0, none⟩) (.inl (.inl rfl)) (.int .i64 3))))
  clear h1 hk1 hu1
  go_wp2
  try rw [Exit.noGoto_ret]
  go_ret
  obtain ⟨h2, hk2, hu2⟩ := H2.out
  exact ⟨rfl, h2, by rw [Int.add_zero]; exact hk2, hu2⟩

end
end Go.Proofs.Ytflgggfomhifeaa
