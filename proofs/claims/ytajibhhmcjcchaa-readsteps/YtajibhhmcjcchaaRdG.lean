/- Small calls of a reading: next, Got, At, Steps. -/
import Derived.Test.YtajibhhmcjcchaaRdS
import Derived.Laws.CopyOwn
namespace Go.Proofs.Ytajibhhmcjcchaa
open Go.RowKit
section
variable {w : World} {o g : Nat} {S : Sp} {x : RSt}
theorem rsteps_any (h : RdAt w o g S x) : Calls Try.prog 17 #[.pointer (some ⟨o, 0, none⟩)] w (Pur (.int .i64 x.steps) w) := by
  have c0 := h.cell (i := 8) rfl
  have lo := h.lto
  clear h
  go_enter Try.func17, Try.ntmps17
  go_wp2
  go_ret
  exact ⟨rfl, rfl⟩
theorem rsteps_nil (w : World) : Calls Try.prog 17 #[.pointer none] w (Pur (.int .i64 0) w) := by
  go_enter Try.func17, Try.ntmps17
  go_wp2
  go_ret
  exact ⟨rfl, rfl⟩
/-- What At tells. -/
def rat (x : RSt) : Int := if x.how = 1 then x.bgn else 0
theorem rat_pur (h : RdAt w o g S x) : Calls Try.prog 20 #[.pointer (some ⟨o, 0, none⟩)] w (Pur (.int .i64 (rat x)) w) := by
  have c0 := h.cell (i := 5) rfl
  have c1 := h.cell (i := 9) rfl
  have lo := h.lto
  clear h
  unfold rat
  by_cases k : x.how = 1
  · rw [if_pos k]
    rw [k] at c0
    clear k
    go_enter Try.func20, Try.ntmps20
    go_wp2
    go_ret
    exact ⟨rfl, rfl⟩
  · rw [if_neg k]
    generalize x.how = y at *
    go_enter Try.func20, Try.ntmps20
    go_wp2
    go_ret
    exact ⟨rfl, rfl⟩
theorem rat_nil (w : World) : Calls Try.prog 20 #[.pointer none] w (Pur (.int .i64 0) w) := by
  go_enter Try.func20, Try.ntmps20
  go_wp2
  go_ret
  exact ⟨rfl, rfl⟩
theorem got_nil (w : World) : Calls Try.prog 18 #[.pointer none] w (Pur (.tuple #[.slice none 0 0, .int .u64 0]) w) := by
  go_enter Try.func18, Try.ntmps18
  go_wp2
  go_ret2
  exact ⟨rfl, rfl⟩
theorem got_no (h : RdAt w o g S x) (k : ¬ x.how = 1) : Calls Try.prog 18 #[.pointer (some ⟨o, 0, none⟩)] w (Pur (.tuple #[.slice none 0 0, .int .u64 0]) w) := by
  have c0 := h.cell (i := 5) rfl
  have lo := h.lto
  clear h
  generalize x.how = y at *
  go_enter Try.func18, Try.ntmps18
  go_wp2
  go_ret2
  exact ⟨rfl, rfl⟩
/-- A copy of its words. -/
def GotPost (x : RSt) (w : World) (e : Ending) (w' : World) : Prop :=
  ∃ q : Nat, w.heap.size ≤ q ∧ e = .returned (.tuple #[.slice (some ⟨q, 0, none⟩) x.rw.length x.rw.length, .int .u64 x.gen]) ∧ Blk w' q (x.rw.map (Value.int .u64)) ∧ Below w.heap.size w w'
theorem info43s : (Try.prog.info? 43).map (·.size) = some 1 := by kernel_rfl
theorem copy_run (x : RSt) (h : RdAt w o g S x) (n cap : Nat) (hn : x.rw.length = n) (hw : n ≤ 64) :
    ∃ w2, (Builtin.copy_ #[42, 42] 3 #[.slice (some ⟨w.heap.size, 0, none⟩) n n, .slice (some ⟨g, 0, none⟩) n cap]).run Try.prog (w.alloc (.cells (zeros n) 43)) = .ok (goInt n) w2 ∧
      Blk w2 w.heap.size (x.rw.map (Value.int .u64)) ∧ RdAt w2 o g S x ∧ Below w.heap.size w w2 := by
  have hh : (w.alloc (.cells (zeros n) 43)).heap[w.heap.size]? = some (.cells (zeros n) 43 (0, 0)) := heap_alloc_new w _
  have hx := h.alloc (.cells (zeros n) 43)
  have hsz : (zeros n).size = n := by simp [zeros]
  have hr := run_copy_row (P := Try.prog) (w.alloc (.cells (zeros n) 43)) 42 42 3 43 w.heap.size 0 n n ⟨g, 0, none⟩ n cap (zeros n) 43 (x.rw.map (Value.int .u64)) Try.underlying42 info43s hh (by simp [hn]) (fun j v hv => by
    rw [List.getElem?_map] at hv
    obtain ⟨u, hu, rfl⟩ := Option.map_eq_some_iff.1 hv
    have e : (⟨g, 0, none⟩ : Addr).add j = ⟨g, j, none⟩ := by unfold Addr.add; split <;> simp_all
    rw [e]
    exact hx.word hu) (by simp [hn, hsz]) (fun v hv => by
    obtain ⟨u, _, rfl⟩ := List.mem_map.1 hv
    rfl)
  rw [show (x.rw.map (Value.int .u64)).length = n by simp [hn]] at hr
  have e0 : (zeros n).toList.drop (0 + n) = [] := List.drop_eq_nil_of_le (by simp [hsz])
  rw [e0, List.take_zero, List.nil_append, List.append_nil] at hr
  refine ⟨_, hr, ⟨_, setRow_heap _ _ _ _ _ _ hh⟩, ?_, ?_⟩
  · exact hx.of_blocks (setRow_other _ _ _ _ (by have := h.lto; omega)) (setRow_other _ _ _ _ (by have := h.ltg; omega))
  · exact below_setRow ((Below.refl _ w).alloc (Nat.le_refl _) _) (Nat.le_refl _) _
set_option maxRecDepth 100000 in
theorem got_ok (h : RdAt w o g S x) (k : x.how = 1) (hl : x.rw.length ≤ 64) : Calls Try.prog 18 #[.pointer (some ⟨o, 0, none⟩)] w (GotPost x w) := by
  have c0 := h.cell (i := 5) rfl
  have c1 := h.cell (i := 11) rfl
  have lo := h.lto
  rw [k] at c0
  obtain ⟨n, hn⟩ : ∃ n, x.rw.length = n := ⟨_, rfl⟩
  have hmk := make_u64 n n (by omega) (Int.le_refl _) (by omega) w
  rw [Int.toNat_natCast] at hmk
  obtain ⟨w2, hcp, hB, hR, hb⟩ := copy_run (w := w) x h n S.wd.toNat hn (by omega)
  have hc2 := (h.alloc (.cells (zeros n) 43)).cell (i := 11) rfl
  have lo2 := (h.alloc (.cells (zeros n) 43)).lto
  have HE := Lib.hid (And.intro hn (And.intro hB (And.intro hR hb)))
  have Hcp := Lib.hid hcp
  rw [hn] at c1 hc2
  have z2 := hR.cell (i := 10) rfl
  have lo3 := hR.lto
  have hb' := hb.size
  clear hcp hB hR hb h k hl hn
  generalize S.wd.toNat = cap at *
  go_enter Try.func18, Try.ntmps18
  go_wp2_with fail
  rw [Hcp.out]
  go_wp2_with fail
  go_quiet (fail)
  go_wp2
  go_ret2
  obtain ⟨hn, hB, hR, hb⟩ := HE.out
  refine ⟨w.heap.size, Nat.le_refl _, ?_, blkN hB _, belN hb _⟩
  rw [hn]
  rfl
/-- What next reads. -/
def RN (o g : Nat) (S : Sp) (gen : Int) (n : Nat) (w' : World) : Prop :=
  (w'.cell? ⟨o, 0, none⟩ = some (.int .i64 S.ow) ∧ w'.cell? ⟨o, 1, none⟩ = some (.int .i64 S.sq) ∧ w'.cell? ⟨o, 2, none⟩ = some (.int .i64 S.fs) ∧ w'.cell? ⟨o, 3, none⟩ = some (.int .i64 S.wd) ∧ w'.cell? ⟨o, 4, none⟩ = some (.int .i64 S.dp)) ∧
  w'.cell? ⟨o, 10, none⟩ = some (.int .u64 gen) ∧ w'.cell? ⟨o, 11, none⟩ = some (.slice (some ⟨g, 0, none⟩) n S.wd.toNat)
theorem RN.of {w' : World} (h : RdAt w' o g S x) : RN o g S x.gen x.rw.length w' := ⟨⟨h.cell rfl, h.cell rfl, h.cell rfl, h.cell rfl, h.cell rfl⟩, h.cell rfl, h.cell rfl⟩
set_option maxRecDepth 100000 in
set_option maxHeartbeats 1000000 in
theorem rnext_any (h : RdAt w o g S x) (hw : RWf S x) : Calls Try.prog 38 #[.pointer (some ⟨o, 0, none⟩)] w (Ret (.int .i64 (rdl S x)) w) := by
  have c6 := h.cell (i := 6) rfl
  have lo := h.lto
  unfold rdl
  by_cases k : x.line = 1
  · rw [if_pos k]
    rw [k] at c6
    obtain ⟨ok, b0, b1⟩ := rdl_bd hw
    have hl := hw.nl k
    have h2 := hw.rt.2.1
    have Hat := Lib.hid (fun w => at_any S.ow S.sq S.fs S.wd S.dp x.gen w hw.gen.1 hw.gen.2)
    have H := Lib.hid (show RN o g S x.gen x.rw.length w.drew from RN.of h.drew)
    have HR := Lib.hid h.drew
    generalize atv S.fs S.wd S.dp x.gen = A at *
    obtain ⟨n, hn⟩ : ∃ n, x.rw.length = n := ⟨_, rfl⟩
    rw [hn] at H hl ⊢
    have Hn := Lib.hid hn
    have HwA := Lib.hid (show IntKind.i64.wrap (A + (n : Int)) = A + n by rw [IntKind.wrap_i64]; omega)
    clear h hw ok k hn
    go_enter Try.func38, Try.ntmps38
    go_wp2_with fail
    refine wp_region_held_drew (S := RN o g S x.gen n) (by kernel_rfl) (H.out) (fun hHeld => ?_)
    refine wpAnyH_take (i := 0) (v := ?v1) rfl (by kernel_rfl) (by kernel_rfl) (by kernel_rfl) (fun _ _ _ h => h) (Or.inl ⟨by rfl, ?y1⟩) hHeld ?r1
    case y1 => (intro w hSw; obtain ⟨⟨hS0, hS1, hS2, hS3, hS4⟩, hS5, hS6⟩ := hSw; go_simp; try with_reducible rfl)
    simp only [List.getElem_toArray, List.getElem_cons_zero, Act.put, List.setIfInBounds_toArray, List.set_cons_zero, List.set_cons_succ]
    refine wpAnyH_take (i := 1) (v := ?v2) rfl (by kernel_rfl) (by kernel_rfl) (by kernel_rfl) (fun _ _ _ h => h) (Or.inl ⟨by rfl, ?y2⟩) hHeld ?r2
    case y2 => (intro w hSw; obtain ⟨⟨hS0, hS1, hS2, hS3, hS4⟩, hS5, hS6⟩ := hSw; go_simp; try with_reducible rfl)
    simp only [List.getElem_toArray, List.getElem_cons_zero, List.getElem_cons_succ, Act.put, List.setIfInBounds_toArray, List.set_cons_zero, List.set_cons_succ]
    refine wpAnyH_take (i := 2) (v := ?v3) rfl (by kernel_rfl) (by kernel_rfl) (by kernel_rfl) (fun _ _ _ h => h) (Or.inl ⟨by rfl, ?y3⟩) hHeld ?r3
    case y3 => (intro w hSw; obtain ⟨⟨hS0, hS1, hS2, hS3, hS4⟩, hS5, hS6⟩ := hSw; go_simp; try with_reducible rfl)
    simp only [List.getElem_toArray, List.getElem_cons_zero, List.getElem_cons_succ, Act.put, List.setIfInBounds_toArray, List.set_cons_zero, List.set_cons_succ]
    refine wpAnyH_take (i := 3) (v := ?v4) rfl (by kernel_rfl) (by kernel_rfl) (by kernel_rfl) (fun _ _ _ h => h) (Or.inl ⟨by rfl, ?y4⟩) hHeld ?r4
    case y4 => (intro w hSw; obtain ⟨⟨hS0, hS1, hS2, hS3, hS4⟩, hS5, hS6⟩ := hSw; go_simp; try with_reducible rfl)
    simp only [List.getElem_toArray, List.getElem_cons_zero, List.getElem_cons_succ, Act.put, List.setIfInBounds_toArray, List.set_cons_zero, List.set_cons_succ]
    refine wpAnyH_take (i := 4) (v := ?v5) rfl (by kernel_rfl) (by kernel_rfl) (by kernel_rfl) (fun _ _ _ h => h) (Or.inl ⟨by rfl, ?y5⟩) hHeld ?r5
    case y5 => (intro w hSw; obtain ⟨⟨hS0, hS1, hS2, hS3, hS4⟩, hS5, hS6⟩ := hSw; go_simp; try with_reducible rfl)
    simp only [List.getElem_toArray, List.getElem_cons_zero, List.getElem_cons_succ, Act.put, List.setIfInBounds_toArray, List.set_cons_zero, List.set_cons_succ]
    refine wpAnyH_take (i := 5) (v := ?v6) rfl (by kernel_rfl) (by kernel_rfl) (by kernel_rfl) (fun _ _ _ h => h) (Or.inl ⟨by rfl, ?y6⟩) hHeld ?r6
    case y6 => (intro w hSw; obtain ⟨⟨hS0, hS1, hS2, hS3, hS4⟩, hS5, hS6⟩ := hSw; go_simp; try with_reducible rfl)
    simp only [List.getElem_toArray, List.getElem_cons_zero, List.getElem_cons_succ, Act.put, List.setIfInBounds_toArray, List.set_cons_zero, List.set_cons_succ]
    refine wpAnyH_take (i := 6) (v := ?v7) rfl (by kernel_rfl) (by kernel_rfl) (by kernel_rfl) (fun _ _ _ h => h) (Or.inl ⟨by rfl, ?y7⟩) hHeld ?r7
    case y7 => (intro w hSw; obtain ⟨⟨hS0, hS1, hS2, hS3, hS4⟩, hS5, hS6⟩ := hSw; go_simp; try with_reducible rfl)
    simp only [List.getElem_toArray, List.getElem_cons_zero, List.getElem_cons_succ, Act.put, List.setIfInBounds_toArray, List.set_cons_zero, List.set_cons_succ]
    refine wpAnyH_take (i := 7) (v := ?v8) rfl (by kernel_rfl) (by kernel_rfl) (by kernel_rfl) (fun _ _ _ h => h) (Or.inl ⟨by rfl, ?y8⟩) hHeld ?r8
    case y8 => (intro w hSw; obtain ⟨⟨hS0, hS1, hS2, hS3, hS4⟩, hS5, hS6⟩ := hSw; go_simp; try with_reducible rfl)
    simp only [List.getElem_toArray, List.getElem_cons_zero, List.getElem_cons_succ, Act.put, List.setIfInBounds_toArray, List.set_cons_zero, List.set_cons_succ]
    refine wpAnyH_take (i := 9) (v := ?v9) rfl (by kernel_rfl) (by kernel_rfl) (by kernel_rfl) (fun _ _ _ h => h) (Or.inl ⟨by rfl, ?y9⟩) hHeld ?r9
    case y9 => (intro w hSw; obtain ⟨⟨hS0, hS1, hS2, hS3, hS4⟩, hS5, hS6⟩ := hSw; go_simp; try with_reducible rfl)
    simp only [List.getElem_toArray, List.getElem_cons_zero, List.getElem_cons_succ, Act.put, List.setIfInBounds_toArray, List.set_cons_zero, List.set_cons_succ]
    refine wpAnyH_take (i := 10) (v := ?v10) rfl (by kernel_rfl) (by kernel_rfl) (by kernel_rfl) (fun _ _ _ h => h) (Or.inl ⟨by rfl, ?y10⟩) hHeld ?r10
    case y10 => (intro w hSw; obtain ⟨⟨hS0, hS1, hS2, hS3, hS4⟩, hS5, hS6⟩ := hSw; go_simp; try with_reducible rfl)
    simp only [List.getElem_toArray, List.getElem_cons_zero, List.getElem_cons_succ, Act.put, List.setIfInBounds_toArray, List.set_cons_zero, List.set_cons_succ]
    refine wpAnyH_take (i := 11) (v := ?v11) rfl (by kernel_rfl) (by kernel_rfl) (by kernel_rfl) (fun _ _ _ h => h) (Or.inl ⟨by rfl, ?y11⟩) hHeld ?r11
    case y11 => (intro w hSw; obtain ⟨⟨hS0, hS1, hS2, hS3, hS4⟩, hS5, hS6⟩ := hSw; go_simp; try with_reducible rfl)
    simp only [List.getElem_toArray, List.getElem_cons_zero, List.getElem_cons_succ, Act.put, List.setIfInBounds_toArray, List.set_cons_zero, List.set_cons_succ]
    refine wpAnyH_take (i := 12) (v := ?v12) rfl (by kernel_rfl) (by kernel_rfl) (by kernel_rfl) (fun _ _ _ h => h) (Or.inl ⟨by rfl, ?y12⟩) hHeld ?r12
    case y12 => (intro w hSw; obtain ⟨⟨hS0, hS1, hS2, hS3, hS4⟩, hS5, hS6⟩ := hSw; go_simp; try with_reducible rfl)
    simp only [List.getElem_toArray, List.getElem_cons_zero, List.getElem_cons_succ, Act.put, List.setIfInBounds_toArray, List.set_cons_zero, List.set_cons_succ]
    refine wpAnyH_take (i := 13) (v := ?v13) rfl (by kernel_rfl) (by kernel_rfl) (by kernel_rfl) (fun _ _ _ h => h) (Or.inl ⟨by rfl, ?y13⟩) hHeld ?r13
    case y13 => (intro w hSw; obtain ⟨⟨hS0, hS1, hS2, hS3, hS4⟩, hS5, hS6⟩ := hSw; go_simp; try with_reducible rfl)
    simp only [List.getElem_toArray, List.getElem_cons_zero, List.getElem_cons_succ, Act.put, List.setIfInBounds_toArray, List.set_cons_zero, List.set_cons_succ]
    refine wpAnyH_ready (rs := [8]) (by kernel_rfl) (by simp) (AllReadyH.cons rfl (fun K hK => ?_) AllReadyH.nil)
    go_simp
    refine (Hat.out _).mono ?_
    rintro e v3 ⟨rfl, hb3⟩
    have HB3 := Lib.hid hb3
    have hS3 := Lib.hid (show RN o g S x.gen n v3 from by have := RN.of (HR.out.below hb3); rw [Hn.out] at this; exact this)
    clear hb3
    go_wp2_with fail
    refine hK.out _ _ (hS3.out) (fun hHeld => ?_)
    clear hK K
    refine wpAnyH_take (i := 14) (v := ?v15) rfl (by kernel_rfl) (by kernel_rfl) (by kernel_rfl) (fun _ _ _ h => h) (Or.inl ⟨by rfl, ?y15⟩) hHeld ?r15
    case y15 => (intro w hSw; obtain ⟨⟨hS0, hS1, hS2, hS3, hS4⟩, hS5, hS6⟩ := hSw; go_simp; try with_reducible rfl)
    simp only [List.getElem_toArray, List.getElem_cons_zero, List.getElem_cons_succ, Act.put, List.setIfInBounds_toArray, List.set_cons_zero, List.set_cons_succ]
    refine wpAnyH_take (i := 15) (v := ?v16) rfl (by kernel_rfl) (by kernel_rfl) (by kernel_rfl) (fun _ _ _ h => h) (Or.inl ⟨by rfl, ?y16⟩) hHeld ?r16
    case y16 => (intro w hSw; obtain ⟨⟨hS0, hS1, hS2, hS3, hS4⟩, hS5, hS6⟩ := hSw; go_simp; try with_reducible rfl)
    simp only [List.getElem_toArray, List.getElem_cons_zero, List.getElem_cons_succ, Act.put, List.setIfInBounds_toArray, List.set_cons_zero, List.set_cons_succ]
    refine wpAnyH_done (by kernel_rfl) ?_ _
    go_wp2
    go_ret
    refine ⟨?_, (belN (Below.refl w.heap.size w) 1).trans HB3.out⟩
    simp [HwA.out]
  · rw [if_neg k]
    have c1 := h.cell (i := 1) rfl
    generalize x.line = l at *
    clear h hw
    go_enter Try.func38, Try.ntmps38
    go_wp2
    go_ret
    exact ⟨rfl, Below.refl _ _⟩
end
end Go.Proofs.Ytajibhhmcjcchaa
