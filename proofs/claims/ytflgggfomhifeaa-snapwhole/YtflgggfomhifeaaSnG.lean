/- Small calls of a snapshot: next, At, Steps, Got. -/
import Derived.Test.YtflgggfomhifeaaSnN
import Derived.ArgAppend
namespace Go.Proofs.Ytflgggfomhifeaa
open Go.RowKit
section
variable {w : World} {o gs g : Nat} {SS : List Sp} {x : NSt}
theorem nsteps_any (h : NAt w o gs g SS x) : Calls Try.prog 18 #[.pointer (some ⟨o, 0, none⟩)] w (Pur (.int .i64 x.steps) w) := by
  have c0 := h.cell (i := 6) (v := .int .i64 x.steps) (fun _ => rfl)
  have lo := h.lto
  clear h
  go_enter Try.func18, Try.ntmps18
  go_wp2
  go_ret
  exact ⟨rfl, rfl⟩
theorem nsteps_nil (w : World) : Calls Try.prog 18 #[.pointer none] w (Pur (.int .i64 0) w) := by
  go_enter Try.func18, Try.ntmps18
  go_wp2
  go_ret
  exact ⟨rfl, rfl⟩
/-- What At tells. -/
def nat (x : NSt) : Int := if x.how = 1 then x.bgn else 0
theorem nat_pur (h : NAt w o gs g SS x) : Calls Try.prog 21 #[.pointer (some ⟨o, 0, none⟩)] w (Pur (.int .i64 (nat x)) w) := by
  have c0 := h.cell (i := 1) (v := .int .i64 x.how) (fun _ => rfl)
  have c1 := h.cell (i := 7) (v := .int .i64 x.bgn) (fun _ => rfl)
  have lo := h.lto
  clear h
  unfold nat
  by_cases k : x.how = 1
  · rw [if_pos k]
    rw [k] at c0
    clear k
    go_enter Try.func21, Try.ntmps21
    go_wp2
    go_ret
    exact ⟨rfl, rfl⟩
  · rw [if_neg k]
    generalize x.how = y at *
    go_enter Try.func21, Try.ntmps21
    go_wp2
    go_ret
    exact ⟨rfl, rfl⟩
theorem nat_nil (w : World) : Calls Try.prog 21 #[.pointer none] w (Pur (.int .i64 0) w) := by
  go_enter Try.func21, Try.ntmps21
  go_wp2
  go_ret
  exact ⟨rfl, rfl⟩
theorem ngot_nil (w : World) : Calls Try.prog 19 #[.pointer none] w (Pur (.tuple #[.slice none 0 0, .slice none 0 0]) w) := by
  go_enter Try.func19, Try.ntmps19
  go_wp2
  go_ret2
  exact ⟨rfl, rfl⟩
theorem ngot_no (h : NAt w o gs g SS x) (k : ¬ x.how = 1) : Calls Try.prog 19 #[.pointer (some ⟨o, 0, none⟩)] w (Pur (.tuple #[.slice none 0 0, .slice none 0 0]) w) := by
  have c0 := h.cell (i := 1) (v := .int .i64 x.how) (fun _ => rfl)
  have lo := h.lto
  clear h
  generalize x.how = y at *
  go_enter Try.func19, Try.ntmps19
  go_wp2
  go_ret2
  exact ⟨rfl, rfl⟩
/-- What next reads. -/
def RNx (o gs c n k : Nat) (S : Sp) (w' : World) : Prop :=
  (w'.cell? ⟨o, 0, none⟩ = some (.slice (some ⟨gs, 0, none⟩) n c) ∧ w'.cell? ⟨o, 3, none⟩ = some (.int .i64 k)) ∧
  w'.cell? ⟨gs, k * 5, none⟩ = some (.int .i64 S.ow) ∧ w'.cell? ⟨gs, k * 5 + 1, none⟩ = some (.int .i64 S.sq) ∧ w'.cell? ⟨gs, k * 5 + 2, none⟩ = some (.int .i64 S.fs) ∧ w'.cell? ⟨gs, k * 5 + 3, none⟩ = some (.int .i64 S.wd) ∧ w'.cell? ⟨gs, k * 5 + 4, none⟩ = some (.int .i64 S.dp)
theorem RNx.of {w' : World} {c k : Nat} {S : Sp} (h : NAt w' o gs g SS x) (hc : Blk w' o (ndc SS gs c g x)) (hk : x.k = k) (hS : SS[k]? = some S) : RNx o gs c SS.length k S w' :=
  ⟨⟨hc.cell (i := 0) rfl, by rw [← hk]; exact hc.cell (i := 3) rfl⟩, h.spot hS 0 _ rfl, h.spot hS 1 _ rfl, h.spot hS 2 _ rfl, h.spot hS 3 _ rfl, h.spot hS 4 _ rfl⟩
/-- What its second part reads. -/
def RN2 (o g m k n : Nat) (S : Sp) (len cap : Nat) (gen : Int) (w' : World) : Prop :=
  Blk w' m (spc5 S) ∧ w'.cell? ⟨o, 3, none⟩ = some (.int .i64 k) ∧ w'.cell? ⟨o, 4, none⟩ = some (.int .i64 n) ∧ w'.cell? ⟨o, 8, none⟩ = some (.slice (some ⟨g, 0, none⟩) len cap) ∧ w'.cell? ⟨g, k, none⟩ = some (.int .u64 gen)
theorem RN2.of {w' : World} {m k n len cap : Nat} {S : Sp} {gen : Int} (h : NAt w' o gs g SS x) (hm : Blk w' m (spc5 S)) (hk : x.k = k) (hn : x.n = n) (hlen : x.tl.length = len) (hg : x.tl[k]? = some gen ∧ room SS = cap) : RN2 o g m k n S len cap gen w' := by
  subst hk hn hlen
  rw [← hg.2]
  exact ⟨hm, h.cell (fun _ => rfl), h.cell (fun _ => rfl), h.cell (fun _ => rfl), h.word hg.1⟩
set_option maxRecDepth 100000 in
set_option maxHeartbeats 1000000 in
theorem nnext_any (h : NAt w o gs g SS x) (hw : NWf SS x) : Calls Try.prog 42 #[.pointer (some ⟨o, 0, none⟩)] w (Ret (.int .i64 (nxl SS x)) w) := by
  obtain ⟨c, hc⟩ := h.cells
  have hS := hw.sp
  have hk := hw.k
  have lo := h.lto
  have lgs := h.lts
  have hA := h.drew.alloc (.cells #[.int .i64 0, .int .i64 0, .int .i64 0, .int .i64 0, .int .i64 0] 69)
  have hcA := hc.drew.alloc (.cells #[.int .i64 0, .int .i64 0, .int .i64 0, .int .i64 0, .int .i64 0] 69)
  have HR := Lib.hid (RNx.of h.drew (k := x.k) hc.drew rfl hS)
  have HR1 := Lib.hid (RNx.of hA (k := x.k) hcA rfl hS)
  have hM := Blk.new w.drew #[.int .i64 0, .int .i64 0, .int .i64 0, .int .i64 0, .int .i64 0] 69
  have n1 : o ≠ w.heap.size := by omega
  have n2 : gs ≠ w.heap.size := by omega
  have n3 : g ≠ w.heap.size := by have := h.ltg; omega
  change Blk _ w.heap.size _ at hM
  obtain ⟨S, hSe⟩ : ∃ S, nxs SS x = S := ⟨_, rfl⟩
  rw [hSe] at HR HR1 hS
  have hA2 := (h.alloc (sb S)).drew
  have hcA2 := (hc.alloc (sb S)).drew
  have hM2 : Blk (w.alloc (sb S)).drew w.heap.size (spc5 S) := Blk.new w #[.int .i64 S.ow, .int .i64 S.sq, .int .i64 S.fs, .int .i64 S.wd, .int .i64 S.dp] 69
  have hb2 := belN ((Below.refl w.heap.size w).alloc (Nat.le_refl _) (sb S)) 1
  change Below w.heap.size w (w.alloc (sb S)).drew at hb2
  have HR2 := Lib.hid (RNx.of hA2 (k := x.k) hcA2 rfl hS)
  have hM0 := hM.cell (i := 0) rfl
  have hM1 := hM.cell (i := 1) rfl
  have hM2c := hM.cell (i := 2) rfl
  have hM3 := hM.cell (i := 3) rfl
  have hM4 := hM.cell (i := 4) rfl
  have z0 := hM.frozen 0
  have z1 := hM.frozen 1
  have z2 := hM.frozen 2
  have z3 := hM.frozen 3
  have z4 := hM.frozen 4
  have lA := hM.lt
  have H2 := Lib.hid (And.intro hA2 (And.intro hM2 hb2))
  have hk2 : (x.k : Int) < SS.length := by omega
  clear hA hcA hM n1 n2 n3 hc lgs hA2 hM2 hb2 hcA2
  have c2 := h.cell (i := 2) (v := .int .i64 x.line) (fun _ => rfl)
  unfold nxl
  rw [hSe]
  have Hw := Lib.hid (And.intro hw h)
  clear hw h
  obtain ⟨k, hkk⟩ : ∃ k, x.k = k := ⟨_, rfl⟩
  have Hk := Lib.hid hkk
  obtain ⟨ln, hln⟩ : ∃ ln, SS.length = ln := ⟨_, rfl⟩
  have Hln := Lib.hid hln
  rw [hkk] at HR HR1 HR2 hk2 hS
  rw [hln] at HR HR1 HR2 hk2
  have HSe := Lib.hid (And.intro hSe hS)
  clear hkk hln hSe hS hk
  by_cases kl : x.line = 1
  · rw [if_pos kl]
    rw [kl] at c2
    obtain ⟨v, g1, g2, g3⟩ := Hw.out.1.gen (by omega)
    have hbd := nxl_bd Hw.out.1
    rw [HSe.out.1, g2] at hbd
    obtain ⟨_, b0, b1⟩ := hbd
    have hn1 := (Hw.out.1.a1 kl).2
    have hn2 := Hw.out.1.rts.2.1
    rw [g2]
    have Hat := Lib.hid (fun w => at_any S.ow S.sq S.fs S.wd S.dp v w g3.1 g3.2)
    generalize atv S.fs S.wd S.dp v = A at *
    have hkl := lt_of_some g1
    have HG := Lib.hid g1
    obtain ⟨n, hn⟩ : ∃ n, x.n = n := ⟨_, rfl⟩
    have Hn := Lib.hid hn
    have hn3 : (n : Int) ≤ 64 := by omega
    rw [hn]
    obtain ⟨len, hlen⟩ : ∃ len, x.tl.length = len := ⟨_, rfl⟩
    have Hlen := Lib.hid hlen
    have hkl2 : (k : Int) < len := by have := Hk.out; omega
    have HwA := Lib.hid (show IntKind.i64.wrap (A + (n : Int)) = A + n by rw [IntKind.wrap_i64]; omega)
    obtain ⟨cap, hcap⟩ : ∃ cap, room SS = cap := ⟨_, rfl⟩
    rw [Hk.out] at HG
    have HG := Lib.hid (And.intro HG.out hcap)
    clear hkl hlen hn hn1 hn2 g1 g2 g3 hcap b0 b1
    go_enter Try.func42, Try.ntmps42
    go_wp2_with fail
    refine wp_region_held_drew (S := RNx o gs c ln k S) (by kernel_rfl) (HR.out) (fun hHeld => ?_)
    refine wpAnyH_take (i := 0) (v := ?v19) rfl (by kernel_rfl) (by kernel_rfl) (by kernel_rfl) (fun _ _ _ h => h) (Or.inl ⟨by rfl, ?y19⟩) hHeld ?r19
    case y19 => (intro w hSw; obtain ⟨⟨q0, q1⟩, q2, q3, q4, q5, q6⟩ := hSw; go_simp; try with_reducible rfl)
    simp only [List.getElem_toArray, List.getElem_cons_zero, Act.put, List.setIfInBounds_toArray, List.set_cons_zero, List.set_cons_succ]
    refine wpAnyH_take (i := 1) (v := ?v20) rfl (by kernel_rfl) (by kernel_rfl) (by kernel_rfl) (fun _ _ _ h => h) (Or.inl ⟨by rfl, ?y20⟩) hHeld ?r20
    case y20 => (intro w hSw; obtain ⟨⟨q0, q1⟩, q2, q3, q4, q5, q6⟩ := hSw; go_simp; try with_reducible rfl)
    simp only [List.getElem_toArray, List.getElem_cons_zero, List.getElem_cons_succ, Act.put, List.setIfInBounds_toArray, List.set_cons_zero, List.set_cons_succ]
    refine wpAnyH_take (i := 2) (v := ?v21) rfl (by kernel_rfl) (by kernel_rfl) (by kernel_rfl) (fun _ _ _ h => h) (Or.inl ⟨by rfl, ?y21⟩) hHeld ?r21
    case y21 => (intro w hSw; obtain ⟨⟨q0, q1⟩, q2, q3, q4, q5, q6⟩ := hSw; go_simp; try with_reducible rfl)
    simp only [List.getElem_toArray, List.getElem_cons_zero, List.getElem_cons_succ, Act.put, List.setIfInBounds_toArray, List.set_cons_zero, List.set_cons_succ]
    refine wpAnyH_take (i := 3) (v := ?v22) rfl (by kernel_rfl) (by kernel_rfl) (by kernel_rfl) (fun _ _ _ h => h) (Or.inl ⟨by rfl, ?y22⟩) hHeld ?r22
    case y22 => (intro w hSw; obtain ⟨⟨q0, q1⟩, q2, q3, q4, q5, q6⟩ := hSw; go_simp; try with_reducible rfl)
    simp only [List.getElem_toArray, List.getElem_cons_zero, List.getElem_cons_succ, Act.put, List.setIfInBounds_toArray, List.set_cons_zero, List.set_cons_succ]
    refine wpAnyH_take (i := 4) (v := ?v23) rfl (by kernel_rfl) (by kernel_rfl) (by kernel_rfl) (fun _ _ _ h => h) (Or.inl ⟨by rfl, ?y23⟩) hHeld ?r23
    case y23 => (intro w hSw; obtain ⟨⟨q0, q1⟩, q2, q3, q4, q5, q6⟩ := hSw; go_simp; try with_reducible rfl)
    simp only [List.getElem_toArray, List.getElem_cons_zero, List.getElem_cons_succ, Act.put, List.setIfInBounds_toArray, List.set_cons_zero, List.set_cons_succ]
    refine wpAnyH_take (i := 5) (v := ?v24) rfl (by kernel_rfl) (by kernel_rfl) (by kernel_rfl) (fun _ _ _ h => h) (Or.inl ⟨by rfl, ?y24⟩) hHeld ?r24
    case y24 => (intro w hSw; obtain ⟨⟨q0, q1⟩, q2, q3, q4, q5, q6⟩ := hSw; go_simp; try with_reducible rfl)
    simp only [List.getElem_toArray, List.getElem_cons_zero, List.getElem_cons_succ, Act.put, List.setIfInBounds_toArray, List.set_cons_zero, List.set_cons_succ]
    refine wpAnyH_take (i := 6) (v := ?v25) rfl (by kernel_rfl) (by kernel_rfl) (by kernel_rfl) (fun _ _ _ h => h) (Or.inl ⟨by rfl, ?y25⟩) hHeld ?r25
    case y25 => (intro w hSw; obtain ⟨⟨q0, q1⟩, q2, q3, q4, q5, q6⟩ := hSw; go_simp; try with_reducible rfl)
    simp only [List.getElem_toArray, List.getElem_cons_zero, List.getElem_cons_succ, Act.put, List.setIfInBounds_toArray, List.set_cons_zero, List.set_cons_succ]
    refine wpAnyH_take (i := 7) (v := ?v26) rfl (by kernel_rfl) (by kernel_rfl) (by kernel_rfl) (fun _ _ _ h => h) (Or.inl ⟨by rfl, ?y26⟩) hHeld ?r26
    case y26 => (intro w hSw; obtain ⟨⟨q0, q1⟩, q2, q3, q4, q5, q6⟩ := hSw; go_simp; try with_reducible rfl)
    simp only [List.getElem_toArray, List.getElem_cons_zero, List.getElem_cons_succ, Act.put, List.setIfInBounds_toArray, List.set_cons_zero, List.set_cons_succ]
    refine wpAnyH_take (i := 8) (v := ?v27) rfl (by kernel_rfl) (by kernel_rfl) (by kernel_rfl) (fun _ _ _ h => h) (Or.inl ⟨by rfl, ?y27⟩) hHeld ?r27
    case y27 => (intro w hSw; obtain ⟨⟨q0, q1⟩, q2, q3, q4, q5, q6⟩ := hSw; go_simp; try with_reducible rfl)
    simp only [List.getElem_toArray, List.getElem_cons_zero, List.getElem_cons_succ, Act.put, List.setIfInBounds_toArray, List.set_cons_zero, List.set_cons_succ]
    refine wpAnyH_take (i := 9) (v := ?v28) rfl (by kernel_rfl) (by kernel_rfl) (by kernel_rfl) (fun _ _ _ h => h) (Or.inl ⟨by rfl, ?y28⟩) hHeld ?r28
    case y28 => (intro w hSw; obtain ⟨⟨q0, q1⟩, q2, q3, q4, q5, q6⟩ := hSw; go_simp; try with_reducible rfl)
    simp only [List.getElem_toArray, List.getElem_cons_zero, List.getElem_cons_succ, Act.put, List.setIfInBounds_toArray, List.set_cons_zero, List.set_cons_succ]
    refine wpAnyH_ready (rs := [10]) (by kernel_rfl) (by simp) (AllReadyH.cons rfl (fun K hK => ?_) AllReadyH.nil)
    go_simp
    skip
    refine hK.out _ _ (HR1.out) (fun hHeld => ?_)
    clear hK K
    refine wpAnyH_ready (rs := [11]) (by kernel_rfl) (by simp) (AllReadyH.cons rfl (fun K hK => ?_) AllReadyH.nil)
    go_simp
    skip
    refine hK.out _ _ (HR2.out) (fun hHeld => ?_)
    clear hK K
    refine wpAnyH_done (by kernel_rfl) ?_ _
    clear hHeld HR HR1 HR2 hM0 hM1 hM2c hM3 hM4 z0 z1 z2 z3 z4
    obtain ⟨hA2, hM2, hb2⟩ := H2.out
    generalize hv2 : (w.alloc (sb S)).drew = v2 at hA2 hM2 hb2 ⊢
    have d2 := hA2.cell (i := 2) (v := .int .i64 x.line) (fun _ => rfl)
    rw [kl] at d2
    have lM := hM2.lt
    have lo2 := hA2.lto
    have lg2 := hA2.ltg
    have HA := Lib.hid (And.intro hA2 (And.intro hM2 hb2))
    clear hA2 hM2 hb2 H2 hv2
    go_wp2_with fail
    have hq : RN2 o g w.heap.size k n S len cap v v2.drew := RN2.of HA.out.1.drew HA.out.2.1.drew Hk.out Hn.out Hlen.out HG.out
    refine wp_region_held_drew (S := RN2 o g w.heap.size k n S len cap v) (by kernel_rfl) (hq) (fun hHeld => ?_)
    refine wpAnyH_take (i := 0) (v := ?v1) rfl (by kernel_rfl) (by kernel_rfl) (by kernel_rfl) (fun _ _ _ h => h) (Or.inl ⟨by rfl, ?y1⟩) hHeld ?r1
    case y1 => (intro w hSw; obtain ⟨q0, q1, q2, q3, q4⟩ := hSw; have b0 := q0.cell (i := 0) rfl; have b1 := q0.cell (i := 1) rfl; have b2 := q0.cell (i := 2) rfl; have b3 := q0.cell (i := 3) rfl; have b4 := q0.cell (i := 4) rfl; clear q0; go_simp; try with_reducible rfl)
    simp only [List.getElem_toArray, List.getElem_cons_zero, Act.put, List.setIfInBounds_toArray, List.set_cons_zero, List.set_cons_succ]
    refine wpAnyH_take (i := 1) (v := ?v2) rfl (by kernel_rfl) (by kernel_rfl) (by kernel_rfl) (fun _ _ _ h => h) (Or.inl ⟨by rfl, ?y2⟩) hHeld ?r2
    case y2 => (intro w hSw; obtain ⟨q0, q1, q2, q3, q4⟩ := hSw; have b0 := q0.cell (i := 0) rfl; have b1 := q0.cell (i := 1) rfl; have b2 := q0.cell (i := 2) rfl; have b3 := q0.cell (i := 3) rfl; have b4 := q0.cell (i := 4) rfl; clear q0; go_simp; try with_reducible rfl)
    simp only [List.getElem_toArray, List.getElem_cons_zero, List.getElem_cons_succ, Act.put, List.setIfInBounds_toArray, List.set_cons_zero, List.set_cons_succ]
    refine wpAnyH_take (i := 2) (v := ?v3) rfl (by kernel_rfl) (by kernel_rfl) (by kernel_rfl) (fun _ _ _ h => h) (Or.inl ⟨by rfl, ?y3⟩) hHeld ?r3
    case y3 => (intro w hSw; obtain ⟨q0, q1, q2, q3, q4⟩ := hSw; have b0 := q0.cell (i := 0) rfl; have b1 := q0.cell (i := 1) rfl; have b2 := q0.cell (i := 2) rfl; have b3 := q0.cell (i := 3) rfl; have b4 := q0.cell (i := 4) rfl; clear q0; go_simp; try with_reducible rfl)
    simp only [List.getElem_toArray, List.getElem_cons_zero, List.getElem_cons_succ, Act.put, List.setIfInBounds_toArray, List.set_cons_zero, List.set_cons_succ]
    refine wpAnyH_take (i := 3) (v := ?v4) rfl (by kernel_rfl) (by kernel_rfl) (by kernel_rfl) (fun _ _ _ h => h) (Or.inl ⟨by rfl, ?y4⟩) hHeld ?r4
    case y4 => (intro w hSw; obtain ⟨q0, q1, q2, q3, q4⟩ := hSw; have b0 := q0.cell (i := 0) rfl; have b1 := q0.cell (i := 1) rfl; have b2 := q0.cell (i := 2) rfl; have b3 := q0.cell (i := 3) rfl; have b4 := q0.cell (i := 4) rfl; clear q0; go_simp; try with_reducible rfl)
    simp only [List.getElem_toArray, List.getElem_cons_zero, List.getElem_cons_succ, Act.put, List.setIfInBounds_toArray, List.set_cons_zero, List.set_cons_succ]
    refine wpAnyH_take (i := 4) (v := ?v5) rfl (by kernel_rfl) (by kernel_rfl) (by kernel_rfl) (fun _ _ _ h => h) (Or.inl ⟨by rfl, ?y5⟩) hHeld ?r5
    case y5 => (intro w hSw; obtain ⟨q0, q1, q2, q3, q4⟩ := hSw; have b0 := q0.cell (i := 0) rfl; have b1 := q0.cell (i := 1) rfl; have b2 := q0.cell (i := 2) rfl; have b3 := q0.cell (i := 3) rfl; have b4 := q0.cell (i := 4) rfl; clear q0; go_simp; try with_reducible rfl)
    simp only [List.getElem_toArray, List.getElem_cons_zero, List.getElem_cons_succ, Act.put, List.setIfInBounds_toArray, List.set_cons_zero, List.set_cons_succ]
    refine wpAnyH_take (i := 5) (v := ?v6) rfl (by kernel_rfl) (by kernel_rfl) (by kernel_rfl) (fun _ _ _ h => h) (Or.inl ⟨by rfl, ?y6⟩) hHeld ?r6
    case y6 => (intro w hSw; obtain ⟨q0, q1, q2, q3, q4⟩ := hSw; have b0 := q0.cell (i := 0) rfl; have b1 := q0.cell (i := 1) rfl; have b2 := q0.cell (i := 2) rfl; have b3 := q0.cell (i := 3) rfl; have b4 := q0.cell (i := 4) rfl; clear q0; go_simp; try with_reducible rfl)
    simp only [List.getElem_toArray, List.getElem_cons_zero, List.getElem_cons_succ, Act.put, List.setIfInBounds_toArray, List.set_cons_zero, List.set_cons_succ]
    refine wpAnyH_take (i := 6) (v := ?v7) rfl (by kernel_rfl) (by kernel_rfl) (by kernel_rfl) (fun _ _ _ h => h) (Or.inl ⟨by rfl, ?y7⟩) hHeld ?r7
    case y7 => (intro w hSw; obtain ⟨q0, q1, q2, q3, q4⟩ := hSw; have b0 := q0.cell (i := 0) rfl; have b1 := q0.cell (i := 1) rfl; have b2 := q0.cell (i := 2) rfl; have b3 := q0.cell (i := 3) rfl; have b4 := q0.cell (i := 4) rfl; clear q0; go_simp; try with_reducible rfl)
    simp only [List.getElem_toArray, List.getElem_cons_zero, List.getElem_cons_succ, Act.put, List.setIfInBounds_toArray, List.set_cons_zero, List.set_cons_succ]
    refine wpAnyH_take (i := 7) (v := ?v8) rfl (by kernel_rfl) (by kernel_rfl) (by kernel_rfl) (fun _ _ _ h => h) (Or.inl ⟨by rfl, ?y8⟩) hHeld ?r8
    case y8 => (intro w hSw; obtain ⟨q0, q1, q2, q3, q4⟩ := hSw; have b0 := q0.cell (i := 0) rfl; have b1 := q0.cell (i := 1) rfl; have b2 := q0.cell (i := 2) rfl; have b3 := q0.cell (i := 3) rfl; have b4 := q0.cell (i := 4) rfl; clear q0; go_simp; try with_reducible rfl)
    simp only [List.getElem_toArray, List.getElem_cons_zero, List.getElem_cons_succ, Act.put, List.setIfInBounds_toArray, List.set_cons_zero, List.set_cons_succ]
    refine wpAnyH_take (i := 8) (v := ?v9) rfl (by kernel_rfl) (by kernel_rfl) (by kernel_rfl) (fun _ _ _ h => h) (Or.inl ⟨by rfl, ?y9⟩) hHeld ?r9
    case y9 => (intro w hSw; obtain ⟨q0, q1, q2, q3, q4⟩ := hSw; have b0 := q0.cell (i := 0) rfl; have b1 := q0.cell (i := 1) rfl; have b2 := q0.cell (i := 2) rfl; have b3 := q0.cell (i := 3) rfl; have b4 := q0.cell (i := 4) rfl; clear q0; go_simp; try with_reducible rfl)
    simp only [List.getElem_toArray, List.getElem_cons_zero, List.getElem_cons_succ, Act.put, List.setIfInBounds_toArray, List.set_cons_zero, List.set_cons_succ]
    refine wpAnyH_take (i := 9) (v := ?v10) rfl (by kernel_rfl) (by kernel_rfl) (by kernel_rfl) (fun _ _ _ h => h) (Or.inl ⟨by rfl, ?y10⟩) hHeld ?r10
    case y10 => (intro w hSw; obtain ⟨q0, q1, q2, q3, q4⟩ := hSw; have b0 := q0.cell (i := 0) rfl; have b1 := q0.cell (i := 1) rfl; have b2 := q0.cell (i := 2) rfl; have b3 := q0.cell (i := 3) rfl; have b4 := q0.cell (i := 4) rfl; clear q0; go_simp; try with_reducible rfl)
    simp only [List.getElem_toArray, List.getElem_cons_zero, List.getElem_cons_succ, Act.put, List.setIfInBounds_toArray, List.set_cons_zero, List.set_cons_succ]
    refine wpAnyH_take (i := 10) (v := ?v11) rfl (by kernel_rfl) (by kernel_rfl) (by kernel_rfl) (fun _ _ _ h => h) (Or.inl ⟨by rfl, ?y11⟩) hHeld ?r11
    case y11 => (intro w hSw; obtain ⟨q0, q1, q2, q3, q4⟩ := hSw; have b0 := q0.cell (i := 0) rfl; have b1 := q0.cell (i := 1) rfl; have b2 := q0.cell (i := 2) rfl; have b3 := q0.cell (i := 3) rfl; have b4 := q0.cell (i := 4) rfl; clear q0; go_simp; try with_reducible rfl)
    simp only [List.getElem_toArray, List.getElem_cons_zero, List.getElem_cons_succ, Act.put, List.setIfInBounds_toArray, List.set_cons_zero, List.set_cons_succ]
    refine wpAnyH_take (i := 12) (v := ?v12) rfl (by kernel_rfl) (by kernel_rfl) (by kernel_rfl) (fun _ _ _ h => h) (Or.inl ⟨by rfl, ?y12⟩) hHeld ?r12
    case y12 => (intro w hSw; obtain ⟨q0, q1, q2, q3, q4⟩ := hSw; have b0 := q0.cell (i := 0) rfl; have b1 := q0.cell (i := 1) rfl; have b2 := q0.cell (i := 2) rfl; have b3 := q0.cell (i := 3) rfl; have b4 := q0.cell (i := 4) rfl; clear q0; go_simp; try with_reducible rfl)
    simp only [List.getElem_toArray, List.getElem_cons_zero, List.getElem_cons_succ, Act.put, List.setIfInBounds_toArray, List.set_cons_zero, List.set_cons_succ]
    refine wpAnyH_take (i := 13) (v := ?v13) rfl (by kernel_rfl) (by kernel_rfl) (by kernel_rfl) (fun _ _ _ h => h) (Or.inl ⟨by rfl, ?y13⟩) hHeld ?r13
    case y13 => (intro w hSw; obtain ⟨q0, q1, q2, q3, q4⟩ := hSw; have b0 := q0.cell (i := 0) rfl; have b1 := q0.cell (i := 1) rfl; have b2 := q0.cell (i := 2) rfl; have b3 := q0.cell (i := 3) rfl; have b4 := q0.cell (i := 4) rfl; clear q0; go_simp; try with_reducible rfl)
    simp only [List.getElem_toArray, List.getElem_cons_zero, List.getElem_cons_succ, Act.put, List.setIfInBounds_toArray, List.set_cons_zero, List.set_cons_succ]
    refine wpAnyH_take (i := 14) (v := ?v14) rfl (by kernel_rfl) (by kernel_rfl) (by kernel_rfl) (fun _ _ _ h => h) (Or.inl ⟨by rfl, ?y14⟩) hHeld ?r14
    case y14 => (intro w hSw; obtain ⟨q0, q1, q2, q3, q4⟩ := hSw; have b0 := q0.cell (i := 0) rfl; have b1 := q0.cell (i := 1) rfl; have b2 := q0.cell (i := 2) rfl; have b3 := q0.cell (i := 3) rfl; have b4 := q0.cell (i := 4) rfl; clear q0; go_simp; try with_reducible rfl)
    simp only [List.getElem_toArray, List.getElem_cons_zero, List.getElem_cons_succ, Act.put, List.setIfInBounds_toArray, List.set_cons_zero, List.set_cons_succ]
    refine wpAnyH_take (i := 15) (v := ?v15) rfl (by kernel_rfl) (by kernel_rfl) (by kernel_rfl) (fun _ _ _ h => h) (Or.inl ⟨by rfl, ?y15⟩) hHeld ?r15
    case y15 => (intro w hSw; obtain ⟨q0, q1, q2, q3, q4⟩ := hSw; have b0 := q0.cell (i := 0) rfl; have b1 := q0.cell (i := 1) rfl; have b2 := q0.cell (i := 2) rfl; have b3 := q0.cell (i := 3) rfl; have b4 := q0.cell (i := 4) rfl; clear q0; go_simp; try with_reducible rfl)
    simp only [List.getElem_toArray, List.getElem_cons_zero, List.getElem_cons_succ, Act.put, List.setIfInBounds_toArray, List.set_cons_zero, List.set_cons_succ]
    refine wpAnyH_ready (rs := [11]) (by kernel_rfl) (by simp) (AllReadyH.cons rfl (fun K hK => ?_) AllReadyH.nil)
    go_simp
    refine (Hat.out _).mono ?_
    rintro e v3 ⟨rfl, hb3⟩
    have hq3 : RN2 o g w.heap.size k n S len cap v v3 := RN2.of (HA.out.1.drew.below hb3) (HA.out.2.1.drew.low hb3) Hk.out Hn.out Hlen.out HG.out
    have HB3 := Lib.hid ((belN HA.out.2.2 1).trans (hb3.mono (belN HA.out.2.2 1).size))
    clear hb3
    go_wp2_with fail
    refine hK.out _ _ (hq3) (fun hHeld => ?_)
    clear hK K
    refine wpAnyH_take (i := 16) (v := ?v17) rfl (by kernel_rfl) (by kernel_rfl) (by kernel_rfl) (fun _ _ _ h => h) (Or.inl ⟨by rfl, ?y17⟩) hHeld ?r17
    case y17 => (intro w hSw; obtain ⟨q0, q1, q2, q3, q4⟩ := hSw; have b0 := q0.cell (i := 0) rfl; have b1 := q0.cell (i := 1) rfl; have b2 := q0.cell (i := 2) rfl; have b3 := q0.cell (i := 3) rfl; have b4 := q0.cell (i := 4) rfl; clear q0; go_simp; try with_reducible rfl)
    simp only [List.getElem_toArray, List.getElem_cons_zero, List.getElem_cons_succ, Act.put, List.setIfInBounds_toArray, List.set_cons_zero, List.set_cons_succ]
    refine wpAnyH_take (i := 17) (v := ?v18) rfl (by kernel_rfl) (by kernel_rfl) (by kernel_rfl) (fun _ _ _ h => h) (Or.inl ⟨by rfl, ?y18⟩) hHeld ?r18
    case y18 => (intro w hSw; obtain ⟨q0, q1, q2, q3, q4⟩ := hSw; have b0 := q0.cell (i := 0) rfl; have b1 := q0.cell (i := 1) rfl; have b2 := q0.cell (i := 2) rfl; have b3 := q0.cell (i := 3) rfl; have b4 := q0.cell (i := 4) rfl; clear q0; go_simp; try with_reducible rfl)
    simp only [List.getElem_toArray, List.getElem_cons_zero, List.getElem_cons_succ, Act.put, List.setIfInBounds_toArray, List.set_cons_zero, List.set_cons_succ]
    refine wpAnyH_done (by kernel_rfl) ?_ _
    clear hHeld hq hq3 Hat
    go_wp2
    go_ret
    exact ⟨by simp [HwA.out], HB3.out⟩
  · rw [if_neg kl]
    go_enter Try.func42, Try.ntmps42
    go_wp2_with fail
    refine wp_region_held_drew (S := RNx o gs c ln k S) (by kernel_rfl) (HR.out) (fun hHeld => ?_)
    refine wpAnyH_take (i := 0) (v := ?v31) rfl (by kernel_rfl) (by kernel_rfl) (by kernel_rfl) (fun _ _ _ h => h) (Or.inl ⟨by rfl, ?y31⟩) hHeld ?r31
    case y31 => (intro w hSw; obtain ⟨⟨q0, q1⟩, q2, q3, q4, q5, q6⟩ := hSw; go_simp; try with_reducible rfl)
    simp only [List.getElem_toArray, List.getElem_cons_zero, Act.put, List.setIfInBounds_toArray, List.set_cons_zero, List.set_cons_succ]
    refine wpAnyH_take (i := 1) (v := ?v32) rfl (by kernel_rfl) (by kernel_rfl) (by kernel_rfl) (fun _ _ _ h => h) (Or.inl ⟨by rfl, ?y32⟩) hHeld ?r32
    case y32 => (intro w hSw; obtain ⟨⟨q0, q1⟩, q2, q3, q4, q5, q6⟩ := hSw; go_simp; try with_reducible rfl)
    simp only [List.getElem_toArray, List.getElem_cons_zero, List.getElem_cons_succ, Act.put, List.setIfInBounds_toArray, List.set_cons_zero, List.set_cons_succ]
    refine wpAnyH_take (i := 2) (v := ?v33) rfl (by kernel_rfl) (by kernel_rfl) (by kernel_rfl) (fun _ _ _ h => h) (Or.inl ⟨by rfl, ?y33⟩) hHeld ?r33
    case y33 => (intro w hSw; obtain ⟨⟨q0, q1⟩, q2, q3, q4, q5, q6⟩ := hSw; go_simp; try with_reducible rfl)
    simp only [List.getElem_toArray, List.getElem_cons_zero, List.getElem_cons_succ, Act.put, List.setIfInBounds_toArray, List.set_cons_zero, List.set_cons_succ]
    refine wpAnyH_take (i := 3) (v := ?v34) rfl (by kernel_rfl) (by kernel_rfl) (by kernel_rfl) (fun _ _ _ h => h) (Or.inl ⟨by rfl, ?y34⟩) hHeld ?r34
    case y34 => (intro w hSw; obtain ⟨⟨q0, q1⟩, q2, q3, q4, q5, q6⟩ := hSw; go_simp; try with_reducible rfl)
    simp only [List.getElem_toArray, List.getElem_cons_zero, List.getElem_cons_succ, Act.put, List.setIfInBounds_toArray, List.set_cons_zero, List.set_cons_succ]
    refine wpAnyH_take (i := 4) (v := ?v35) rfl (by kernel_rfl) (by kernel_rfl) (by kernel_rfl) (fun _ _ _ h => h) (Or.inl ⟨by rfl, ?y35⟩) hHeld ?r35
    case y35 => (intro w hSw; obtain ⟨⟨q0, q1⟩, q2, q3, q4, q5, q6⟩ := hSw; go_simp; try with_reducible rfl)
    simp only [List.getElem_toArray, List.getElem_cons_zero, List.getElem_cons_succ, Act.put, List.setIfInBounds_toArray, List.set_cons_zero, List.set_cons_succ]
    refine wpAnyH_take (i := 5) (v := ?v36) rfl (by kernel_rfl) (by kernel_rfl) (by kernel_rfl) (fun _ _ _ h => h) (Or.inl ⟨by rfl, ?y36⟩) hHeld ?r36
    case y36 => (intro w hSw; obtain ⟨⟨q0, q1⟩, q2, q3, q4, q5, q6⟩ := hSw; go_simp; try with_reducible rfl)
    simp only [List.getElem_toArray, List.getElem_cons_zero, List.getElem_cons_succ, Act.put, List.setIfInBounds_toArray, List.set_cons_zero, List.set_cons_succ]
    refine wpAnyH_take (i := 6) (v := ?v37) rfl (by kernel_rfl) (by kernel_rfl) (by kernel_rfl) (fun _ _ _ h => h) (Or.inl ⟨by rfl, ?y37⟩) hHeld ?r37
    case y37 => (intro w hSw; obtain ⟨⟨q0, q1⟩, q2, q3, q4, q5, q6⟩ := hSw; go_simp; try with_reducible rfl)
    simp only [List.getElem_toArray, List.getElem_cons_zero, List.getElem_cons_succ, Act.put, List.setIfInBounds_toArray, List.set_cons_zero, List.set_cons_succ]
    refine wpAnyH_take (i := 7) (v := ?v38) rfl (by kernel_rfl) (by kernel_rfl) (by kernel_rfl) (fun _ _ _ h => h) (Or.inl ⟨by rfl, ?y38⟩) hHeld ?r38
    case y38 => (intro w hSw; obtain ⟨⟨q0, q1⟩, q2, q3, q4, q5, q6⟩ := hSw; go_simp; try with_reducible rfl)
    simp only [List.getElem_toArray, List.getElem_cons_zero, List.getElem_cons_succ, Act.put, List.setIfInBounds_toArray, List.set_cons_zero, List.set_cons_succ]
    refine wpAnyH_take (i := 8) (v := ?v39) rfl (by kernel_rfl) (by kernel_rfl) (by kernel_rfl) (fun _ _ _ h => h) (Or.inl ⟨by rfl, ?y39⟩) hHeld ?r39
    case y39 => (intro w hSw; obtain ⟨⟨q0, q1⟩, q2, q3, q4, q5, q6⟩ := hSw; go_simp; try with_reducible rfl)
    simp only [List.getElem_toArray, List.getElem_cons_zero, List.getElem_cons_succ, Act.put, List.setIfInBounds_toArray, List.set_cons_zero, List.set_cons_succ]
    refine wpAnyH_take (i := 9) (v := ?v40) rfl (by kernel_rfl) (by kernel_rfl) (by kernel_rfl) (fun _ _ _ h => h) (Or.inl ⟨by rfl, ?y40⟩) hHeld ?r40
    case y40 => (intro w hSw; obtain ⟨⟨q0, q1⟩, q2, q3, q4, q5, q6⟩ := hSw; go_simp; try with_reducible rfl)
    simp only [List.getElem_toArray, List.getElem_cons_zero, List.getElem_cons_succ, Act.put, List.setIfInBounds_toArray, List.set_cons_zero, List.set_cons_succ]
    refine wpAnyH_ready (rs := [10]) (by kernel_rfl) (by simp) (AllReadyH.cons rfl (fun K hK => ?_) AllReadyH.nil)
    go_simp
    skip
    refine hK.out _ _ (HR1.out) (fun hHeld => ?_)
    clear hK K
    refine wpAnyH_ready (rs := [11]) (by kernel_rfl) (by simp) (AllReadyH.cons rfl (fun K hK => ?_) AllReadyH.nil)
    go_simp
    skip
    refine hK.out _ _ (HR2.out) (fun hHeld => ?_)
    clear hK K
    refine wpAnyH_done (by kernel_rfl) ?_ _
    clear hHeld HR HR1 HR2 hM0 hM1 hM2c hM3 hM4 z0 z1 z2 z3 z4
    obtain ⟨hA2, hM2, hb2⟩ := H2.out
    generalize hv2 : (w.alloc (sb S)).drew = v2 at hA2 hM2 hb2 ⊢
    have d2 := hA2.cell (i := 2) (v := .int .i64 x.line) (fun _ => rfl)
    have d1 := hM2.cell (i := 1) rfl
    have lM := hM2.lt
    have lo2 := hA2.lto
    have Hb2 := Lib.hid hb2
    generalize x.line = l at *
    clear hA2 hM2 hb2 H2 hv2
    go_wp2
    go_ret
    exact ⟨rfl, Hb2.out⟩
end
end Go.Proofs.Ytflgggfomhifeaa
