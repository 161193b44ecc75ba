/- The second line: a word. -/
import Derived.Test.YtajibhhmcjcchaaRdTA
import Derived.ArgAppend
namespace Go.Proofs.Ytajibhhmcjcchaa
open Go.RowKit
section
variable {w : World} {o g b bg : Nat} {S : Sp} {xs : List Int} {x : RSt} {t : Int}
theorem wp_append_run {P : Program} (w : World) {o : Oper} {a : Act} {K : Act → World → Prop} {Q : Exit → Act → World → Prop} (d s : Operand) (t t' : TypeId)
    (ho : o.op = .call { callee := .builtin .append, args := #[d, s], argTypes := #[t, t'] }) (v u : Value) (hd : a.eval d = v) (hs : a.eval s = u) {v' : Value} {w' : World}
    (hr : (Builtin.append_ #[t, t'] o.type #[v, u]).run P w = .ok v' w') (h : K (a.put o.dst v') w') : o.wp P a w K Q := by
  unfold Oper.wp execOp
  simp only [ho, resolve, invoke, builtin, Sem.run_bind, Sem.run_pure, Result.andThen_ok, List.map_toArray, List.map_cons, List.map_nil, hd, hs, hr]
  exact h
theorem wpList_append_run {P : Program} (w : World) {ops : Array Oper} {rest : List Oper} {o : Oper} {a : Act} {Q : Exit → Act → World → Prop} (hgd : o.guard = none) (d s : Operand) (t t' : TypeId)
    (ho : o.op = .call { callee := .builtin .append, args := #[d, s], argTypes := #[t, t'] }) (v u : Value) (hd : a.eval d = v) (hs : a.eval s = u) {v' : Value} {w' : World}
    (hr : (Builtin.append_ #[t, t'] o.type #[v, u]).run P w = .ok v' w') (h : wpList P ops Q rest (a.put o.dst v') w') : wpList P ops Q (o :: rest) a w :=
  wpList_plain hgd fun _ hK => wp_append_run w d s t t' ho v u hd hs hr (hK _ _ h)
theorem append_run (h : RdAt w o g S x) (v : Int) (hi : (x.rw.length : Int) < S.wd) :
    (Builtin.append_ #[42, 42] 42 #[.slice (some ⟨g, 0, none⟩) x.rw.length S.wd.toNat, .slice (some ⟨w.heap.size, 0, none⟩) 1 1]).run Try.prog (w.alloc (.cells #[.int .u64 v] 43)) =
      .ok (.slice (some ⟨g, 0, none⟩) (x.rw.length + 1) S.wd.toNat) ((w.alloc (.cells #[.int .u64 v] 43)).setCell ⟨g, x.rw.length, none⟩ (.int .u64 v)) := by
  obtain ⟨i, hi', he⟩ := Option.map_eq_some_iff.1 info49
  simp only [Prod.mk.injEq] at he
  obtain ⟨_, hs, _⟩ := he
  have hx := h.alloc (.cells #[.int .u64 v] 43)
  have hn := Blk.new w #[.int .u64 v] 43
  have hr := run_append_room_cells (P := Try.prog) (w.alloc (.cells #[.int .u64 v] 43)) 42 42 43 i Try.underlying42 hi' g 0 x.rw.length S.wd.toNat ⟨w.heap.size, 0, none⟩ 1 1 [.int .u64 v] (by rw [hs]; rfl) (fun j u hu => by
    match j, hu with
    | 0, hu => cases hu; exact hn.cell rfl) (fun u hu => by
    simp only [List.mem_cons, List.not_mem_nil, or_false] at hu
    subst hu
    rfl) (by omega) (fun j hj => by
    obtain rfl : j = 0 := by simp at hj; exact hj
    rw [hs]
    simp only [Nat.zero_add, Nat.mul_one, Nat.add_zero]
    exact hx.room hi) (fun j _ => hx.frozeng _)
  rw [hs] at hr
  simp only [Nat.zero_add, Nat.mul_one, World.setCells] at hr
  exact hr
set_option maxRecDepth 100000 in
set_option maxHeartbeats 1000000 in
theorem rstep_word (h : RdAt w o g S x) (hB : Bk w b bg xs t) (d1 : o ≠ b) (d2 : o ≠ bg) (d3 : g ≠ b) (d4 : g ≠ bg) (hw : RWf S x) (hh : x.how = 0) (hl : x.line = 1) (v : Int) (hv : getI xs (rdl S x) = some v) (hm : ¬ (x.rw.length : Int) + 1 = S.wd) (t0 : 0 ≤ t) (t1 : t ≤ 1000000) (p0 : 0 ≤ x.steps) (p1 : x.steps ≤ 1000000) :
    Calls Try.prog 16 #[.pointer (some ⟨o, 0, none⟩), .pointer (some ⟨b, 0, none⟩)] w (RdPost o g b bg S xs ({ x with steps := x.steps + 1, rw := x.rw ++ [v], line := 1 }, 1) t w) := by
  have c5 := h.cell (i := 5) rfl
  rw [hh] at c5
  have lo := h.lto
  have Hh := Lib.hid hh
  have Hl := Lib.hid hl
  have Hw := Lib.hid hw
  have Hnx := Lib.hid (rnext_any h hw)
  obtain ⟨q0, hv'⟩ := getI_some hv
  have Hv := Lib.hid (hB.rngAt hv')
  have Hld := Lib.hid (fun W (k : Bk W b bg xs t) => load_at b bg xs t v (rdl S x) W q0 k hv' t0 t1)
  have H := Lib.hid h
  have HB := Lib.hid hB
  clear h hB hh hl hw hv hv' q0
  generalize rdl S x = at0 at *
  go_enter Try.func16, Try.ntmps16
  go_wp2
  refine wp_scope_ahead 0 rfl ?_
  go_wp2_with fail
  refine Hnx.out.mono ?_
  rintro e w1 ⟨rfl, hb1⟩
  have HK := Lib.hid (And.intro (H.out.below hb1) (And.intro (HB.out.below hb1) (Upd.of_below (OwnR o g b bg) hb1)))
  clear hb1
  go_wp2_with fail
  refine (Hld.out _ HK.out.2.1).mono ?_
  rintro e v1 ⟨rfl, hk1, hu1'⟩
  have h1 := HK.out.1.upd hu1' (fun q => q.elim d1 d2) (fun q => q.elim d3 d4)
  have hu1 := HK.out.2.2.trans (hu1'.mono (ownR_of (o := o) (g := g)))
  clear HK Hld Hnx H HB c5 lo hu1'
  have lo1 := h1.lto
  have z1 := h1.frozen 8
  have e1 := h1.cell (i := 8) rfl
  have e1_6 := h1.cell (i := 6) rfl
  try dsimp only at e1_6
  rw [Hl.out] at e1_6
  have H2 := Lib.hid (And.intro (h1.put 8 (.int .i64 (x.steps + 1)) ({ x with steps := x.steps + 1 }) rfl (fun _ _ k => k)) (And.intro (hk1.setFar (p := ⟨o, 8, none⟩) d1.symm d2.symm (.int .i64 (x.steps + 1))) (hu1.setCell (p := ⟨o, 8, none⟩) (.inl (.inl rfl)) (.int .i64 (x.steps + 1)))))
  clear h1 hk1 hu1
  obtain ⟨h2, hk2, hu2⟩ := H2.out
  clear H2
  generalize hv2 : v1.setCell ⟨o, 8, none⟩ (.int .i64 (x.steps + 1)) = v2 at h2 hk2 hu2
  have lo2 := h2.lto
  have f11 := h2.cell (i := 11) rfl
  have f6 := h2.cell (i := 6) rfl
  try dsimp only at f11 f6
  rw [Hl.out] at f6
  have hnl := Hw.out.nl Hl.out
  have hap := append_run h2 v hnl
  dsimp only at hap
  have h4 := (h2.alloc (.cells #[.int .u64 v] 43)).app v hnl
  have hk4 := ((hk2.alloc (.cells #[.int .u64 v] 43)).setFar (p := ⟨g, x.rw.length, none⟩) d3.symm d4.symm (.int .u64 v)).setFar (p := ⟨o, 11, none⟩) d1.symm d2.symm (.slice (some ⟨g, 0, none⟩) (x.rw.length + 1) S.wd.toNat)
  have hu4 := ((hu2.alloc (.cells #[.int .u64 v] 43)).setCell (p := ⟨g, x.rw.length, none⟩) (.inl (.inr (.inl rfl))) (.int .u64 v)).setCell (p := ⟨o, 11, none⟩) (.inl (.inl rfl)) (.slice (some ⟨g, 0, none⟩) (x.rw.length + 1) S.wd.toNat)
  have hcA := ((h2.alloc (.cells #[.int .u64 v] 43)).cells.setFar (p := ⟨g, x.rw.length, none⟩) h2.ne (.int .u64 v))
  have lo3 := hcA.lt
  have z3 := hcA.frozen 11
  have e3 := hcA.cell (i := 11) rfl
  generalize hv3 : (v2.alloc (.cells #[.int .u64 v] 43)).setCell ⟨g, x.rw.length, none⟩ (.int .u64 v) = v3 at h4 hk4 hu4 hcA lo3 z3 e3 hap
  generalize hv4 : v3.setCell ⟨o, 11, none⟩ (.slice (some ⟨g, 0, none⟩) (x.rw.length + 1) S.wd.toNat) = v4 at h4 hk4 hu4
  have Hap := Lib.hid hap
  have H3 := Lib.hid (And.intro h4 (And.intro hk4 hu4))
  clear hap h4 hk4 hu4 hcA h2 hk2 hu2 hv3
  try dsimp only at e3
  go_wp2_with (at_builtin; refine wpList_append_run _ rfl (.tmp 91) (.tmp 93) 42 42 rfl _ _ rfl rfl Hap.out ?_)
  obtain ⟨h4, hk4, hu4⟩ := H3.out
  clear H3 hv4 hv2 lo2 lo3 z3 e3 f11 f6 Hap lo1 z1 e1 e1_6
  have lo4 := h4.lto
  have e11 := h4.cell (i := 11) rfl
  have e3 := h4.cell (i := 3) rfl
  dsimp only at e11 e3
  rw [List.length_append] at e11
  change v4.cell? ⟨o, 11, none⟩ = some (.slice (some ⟨g, 0, none⟩) (x.rw.length + 1) S.wd.toNat) at e11
  have Hm := Lib.hid hm
  clear hm
  have hm2 : (((x.rw.length : Int) + 1) == S.wd) = false := by simpa using Hm.out
  have H5 := Lib.hid (fun n => And.intro (h4.drewN n) (And.intro (hk4.drewN n) (hu4.drewN n)))
  clear h4 hk4 hu4 hnl
  have hln : (x.rw.length : Int) ≤ 64 := by have h1 := Hw.out.len; have h2 := Hw.out.rt.2.1; omega
  generalize x.rw.length = rl at *
  generalize S.wd.toNat = cap at *
  go_quiet (fail)
  obtain ⟨h5, hk5, hu5⟩ := H5.out nq
  clear H5 e11 e3 lo4
  generalize v4.drewN nq = v5 at h5 hk5 hu5 ⊢
  go_wp2
  go_step3
  refine ahead_goto ?_
  have lo5 := h5.lto
  have e5 := h5.cell (i := 5) rfl
  try dsimp only at e5
  rw [Hh.out] at e5
  have HH := Lib.hid (And.intro h5 (And.intro hk5 hu5))
  clear h5 hk5 hu5
  go_wp2
  try rw [Exit.noGoto_ret]
  go_ret
  obtain ⟨h5, hk5, hu5⟩ := HH.out
  exact ⟨by first | rfl | (simp [Hh.out]), by have h5 := h5; rw [show ({ x with steps := x.steps + 1, rw := x.rw ++ [v] } : RSt) = { x with steps := x.steps + 1, rw := x.rw ++ [v], line := 1 } from by rw [← Hl.out]] at h5; exact h5, hk5, hu5⟩
set_option maxRecDepth 100000 in
set_option maxHeartbeats 1000000 in
theorem rstep_word_last (h : RdAt w o g S x) (hB : Bk w b bg xs t) (d1 : o ≠ b) (d2 : o ≠ bg) (d3 : g ≠ b) (d4 : g ≠ bg) (hw : RWf S x) (hh : x.how = 0) (hl : x.line = 1) (v : Int) (hv : getI xs (rdl S x) = some v) (hm : (x.rw.length : Int) + 1 = S.wd) (t0 : 0 ≤ t) (t1 : t ≤ 1000000) (p0 : 0 ≤ x.steps) (p1 : x.steps ≤ 1000000) :
    Calls Try.prog 16 #[.pointer (some ⟨o, 0, none⟩), .pointer (some ⟨b, 0, none⟩)] w (RdPost o g b bg S xs ({ x with steps := x.steps + 1, rw := x.rw ++ [v], line := 2 }, 1) t w) := by
  have c5 := h.cell (i := 5) rfl
  rw [hh] at c5
  have lo := h.lto
  have Hh := Lib.hid hh
  have Hl := Lib.hid hl
  have Hw := Lib.hid hw
  have Hnx := Lib.hid (rnext_any h hw)
  obtain ⟨q0, hv'⟩ := getI_some hv
  have Hv := Lib.hid (hB.rngAt hv')
  have Hld := Lib.hid (fun W (k : Bk W b bg xs t) => load_at b bg xs t v (rdl S x) W q0 k hv' t0 t1)
  have H := Lib.hid h
  have HB := Lib.hid hB
  clear h hB hh hl hw hv hv' q0
  generalize rdl S x = at0 at *
  go_enter Try.func16, Try.ntmps16
  go_wp2
  refine wp_scope_ahead 0 rfl ?_
  go_wp2_with fail
  refine Hnx.out.mono ?_
  rintro e w1 ⟨rfl, hb1⟩
  have HK := Lib.hid (And.intro (H.out.below hb1) (And.intro (HB.out.below hb1) (Upd.of_below (OwnR o g b bg) hb1)))
  clear hb1
  go_wp2_with fail
  refine (Hld.out _ HK.out.2.1).mono ?_
  rintro e v1 ⟨rfl, hk1, hu1'⟩
  have h1 := HK.out.1.upd hu1' (fun q => q.elim d1 d2) (fun q => q.elim d3 d4)
  have hu1 := HK.out.2.2.trans (hu1'.mono (ownR_of (o := o) (g := g)))
  clear HK Hld Hnx H HB c5 lo hu1'
  have lo1 := h1.lto
  have z1 := h1.frozen 8
  have e1 := h1.cell (i := 8) rfl
  have e1_6 := h1.cell (i := 6) rfl
  try dsimp only at e1_6
  rw [Hl.out] at e1_6
  have H2 := Lib.hid (And.intro (h1.put 8 (.int .i64 (x.steps + 1)) ({ x with steps := x.steps + 1 }) rfl (fun _ _ k => k)) (And.intro (hk1.setFar (p := ⟨o, 8, none⟩) d1.symm d2.symm (.int .i64 (x.steps + 1))) (hu1.setCell (p := ⟨o, 8, none⟩) (.inl (.inl rfl)) (.int .i64 (x.steps + 1)))))
  clear h1 hk1 hu1
  obtain ⟨h2, hk2, hu2⟩ := H2.out
  clear H2
  generalize hv2 : v1.setCell ⟨o, 8, none⟩ (.int .i64 (x.steps + 1)) = v2 at h2 hk2 hu2
  have lo2 := h2.lto
  have f11 := h2.cell (i := 11) rfl
  have f6 := h2.cell (i := 6) rfl
  try dsimp only at f11 f6
  rw [Hl.out] at f6
  have hnl := Hw.out.nl Hl.out
  have hap := append_run h2 v hnl
  dsimp only at hap
  have h4 := (h2.alloc (.cells #[.int .u64 v] 43)).app v hnl
  have hk4 := ((hk2.alloc (.cells #[.int .u64 v] 43)).setFar (p := ⟨g, x.rw.length, none⟩) d3.symm d4.symm (.int .u64 v)).setFar (p := ⟨o, 11, none⟩) d1.symm d2.symm (.slice (some ⟨g, 0, none⟩) (x.rw.length + 1) S.wd.toNat)
  have hu4 := ((hu2.alloc (.cells #[.int .u64 v] 43)).setCell (p := ⟨g, x.rw.length, none⟩) (.inl (.inr (.inl rfl))) (.int .u64 v)).setCell (p := ⟨o, 11, none⟩) (.inl (.inl rfl)) (.slice (some ⟨g, 0, none⟩) (x.rw.length + 1) S.wd.toNat)
  have hcA := ((h2.alloc (.cells #[.int .u64 v] 43)).cells.setFar (p := ⟨g, x.rw.length, none⟩) h2.ne (.int .u64 v))
  have lo3 := hcA.lt
  have z3 := hcA.frozen 11
  have e3 := hcA.cell (i := 11) rfl
  generalize hv3 : (v2.alloc (.cells #[.int .u64 v] 43)).setCell ⟨g, x.rw.length, none⟩ (.int .u64 v) = v3 at h4 hk4 hu4 hcA lo3 z3 e3 hap
  generalize hv4 : v3.setCell ⟨o, 11, none⟩ (.slice (some ⟨g, 0, none⟩) (x.rw.length + 1) S.wd.toNat) = v4 at h4 hk4 hu4
  have Hap := Lib.hid hap
  have H3 := Lib.hid (And.intro h4 (And.intro hk4 hu4))
  clear hap h4 hk4 hu4 hcA h2 hk2 hu2 hv3
  try dsimp only at e3
  go_wp2_with (at_builtin; refine wpList_append_run _ rfl (.tmp 91) (.tmp 93) 42 42 rfl _ _ rfl rfl Hap.out ?_)
  obtain ⟨h4, hk4, hu4⟩ := H3.out
  clear H3 hv4 hv2 lo2 lo3 z3 e3 f11 f6 Hap lo1 z1 e1 e1_6
  have lo4 := h4.lto
  have e11 := h4.cell (i := 11) rfl
  have e3 := h4.cell (i := 3) rfl
  dsimp only at e11 e3
  rw [List.length_append] at e11
  change v4.cell? ⟨o, 11, none⟩ = some (.slice (some ⟨g, 0, none⟩) (x.rw.length + 1) S.wd.toNat) at e11
  have Hm := Lib.hid hm
  clear hm
  have hm2 : (((x.rw.length : Int) + 1) == S.wd) = true := by simpa using Hm.out
  have H5 := Lib.hid (fun n => And.intro (h4.drewN n) (And.intro (hk4.drewN n) (hu4.drewN n)))
  clear h4 hk4 hu4 hnl
  have hln : (x.rw.length : Int) ≤ 64 := by have h1 := Hw.out.len; have h2 := Hw.out.rt.2.1; omega
  generalize x.rw.length = rl at *
  generalize S.wd.toNat = cap at *
  go_quiet (fail)
  obtain ⟨h5, hk5, hu5⟩ := H5.out nq
  clear H5 e11 e3 lo4
  generalize v4.drewN nq = v5 at h5 hk5 hu5 ⊢
  have lo5 := h5.lto
  have z5 := h5.frozen 6
  have e5 := h5.cell (i := 6) rfl
  have H6 := Lib.hid (And.intro (h5.put 6 (.int .i64 2) ({ x with steps := x.steps + 1, rw := x.rw ++ [v], line := 2 }) rfl (fun _ _ k => k)) (And.intro (hk5.setFar (p := ⟨o, 6, none⟩) d1.symm d2.symm (.int .i64 2)) (hu5.setCell (p := ⟨o, 6, none⟩) (.inl (.inl rfl)) (.int .i64 2))))
  clear h5 hk5 hu5
  go_wp2
  go_step3
  refine ahead_goto ?_
  obtain ⟨h6, hk6, hu6⟩ := H6.out
  clear H6 lo5 z5 e5 
  generalize v5.setCell ⟨o, 6, none⟩ (.int .i64 2) = v6 at h6 hk6 hu6 ⊢
  have lo6 := h6.lto
  have e6 := h6.cell (i := 5) rfl
  try dsimp only at e6
  rw [Hh.out] at e6
  have HH := Lib.hid (And.intro h6 (And.intro hk6 hu6))
  clear h6 hk6 hu6
  go_wp2
  try rw [Exit.noGoto_ret]
  go_ret
  obtain ⟨h6, hk6, hu6⟩ := HH.out
  exact ⟨by first | rfl | (simp [Hh.out]), h6, hk6, hu6⟩
end
end Go.Proofs.Ytajibhhmcjcchaa
