/- A step of a publishing that has ended; the first line: it looks. -/
import Derived.Test.YtflgggfomhifeaaSml
namespace Go.Proofs.Ytflgggfomhifeaa
open Go.RowKit
section
variable {w : World} {o g b bg : Nat} {S : Sp} {ws xs : List Int} {x : St} {t : Int}
theorem ownS_of {o b bg : Nat} (k : Nat) (h : Own b bg k) : OwnS o b bg k := .inr h
theorem ownS_o {o b bg : Nat} (k : Nat) (h : OwnS o o o k) : OwnS o b bg k := .inl (by rcases h with h | h | h <;> exact h)
set_option maxRecDepth 100000 in
theorem step_ended (h : OpAt w o g S ws x) (bv : Value) (hh : ¬ x.how = 0) : Calls Try.prog 26 #[.pointer (some ⟨o, 0, none⟩), bv] w (Pur (.int .i64 x.how) w) := by
  have c0 := h.cell (i := 0) (fun _ => rfl)
  have lo := h.lto
  clear h
  generalize x.how = y at *
  go_enter Try.func26, Try.ntmps26
  go_wp2
  refine wp_scope_straight ?_
  go_wp2
  rw [Exit.noGoto_ret]
  go_ret
  exact ⟨rfl, rfl⟩

set_option maxRecDepth 100000 in
set_option maxHeartbeats 1000000 in
theorem step_look_even (h : OpAt w o g S ws x) (hB : Bk w b bg xs t) (d1 : o ≠ b) (d2 : o ≠ bg) (d3 : g ≠ b) (d4 : g ≠ bg) (hh : x.how = 0) (hl : x.line = 0) (v : Int) (hv : getI xs S.sq = some v) (he : ¬ v % 2 = 1) (t0 : 0 ≤ t) (t1 : t ≤ 1000000) (p0 : 0 ≤ x.steps) (p1 : x.steps ≤ 1000000) :
    Calls Try.prog 26 #[.pointer (some ⟨o, 0, none⟩), .pointer (some ⟨b, 0, none⟩)] w (StepPost o g b bg S ws ({ x with s := v, line := 1, steps := x.steps + 1 }, xs, 1) t w) := by
  have c0 := h.cell (i := 0) (fun _ => rfl)
  have c9 := h.cell (i := 9) (fun _ => rfl)
  have c4 := h.cell (i := 4) (fun _ => rfl)
  rw [hh] at c0
  rw [hl] at c9
  have lo := h.lto
  have Hh := Lib.hid hh
  clear hh
  obtain ⟨q0, hv'⟩ := getI_some hv
  have Hv := Lib.hid (And.intro (hB.rngAt hv') (hl_f he))
  have Hld := Lib.hid (load_at b bg xs t v S.sq w q0 hB hv' t0 t1)
  have H := Lib.hid h
  clear h hv hv' hl hB he
  go_enter Try.func26, Try.ntmps26
  go_wp2
  refine wp_scope_ahead 2 rfl ?_
  go_wp2_with fail
  refine Hld.out.mono ?_
  rintro e v1 ⟨rfl, hk1, hu1'⟩
  clear Hld
  have h1 := H.out.upd hu1' (fun q => q.elim d1 d2) (fun q => q.elim d3 d4)
  have hu1 := hu1'.mono (ownS_of (o := o))
  clear H c0 c9 c4 lo hu1'
  have lo1 := h1.lto
  have z1 := h1.frozen 11
  have e1 := h1.cell (i := 11) (fun _ => rfl)
  have H2 := Lib.hid (And.intro (h1.put 11 (.int .u64 v) ({ x with s := v }) (fun _ => rfl)) (And.intro (hk1.setFar (p := ⟨o, 11, none⟩) d1.symm d2.symm (.int .u64 v)) (hu1.setCell (p := ⟨o, 11, none⟩) (.inl (.inl rfl)) (.int .u64 v))))
  clear h1 hk1 hu1
  go_wp2_with fail
  refine (held_any v Hv.out.1 _).mono ?_
  rintro e v2 ⟨rfl, rfl⟩
  rw [Hv.out.2]
  obtain ⟨h2, hk2, hu2⟩ := H2.out
  clear H2 lo1 z1 e1
  generalize v1.setCell ⟨o, 11, none⟩ (.int .u64 v) = v2 at h2 hk2 hu2 ⊢
  have lo2 := h2.lto
  have z2 := h2.frozen 9
  have e2 := h2.cell (i := 9) (fun _ => rfl)
  have H3 := Lib.hid (And.intro (h2.put 9 (.int .i64 1) ({ x with s := v, line := 1 }) (fun _ => rfl)) (And.intro (hk2.setFar (p := ⟨o, 9, none⟩) d1.symm d2.symm (.int .i64 1)) (hu2.setCell (p := ⟨o, 9, none⟩) (.inl (.inl rfl)) (.int .i64 1))))
  clear h2 hk2 hu2
  go_wp2
  go_step3
  refine ahead_goto ?_
  obtain ⟨h3, hk3, hu3⟩ := H3.out
  clear H3 lo2 z2 e2
  generalize v2.setCell ⟨o, 9, none⟩ (.int .i64 1) = v3 at h3 hk3 hu3 ⊢
  have lo3 := h3.lto
  have z3 := h3.frozen 1
  have e03 := h3.cell (i := 0) (fun _ => rfl)
  have e13 := h3.cell (i := 1) (fun _ => rfl)
  dsimp only at e03 e13
  rw [Hh.out] at e03
  have HH := Lib.hid (And.intro h3 (And.intro hk3 hu3))
  clear h3 hk3 hu3
  go_wp2
  try rw [Exit.noGoto_ret]
  go_ret
  obtain ⟨h3, hk3, hu3⟩ := HH.out
  refine ⟨by rw [← Hh.out]; rfl, ?_, hk3.setFar d1.symm d2.symm _, hu3.setCell (.inl (.inl rfl)) _⟩
  exact h3.put 1 _ _ (fun _ => rfl)

set_option maxRecDepth 100000 in
set_option maxHeartbeats 1000000 in
theorem step_look_odd (h : OpAt w o g S ws x) (hB : Bk w b bg xs t) (d1 : o ≠ b) (d2 : o ≠ bg) (d3 : g ≠ b) (d4 : g ≠ bg) (hh : x.how = 0) (hl : x.line = 0) (v : Int) (hv : getI xs S.sq = some v) (he : v % 2 = 1) (f0 : 0 ≤ x.left) (f1 : x.left ≤ 16) (t0 : 0 ≤ t) (t1 : t ≤ 1000000) (p0 : 0 ≤ x.steps) (p1 : x.steps ≤ 1000000) :
    Calls Try.prog 26 #[.pointer (some ⟨o, 0, none⟩), .pointer (some ⟨b, 0, none⟩)] w (StepPost o g b bg S ws (agn { x with s := v }, xs, 1) t w) := by
  have c0 := h.cell (i := 0) (fun _ => rfl)
  have c9 := h.cell (i := 9) (fun _ => rfl)
  have c4 := h.cell (i := 4) (fun _ => rfl)
  rw [hh] at c0
  rw [hl] at c9
  have lo := h.lto
  have Hh := Lib.hid hh
  clear hh
  obtain ⟨q0, hv'⟩ := getI_some hv
  have Hv := Lib.hid (And.intro (hB.rngAt hv') (hl_t he))
  have Hld := Lib.hid (load_at b bg xs t v S.sq w q0 hB hv' t0 t1)
  have H := Lib.hid h
  clear h hv hv' hl hB he
  go_enter Try.func26, Try.ntmps26
  go_wp2
  refine wp_scope_ahead 1 rfl ?_
  go_wp2_with fail
  refine Hld.out.mono ?_
  rintro e v1 ⟨rfl, hk1, hu1'⟩
  clear Hld
  have h1 := H.out.upd hu1' (fun q => q.elim d1 d2) (fun q => q.elim d3 d4)
  have hu1 := hu1'.mono (ownS_of (o := o))
  clear H c0 c9 c4 lo hu1'
  have lo1 := h1.lto
  have z1 := h1.frozen 11
  have e1 := h1.cell (i := 11) (fun _ => rfl)
  have H2 := Lib.hid (And.intro (h1.put 11 (.int .u64 v) ({ x with s := v }) (fun _ => rfl)) (And.intro (hk1.setFar (p := ⟨o, 11, none⟩) d1.symm d2.symm (.int .u64 v)) (hu1.setCell (p := ⟨o, 11, none⟩) (.inl (.inl rfl)) (.int .u64 v))))
  clear h1 hk1 hu1
  go_wp2_with fail
  refine (held_any v Hv.out.1 _).mono ?_
  rintro e v2 ⟨rfl, rfl⟩
  rw [Hv.out.2]
  obtain ⟨h2, hk2, hu2⟩ := H2.out
  clear H2 lo1 z1 e1
  generalize v1.setCell ⟨o, 11, none⟩ (.int .u64 v) = v2 at h2 hk2 hu2 ⊢
  go_wp2
  go_step3
  refine ahead_goto ?_
  have lo2 := h2.lto
  have z2 := h2.frozen 9
  have e2 := h2.cell (i := 9) (fun _ => rfl)
  have H3 := Lib.hid (And.intro (h2.put 9 (.int .i64 0) ({ { x with s := v } with line := 0 }) (fun _ => rfl)) (And.intro (hk2.setFar (p := ⟨o, 9, none⟩) d1.symm d2.symm (.int .i64 0)) (hu2.setCell (p := ⟨o, 9, none⟩) (.inl (.inl rfl)) (.int .i64 0))))
  clear h2 hk2 hu2
  go_wp2_with fail
  generalize hV : v2.setCell ⟨o, 9, none⟩ (.int .i64 0) = V at H3 ⊢
  refine (tried_any H3.out.1 f0 f1).mono ?_
  rintro e w9 ⟨rfl, h9, hu9⟩
  obtain ⟨h3, hk3, hu3⟩ := H3.out
  have hk9 := hk3.upd hu9 (fun q => by rcases q with q | q | q <;> exact d1 q.symm) (fun q => by rcases q with q | q | q <;> exact d2 q.symm)
  have hu99 := hu3.trans (hu9.mono ownS_o)
  clear H3 h3 hk3 hu3 hu9 hV lo2 z2 e2
  have h4 := h9
  have hk4 := hk9
  have hu4 := hu99
  clear h9 hk9 hu99
  unfold htd at h4
  have lo4 := h4.lto
  have z4 := h4.frozen 1
  have e04 := h4.cell (i := 0) (fun _ => rfl)
  have e14 := h4.cell (i := 1) (fun _ => rfl)
  dsimp only at e04 e14
  have HH := Lib.hid (And.intro h4 (And.intro hk4 hu4))
  clear h4 hk4 hu4
  generalize hy : (if x.left - 1 = 0 then (2 : Int) else x.how) = y at e04
  have Hy := Lib.hid hy
  clear hy f0 f1
  go_wp2
  go_step3
  go_wp2
  try rw [Exit.noGoto_ret]
  go_ret
  obtain ⟨h4, hk4, hu4⟩ := HH.out
  refine ⟨by rw [← Hy.out]; rfl, ?_, hk4.setFar d1.symm d2.symm _, hu4.setCell (.inl (.inl rfl)) _⟩
  exact h4.put 1 _ _ (fun _ => rfl)

set_option maxRecDepth 100000 in
set_option maxHeartbeats 1000000 in
theorem step_look_out (h : OpAt w o g S ws x) (hB : Bk w b bg xs t) (d1 : o ≠ b) (d2 : o ≠ bg) (_d3 : g ≠ b) (_d4 : g ≠ bg) (hh : x.how = 0) (hl : x.line = 0) (hv : getI xs S.sq = none) :
    Calls Try.prog 26 #[.pointer (some ⟨o, 0, none⟩), .pointer (some ⟨b, 0, none⟩)] w (StepPost o g b bg S ws ({ x with s := 0, how := 3 }, xs, 0) t w) := by
  have c0 := h.cell (i := 0) (fun _ => rfl)
  have c9 := h.cell (i := 9) (fun _ => rfl)
  have c4 := h.cell (i := 4) (fun _ => rfl)
  rw [hh] at c0
  rw [hl] at c9
  have lo := h.lto
  have Hh := Lib.hid hh
  clear hh
  have Hld := Lib.hid (load_out b bg xs t S.sq w hB (getI_none hv))
  have H := Lib.hid h
  clear h hv hl hB
  go_enter Try.func26, Try.ntmps26
  go_wp2
  refine wp_scope_ahead 0 rfl ?_
  go_wp2_with fail
  refine Hld.out.mono ?_
  rintro e v1 ⟨rfl, hk1, hu1'⟩
  clear Hld
  have h1 := H.out.below hu1'
  have hu1 := Upd.of_below (OwnS o b bg) hu1'
  clear H c0 c9 c4 lo hu1'
  have lo1 := h1.lto
  have z1 := h1.frozen 11
  have e1 := h1.cell (i := 11) (fun _ => rfl)
  have H2 := Lib.hid (And.intro (h1.put 11 (.int .u64 0) ({ x with s := 0 }) (fun _ => rfl)) (And.intro (hk1.setFar (p := ⟨o, 11, none⟩) d1.symm d2.symm (.int .u64 0)) (hu1.setCell (p := ⟨o, 11, none⟩) (.inl (.inl rfl)) (.int .u64 0))))
  clear h1 hk1 hu1
  go_wp2
  go_step3
  refine ahead_goto ?_
  obtain ⟨h2, hk2, hu2⟩ := H2.out
  clear H2 lo1 z1 e1
  generalize v1.setCell ⟨o, 11, none⟩ (.int .u64 0) = v2 at h2 hk2 hu2 ⊢
  have lo2 := h2.lto
  have z2 := h2.frozen 0
  have e2 := h2.cell (i := 0) (fun _ => rfl)
  have H3 := Lib.hid (And.intro (h2.put 0 (.int .i64 3) ({ { x with s := 0 } with how := 3 }) (fun _ => rfl)) (And.intro (hk2.setFar (p := ⟨o, 0, none⟩) d1.symm d2.symm (.int .i64 3)) (hu2.setCell (p := ⟨o, 0, none⟩) (.inl (.inl rfl)) (.int .i64 3))))
  clear h2 hk2 hu2
  go_wp2
  try rw [Exit.noGoto_ret]
  go_ret
  obtain ⟨h3, hk3, hu3⟩ := H3.out
  exact ⟨rfl, h3, by rw [Int.add_zero]; exact hk3, hu3⟩

set_option maxRecDepth 100000 in
set_option maxHeartbeats 1000000 in
theorem step_look_nil (h : OpAt w o g S ws x) (hh : x.how = 0) (hl : x.line = 0) :
    Calls Try.prog 26 #[.pointer (some ⟨o, 0, none⟩), .pointer none] w (fun e w' => e = .returned (.int .i64 3) ∧ OpAt w' o g S ws { x with s := 0, how := 3 } ∧ Upd (OwnS o o o) w w') := by
  have c0 := h.cell (i := 0) (fun _ => rfl)
  have c9 := h.cell (i := 9) (fun _ => rfl)
  have c4 := h.cell (i := 4) (fun _ => rfl)
  rw [hh] at c0
  rw [hl] at c9
  have lo := h.lto
  have Hh := Lib.hid hh
  clear hh
  have Hld := Lib.hid (load_nil S.sq w)
  have H := Lib.hid h
  clear h hl
  go_enter Try.func26, Try.ntmps26
  go_wp2
  refine wp_scope_ahead 0 rfl ?_
  go_wp2_with fail
  refine Hld.out.mono ?_
  rintro e v1 ⟨rfl, hu1'⟩
  clear Hld
  have h1 := H.out.below hu1'
  have hu1 := Upd.of_below (OwnS o o o) hu1'
  clear H c0 c9 c4 lo hu1'
  have lo1 := h1.lto
  have z1 := h1.frozen 11
  have e1 := h1.cell (i := 11) (fun _ => rfl)
  have H2 := Lib.hid (And.intro (h1.put 11 (.int .u64 0) ({ x with s := 0 }) (fun _ => rfl)) (hu1.setCell (p := ⟨o, 11, none⟩) (.inl (.inl rfl)) (.int .u64 0)))
  clear h1 hu1
  go_wp2
  go_step3
  refine ahead_goto ?_
  obtain ⟨h2, hu2⟩ := H2.out
  clear H2 lo1 z1 e1
  generalize v1.setCell ⟨o, 11, none⟩ (.int .u64 0) = v2 at h2 hu2 ⊢
  have lo2 := h2.lto
  have z2 := h2.frozen 0
  have e2 := h2.cell (i := 0) (fun _ => rfl)
  have H3 := Lib.hid (And.intro (h2.put 0 (.int .i64 3) ({ { x with s := 0 } with how := 3 }) (fun _ => rfl)) (hu2.setCell (p := ⟨o, 0, none⟩) (.inl (.inl rfl)) (.int .i64 3)))
  clear h2 hu2
  go_wp2
  try rw [Exit.noGoto_ret]
  go_ret
  obtain ⟨h3, hu3⟩ := H3.out
  exact ⟨rfl, h3, hu3⟩

end
end Go.Proofs.Ytflgggfomhifeaa
