/- A step of a snapshot that is none, that has ended, or that the bank refuses. -/
import Derived.Test.YtflgggfomhifeaaSnTA
namespace Go.Proofs.Ytflgggfomhifeaa
open Go.RowKit
section
variable {w : World} {o gs g b bg : Nat} {SS : List Sp} {xs : List Int} {t v left p bn : Int} {k n : Nat} {tl : List Int}
set_option maxRecDepth 100000 in
theorem nstep_nil (bv : Value) (w : World) : Calls Try.prog 17 #[.pointer none, bv] w (Ret (.int .i64 3) w) := by
  have hb := (Below.refl w.heap.size w).alloc (Nat.le_refl _) (.cells #[.pointer none] 31)
  go_enter Try.func17, Try.ntmps17
  go_wp2
  refine wp_scope_straight ?_
  go_wp2
  rw [Exit.noGoto_ret]
  go_ret
  exact ⟨rfl, hb⟩
set_option maxRecDepth 100000 in
theorem nstep_ended {x : NSt} (h : NAt w o gs g SS x) (bv : Value) (hh : ¬ x.how = 0) : Calls Try.prog 17 #[.pointer (some ⟨o, 0, none⟩), bv] w (Ret (.int .i64 x.how) w) := by
  have hA := h.alloc (.cells #[.pointer (some ⟨o, 0, none⟩)] 31)
  have hb := (Below.refl w.heap.size w).alloc (Nat.le_refl _) (.cells #[.pointer (some ⟨o, 0, none⟩)] 31)
  have c1 := hA.cell (i := 1) (v := .int .i64 x.how) (fun _ => rfl)
  have lo := hA.lto
  have lw := h.lto
  have Hb := Lib.hid hb
  clear h hA hb
  generalize x.how = y at *
  go_enter Try.func17, Try.ntmps17
  go_wp2
  refine wp_scope_straight ?_
  go_wp2
  rw [Exit.noGoto_ret]
  go_ret
  exact ⟨rfl, Hb.out⟩
set_option maxRecDepth 100000 in
set_option maxHeartbeats 2000000 in
theorem nstep_bank_nil {line : Int} (h : NAt w o gs g SS ⟨0, line, k, n, left, p, bn, tl⟩) (hw : NWf SS ⟨0, line, k, n, left, p, bn, tl⟩) :
    Calls Try.prog 17 #[.pointer (some ⟨o, 0, none⟩), .pointer none] w (fun e w' => e = .returned (.int .i64 3) ∧ NAt w' o gs g SS ⟨3, line, k, n, left, p, bn, tl⟩ ∧ Upd (OwnS o o o) w w') := by
  have S0 := h.alloc (.cells #[.pointer (some ⟨o, 0, none⟩)] 31)
  have hm0 := Blk.new w #[.pointer (some ⟨o, 0, none⟩)] 31
  have hb0 := (Below.refl w.heap.size w).alloc (Nat.le_refl _) (.cells #[.pointer (some ⟨o, 0, none⟩)] 31)
  have Hnx := Lib.hid (fun W (q : NAt W o gs g SS ⟨0, line, k, n, left, p, bn, tl⟩) => nnext_any q hw)
  have Hld := Lib.hid (fun W => load_nil (nxl SS ⟨0, line, k, n, left, p, bn, tl⟩) W)
  have hne : w.heap.size ≠ o := by have := h.lto; omega
  have b0 := hm0.cell (i := 0) rfl
  have lo0 := S0.lto
  have lm0 := hm0.lt
  have e0_1 := S0.cell (i := 1) (v := .int .i64 0) (fun _ => rfl)
  have lw := h.lto
  have HS0 := Lib.hid (And.intro S0 (And.intro hm0 (And.intro hb0 hne)))
  clear h hw S0 hm0 hb0 hne
  generalize nxl SS ⟨0, line, k, n, left, p, bn, tl⟩ = at0 at *
  go_enter Try.func17, Try.ntmps17
  go_wp2
  refine wp_scope_straight ?_
  go_wp2_with fail
  refine (Hnx.out _ HS0.out.1).mono ?_
  rintro e w1 ⟨rfl, hb1⟩
  have HS1 := Lib.hid (And.intro (HS0.out.1.below hb1) (And.intro (HS0.out.2.1.low hb1) (HS0.out.2.2.1.trans (hb1.mono HS0.out.2.2.1.size))))
  clear hb1
  go_wp2_with fail
  refine (Hld.out _).mono ?_
  rintro e v1 ⟨rfl, hu1⟩
  have S1 := HS1.out.1.below hu1
  have hm1 := HS1.out.2.1.low hu1
  have hb1 := HS1.out.2.2.trans (hu1.mono HS1.out.2.2.size)
  have hne := HS0.out.2.2.2
  clear HS1 Hld Hnx hu1 b0 lo0 lm0 e0_1 lw HS0
  have b1 := hm1.cell (i := 0) rfl
  have lo1 := S1.lto
  have lm1 := hm1.lt
  have e1_1 := S1.cell (i := 1) (v := .int .i64 0) (fun _ => rfl)
  have z1 := S1.frozen 1
  have S2 := S1.put 1 (.int .i64 3) ⟨3, line, k, n, left, p, bn, tl⟩ (fun _ => rfl) (fun _ _ q => q)
  have hm2 := hm1.setFar (p := ⟨o, 1, none⟩) hne (.int .i64 3)
  have hu2 := (Upd.of_below (OwnS o o o) hb1).setCell (p := ⟨o, 1, none⟩) (.inl (.inl rfl)) (.int .i64 3)
  generalize hv2 : v1.setCell ⟨o, 1, none⟩ (.int .i64 3) = v2 at S2 hm2 hu2
  have b2 := hm2.cell (i := 0) rfl
  have lo2 := S2.lto
  have lm2 := hm2.lt
  have e2_1 := S2.cell (i := 1) (v := .int .i64 3) (fun _ => rfl)
  have H2 := Lib.hid (And.intro S2 hu2)
  clear S1 hm1 hb1 S2 hm2 hu2 hne
  go_wp2
  try rw [Exit.noGoto_ret]
  go_ret
  exact ⟨rfl, H2.out⟩
set_option maxRecDepth 100000 in
set_option maxHeartbeats 2000000 in
theorem nstep_out {line : Int} (h : NAt w o gs g SS ⟨0, line, k, n, left, p, bn, tl⟩) (hB : Bk w b bg xs t) (ap : Apt o gs g b bg) (hw : NWf SS ⟨0, line, k, n, left, p, bn, tl⟩) (hv : getI xs (nxl SS ⟨0, line, k, n, left, p, bn, tl⟩) = none) :
    Calls Try.prog 17 #[.pointer (some ⟨o, 0, none⟩), .pointer (some ⟨b, 0, none⟩)] w (NdPost o gs g b bg SS xs (⟨3, line, k, n, left, p, bn, tl⟩, 0) t w) := by
  have S0 := Stg.start h hB ap 31
  have Hnx := Lib.hid (fun W (q : NAt W o gs g SS ⟨0, line, k, n, left, p, bn, tl⟩) => nnext_any q hw)
  have Hld := Lib.hid (fun W (q : Bk W b bg xs t) => load_out b bg xs t (nxl SS ⟨0, line, k, n, left, p, bn, tl⟩) W q (getI_none hv))
  have b0 := S0.box
  have lo0 := S0.n.lto
  have lm0 := S0.bx.lt
  have e0_1 := S0.cell (i := 1) (v := .int .i64 0) (fun _ => rfl)
  have HS0 := Lib.hid S0
  have lw := h.lto
  clear h hB ap hw hv S0
  generalize nxl SS ⟨0, line, k, n, left, p, bn, tl⟩ = at0 at *
  go_enter Try.func17, Try.ntmps17
  go_wp2
  refine wp_scope_straight ?_
  go_wp2_with fail
  refine (Hnx.out _ HS0.out.n).mono ?_
  rintro e w1 ⟨rfl, hb1⟩
  have HS1 := Lib.hid (HS0.out.low hb1)
  clear hb1
  go_wp2_with fail
  refine (Hld.out _ HS1.out.bk).mono ?_
  rintro e v1 ⟨rfl, _, hu1⟩
  have S1 := HS1.out.low hu1
  clear HS1 HS0 Hld Hnx hu1 b0 lo0 lm0 e0_1 lw
  have b1 := S1.box
  have lo1 := S1.n.lto
  have lm1 := S1.bx.lt
  have e1_1 := S1.cell (i := 1) (v := .int .i64 (0)) (fun _ => rfl)
  have z1_1 := S1.n.frozen 1
  have S2 := S1.put 1 (.int .i64 (3)) ⟨3, line, k, n, left, p, bn, tl⟩ (fun _ => rfl) (fun _ _ q => q)
  generalize hv2 : v1.setCell ⟨o, 1, none⟩ (.int .i64 (3)) = v2 at S2
  have b2 := S2.box
  have lo2 := S2.n.lto
  have lm2 := S2.bx.lt
  have e2_1 := S2.cell (i := 1) (v := .int .i64 (3)) (fun _ => rfl)
  have HS2 := Lib.hid S2
  clear S1 S2
  go_wp2
  try rw [Exit.noGoto_ret]
  go_ret
  have h2 := HS2.out
  exact ⟨rfl, h2.n, by rw [Int.add_zero]; exact h2.bk, h2.up⟩
end
end Go.Proofs.Ytflgggfomhifeaa
