/- A step of a reading that has ended, or that the bank refuses. -/
import Derived.Test.YtajibhhmcjcchaaRdG
namespace Go.Proofs.Ytajibhhmcjcchaa
open Go.RowKit
section
variable {w : World} {o g b bg : Nat} {S : Sp} {xs : List Int} {x : RSt} {t : Int}
theorem ownR_o {o g b bg : Nat} (k : Nat) (h : OwnS o o o k) : OwnR o g b bg k := .inl (by rcases h with h | h | h <;> exact h)
set_option maxRecDepth 100000 in
theorem rstep_nil (bv : Value) (w : World) : Calls Try.prog 16 #[.pointer none, bv] w (Pur (.int .i64 3) w) := by
  go_enter Try.func16, Try.ntmps16
  go_wp2
  refine wp_scope_straight ?_
  go_wp2
  rw [Exit.noGoto_ret]
  go_ret
  exact ⟨rfl, rfl⟩
set_option maxRecDepth 100000 in
theorem rstep_ended (h : RdAt w o g S x) (bv : Value) (hh : ¬ x.how = 0) : Calls Try.prog 16 #[.pointer (some ⟨o, 0, none⟩), bv] w (Pur (.int .i64 x.how) w) := by
  have c5 := h.cell (i := 5) rfl
  have lo := h.lto
  clear h
  generalize x.how = y at *
  go_enter Try.func16, Try.ntmps16
  go_wp2
  refine wp_scope_straight ?_
  go_wp2
  rw [Exit.noGoto_ret]
  go_ret
  exact ⟨rfl, rfl⟩
set_option maxRecDepth 100000 in
set_option maxHeartbeats 1000000 in
theorem rstep_bank_nil (h : RdAt w o g S x) (hw : RWf S x) (hh : x.how = 0) :
    Calls Try.prog 16 #[.pointer (some ⟨o, 0, none⟩), .pointer none] w (fun e w' => e = .returned (.int .i64 3) ∧ RdAt w' o g S { x with how := 3 } ∧ Upd (OwnS o o o) w w') := by
  have c5 := h.cell (i := 5) rfl
  rw [hh] at c5
  have lo := h.lto
  have Hnx := Lib.hid (rnext_any h hw)
  have Hld := Lib.hid (fun W => load_nil (rdl S x) W)
  have H := Lib.hid h
  clear h hh hw
  generalize rdl S x = at0 at *
  go_enter Try.func16, Try.ntmps16
  go_wp2
  refine wp_scope_straight ?_
  go_wp2_with fail
  refine Hnx.out.mono ?_
  rintro e w1 ⟨rfl, hb1⟩
  have HK := Lib.hid (And.intro (H.out.below hb1) hb1)
  clear hb1
  go_wp2_with fail
  refine (Hld.out _).mono ?_
  rintro e v1 ⟨rfl, hu1'⟩
  have h1 := HK.out.1.below hu1'
  have hu1 := HK.out.2.trans (hu1'.mono HK.out.2.size)
  clear hu1'
  have lo1 := h1.lto
  have z1 := h1.frozen 5
  have e1 := h1.cell (i := 5) rfl
  have H2 := Lib.hid (And.intro (h1.put 5 (.int .i64 3) { x with how := 3 } rfl (fun _ _ k => k)) ((Upd.of_below (OwnS o o o) hu1).setCell (p := ⟨o, 5, none⟩) (.inl (.inl rfl)) (.int .i64 3)))
  clear h1 hu1 HK Hld Hnx H c5 lo
  go_wp2
  try rw [Exit.noGoto_ret]
  go_ret
  exact ⟨rfl, H2.out⟩
set_option maxRecDepth 100000 in
set_option maxHeartbeats 1000000 in
theorem rstep_out (h : RdAt w o g S x) (hB : Bk w b bg xs t) (d1 : o ≠ b) (d2 : o ≠ bg) (d3 : g ≠ b) (d4 : g ≠ bg) (hw : RWf S x) (hh : x.how = 0) (hv : getI xs (rdl S x) = none) :
    Calls Try.prog 16 #[.pointer (some ⟨o, 0, none⟩), .pointer (some ⟨b, 0, none⟩)] w (RdPost o g b bg S xs ({ x with how := 3 }, 0) t w) := by
  have c5 := h.cell (i := 5) rfl
  rw [hh] at c5
  have lo := h.lto
  have Hnx := Lib.hid (rnext_any h hw)
  have Hld := Lib.hid (fun W (k : Bk W b bg xs t) => load_out b bg xs t (rdl S x) W k (getI_none hv))
  have H := Lib.hid h
  have HB := Lib.hid hB
  clear h hB hh hw hv
  generalize rdl S x = at0 at *
  go_enter Try.func16, Try.ntmps16
  go_wp2
  refine wp_scope_straight ?_
  go_wp2_with fail
  refine Hnx.out.mono ?_
  rintro e w1 ⟨rfl, hb1⟩
  have HK := Lib.hid (And.intro (H.out.below hb1) (And.intro (HB.out.below hb1) hb1))
  clear hb1
  go_wp2_with fail
  refine (Hld.out _ HK.out.2.1).mono ?_
  rintro e v1 ⟨rfl, hk1, hu1'⟩
  have h1 := HK.out.1.below hu1'
  have hu1 := HK.out.2.2.trans (hu1'.mono HK.out.2.2.size)
  clear hu1'
  have lo1 := h1.lto
  have z1 := h1.frozen 5
  have e1 := h1.cell (i := 5) rfl
  have H2 := Lib.hid (And.intro (h1.put 5 (.int .i64 3) { x with how := 3 } rfl (fun _ _ k => k)) (And.intro (hk1.setFar (p := ⟨o, 5, none⟩) d1.symm d2.symm (.int .i64 3)) ((Upd.of_below (OwnR o g b bg) hu1).setCell (p := ⟨o, 5, none⟩) (.inl (.inl rfl)) (.int .i64 3))))
  clear h1 hk1 hu1 HK Hld Hnx H HB c5 lo
  go_wp2
  try rw [Exit.noGoto_ret]
  go_ret
  exact ⟨rfl, H2.out.1, by rw [Int.add_zero]; exact H2.out.2.1, H2.out.2.2⟩
end
end Go.Proofs.Ytajibhhmcjcchaa
