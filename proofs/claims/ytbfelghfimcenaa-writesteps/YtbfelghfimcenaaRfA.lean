/- The document's publishing: what a step makes of it. -/
import Derived.Test.YtbfelghfimcenaaStp
import Derived.Deep.RegionHeld3
import Derived.BigQuiet
namespace Go.Proofs.Ytbfelghfimcenaa
open Go.RowKit

/-- The cells of the document's publishing. -/
abbrev rfx (S : Sp) (sl : Value) (tr nx hd sq k hw dd : Int) : List Value :=
  [.int .i64 S.ow, .int .i64 S.sq, .int .i64 S.fs, .int .i64 S.wd, .int .i64 S.dp, sl, .int .i64 tr, .int .i64 nx, .int .i64 hd, .int .u64 sq, .int .i64 k, .int .i64 hw, .int .i64 dd]
/-- The document's publishing at block o, that stands as x does. -/
def RfAt (w : World) (o : Nat) (S : Sp) (a : Option Addr) (ws : List Int) (cap : Nat) (tr : Int) (x : St) : Prop :=
  ∃ sq, Blk w o (rfx S (.slice a ws.length cap) tr (x.line + 1) (tr - x.left) sq x.n x.how x.steps) ∧ (¬ x.how = 3 → sq = x.s)
def Ow2 (o wb : Nat) (k : Nat) : Prop := k = o ∨ k = wb
def RPost (o wb : Nat) (S : Sp) (a : Option Addr) (ws : List Int) (cap : Nat) (tr : Int) (r : St × List Int × Int) (w : World) (e : Ending) (w' : World) : Prop :=
  e = .returned (.tuple #[]) ∧ RfAt w' o S a ws cap tr r.1 ∧ Row w' wb r.2.1 ∧ Upd (Ow2 o wb) w w'
theorem Blk.to {w : World} {g : Nat} {vs vs' : List Value} (h : Blk w g vs) (e : vs = vs') : Blk w g vs' := e ▸ h
section
variable {w : World} {o wb : Nat} {S : Sp} {a : Option Addr} {ws ys : List Int} {cap : Nat} {tr : Int} {x : St}
theorem RfAt.busy (h : RfAt w o S a ws cap tr x) (hh : x.how = 0) : Blk w o (rfx S (.slice a ws.length cap) tr (x.line + 1) (tr - x.left) x.s x.n 0 x.steps) := by
  obtain ⟨sq, h1, h2⟩ := h
  rw [h2 (by omega), hh] at h1
  exact h1
set_option maxRecDepth 100000 in
theorem again_any {sl : Value} {nx hd sq k hw dd : Int} (h : Blk w o (rfx S sl tr nx hd sq k hw dd)) (h0 : 0 ≤ hd) (h1 : hd ≤ 16) :
    Calls Try.prog 35 #[.pointer (some ⟨o, 0, none⟩)] w fun e w' => e = .returned (.tuple #[]) ∧ Blk w' o (rfx S sl tr 1 (hd + 1) sq k (if tr ≤ hd + 1 then 2 else hw) dd) ∧ Upd (Ow2 o o) w w' := by
  have c8 := h.cell (i := 8) rfl
  have z8 := h.frozen 8
  have c7 := h.cell (i := 7) rfl
  have z7 := h.frozen 7
  have c6 := h.cell (i := 6) rfl
  have c11 := h.cell (i := 11) rfl
  have z11 := h.frozen 11
  have lo := h.lt
  have h2 := (h.put 8 (.int .i64 (hd + 1))).put 7 (.int .i64 1)
  have hu2 := ((Upd.refl (Ow2 o o) w).setCell (p := ⟨o, 8, none⟩) (.inl (.inl rfl)) (.int .i64 (hd + 1))).setCell (p := ⟨o, 7, none⟩) (.inl (.inl rfl)) (.int .i64 1)
  have H2 := Lib.hid (And.intro h2 hu2)
  clear h h2 hu2
  go_enter Try.func35, Try.ntmps35
  go_wp2_with fail
  generalize (w.setCell ⟨o, 8, none⟩ (.int .i64 (hd + 1))).setCell ⟨o, 7, none⟩ (.int .i64 1) = w2 at H2 ⊢
  have e8 := H2.out.1.cell (i := 8) rfl
  have e6 := H2.out.1.cell (i := 6) rfl
  have e11 := H2.out.1.cell (i := 11) rfl
  have y11 := H2.out.1.frozen 11
  have lo2 := H2.out.1.lt
  clear c8 z8 c7 z7 c6 c11 z11 lo
  go_quiet (fail)
  by_cases k : tr ≤ hd + 1
  · have e8' : (w2.drewN nq).frozen? ⟨o, 11, none⟩ = false := y11
    go_wp2
    go_end0
    exact ⟨rfl, (blkN H2.out.1 nq).put 11 _, (H2.out.2.drewN nq).setCell (.inl (.inl rfl)) _⟩
  · go_wp2
    go_end0
    exact ⟨rfl, blkN H2.out.1 nq, H2.out.2.drewN nq⟩
set_option maxRecDepth 100000 in
theorem rstep_ended (h : RfAt w o S a ws cap tr x) (bv : Value) (hh : ¬ x.how = 0) : Calls Try.prog 17 #[.pointer (some ⟨o, 0, none⟩), bv] w (Pur (.tuple #[]) w) := by
  obtain ⟨sq, h1, _⟩ := h
  have c11 := h1.cell (i := 11) rfl
  have lo := h1.lt
  clear h1
  generalize x.how = y at *
  go_enter Try.func17, Try.ntmps17
  go_wp2
  go_end0
  exact ⟨rfl, rfl⟩
set_option maxRecDepth 100000 in
set_option maxHeartbeats 1000000 in
theorem rstep_look_out (h : RfAt w o S a ws cap tr x) (hB : Row w wb ys) (hne : o ≠ wb) (hh : x.how = 0) (hl : x.line = 0) (hv : getI ys S.sq = none) (q0 : 0 ≤ S.sq) :
    Calls Try.prog 17 #[.pointer (some ⟨o, 0, none⟩), .slice (some ⟨wb, 0, none⟩) ys.length ys.length] w (RPost o wb S a ws cap tr ({ x with s := 0, how := 3 }, ys, 0) w) := by
  have hb := h.busy hh
  rw [hl] at hb
  have Hl := Lib.hid hl
  have hne' := hne.symm
  have c1 := hb.cell (i := 1) rfl
  have c7 := hb.cell (i := 7) rfl
  have c9 := hb.cell (i := 9) rfl
  have c10 := hb.cell (i := 10) rfl
  have c11 := hb.cell (i := 11) rfl
  have c12 := hb.cell (i := 12) rfl
  have z7 := hb.frozen 7
  have z9 := hb.frozen 9
  have z10 := hb.frozen 10
  have z11 := hb.frozen 11
  have z12 := hb.frozen 12
  have lo := hb.lt
  have lw := hB.lt
  have hlen : (ys.length : Int) ≤ S.sq := by rcases getI_none hv with c | c <;> omega
  have H := Lib.hid (And.intro hb hB)
  clear h hb hB hl hv
  go_enter Try.func17, Try.ntmps17
  go_wp2
  go_end0
  obtain ⟨hb, hB⟩ := H.out
  exact ⟨rfl, ⟨x.s, (hb.put 11 (.int .i64 3)).to (by show _ = rfx S _ tr (x.line + 1) _ _ _ _ _; rw [Hl.out]; rfl), fun c => absurd rfl c⟩, hB.setFar hne' _, (Upd.refl _ w).setCell (.inl (.inl rfl)) _⟩
set_option maxRecDepth 100000 in
set_option maxHeartbeats 1000000 in
theorem rstep_take_out (h : RfAt w o S a ws cap tr x) (hB : Row w wb ys) (hne : o ≠ wb) (hh : x.how = 0) (hl : x.line = 1) (hv : getI ys S.sq = none) (q0 : 0 ≤ S.sq) :
    Calls Try.prog 17 #[.pointer (some ⟨o, 0, none⟩), .slice (some ⟨wb, 0, none⟩) ys.length ys.length] w (RPost o wb S a ws cap tr ({ x with how := 3 }, ys, 0) w) := by
  have hb := h.busy hh
  rw [hl] at hb
  have Hl := Lib.hid hl
  have hne' := hne.symm
  have c1 := hb.cell (i := 1) rfl
  have c7 := hb.cell (i := 7) rfl
  have c9 := hb.cell (i := 9) rfl
  have c10 := hb.cell (i := 10) rfl
  have c11 := hb.cell (i := 11) rfl
  have c12 := hb.cell (i := 12) rfl
  have z7 := hb.frozen 7
  have z9 := hb.frozen 9
  have z10 := hb.frozen 10
  have z11 := hb.frozen 11
  have z12 := hb.frozen 12
  have lo := hb.lt
  have lw := hB.lt
  have hlen : (ys.length : Int) ≤ S.sq := by rcases getI_none hv with c | c <;> omega
  have H := Lib.hid (And.intro hb hB)
  clear h hb hB hl hv
  go_enter Try.func17, Try.ntmps17
  go_wp2
  go_end0
  obtain ⟨hb, hB⟩ := H.out
  exact ⟨rfl, ⟨x.s, (hb.put 11 (.int .i64 3)).to (by show _ = rfx S _ tr (x.line + 1) _ _ _ _ _; rw [Hl.out]; rfl), fun c => absurd rfl c⟩, hB.setFar hne' _, (Upd.refl _ w).setCell (.inl (.inl rfl)) _⟩
set_option maxRecDepth 100000 in
set_option maxHeartbeats 1000000 in
theorem rstep_give_out (h : RfAt w o S a ws cap tr x) (hB : Row w wb ys) (hne : o ≠ wb) (hh : x.how = 0) (hl : x.line = 3) (hv : getI ys S.sq = none) (q0 : 0 ≤ S.sq) :
    Calls Try.prog 17 #[.pointer (some ⟨o, 0, none⟩), .slice (some ⟨wb, 0, none⟩) ys.length ys.length] w (RPost o wb S a ws cap tr ({ x with how := 3 }, ys, 0) w) := by
  have hb := h.busy hh
  rw [hl] at hb
  have Hl := Lib.hid hl
  have hne' := hne.symm
  have c1 := hb.cell (i := 1) rfl
  have c7 := hb.cell (i := 7) rfl
  have c9 := hb.cell (i := 9) rfl
  have c10 := hb.cell (i := 10) rfl
  have c11 := hb.cell (i := 11) rfl
  have c12 := hb.cell (i := 12) rfl
  have z7 := hb.frozen 7
  have z9 := hb.frozen 9
  have z10 := hb.frozen 10
  have z11 := hb.frozen 11
  have z12 := hb.frozen 12
  have lo := hb.lt
  have lw := hB.lt
  have hlen : (ys.length : Int) ≤ S.sq := by rcases getI_none hv with c | c <;> omega
  have H := Lib.hid (And.intro hb hB)
  clear h hb hB hl hv
  go_enter Try.func17, Try.ntmps17
  go_wp2
  go_end0
  obtain ⟨hb, hB⟩ := H.out
  exact ⟨rfl, ⟨x.s, (hb.put 11 (.int .i64 3)).to (by show _ = rfx S _ tr (x.line + 1) _ _ _ _ _; rw [Hl.out]; rfl), fun c => absurd rfl c⟩, hB.setFar hne' _, (Upd.refl _ w).setCell (.inl (.inl rfl)) _⟩
set_option maxRecDepth 100000 in
set_option maxHeartbeats 1000000 in
theorem rstep_look_even (h : RfAt w o S a ws cap tr x) (hB : Row w wb ys) (hne : o ≠ wb) (hh : x.how = 0) (hl : x.line = 0) (v : Int) (hv : getI ys S.sq = some v) (he : ¬ v % 2 = 1) (u0 : 0 ≤ v) (q0 : 0 ≤ S.sq) (p0 : 0 ≤ x.steps) (p1 : x.steps ≤ 1000000)  :
    Calls Try.prog 17 #[.pointer (some ⟨o, 0, none⟩), .slice (some ⟨wb, 0, none⟩) ys.length ys.length] w (RPost o wb S a ws cap tr ({ x with s := v, line := 1, steps := x.steps + 1 }, ys, 1) w) := by
  have hb := h.busy hh
  rw [hl] at hb
  have hne' := hne.symm
  have c1 := hb.cell (i := 1) rfl
  have c7 := hb.cell (i := 7) rfl
  have c9 := hb.cell (i := 9) rfl
  have c10 := hb.cell (i := 10) rfl
  have c11 := hb.cell (i := 11) rfl
  have c12 := hb.cell (i := 12) rfl
  have z7 := hb.frozen 7
  have z9 := hb.frozen 9
  have z10 := hb.frozen 10
  have z11 := hb.frozen 11
  have z12 := hb.frozen 12
  have lo := hb.lt
  have lw := hB.lt
  have Hl := Lib.hid hl
  obtain ⟨_, hv'⟩ := getI_some hv
  have hlt := lt_of_some hv'
  obtain ⟨sn, hsn⟩ := Int.eq_ofNat_of_zero_le q0
  rw [hsn] at c1 hv'
  rw [Int.toNat_natCast] at hv'
  have i1 : (sn : Int) < ys.length := by omega
  have cw := hB.cell hv'
  have zw := hB.frozen sn
  have H := Lib.hid (And.intro hb hB)
  have Hsn := Lib.hid hsn
  clear h hb hB hv hv' hlt q0 hsn
  clear hl
  go_enter Try.func17, Try.ntmps17
  go_wp2
  go_end0
  obtain ⟨hb, hB⟩ := H.out
  exact ⟨rfl, ⟨v, ((hb.put 12 (.int .i64 (x.steps + 1))).put 9 (.int .u64 v)).put 7 (.int .i64 2) |>.to (by show _ = rfx S _ tr _ _ _ _ x.how _; rw [hh]; rfl), fun _ => rfl⟩, ((hB.setFar hne' _).setFar hne' _).setFar hne' _, (((Upd.refl _ w).setCell (.inl (.inl rfl)) _).setCell (.inl (.inl rfl)) _).setCell (.inl (.inl rfl)) _⟩
theorem rf_agn (S : Sp) (sl : Value) (tr s : Int) (x : St) (hh : x.how = 0) (hl : 1 ≤ x.left) :
    rfx S sl tr 1 (tr - x.left + 1) s x.n (if tr ≤ tr - x.left + 1 then 2 else 0) (x.steps + 1) = rfx S sl tr ((agn x).line + 1) (tr - (agn x).left) s (agn x).n (agn x).how (agn x).steps := by
  have e1 : (agn x).how = if tr ≤ tr - x.left + 1 then 2 else 0 := by
    show (if x.left - 1 = 0 then (2 : Int) else x.how) = _
    rw [hh]
    by_cases c : x.left - 1 = 0
    · rw [if_pos c, if_pos (by omega)]
    · rw [if_neg c, if_neg (by omega)]
  rw [e1, show tr - (agn x).left = tr - x.left + 1 by show tr - (x.left - 1) = _; omega]
  rfl
theorem ow2_o (k : Nat) (h : Ow2 o o k) : Ow2 o wb k := .inl (by rcases h with h | h <;> exact h)
set_option maxRecDepth 100000 in
set_option maxHeartbeats 1000000 in
theorem rstep_look_odd (h : RfAt w o S a ws cap tr x) (hB : Row w wb ys) (hne : o ≠ wb) (hh : x.how = 0) (hl : x.line = 0) (v : Int) (hv : getI ys S.sq = some v) (he : v % 2 = 1) (u0 : 0 ≤ v) (f0 : 1 ≤ x.left) (f1 : x.left ≤ tr) (f2 : tr ≤ 16) (q0 : 0 ≤ S.sq) (p0 : 0 ≤ x.steps) (p1 : x.steps ≤ 1000000)  :
    Calls Try.prog 17 #[.pointer (some ⟨o, 0, none⟩), .slice (some ⟨wb, 0, none⟩) ys.length ys.length] w (RPost o wb S a ws cap tr (agn { x with s := v }, ys, 1) w) := by
  have hb := h.busy hh
  rw [hl] at hb
  have hne' := hne.symm
  have c1 := hb.cell (i := 1) rfl
  have c7 := hb.cell (i := 7) rfl
  have c9 := hb.cell (i := 9) rfl
  have c10 := hb.cell (i := 10) rfl
  have c11 := hb.cell (i := 11) rfl
  have c12 := hb.cell (i := 12) rfl
  have z7 := hb.frozen 7
  have z9 := hb.frozen 9
  have z10 := hb.frozen 10
  have z11 := hb.frozen 11
  have z12 := hb.frozen 12
  have lo := hb.lt
  have lw := hB.lt
  obtain ⟨_, hv'⟩ := getI_some hv
  have hlt := lt_of_some hv'
  obtain ⟨sn, hsn⟩ := Int.eq_ofNat_of_zero_le q0
  rw [hsn] at c1 hv'
  rw [Int.toNat_natCast] at hv'
  have i1 : (sn : Int) < ys.length := by omega
  have cw := hB.cell hv'
  have zw := hB.frozen sn
  have H := Lib.hid (And.intro hb hB)
  have Hsn := Lib.hid hsn
  clear h hb hB hv hv' hlt q0 hsn
  have Hbd := Lib.hid (And.intro f0 (And.intro f1 f2))
  have H3 := Lib.hid (And.intro (((H.out.1.put 12 (.int .i64 (x.steps + 1))).put 9 (.int .u64 v)).put 7 (.int .i64 2)) (And.intro (((H.out.2.setFar (p := ⟨o, 12, none⟩) hne' (.int .i64 (x.steps + 1))).setFar (p := ⟨o, 9, none⟩) hne' (.int .u64 v)).setFar (p := ⟨o, 7, none⟩) hne' (.int .i64 2))
    ((((Upd.refl (Ow2 o wb) w).setCell (p := ⟨o, 12, none⟩) (.inl (.inl rfl)) (.int .i64 (x.steps + 1))).setCell (p := ⟨o, 9, none⟩) (.inl (.inl rfl)) (.int .u64 v)).setCell (p := ⟨o, 7, none⟩) (.inl (.inl rfl)) (.int .i64 2))))
  clear hl H f0 f1 f2
  go_enter Try.func17, Try.ntmps17
  go_wp2_with fail
  generalize ((w.setCell ⟨o, 12, none⟩ (.int .i64 (x.steps + 1))).setCell ⟨o, 9, none⟩ (.int .u64 v)).setCell ⟨o, 7, none⟩ (.int .i64 2) = W at H3 ⊢
  have h3 : Blk W o (rfx S (.slice a ws.length cap) tr 2 (tr - x.left) v x.n 0 (x.steps + 1)) := H3.out.1
  have Hag := Lib.hid (again_any h3 (by have := Hbd.out; omega) (by have := Hbd.out; omega))
  clear h3 c1 c7 c9 c10 c11 c12 z7 z9 z10 z11 z12 cw zw lo lw
  refine Hag.out.mono ?_
  rintro e w3 ⟨rfl, h4, hu4⟩
  have H4 := Lib.hid (And.intro h4 hu4)
  clear h4 hu4
  go_wp2
  go_end0
  obtain ⟨h4, hu4⟩ := H4.out
  have nO : ¬ Ow2 o o wb := fun q => by rcases q with q | q <;> exact hne' q
  exact ⟨rfl, ⟨v, h4.to (rf_agn S _ tr v { x with s := v } hh Hbd.out.1), fun _ => rfl⟩, H3.out.2.1.upd hu4 nO, H3.out.2.2.trans (hu4.mono ow2_o)⟩
set_option maxRecDepth 100000 in
set_option maxHeartbeats 1000000 in
theorem rstep_take_miss (h : RfAt w o S a ws cap tr x) (hB : Row w wb ys) (hne : o ≠ wb) (hh : x.how = 0) (hl : x.line = 1) (v : Int) (hv : getI ys S.sq = some v) (he : ¬ v = x.s) (f0 : 1 ≤ x.left) (f1 : x.left ≤ tr) (f2 : tr ≤ 16) (q0 : 0 ≤ S.sq) (p0 : 0 ≤ x.steps) (p1 : x.steps ≤ 1000000)  :
    Calls Try.prog 17 #[.pointer (some ⟨o, 0, none⟩), .slice (some ⟨wb, 0, none⟩) ys.length ys.length] w (RPost o wb S a ws cap tr (agn x, ys, 1) w) := by
  have hb := h.busy hh
  rw [hl] at hb
  have hne' := hne.symm
  have c1 := hb.cell (i := 1) rfl
  have c7 := hb.cell (i := 7) rfl
  have c9 := hb.cell (i := 9) rfl
  have c10 := hb.cell (i := 10) rfl
  have c11 := hb.cell (i := 11) rfl
  have c12 := hb.cell (i := 12) rfl
  have z7 := hb.frozen 7
  have z9 := hb.frozen 9
  have z10 := hb.frozen 10
  have z11 := hb.frozen 11
  have z12 := hb.frozen 12
  have lo := hb.lt
  have lw := hB.lt
  obtain ⟨_, hv'⟩ := getI_some hv
  have hlt := lt_of_some hv'
  obtain ⟨sn, hsn⟩ := Int.eq_ofNat_of_zero_le q0
  rw [hsn] at c1 hv'
  rw [Int.toNat_natCast] at hv'
  have i1 : (sn : Int) < ys.length := by omega
  have cw := hB.cell hv'
  have zw := hB.frozen sn
  have Hv := Lib.hid hv'
  have H := Lib.hid (And.intro hb hB)
  have Hsn := Lib.hid hsn
  clear h hb hB hv hv' hlt q0 hsn
  have Hbd := Lib.hid (And.intro f0 (And.intro f1 f2))
  clear f0 f1 f2
  have H1 := Lib.hid (And.intro (H.out.1.put 12 (.int .i64 (x.steps + 1))) (And.intro (H.out.2.setFar (p := ⟨o, 12, none⟩) hne' (.int .i64 (x.steps + 1)))
    ((Upd.refl (Ow2 o wb) w).setCell (p := ⟨o, 12, none⟩) (.inl (.inl rfl)) (.int .i64 (x.steps + 1)))))
  clear hl H
  go_enter Try.func17, Try.ntmps17
  go_wp2_with fail
  generalize w.setCell ⟨o, 12, none⟩ (.int .i64 (x.steps + 1)) = W at H1 ⊢
  have h3 : Blk W o (rfx S (.slice a ws.length cap) tr 2 (tr - x.left) x.s x.n 0 (x.steps + 1)) := H1.out.1
  have hB1 := H1.out.2.1
  clear c1 c7 c9 c10 c11 c12 z7 z9 z10 z11 z12 cw zw lo lw
  have c9 := h3.cell (i := 9) rfl
  have cw := hB1.cell Hv.out
  have lo := h3.lt
  have lw := hB1.lt
  have H3 := Lib.hid h3
  clear hB1 h3
  have m1 : (v != x.s) = true := by simp [he]
  go_quiet (fail)
  have Hag := Lib.hid (again_any (blkN H3.out nq) (by have := Hbd.out; omega) (by have := Hbd.out; omega))
  clear c9 cw lo lw
  go_wp2_with fail
  refine Hag.out.mono ?_
  rintro e w3 ⟨rfl, h4, hu4⟩
  have H4 := Lib.hid (And.intro h4 hu4)
  clear h4 hu4
  go_wp2
  go_end0
  obtain ⟨h4, hu4⟩ := H4.out
  have nO : ¬ Ow2 o o wb := fun q => by rcases q with q | q <;> exact hne' q
  exact ⟨rfl, ⟨x.s, h4.to (rf_agn S _ tr x.s x hh Hbd.out.1), fun _ => rfl⟩, Row.upd (w := W.drewN nq) H1.out.2.1 hu4 nO, (H1.out.2.2.drewN nq).trans (hu4.mono ow2_o)⟩
set_option maxRecDepth 100000 in
set_option maxHeartbeats 1000000 in
theorem rstep_take_hit (h : RfAt w o S a ws cap tr x) (hB : Row w wb ys) (hne : o ≠ wb) (hh : x.how = 0) (hl : x.line = 1) (hn0 : x.n = 0) (hv : getI ys S.sq = some x.s) (q0 : 0 ≤ S.sq) (p0 : 0 ≤ x.steps) (p1 : x.steps ≤ 1000000)  :
    Calls Try.prog 17 #[.pointer (some ⟨o, 0, none⟩), .slice (some ⟨wb, 0, none⟩) ys.length ys.length] w (RPost o wb S a ws cap tr ({ x with line := 2, steps := x.steps + 1 }, ys.set S.sq.toNat (addw x.s 1), 1) w) := by
  have hb := h.busy hh
  rw [hl] at hb
  have hne' := hne.symm
  have c1 := hb.cell (i := 1) rfl
  have c7 := hb.cell (i := 7) rfl
  have c9 := hb.cell (i := 9) rfl
  have c10 := hb.cell (i := 10) rfl
  have c11 := hb.cell (i := 11) rfl
  have c12 := hb.cell (i := 12) rfl
  have z7 := hb.frozen 7
  have z9 := hb.frozen 9
  have z10 := hb.frozen 10
  have z11 := hb.frozen 11
  have z12 := hb.frozen 12
  have lo := hb.lt
  have lw := hB.lt
  obtain ⟨_, hv'⟩ := getI_some hv
  have hlt := lt_of_some hv'
  obtain ⟨sn, hsn⟩ := Int.eq_ofNat_of_zero_le q0
  rw [hsn] at c1 hv'
  rw [Int.toNat_natCast] at hv'
  have i1 : (sn : Int) < ys.length := by omega
  have cw := hB.cell hv'
  have zw := hB.frozen sn
  have Hv := Lib.hid hv'
  have H := Lib.hid (And.intro hb hB)
  have Hsn := Lib.hid hsn
  clear h hb hB hv hv' hlt q0 hsn
  have H1 := Lib.hid (And.intro (H.out.1.put 12 (.int .i64 (x.steps + 1))) (And.intro (H.out.2.setFar (p := ⟨o, 12, none⟩) hne' (.int .i64 (x.steps + 1)))
    ((Upd.refl (Ow2 o wb) w).setCell (p := ⟨o, 12, none⟩) (.inl (.inl rfl)) (.int .i64 (x.steps + 1)))))
  clear hl H
  go_enter Try.func17, Try.ntmps17
  go_wp2_with fail
  generalize w.setCell ⟨o, 12, none⟩ (.int .i64 (x.steps + 1)) = W at H1 ⊢
  have h3 : Blk W o (rfx S (.slice a ws.length cap) tr 2 (tr - x.left) x.s x.n 0 (x.steps + 1)) := H1.out.1
  have hB1 := H1.out.2.1
  clear c1 c7 c9 c10 c11 c12 z7 z9 z10 z11 z12 cw zw lo lw
  have c9 := h3.cell (i := 9) rfl
  have cw := hB1.cell Hv.out
  have lo := h3.lt
  have lw := hB1.lt
  have c7 := h3.cell (i := 7) rfl
  have c10 := h3.cell (i := 10) rfl
  have z7 := h3.frozen 7
  have z10 := h3.frozen 10
  have zw := hB1.frozen sn
  have H3 := Lib.hid h3
  clear hB1 h3
  have m1 : (x.s != x.s) = false := by simp
  go_quiet (fail)
  have y7 : (W.drewN nq).frozen? ⟨o, 7, none⟩ = false := z7
  have y10 : (W.drewN nq).frozen? ⟨o, 10, none⟩ = false := z10
  have yw : (W.drewN nq).frozen? ⟨wb, sn, none⟩ = false := zw
  go_wp2
  go_end0
  have hr : Row ((W.drewN nq).setCell ⟨wb, sn, none⟩ (.int .u64 (addw x.s 1))) wb (ys.set sn (addw x.s 1)) := Row.put (w := W.drewN nq) H1.out.2.1 sn _
  refine ⟨rfl, ⟨x.s, ((((blkN H3.out nq).setFar (p := ⟨wb, sn, none⟩) hne _).put 7 (.int .i64 3)).put 10 (.int .i64 0)).to (by show _ = rfx S _ tr _ _ _ x.n x.how _; rw [hh, hn0]; rfl), fun _ => rfl⟩, ?_, ((((H1.out.2.2.drewN nq).setCell (.inl (.inr rfl)) _).setCell (.inl (.inl rfl)) _).setCell (.inl (.inl rfl)) _)⟩
  rw [Hsn.out, Int.toNat_natCast]
  exact (hr.setFar hne' _).setFar hne' _
set_option maxRecDepth 100000 in
set_option maxHeartbeats 1000000 in
theorem rstep_give_in (h : RfAt w o S a ws cap tr x) (hB : Row w wb ys) (hne : o ≠ wb) (hh : x.how = 0) (hl : x.line = 3) (v : Int) (hv : getI ys S.sq = some v) (q0 : 0 ≤ S.sq) (p0 : 0 ≤ x.steps) (p1 : x.steps ≤ 1000000)  :
    Calls Try.prog 17 #[.pointer (some ⟨o, 0, none⟩), .slice (some ⟨wb, 0, none⟩) ys.length ys.length] w (RPost o wb S a ws cap tr ({ x with how := 1, steps := x.steps + 1 }, ys.set S.sq.toNat (addw x.s 2), 1) w) := by
  have hb := h.busy hh
  rw [hl] at hb
  have hne' := hne.symm
  have c1 := hb.cell (i := 1) rfl
  have c7 := hb.cell (i := 7) rfl
  have c9 := hb.cell (i := 9) rfl
  have c10 := hb.cell (i := 10) rfl
  have c11 := hb.cell (i := 11) rfl
  have c12 := hb.cell (i := 12) rfl
  have z7 := hb.frozen 7
  have z9 := hb.frozen 9
  have z10 := hb.frozen 10
  have z11 := hb.frozen 11
  have z12 := hb.frozen 12
  have lo := hb.lt
  have lw := hB.lt
  have Hl := Lib.hid hl
  obtain ⟨_, hv'⟩ := getI_some hv
  have hlt := lt_of_some hv'
  obtain ⟨sn, hsn⟩ := Int.eq_ofNat_of_zero_le q0
  rw [hsn] at c1 hv'
  rw [Int.toNat_natCast] at hv'
  have i1 : (sn : Int) < ys.length := by omega
  have cw := hB.cell hv'
  have zw := hB.frozen sn
  have H := Lib.hid (And.intro hb hB)
  have Hsn := Lib.hid hsn
  clear h hb hB hv hv' hlt q0 hsn
  clear hl
  go_enter Try.func17, Try.ntmps17
  go_wp2
  go_end0
  obtain ⟨hb, hB⟩ := H.out
  have hr : Row ((w.setCell ⟨o, 12, none⟩ (.int .i64 (x.steps + 1))).setCell ⟨wb, sn, none⟩ (.int .u64 (addw x.s 2))) wb (ys.set sn (addw x.s 2)) := Row.put (hB.setFar hne' _) sn _
  refine ⟨rfl, ⟨x.s, (((hb.put 12 (.int .i64 (x.steps + 1))).setFar (p := ⟨wb, sn, none⟩) hne _).put 11 (.int .i64 1)).to (by show _ = rfx S _ tr (x.line + 1) _ _ _ _ _; rw [Hl.out]; rfl), fun _ => rfl⟩, ?_, (((Upd.refl _ w).setCell (.inl (.inl rfl)) _).setCell (.inl (.inr rfl)) _).setCell (.inl (.inl rfl)) _⟩
  rw [Hsn.out, Int.toNat_natCast]
  exact hr.setFar hne' _
end
end Go.Proofs.Ytbfelghfimcenaa
