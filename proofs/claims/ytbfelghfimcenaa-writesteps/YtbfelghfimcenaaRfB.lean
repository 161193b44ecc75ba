/- The document's publishing: a step that lays a word. -/
import Derived.Test.YtbfelghfimcenaaRfA
import Derived.Test.YtbfelghfimcenaaNewO
namespace Go.Proofs.Ytbfelghfimcenaa
open Go.RowKit
def RB (o : Nat) (vs : List Value) (w : World) : Prop := Blk w o vs
def RC (o : Nat) (vs : List Value) (p : Addr) (v : Value) (w : World) : Prop := Blk w o vs ∧ w.cell? p = some v
theorem quo2 {s : Int} (h : 0 ≤ s) : Int.tdiv s 2 = s / 2 := Int.tdiv_eq_ediv_of_nonneg h
section
variable {w : World} {n₀ o wb : Nat} {S : Sp} {a : Option Addr} {ws ys : List Int} {cap : Nat} {tr : Int} {x : St}
set_option maxRecDepth 100000 in
set_option maxHeartbeats 2000000 in
theorem rstep_lay_out (h : RfAt w o S a ws cap tr x) (hB : Row w wb ys) (hne : o ≠ wb) (hh : x.how = 0) (hW : Wds n₀ w a ws) (ho : n₀ ≤ o) (_hw : n₀ ≤ wb) (hwf : Wf S ws x) (hl : x.line = 2) (hv : getI ys (lie S x) = none) :
    Calls Try.prog 17 #[.pointer (some ⟨o, 0, none⟩), .slice (some ⟨wb, 0, none⟩) ys.length ys.length] w (RPost o wb S a ws cap tr ({ x with how := 3 }, ys, 0) w) := by
  have hb := h.busy hh
  have Hl := Lib.hid hl
  rw [hl] at hb
  have hne' := hne.symm
  obtain ⟨ok, A0, A1⟩ := lie_bd hwf
  obtain ⟨s0, s1⟩ := hwf.s
  have n0 := hwf.n0
  have n1 := hwf.n1
  have nl := hwf.nl hl
  obtain ⟨nn, hnn⟩ := Int.eq_ofNat_of_zero_le n0
  have Hrat := Lib.hid (fun W => rat_any S.ow S.sq S.fs S.wd S.dp (x.s / 2 + 1) W (by omega) (by omega))
  have hlie : lie S x = atv S.fs S.wd S.dp (x.s / 2 + 1) + nn := by unfold lie; rw [hnn]
  generalize atv S.fs S.wd S.dp (x.s / 2 + 1) = A at *
  have hww : IntKind.i64.wrap (A + (nn : Int)) = lie S x := by rw [hlie, IntKind.wrap_i64]; omega
  have hq := quo2 s0
  have hq2 : IntKind.u64.wrap (x.s / 2) = x.s / 2 := by rw [IntKind.wrap_u64]; omega
  have hqq : IntKind.u64.wrap (x.s / 2 + 1) = x.s / 2 + 1 := by rw [IntKind.wrap_u64]; omega
  have c1 := hb.cell (i := 1) rfl
  have c7 := hb.cell (i := 7) rfl
  have c11 := hb.cell (i := 11) rfl
  have lo := hb.lt
  rw [hnn] at hb
  have HD : Hid (RB o (rfx S (.slice a ws.length cap) tr 3 (tr - x.left) x.s nn 0 x.steps) w.drew ∧ Row w.drew wb ys ∧ Upd (Ow2 o wb) w w.drew ∧ Wds n₀ w.drew a ws ∧ n₀ ≤ w.drew.heap.size) := Lib.hid ⟨hb, hB, (Upd.refl _ w).drew, hW.keep (belN (Below.refl _ _) 1), by have := hb.lt; show n₀ ≤ w.heap.size; omega⟩
  have hlen : (ys.length : Int) ≤ lie S x := by rcases getI_none hv with c | c <;> omega
  have hl0 : 0 ≤ lie S x := by omega
  clear hlie hv
  have Hn := Lib.hid hnn
  clear h hb hB hW hnn hl ok A0 A1 n0
  go_enter Try.func17, Try.ntmps17
  go_wp2_with fail
  refine wp_region_held_drew (S := RB o (rfx S (.slice a ws.length cap) tr 3 (tr - x.left) x.s nn 0 x.steps)) (by kernel_rfl) (HD.out.1) (fun hHeld => ?_)
  refine wpAnyH_take (i := 0) (v := ?v1) rfl (by kernel_rfl) (by kernel_rfl) (by kernel_rfl) (fun _ _ _ h => h) (Or.inl ⟨by rfl, ?y1⟩) hHeld ?r1
  case y1 => (intro w hSw; have y0 := Blk.cell (i := 0) hSw rfl; have y1 := Blk.cell (i := 1) hSw rfl; have y2 := Blk.cell (i := 2) hSw rfl; have y3 := Blk.cell (i := 3) hSw rfl; have y4 := Blk.cell (i := 4) hSw rfl; have y9 := Blk.cell (i := 9) hSw rfl; have y10 := Blk.cell (i := 10) hSw rfl; have yl := Blk.lt hSw; go_simp; try with_reducible rfl)
  simp only [List.getElem_toArray, List.getElem_cons_zero, Act.put, List.setIfInBounds_toArray, List.set_cons_zero, List.set_cons_succ]
  refine wpAnyH_take (i := 1) (v := ?v2) rfl (by kernel_rfl) (by kernel_rfl) (by kernel_rfl) (fun _ _ _ h => h) (Or.inl ⟨by rfl, ?y2⟩) hHeld ?r2
  case y2 => (intro w hSw; have y0 := Blk.cell (i := 0) hSw rfl; have y1 := Blk.cell (i := 1) hSw rfl; have y2 := Blk.cell (i := 2) hSw rfl; have y3 := Blk.cell (i := 3) hSw rfl; have y4 := Blk.cell (i := 4) hSw rfl; have y9 := Blk.cell (i := 9) hSw rfl; have y10 := Blk.cell (i := 10) hSw rfl; have yl := Blk.lt hSw; go_simp; try with_reducible rfl)
  simp only [List.getElem_toArray, List.getElem_cons_zero, List.getElem_cons_succ, Act.put, List.setIfInBounds_toArray, List.set_cons_zero, List.set_cons_succ]
  refine wpAnyH_take (i := 2) (v := ?v3) rfl (by kernel_rfl) (by kernel_rfl) (by kernel_rfl) (fun _ _ _ h => h) (Or.inl ⟨by rfl, ?y3⟩) hHeld ?r3
  case y3 => (intro w hSw; have y0 := Blk.cell (i := 0) hSw rfl; have y1 := Blk.cell (i := 1) hSw rfl; have y2 := Blk.cell (i := 2) hSw rfl; have y3 := Blk.cell (i := 3) hSw rfl; have y4 := Blk.cell (i := 4) hSw rfl; have y9 := Blk.cell (i := 9) hSw rfl; have y10 := Blk.cell (i := 10) hSw rfl; have yl := Blk.lt hSw; go_simp; try with_reducible rfl)
  simp only [List.getElem_toArray, List.getElem_cons_zero, List.getElem_cons_succ, Act.put, List.setIfInBounds_toArray, List.set_cons_zero, List.set_cons_succ]
  refine wpAnyH_take (i := 3) (v := ?v4) rfl (by kernel_rfl) (by kernel_rfl) (by kernel_rfl) (fun _ _ _ h => h) (Or.inl ⟨by rfl, ?y4⟩) hHeld ?r4
  case y4 => (intro w hSw; have y0 := Blk.cell (i := 0) hSw rfl; have y1 := Blk.cell (i := 1) hSw rfl; have y2 := Blk.cell (i := 2) hSw rfl; have y3 := Blk.cell (i := 3) hSw rfl; have y4 := Blk.cell (i := 4) hSw rfl; have y9 := Blk.cell (i := 9) hSw rfl; have y10 := Blk.cell (i := 10) hSw rfl; have yl := Blk.lt hSw; go_simp; try with_reducible rfl)
  simp only [List.getElem_toArray, List.getElem_cons_zero, List.getElem_cons_succ, Act.put, List.setIfInBounds_toArray, List.set_cons_zero, List.set_cons_succ]
  refine wpAnyH_take (i := 4) (v := ?v5) rfl (by kernel_rfl) (by kernel_rfl) (by kernel_rfl) (fun _ _ _ h => h) (Or.inl ⟨by rfl, ?y5⟩) hHeld ?r5
  case y5 => (intro w hSw; have y0 := Blk.cell (i := 0) hSw rfl; have y1 := Blk.cell (i := 1) hSw rfl; have y2 := Blk.cell (i := 2) hSw rfl; have y3 := Blk.cell (i := 3) hSw rfl; have y4 := Blk.cell (i := 4) hSw rfl; have y9 := Blk.cell (i := 9) hSw rfl; have y10 := Blk.cell (i := 10) hSw rfl; have yl := Blk.lt hSw; go_simp; try with_reducible rfl)
  simp only [List.getElem_toArray, List.getElem_cons_zero, List.getElem_cons_succ, Act.put, List.setIfInBounds_toArray, List.set_cons_zero, List.set_cons_succ]
  refine wpAnyH_take (i := 5) (v := ?v6) rfl (by kernel_rfl) (by kernel_rfl) (by kernel_rfl) (fun _ _ _ h => h) (Or.inl ⟨by rfl, ?y6⟩) hHeld ?r6
  case y6 => (intro w hSw; have y0 := Blk.cell (i := 0) hSw rfl; have y1 := Blk.cell (i := 1) hSw rfl; have y2 := Blk.cell (i := 2) hSw rfl; have y3 := Blk.cell (i := 3) hSw rfl; have y4 := Blk.cell (i := 4) hSw rfl; have y9 := Blk.cell (i := 9) hSw rfl; have y10 := Blk.cell (i := 10) hSw rfl; have yl := Blk.lt hSw; go_simp; try with_reducible rfl)
  simp only [List.getElem_toArray, List.getElem_cons_zero, List.getElem_cons_succ, Act.put, List.setIfInBounds_toArray, List.set_cons_zero, List.set_cons_succ]
  refine wpAnyH_take (i := 6) (v := ?v7) rfl (by kernel_rfl) (by kernel_rfl) (by kernel_rfl) (fun _ _ _ h => h) (Or.inl ⟨by rfl, ?y7⟩) hHeld ?r7
  case y7 => (intro w hSw; have y0 := Blk.cell (i := 0) hSw rfl; have y1 := Blk.cell (i := 1) hSw rfl; have y2 := Blk.cell (i := 2) hSw rfl; have y3 := Blk.cell (i := 3) hSw rfl; have y4 := Blk.cell (i := 4) hSw rfl; have y9 := Blk.cell (i := 9) hSw rfl; have y10 := Blk.cell (i := 10) hSw rfl; have yl := Blk.lt hSw; go_simp; try with_reducible rfl)
  simp only [List.getElem_toArray, List.getElem_cons_zero, List.getElem_cons_succ, Act.put, List.setIfInBounds_toArray, List.set_cons_zero, List.set_cons_succ]
  refine wpAnyH_take (i := 7) (v := ?v8) rfl (by kernel_rfl) (by kernel_rfl) (by kernel_rfl) (fun _ _ _ h => h) (Or.inl ⟨by rfl, ?y8⟩) hHeld ?r8
  case y8 => (intro w hSw; have y0 := Blk.cell (i := 0) hSw rfl; have y1 := Blk.cell (i := 1) hSw rfl; have y2 := Blk.cell (i := 2) hSw rfl; have y3 := Blk.cell (i := 3) hSw rfl; have y4 := Blk.cell (i := 4) hSw rfl; have y9 := Blk.cell (i := 9) hSw rfl; have y10 := Blk.cell (i := 10) hSw rfl; have yl := Blk.lt hSw; go_simp; try with_reducible rfl)
  simp only [List.getElem_toArray, List.getElem_cons_zero, List.getElem_cons_succ, Act.put, List.setIfInBounds_toArray, List.set_cons_zero, List.set_cons_succ]
  refine wpAnyH_take (i := 8) (v := .int .u64 (x.s / 2)) rfl (by kernel_rfl) (by kernel_rfl) (by kernel_rfl) (fun _ _ _ h => h) (Or.inl ⟨by rfl, ?y9⟩) hHeld ?r9
  case y9 => (intro w hSw; have y0 := Blk.cell (i := 0) hSw rfl; have y1 := Blk.cell (i := 1) hSw rfl; have y2 := Blk.cell (i := 2) hSw rfl; have y3 := Blk.cell (i := 3) hSw rfl; have y4 := Blk.cell (i := 4) hSw rfl; have y9 := Blk.cell (i := 9) hSw rfl; have y10 := Blk.cell (i := 10) hSw rfl; have yl := Blk.lt hSw; go_simp; try with_reducible rfl)
  simp only [List.getElem_toArray, List.getElem_cons_zero, List.getElem_cons_succ, Act.put, List.setIfInBounds_toArray, List.set_cons_zero, List.set_cons_succ]
  refine wpAnyH_take (i := 9) (v := .int .u64 (x.s / 2 + 1)) rfl (by kernel_rfl) (by kernel_rfl) (by kernel_rfl) (fun _ _ _ h => h) (Or.inl ⟨by rfl, ?y10⟩) hHeld ?r10
  case y10 => (intro w hSw; have y0 := Blk.cell (i := 0) hSw rfl; have y1 := Blk.cell (i := 1) hSw rfl; have y2 := Blk.cell (i := 2) hSw rfl; have y3 := Blk.cell (i := 3) hSw rfl; have y4 := Blk.cell (i := 4) hSw rfl; have y9 := Blk.cell (i := 9) hSw rfl; have y10 := Blk.cell (i := 10) hSw rfl; have yl := Blk.lt hSw; go_simp; try with_reducible rfl)
  simp only [List.getElem_toArray, List.getElem_cons_zero, List.getElem_cons_succ, Act.put, List.setIfInBounds_toArray, List.set_cons_zero, List.set_cons_succ]
  refine wpAnyH_take (i := 11) (v := ?v11) rfl (by kernel_rfl) (by kernel_rfl) (by kernel_rfl) (fun _ _ _ h => h) (Or.inl ⟨by rfl, ?y11⟩) hHeld ?r11
  case y11 => (intro w hSw; have y0 := Blk.cell (i := 0) hSw rfl; have y1 := Blk.cell (i := 1) hSw rfl; have y2 := Blk.cell (i := 2) hSw rfl; have y3 := Blk.cell (i := 3) hSw rfl; have y4 := Blk.cell (i := 4) hSw rfl; have y9 := Blk.cell (i := 9) hSw rfl; have y10 := Blk.cell (i := 10) hSw rfl; have yl := Blk.lt hSw; go_simp; try with_reducible rfl)
  simp only [List.getElem_toArray, List.getElem_cons_zero, List.getElem_cons_succ, Act.put, List.setIfInBounds_toArray, List.set_cons_zero, List.set_cons_succ]
  refine wpAnyH_take (i := 12) (v := ?v12) rfl (by kernel_rfl) (by kernel_rfl) (by kernel_rfl) (fun _ _ _ h => h) (Or.inl ⟨by rfl, ?y12⟩) hHeld ?r12
  case y12 => (intro w hSw; have y0 := Blk.cell (i := 0) hSw rfl; have y1 := Blk.cell (i := 1) hSw rfl; have y2 := Blk.cell (i := 2) hSw rfl; have y3 := Blk.cell (i := 3) hSw rfl; have y4 := Blk.cell (i := 4) hSw rfl; have y9 := Blk.cell (i := 9) hSw rfl; have y10 := Blk.cell (i := 10) hSw rfl; have yl := Blk.lt hSw; go_simp; try with_reducible rfl)
  simp only [List.getElem_toArray, List.getElem_cons_zero, List.getElem_cons_succ, Act.put, List.setIfInBounds_toArray, List.set_cons_zero, List.set_cons_succ]
  refine wpAnyH_take (i := 13) (v := ?v13) rfl (by kernel_rfl) (by kernel_rfl) (by kernel_rfl) (fun _ _ _ h => h) (Or.inl ⟨by rfl, ?y13⟩) hHeld ?r13
  case y13 => (intro w hSw; have y0 := Blk.cell (i := 0) hSw rfl; have y1 := Blk.cell (i := 1) hSw rfl; have y2 := Blk.cell (i := 2) hSw rfl; have y3 := Blk.cell (i := 3) hSw rfl; have y4 := Blk.cell (i := 4) hSw rfl; have y9 := Blk.cell (i := 9) hSw rfl; have y10 := Blk.cell (i := 10) hSw rfl; have yl := Blk.lt hSw; go_simp; try with_reducible rfl)
  simp only [List.getElem_toArray, List.getElem_cons_zero, List.getElem_cons_succ, Act.put, List.setIfInBounds_toArray, List.set_cons_zero, List.set_cons_succ]
  refine wpAnyH_take (i := 14) (v := ?v14) rfl (by kernel_rfl) (by kernel_rfl) (by kernel_rfl) (fun _ _ _ h => h) (Or.inl ⟨by rfl, ?y14⟩) hHeld ?r14
  case y14 => (intro w hSw; have y0 := Blk.cell (i := 0) hSw rfl; have y1 := Blk.cell (i := 1) hSw rfl; have y2 := Blk.cell (i := 2) hSw rfl; have y3 := Blk.cell (i := 3) hSw rfl; have y4 := Blk.cell (i := 4) hSw rfl; have y9 := Blk.cell (i := 9) hSw rfl; have y10 := Blk.cell (i := 10) hSw rfl; have yl := Blk.lt hSw; go_simp; try with_reducible rfl)
  simp only [List.getElem_toArray, List.getElem_cons_zero, List.getElem_cons_succ, Act.put, List.setIfInBounds_toArray, List.set_cons_zero, List.set_cons_succ]
  refine wpAnyH_ready (rs := [10]) (by kernel_rfl) (by simp) (AllReadyH.cons rfl (fun K hK => ?_) AllReadyH.nil)
  go_simp
  refine (Hrat.out _).mono ?_
  rintro e V1 ⟨rfl, hu1⟩
  have HV : Hid (RB o (rfx S (.slice a ws.length cap) tr 3 (tr - x.left) x.s nn 0 x.steps) V1 ∧ Row V1 wb ys ∧ Upd (Ow2 o wb) w V1 ∧ Wds n₀ V1 a ws) := Lib.hid ⟨Blk.low HD.out.1 hu1, HD.out.2.1.below hu1, HD.out.2.2.1.trans (Upd.of_below _ hu1), HD.out.2.2.2.1.keep (hu1.mono HD.out.2.2.2.2)⟩
  clear hu1
  go_wp2_with fail
  refine hK.out _ _ (HV.out.1) (fun hHeld => ?_)
  clear hK K
  refine wpAnyH_take (i := 15) (v := .int .i64 (lie S x)) rfl (by kernel_rfl) (by kernel_rfl) (by kernel_rfl) (fun _ _ _ h => h) (Or.inl ⟨by rfl, ?y16⟩) hHeld ?r16
  case y16 => (intro w hSw; have y0 := Blk.cell (i := 0) hSw rfl; have y1 := Blk.cell (i := 1) hSw rfl; have y2 := Blk.cell (i := 2) hSw rfl; have y3 := Blk.cell (i := 3) hSw rfl; have y4 := Blk.cell (i := 4) hSw rfl; have y9 := Blk.cell (i := 9) hSw rfl; have y10 := Blk.cell (i := 10) hSw rfl; have yl := Blk.lt hSw; go_simp; try with_reducible rfl)
  simp only [List.getElem_toArray, List.getElem_cons_zero, List.getElem_cons_succ, Act.put, List.setIfInBounds_toArray, List.set_cons_zero, List.set_cons_succ]
  refine wpAnyH_take (i := 16) (v := ?v17) rfl (by kernel_rfl) (by kernel_rfl) (by kernel_rfl) (fun _ _ _ h => h) (Or.inl ⟨by rfl, ?y17⟩) hHeld ?r17
  case y17 => (intro w hSw; have y0 := Blk.cell (i := 0) hSw rfl; have y1 := Blk.cell (i := 1) hSw rfl; have y2 := Blk.cell (i := 2) hSw rfl; have y3 := Blk.cell (i := 3) hSw rfl; have y4 := Blk.cell (i := 4) hSw rfl; have y9 := Blk.cell (i := 9) hSw rfl; have y10 := Blk.cell (i := 10) hSw rfl; have yl := Blk.lt hSw; go_simp; try with_reducible rfl)
  simp only [List.getElem_toArray, List.getElem_cons_zero, List.getElem_cons_succ, Act.put, List.setIfInBounds_toArray, List.set_cons_zero, List.set_cons_succ]
  refine wpAnyH_done (by kernel_rfl) ?_ _
  clear hHeld HD c1 c7 c11 lo Hrat hww hq hq2 hqq
  have c11 := Blk.cell (i := 11) HV.out.1 rfl
  have z11 := Blk.frozen HV.out.1 11
  have lo := Blk.lt HV.out.1
  generalize lie S x = L at *
  go_wp2
  go_end0
  exact ⟨rfl, ⟨x.s, (Blk.put HV.out.1 11 (.int .i64 3)).to (by show _ = rfx S _ tr (x.line + 1) _ _ x.n _ _; rw [Hl.out, Hn.out]; rfl), fun c => absurd rfl c⟩, HV.out.2.1.setFar hne' _, HV.out.2.2.1.setCell (.inl (.inl rfl)) _⟩
set_option maxRecDepth 100000 in
set_option maxHeartbeats 2000000 in
theorem rstep_lay_mid (h : RfAt w o S a ws cap tr x) (hB : Row w wb ys) (hne : o ≠ wb) (hh : x.how = 0) (hW : Wds n₀ w a ws) (ho : n₀ ≤ o) (_hw : n₀ ≤ wb) (hwf : Wf S ws x) (hl : x.line = 2) (v : Int) (hv : getI ys (lie S x) = some v) (he : ¬ x.n + 1 = ws.length) (p0 : 0 ≤ x.steps) (p1 : x.steps ≤ 1000000) :
    Calls Try.prog 17 #[.pointer (some ⟨o, 0, none⟩), .slice (some ⟨wb, 0, none⟩) ys.length ys.length] w (RPost o wb S a ws cap tr ({ x with n := x.n + 1, line := 2, steps := x.steps + 1 }, ys.set (lie S x).toNat (ws.getD x.n.toNat 0), 1) w) := by
  have hb := h.busy hh
  have Hl := Lib.hid hl
  rw [hl] at hb
  have hne' := hne.symm
  obtain ⟨ok, A0, A1⟩ := lie_bd hwf
  obtain ⟨s0, s1⟩ := hwf.s
  have n0 := hwf.n0
  have n1 := hwf.n1
  have nl := hwf.nl hl
  obtain ⟨nn, hnn⟩ := Int.eq_ofNat_of_zero_le n0
  have Hrat := Lib.hid (fun W => rat_any S.ow S.sq S.fs S.wd S.dp (x.s / 2 + 1) W (by omega) (by omega))
  have hlie : lie S x = atv S.fs S.wd S.dp (x.s / 2 + 1) + nn := by unfold lie; rw [hnn]
  generalize atv S.fs S.wd S.dp (x.s / 2 + 1) = A at *
  have hww : IntKind.i64.wrap (A + (nn : Int)) = lie S x := by rw [hlie, IntKind.wrap_i64]; omega
  have hq := quo2 s0
  have hq2 : IntKind.u64.wrap (x.s / 2) = x.s / 2 := by rw [IntKind.wrap_u64]; omega
  have hqq : IntKind.u64.wrap (x.s / 2 + 1) = x.s / 2 + 1 := by rw [IntKind.wrap_u64]; omega
  have c1 := hb.cell (i := 1) rfl
  have c7 := hb.cell (i := 7) rfl
  have c11 := hb.cell (i := 11) rfl
  have lo := hb.lt
  rw [hnn] at hb
  have HD : Hid (RB o (rfx S (.slice a ws.length cap) tr 3 (tr - x.left) x.s nn 0 x.steps) w.drew ∧ Row w.drew wb ys ∧ Upd (Ow2 o wb) w w.drew ∧ Wds n₀ w.drew a ws ∧ n₀ ≤ w.drew.heap.size) := Lib.hid ⟨hb, hB, (Upd.refl _ w).drew, hW.keep (belN (Below.refl _ _) 1), by have := hb.lt; show n₀ ≤ w.heap.size; omega⟩
  obtain ⟨_, hv'⟩ := getI_some hv
  have hlt := lt_of_some hv'
  obtain ⟨ln, hln⟩ := Int.eq_ofNat_of_zero_le (show 0 ≤ lie S x by omega)
  rw [hln, Int.toNat_natCast] at hv' hlt
  have i1 : (ln : Int) < ys.length := by omega
  have i2 : (nn : Int) < ws.length := by omega
  have hwj : ws[nn]? = some (ws[nn]'(by omega)) := List.getElem?_eq_getElem _
  have hgd : ws.getD x.n.toNat 0 = ws[nn]'(by omega) := by
    rw [hnn, Int.toNat_natCast, List.getD_eq_getElem?_getD, hwj]
    rfl
  generalize ws[nn]'(by omega) = wv at *
  obtain ⟨uw, rb, roff, rfl, rlt, _⟩ := hW nn _ hwj
  have Hx := Lib.hid (And.intro hv' (And.intro hwj (And.intro hgd hln)))
  have hrb : rb ≠ o ∧ rb ≠ wb := by omega
  obtain ⟨hr1, hr2⟩ := hrb
  rw [hln] at hww
  clear hlie hv hv' hwj hgd hlt uw rlt hln
  have Hn := Lib.hid hnn
  clear h hb hB hW hnn hl ok A0 A1 n0
  go_enter Try.func17, Try.ntmps17
  go_wp2_with fail
  refine wp_region_held_drew (S := RB o (rfx S (.slice (some ⟨rb, roff, none⟩) ws.length cap) tr 3 (tr - x.left) x.s nn 0 x.steps)) (by kernel_rfl) (HD.out.1) (fun hHeld => ?_)
  refine wpAnyH_take (i := 0) (v := ?v1) rfl (by kernel_rfl) (by kernel_rfl) (by kernel_rfl) (fun _ _ _ h => h) (Or.inl ⟨by rfl, ?y1⟩) hHeld ?r1
  case y1 => (intro w hSw; have y0 := Blk.cell (i := 0) hSw rfl; have y1 := Blk.cell (i := 1) hSw rfl; have y2 := Blk.cell (i := 2) hSw rfl; have y3 := Blk.cell (i := 3) hSw rfl; have y4 := Blk.cell (i := 4) hSw rfl; have y9 := Blk.cell (i := 9) hSw rfl; have y10 := Blk.cell (i := 10) hSw rfl; have yl := Blk.lt hSw; go_simp; try with_reducible rfl)
  simp only [List.getElem_toArray, List.getElem_cons_zero, Act.put, List.setIfInBounds_toArray, List.set_cons_zero, List.set_cons_succ]
  refine wpAnyH_take (i := 1) (v := ?v2) rfl (by kernel_rfl) (by kernel_rfl) (by kernel_rfl) (fun _ _ _ h => h) (Or.inl ⟨by rfl, ?y2⟩) hHeld ?r2
  case y2 => (intro w hSw; have y0 := Blk.cell (i := 0) hSw rfl; have y1 := Blk.cell (i := 1) hSw rfl; have y2 := Blk.cell (i := 2) hSw rfl; have y3 := Blk.cell (i := 3) hSw rfl; have y4 := Blk.cell (i := 4) hSw rfl; have y9 := Blk.cell (i := 9) hSw rfl; have y10 := Blk.cell (i := 10) hSw rfl; have yl := Blk.lt hSw; go_simp; try with_reducible rfl)
  simp only [List.getElem_toArray, List.getElem_cons_zero, List.getElem_cons_succ, Act.put, List.setIfInBounds_toArray, List.set_cons_zero, List.set_cons_succ]
  refine wpAnyH_take (i := 2) (v := ?v3) rfl (by kernel_rfl) (by kernel_rfl) (by kernel_rfl) (fun _ _ _ h => h) (Or.inl ⟨by rfl, ?y3⟩) hHeld ?r3
  case y3 => (intro w hSw; have y0 := Blk.cell (i := 0) hSw rfl; have y1 := Blk.cell (i := 1) hSw rfl; have y2 := Blk.cell (i := 2) hSw rfl; have y3 := Blk.cell (i := 3) hSw rfl; have y4 := Blk.cell (i := 4) hSw rfl; have y9 := Blk.cell (i := 9) hSw rfl; have y10 := Blk.cell (i := 10) hSw rfl; have yl := Blk.lt hSw; go_simp; try with_reducible rfl)
  simp only [List.getElem_toArray, List.getElem_cons_zero, List.getElem_cons_succ, Act.put, List.setIfInBounds_toArray, List.set_cons_zero, List.set_cons_succ]
  refine wpAnyH_take (i := 3) (v := ?v4) rfl (by kernel_rfl) (by kernel_rfl) (by kernel_rfl) (fun _ _ _ h => h) (Or.inl ⟨by rfl, ?y4⟩) hHeld ?r4
  case y4 => (intro w hSw; have y0 := Blk.cell (i := 0) hSw rfl; have y1 := Blk.cell (i := 1) hSw rfl; have y2 := Blk.cell (i := 2) hSw rfl; have y3 := Blk.cell (i := 3) hSw rfl; have y4 := Blk.cell (i := 4) hSw rfl; have y9 := Blk.cell (i := 9) hSw rfl; have y10 := Blk.cell (i := 10) hSw rfl; have yl := Blk.lt hSw; go_simp; try with_reducible rfl)
  simp only [List.getElem_toArray, List.getElem_cons_zero, List.getElem_cons_succ, Act.put, List.setIfInBounds_toArray, List.set_cons_zero, List.set_cons_succ]
  refine wpAnyH_take (i := 4) (v := ?v5) rfl (by kernel_rfl) (by kernel_rfl) (by kernel_rfl) (fun _ _ _ h => h) (Or.inl ⟨by rfl, ?y5⟩) hHeld ?r5
  case y5 => (intro w hSw; have y0 := Blk.cell (i := 0) hSw rfl; have y1 := Blk.cell (i := 1) hSw rfl; have y2 := Blk.cell (i := 2) hSw rfl; have y3 := Blk.cell (i := 3) hSw rfl; have y4 := Blk.cell (i := 4) hSw rfl; have y9 := Blk.cell (i := 9) hSw rfl; have y10 := Blk.cell (i := 10) hSw rfl; have yl := Blk.lt hSw; go_simp; try with_reducible rfl)
  simp only [List.getElem_toArray, List.getElem_cons_zero, List.getElem_cons_succ, Act.put, List.setIfInBounds_toArray, List.set_cons_zero, List.set_cons_succ]
  refine wpAnyH_take (i := 5) (v := ?v6) rfl (by kernel_rfl) (by kernel_rfl) (by kernel_rfl) (fun _ _ _ h => h) (Or.inl ⟨by rfl, ?y6⟩) hHeld ?r6
  case y6 => (intro w hSw; have y0 := Blk.cell (i := 0) hSw rfl; have y1 := Blk.cell (i := 1) hSw rfl; have y2 := Blk.cell (i := 2) hSw rfl; have y3 := Blk.cell (i := 3) hSw rfl; have y4 := Blk.cell (i := 4) hSw rfl; have y9 := Blk.cell (i := 9) hSw rfl; have y10 := Blk.cell (i := 10) hSw rfl; have yl := Blk.lt hSw; go_simp; try with_reducible rfl)
  simp only [List.getElem_toArray, List.getElem_cons_zero, List.getElem_cons_succ, Act.put, List.setIfInBounds_toArray, List.set_cons_zero, List.set_cons_succ]
  refine wpAnyH_take (i := 6) (v := ?v7) rfl (by kernel_rfl) (by kernel_rfl) (by kernel_rfl) (fun _ _ _ h => h) (Or.inl ⟨by rfl, ?y7⟩) hHeld ?r7
  case y7 => (intro w hSw; have y0 := Blk.cell (i := 0) hSw rfl; have y1 := Blk.cell (i := 1) hSw rfl; have y2 := Blk.cell (i := 2) hSw rfl; have y3 := Blk.cell (i := 3) hSw rfl; have y4 := Blk.cell (i := 4) hSw rfl; have y9 := Blk.cell (i := 9) hSw rfl; have y10 := Blk.cell (i := 10) hSw rfl; have yl := Blk.lt hSw; go_simp; try with_reducible rfl)
  simp only [List.getElem_toArray, List.getElem_cons_zero, List.getElem_cons_succ, Act.put, List.setIfInBounds_toArray, List.set_cons_zero, List.set_cons_succ]
  refine wpAnyH_take (i := 7) (v := ?v8) rfl (by kernel_rfl) (by kernel_rfl) (by kernel_rfl) (fun _ _ _ h => h) (Or.inl ⟨by rfl, ?y8⟩) hHeld ?r8
  case y8 => (intro w hSw; have y0 := Blk.cell (i := 0) hSw rfl; have y1 := Blk.cell (i := 1) hSw rfl; have y2 := Blk.cell (i := 2) hSw rfl; have y3 := Blk.cell (i := 3) hSw rfl; have y4 := Blk.cell (i := 4) hSw rfl; have y9 := Blk.cell (i := 9) hSw rfl; have y10 := Blk.cell (i := 10) hSw rfl; have yl := Blk.lt hSw; go_simp; try with_reducible rfl)
  simp only [List.getElem_toArray, List.getElem_cons_zero, List.getElem_cons_succ, Act.put, List.setIfInBounds_toArray, List.set_cons_zero, List.set_cons_succ]
  refine wpAnyH_take (i := 8) (v := .int .u64 (x.s / 2)) rfl (by kernel_rfl) (by kernel_rfl) (by kernel_rfl) (fun _ _ _ h => h) (Or.inl ⟨by rfl, ?y9⟩) hHeld ?r9
  case y9 => (intro w hSw; have y0 := Blk.cell (i := 0) hSw rfl; have y1 := Blk.cell (i := 1) hSw rfl; have y2 := Blk.cell (i := 2) hSw rfl; have y3 := Blk.cell (i := 3) hSw rfl; have y4 := Blk.cell (i := 4) hSw rfl; have y9 := Blk.cell (i := 9) hSw rfl; have y10 := Blk.cell (i := 10) hSw rfl; have yl := Blk.lt hSw; go_simp; try with_reducible rfl)
  simp only [List.getElem_toArray, List.getElem_cons_zero, List.getElem_cons_succ, Act.put, List.setIfInBounds_toArray, List.set_cons_zero, List.set_cons_succ]
  refine wpAnyH_take (i := 9) (v := .int .u64 (x.s / 2 + 1)) rfl (by kernel_rfl) (by kernel_rfl) (by kernel_rfl) (fun _ _ _ h => h) (Or.inl ⟨by rfl, ?y10⟩) hHeld ?r10
  case y10 => (intro w hSw; have y0 := Blk.cell (i := 0) hSw rfl; have y1 := Blk.cell (i := 1) hSw rfl; have y2 := Blk.cell (i := 2) hSw rfl; have y3 := Blk.cell (i := 3) hSw rfl; have y4 := Blk.cell (i := 4) hSw rfl; have y9 := Blk.cell (i := 9) hSw rfl; have y10 := Blk.cell (i := 10) hSw rfl; have yl := Blk.lt hSw; go_simp; try with_reducible rfl)
  simp only [List.getElem_toArray, List.getElem_cons_zero, List.getElem_cons_succ, Act.put, List.setIfInBounds_toArray, List.set_cons_zero, List.set_cons_succ]
  refine wpAnyH_take (i := 11) (v := ?v11) rfl (by kernel_rfl) (by kernel_rfl) (by kernel_rfl) (fun _ _ _ h => h) (Or.inl ⟨by rfl, ?y11⟩) hHeld ?r11
  case y11 => (intro w hSw; have y0 := Blk.cell (i := 0) hSw rfl; have y1 := Blk.cell (i := 1) hSw rfl; have y2 := Blk.cell (i := 2) hSw rfl; have y3 := Blk.cell (i := 3) hSw rfl; have y4 := Blk.cell (i := 4) hSw rfl; have y9 := Blk.cell (i := 9) hSw rfl; have y10 := Blk.cell (i := 10) hSw rfl; have yl := Blk.lt hSw; go_simp; try with_reducible rfl)
  simp only [List.getElem_toArray, List.getElem_cons_zero, List.getElem_cons_succ, Act.put, List.setIfInBounds_toArray, List.set_cons_zero, List.set_cons_succ]
  refine wpAnyH_take (i := 12) (v := ?v12) rfl (by kernel_rfl) (by kernel_rfl) (by kernel_rfl) (fun _ _ _ h => h) (Or.inl ⟨by rfl, ?y12⟩) hHeld ?r12
  case y12 => (intro w hSw; have y0 := Blk.cell (i := 0) hSw rfl; have y1 := Blk.cell (i := 1) hSw rfl; have y2 := Blk.cell (i := 2) hSw rfl; have y3 := Blk.cell (i := 3) hSw rfl; have y4 := Blk.cell (i := 4) hSw rfl; have y9 := Blk.cell (i := 9) hSw rfl; have y10 := Blk.cell (i := 10) hSw rfl; have yl := Blk.lt hSw; go_simp; try with_reducible rfl)
  simp only [List.getElem_toArray, List.getElem_cons_zero, List.getElem_cons_succ, Act.put, List.setIfInBounds_toArray, List.set_cons_zero, List.set_cons_succ]
  refine wpAnyH_take (i := 13) (v := ?v13) rfl (by kernel_rfl) (by kernel_rfl) (by kernel_rfl) (fun _ _ _ h => h) (Or.inl ⟨by rfl, ?y13⟩) hHeld ?r13
  case y13 => (intro w hSw; have y0 := Blk.cell (i := 0) hSw rfl; have y1 := Blk.cell (i := 1) hSw rfl; have y2 := Blk.cell (i := 2) hSw rfl; have y3 := Blk.cell (i := 3) hSw rfl; have y4 := Blk.cell (i := 4) hSw rfl; have y9 := Blk.cell (i := 9) hSw rfl; have y10 := Blk.cell (i := 10) hSw rfl; have yl := Blk.lt hSw; go_simp; try with_reducible rfl)
  simp only [List.getElem_toArray, List.getElem_cons_zero, List.getElem_cons_succ, Act.put, List.setIfInBounds_toArray, List.set_cons_zero, List.set_cons_succ]
  refine wpAnyH_take (i := 14) (v := ?v14) rfl (by kernel_rfl) (by kernel_rfl) (by kernel_rfl) (fun _ _ _ h => h) (Or.inl ⟨by rfl, ?y14⟩) hHeld ?r14
  case y14 => (intro w hSw; have y0 := Blk.cell (i := 0) hSw rfl; have y1 := Blk.cell (i := 1) hSw rfl; have y2 := Blk.cell (i := 2) hSw rfl; have y3 := Blk.cell (i := 3) hSw rfl; have y4 := Blk.cell (i := 4) hSw rfl; have y9 := Blk.cell (i := 9) hSw rfl; have y10 := Blk.cell (i := 10) hSw rfl; have yl := Blk.lt hSw; go_simp; try with_reducible rfl)
  simp only [List.getElem_toArray, List.getElem_cons_zero, List.getElem_cons_succ, Act.put, List.setIfInBounds_toArray, List.set_cons_zero, List.set_cons_succ]
  refine wpAnyH_ready (rs := [10]) (by kernel_rfl) (by simp) (AllReadyH.cons rfl (fun K hK => ?_) AllReadyH.nil)
  go_simp
  refine (Hrat.out _).mono ?_
  rintro e V1 ⟨rfl, hu1⟩
  have HV : Hid (RB o (rfx S (.slice (some ⟨rb, roff, none⟩) ws.length cap) tr 3 (tr - x.left) x.s nn 0 x.steps) V1 ∧ Row V1 wb ys ∧ Upd (Ow2 o wb) w V1 ∧ Wds n₀ V1 (some ⟨rb, roff, none⟩) ws) := Lib.hid ⟨Blk.low HD.out.1 hu1, HD.out.2.1.below hu1, HD.out.2.2.1.trans (Upd.of_below _ hu1), HD.out.2.2.2.1.keep (hu1.mono HD.out.2.2.2.2)⟩
  clear hu1
  go_wp2_with fail
  refine hK.out _ _ (HV.out.1) (fun hHeld => ?_)
  clear hK K
  refine wpAnyH_take (i := 15) (v := .int .i64 (ln)) rfl (by kernel_rfl) (by kernel_rfl) (by kernel_rfl) (fun _ _ _ h => h) (Or.inl ⟨by rfl, ?y16⟩) hHeld ?r16
  case y16 => (intro w hSw; have y0 := Blk.cell (i := 0) hSw rfl; have y1 := Blk.cell (i := 1) hSw rfl; have y2 := Blk.cell (i := 2) hSw rfl; have y3 := Blk.cell (i := 3) hSw rfl; have y4 := Blk.cell (i := 4) hSw rfl; have y9 := Blk.cell (i := 9) hSw rfl; have y10 := Blk.cell (i := 10) hSw rfl; have yl := Blk.lt hSw; go_simp; try with_reducible rfl)
  simp only [List.getElem_toArray, List.getElem_cons_zero, List.getElem_cons_succ, Act.put, List.setIfInBounds_toArray, List.set_cons_zero, List.set_cons_succ]
  refine wpAnyH_take (i := 16) (v := ?v17) rfl (by kernel_rfl) (by kernel_rfl) (by kernel_rfl) (fun _ _ _ h => h) (Or.inl ⟨by rfl, ?y17⟩) hHeld ?r17
  case y17 => (intro w hSw; have y0 := Blk.cell (i := 0) hSw rfl; have y1 := Blk.cell (i := 1) hSw rfl; have y2 := Blk.cell (i := 2) hSw rfl; have y3 := Blk.cell (i := 3) hSw rfl; have y4 := Blk.cell (i := 4) hSw rfl; have y9 := Blk.cell (i := 9) hSw rfl; have y10 := Blk.cell (i := 10) hSw rfl; have yl := Blk.lt hSw; go_simp; try with_reducible rfl)
  simp only [List.getElem_toArray, List.getElem_cons_zero, List.getElem_cons_succ, Act.put, List.setIfInBounds_toArray, List.set_cons_zero, List.set_cons_succ]
  refine wpAnyH_done (by kernel_rfl) ?_ _
  clear hHeld HD c1 c7 c11 lo Hrat hww hq hq2 hqq
  have c12 := Blk.cell (i := 12) HV.out.1 rfl
  have c7 := Blk.cell (i := 7) HV.out.1 rfl
  have z12 := Blk.frozen HV.out.1 12
  have lo := Blk.lt HV.out.1
  have lw := HV.out.2.1.lt
  have HW1 : Hid (RC o (rfx S (.slice (some ⟨rb, roff, none⟩) ws.length cap) tr 3 (tr - x.left) x.s nn 0 (x.steps + 1)) ⟨rb, roff + nn, none⟩ (.int .u64 wv) (V1.setCell ⟨o, 12, none⟩ (.int .i64 (x.steps + 1))).drew ∧ Row (V1.setCell ⟨o, 12, none⟩ (.int .i64 (x.steps + 1))).drew wb ys ∧ Upd (Ow2 o wb) w (V1.setCell ⟨o, 12, none⟩ (.int .i64 (x.steps + 1))).drew) := by
    obtain ⟨_, rb', roff', e, _, hc⟩ := HV.out.2.2.2 nn _ Hx.out.2.1
    cases e
    have hlb := World.block_lt_of_cell? _ _ hc
    refine Lib.hid ⟨⟨Blk.put HV.out.1 12 (.int .i64 (x.steps + 1)), ?_⟩, HV.out.2.1.setFar hne' _, (HV.out.2.2.1.setCell (.inl (.inl rfl)) _).drew⟩
    exact (((Upd.refl (fun k => k = o) V1).setCell (p := ⟨o, 12, none⟩) (.inl rfl) (.int .i64 (x.steps + 1))).drew.cell (p := ⟨rb, roff + nn, none⟩) hlb hr1).trans hc
  go_wp2_with fail
  generalize V1.setCell ⟨o, 12, none⟩ (.int .i64 (x.steps + 1)) = W0 at HW1 ⊢
  clear c12 c7 z12 lo lw HV
  have cw := HW1.out.2.1.cell Hx.out.1
  have zw := HW1.out.2.1.frozen ln
  have lw := HW1.out.2.1.lt
  have HW2 : Hid (RC o (rfx S (.slice (some ⟨rb, roff, none⟩) ws.length cap) tr 3 (tr - x.left) x.s nn 0 (x.steps + 1)) ⟨rb, roff + nn, none⟩ (.int .u64 wv) (W0.drew.setCell ⟨wb, ln, none⟩ (.int .u64 wv)) ∧ Row (W0.drew.setCell ⟨wb, ln, none⟩ (.int .u64 wv)) wb (ys.set ln wv) ∧ Upd (Ow2 o wb) w (W0.drew.setCell ⟨wb, ln, none⟩ (.int .u64 wv))) :=
    Lib.hid ⟨⟨HW1.out.1.1.setFar (p := ⟨wb, ln, none⟩) hne _, (((Upd.refl (fun k => k = wb) W0.drew).setCell (p := ⟨wb, ln, none⟩) (.inl rfl) (.int .u64 wv)).cell (p := ⟨rb, roff + nn, none⟩) (World.block_lt_of_cell? _ _ HW1.out.1.2) hr2).trans HW1.out.1.2⟩, HW1.out.2.1.put ln wv, HW1.out.2.2.setCell (.inl (.inr rfl)) _⟩
  refine wp_region_held_drew (S := RC o (rfx S (.slice (some ⟨rb, roff, none⟩) ws.length cap) tr 3 (tr - x.left) x.s nn 0 (x.steps + 1)) ⟨rb, roff + nn, none⟩ (.int .u64 wv)) (by kernel_rfl) (HW1.out.1) (fun hHeld => ?_)
  refine wpAnyH_take (i := 0) (v := ?v18) rfl (by kernel_rfl) (by kernel_rfl) (by kernel_rfl) (fun _ _ _ h => h) (Or.inl ⟨by rfl, ?y18⟩) hHeld ?r18
  case y18 => (intro w hSw; obtain ⟨hSb, cS⟩ := hSw; have y5 := Blk.cell (i := 5) hSb rfl; have y10 := Blk.cell (i := 10) hSb rfl; have yl := Blk.lt hSb; clear hSb; go_simp; try with_reducible rfl)
  simp only [List.getElem_toArray, List.getElem_cons_zero, Act.put, List.setIfInBounds_toArray, List.set_cons_zero, List.set_cons_succ]
  refine wpAnyH_take (i := 1) (v := ?v19) rfl (by kernel_rfl) (by kernel_rfl) (by kernel_rfl) (fun _ _ _ h => h) (Or.inl ⟨by rfl, ?y19⟩) hHeld ?r19
  case y19 => (intro w hSw; obtain ⟨hSb, cS⟩ := hSw; have y5 := Blk.cell (i := 5) hSb rfl; have y10 := Blk.cell (i := 10) hSb rfl; have yl := Blk.lt hSb; clear hSb; go_simp; try with_reducible rfl)
  simp only [List.getElem_toArray, List.getElem_cons_zero, List.getElem_cons_succ, Act.put, List.setIfInBounds_toArray, List.set_cons_zero, List.set_cons_succ]
  refine wpAnyH_take (i := 2) (v := ?v20) rfl (by kernel_rfl) (by kernel_rfl) (by kernel_rfl) (fun _ _ _ h => h) (Or.inl ⟨by rfl, ?y20⟩) hHeld ?r20
  case y20 => (intro w hSw; obtain ⟨hSb, cS⟩ := hSw; have y5 := Blk.cell (i := 5) hSb rfl; have y10 := Blk.cell (i := 10) hSb rfl; have yl := Blk.lt hSb; clear hSb; go_simp; try with_reducible rfl)
  simp only [List.getElem_toArray, List.getElem_cons_zero, List.getElem_cons_succ, Act.put, List.setIfInBounds_toArray, List.set_cons_zero, List.set_cons_succ]
  refine wpAnyH_take (i := 3) (v := ?v21) rfl (by kernel_rfl) (by kernel_rfl) (by kernel_rfl) (fun _ _ _ h => h) (Or.inl ⟨by rfl, ?y21⟩) hHeld ?r21
  case y21 => (intro w hSw; obtain ⟨hSb, cS⟩ := hSw; have y5 := Blk.cell (i := 5) hSb rfl; have y10 := Blk.cell (i := 10) hSb rfl; have yl := Blk.lt hSb; clear hSb; go_simp; try with_reducible rfl)
  simp only [List.getElem_toArray, List.getElem_cons_zero, List.getElem_cons_succ, Act.put, List.setIfInBounds_toArray, List.set_cons_zero, List.set_cons_succ]
  refine wpAnyH_take (i := 4) (v := ?v22) rfl (by kernel_rfl) (by kernel_rfl) (by kernel_rfl) (fun _ _ _ h => h) (Or.inl ⟨by rfl, ?y22⟩) hHeld ?r22
  case y22 => (intro w hSw; obtain ⟨hSb, cS⟩ := hSw; have y5 := Blk.cell (i := 5) hSb rfl; have y10 := Blk.cell (i := 10) hSb rfl; have yl := Blk.lt hSb; clear hSb; go_simp; try with_reducible rfl)
  simp only [List.getElem_toArray, List.getElem_cons_zero, List.getElem_cons_succ, Act.put, List.setIfInBounds_toArray, List.set_cons_zero, List.set_cons_succ]
  refine wpAnyH_take (i := 5) (v := ?v23) rfl (by kernel_rfl) (by kernel_rfl) (by kernel_rfl) (fun _ _ _ h => h) (Or.inl ⟨by rfl, ?y23⟩) hHeld ?r23
  case y23 => (intro w hSw; obtain ⟨hSb, cS⟩ := hSw; have y5 := Blk.cell (i := 5) hSb rfl; have y10 := Blk.cell (i := 10) hSb rfl; have yl := Blk.lt hSb; clear hSb; go_simp; try with_reducible rfl)
  simp only [List.getElem_toArray, List.getElem_cons_zero, List.getElem_cons_succ, Act.put, List.setIfInBounds_toArray, List.set_cons_zero, List.set_cons_succ]
  refine wpAnyH_take (i := 6) (v := ?v24) rfl (by kernel_rfl) (by kernel_rfl) (by kernel_rfl) (fun _ _ _ h => h) (Or.inl ⟨by rfl, ?y24⟩) hHeld ?r24
  case y24 => (intro w hSw; obtain ⟨hSb, cS⟩ := hSw; have y5 := Blk.cell (i := 5) hSb rfl; have y10 := Blk.cell (i := 10) hSb rfl; have yl := Blk.lt hSb; clear hSb; go_simp; try with_reducible rfl)
  simp only [List.getElem_toArray, List.getElem_cons_zero, List.getElem_cons_succ, Act.put, List.setIfInBounds_toArray, List.set_cons_zero, List.set_cons_succ]
  refine wpAnyH_take (i := 7) (v := ?v25) rfl (by kernel_rfl) (by kernel_rfl) (by kernel_rfl) (fun _ _ _ h => h) (Or.inl ⟨by rfl, ?y25⟩) hHeld ?r25
  case y25 => (intro w hSw; obtain ⟨hSb, cS⟩ := hSw; have y5 := Blk.cell (i := 5) hSb rfl; have y10 := Blk.cell (i := 10) hSb rfl; have yl := Blk.lt hSb; clear hSb; go_simp; try with_reducible rfl)
  simp only [List.getElem_toArray, List.getElem_cons_zero, List.getElem_cons_succ, Act.put, List.setIfInBounds_toArray, List.set_cons_zero, List.set_cons_succ]
  refine wpAnyH_take (i := 8) (v := ?v26) rfl (by kernel_rfl) (by kernel_rfl) (by kernel_rfl) (fun _ _ _ h => h) (Or.inl ⟨by rfl, ?y26⟩) hHeld ?r26
  case y26 => (intro w hSw; obtain ⟨hSb, cS⟩ := hSw; have y5 := Blk.cell (i := 5) hSb rfl; have y10 := Blk.cell (i := 10) hSb rfl; have yl := Blk.lt hSb; clear hSb; go_simp; try with_reducible rfl)
  simp only [List.getElem_toArray, List.getElem_cons_zero, List.getElem_cons_succ, Act.put, List.setIfInBounds_toArray, List.set_cons_zero, List.set_cons_succ]
  refine wpAnyH_take (i := 9) (v := ?v27) rfl (by kernel_rfl) (by kernel_rfl) (by kernel_rfl) (fun _ _ _ h => h) (Or.inl ⟨by rfl, ?y27⟩) hHeld ?r27
  case y27 => (intro w hSw; obtain ⟨hSb, cS⟩ := hSw; have y5 := Blk.cell (i := 5) hSb rfl; have y10 := Blk.cell (i := 10) hSb rfl; have yl := Blk.lt hSb; clear hSb; go_simp; try with_reducible rfl)
  simp only [List.getElem_toArray, List.getElem_cons_zero, List.getElem_cons_succ, Act.put, List.setIfInBounds_toArray, List.set_cons_zero, List.set_cons_succ]
  refine wpAnyH_take (i := 10) (v := ?v28) rfl (by kernel_rfl) (by kernel_rfl) (by kernel_rfl) (fun _ _ _ h => h) (Or.inl ⟨by rfl, ?y28⟩) hHeld ?r28
  case y28 => (intro w hSw; obtain ⟨hSb, cS⟩ := hSw; have y5 := Blk.cell (i := 5) hSb rfl; have y10 := Blk.cell (i := 10) hSb rfl; have yl := Blk.lt hSb; clear hSb; go_simp; try with_reducible rfl)
  simp only [List.getElem_toArray, List.getElem_cons_zero, List.getElem_cons_succ, Act.put, List.setIfInBounds_toArray, List.set_cons_zero, List.set_cons_succ]
  refine wpAnyH_take (i := 11) (v := ?v29) rfl (by kernel_rfl) (by kernel_rfl) (by kernel_rfl) (fun _ _ _ h => h) (Or.inl ⟨by rfl, ?y29⟩) hHeld ?r29
  case y29 => (intro w hSw; obtain ⟨hSb, cS⟩ := hSw; have y5 := Blk.cell (i := 5) hSb rfl; have y10 := Blk.cell (i := 10) hSb rfl; have yl := Blk.lt hSb; clear hSb; go_simp; try with_reducible rfl)
  simp only [List.getElem_toArray, List.getElem_cons_zero, List.getElem_cons_succ, Act.put, List.setIfInBounds_toArray, List.set_cons_zero, List.set_cons_succ]
  refine wpAnyH_take (i := 12) (v := ?v30) rfl (by kernel_rfl) (by kernel_rfl) (by kernel_rfl) (fun _ _ _ h => h) (Or.inl ⟨by rfl, ?y30⟩) hHeld ?r30
  case y30 => (intro w hSw; obtain ⟨hSb, cS⟩ := hSw; have y5 := Blk.cell (i := 5) hSb rfl; have y10 := Blk.cell (i := 10) hSb rfl; have yl := Blk.lt hSb; clear hSb; go_simp; try with_reducible rfl)
  simp only [List.getElem_toArray, List.getElem_cons_zero, List.getElem_cons_succ, Act.put, List.setIfInBounds_toArray, List.set_cons_zero, List.set_cons_succ]
  refine wpAnyH_ready (rs := [13]) (by kernel_rfl) (by simp) (AllReadyH.cons rfl (fun K hK => ?_) AllReadyH.nil)
  go_simp
  refine hK.out _ _ (HW2.out.1) (fun hHeld => ?_)
  clear hK K
  refine wpAnyH_done (by kernel_rfl) ?_ _
  clear hHeld cw zw lw HW1
  have Hgen : (W0.setCell ⟨wb, ln, none⟩ (.int .u64 wv)).drew = W0.drew.setCell ⟨wb, ln, none⟩ (.int .u64 wv) := rfl
  try rw [Hgen]
  clear Hgen
  generalize W0.drew.setCell ⟨wb, ln, none⟩ (.int .u64 wv) = W2 at HW2 ⊢
  have c10 := HW2.out.1.1.cell (i := 10) rfl
  have z10 := HW2.out.1.1.frozen 10
  have lo := HW2.out.1.1.lt
  have HW3 := Lib.hid (And.intro (HW2.out.1.1.put 10 (.int .i64 ((nn : Int) + 1))) (And.intro (HW2.out.2.1.setFar (p := ⟨o, 10, none⟩) hne' (.int .i64 ((nn : Int) + 1))) (HW2.out.2.2.setCell (p := ⟨o, 10, none⟩) (.inl (.inl rfl)) (.int .i64 ((nn : Int) + 1)))))
  clear HW2
  have nn0 : (nn : Int) ≤ 64 := by have := Hn.out; omega
  have m1 : (((nn : Int) + 1) == ws.length) = false := by have := Hn.out; simp; omega
  clear he
  go_wp2_with fail
  generalize W2.setCell ⟨o, 10, none⟩ (.int .i64 ((nn : Int) + 1)) = W3 at HW3 ⊢
  clear c10 z10 lo
  have c10 := HW3.out.1.cell (i := 10) rfl
  have c5 := HW3.out.1.cell (i := 5) rfl
  have c7 := HW3.out.1.cell (i := 7) rfl
  have z7 := HW3.out.1.frozen 7
  have lo := HW3.out.1.lt
  go_quiet (fail)
  go_wp2
  go_end0
  refine ⟨rfl, ⟨x.s, (blkN HW3.out.1 nq).to ?_, fun _ => rfl⟩, ?_, HW3.out.2.2.drewN nq⟩
  · show _ = rfx S _ tr (2 + 1) _ _ (x.n + 1) x.how _
    rw [hh, Hn.out]
    rfl
  · show Row _ wb (ys.set (lie S x).toNat (ws.getD x.n.toNat 0))
    rw [Hx.out.2.2.2, Hx.out.2.2.1, Int.toNat_natCast]
    exact HW3.out.2.1
set_option maxRecDepth 100000 in
set_option maxHeartbeats 2000000 in
theorem rstep_lay_last (h : RfAt w o S a ws cap tr x) (hB : Row w wb ys) (hne : o ≠ wb) (hh : x.how = 0) (hW : Wds n₀ w a ws) (ho : n₀ ≤ o) (_hw : n₀ ≤ wb) (hwf : Wf S ws x) (hl : x.line = 2) (v : Int) (hv : getI ys (lie S x) = some v) (he : x.n + 1 = ws.length) (p0 : 0 ≤ x.steps) (p1 : x.steps ≤ 1000000) :
    Calls Try.prog 17 #[.pointer (some ⟨o, 0, none⟩), .slice (some ⟨wb, 0, none⟩) ys.length ys.length] w (RPost o wb S a ws cap tr ({ x with n := x.n + 1, line := 3, steps := x.steps + 1 }, ys.set (lie S x).toNat (ws.getD x.n.toNat 0), 1) w) := by
  have hb := h.busy hh
  have Hl := Lib.hid hl
  rw [hl] at hb
  have hne' := hne.symm
  obtain ⟨ok, A0, A1⟩ := lie_bd hwf
  obtain ⟨s0, s1⟩ := hwf.s
  have n0 := hwf.n0
  have n1 := hwf.n1
  have nl := hwf.nl hl
  obtain ⟨nn, hnn⟩ := Int.eq_ofNat_of_zero_le n0
  have Hrat := Lib.hid (fun W => rat_any S.ow S.sq S.fs S.wd S.dp (x.s / 2 + 1) W (by omega) (by omega))
  have hlie : lie S x = atv S.fs S.wd S.dp (x.s / 2 + 1) + nn := by unfold lie; rw [hnn]
  generalize atv S.fs S.wd S.dp (x.s / 2 + 1) = A at *
  have hww : IntKind.i64.wrap (A + (nn : Int)) = lie S x := by rw [hlie, IntKind.wrap_i64]; omega
  have hq := quo2 s0
  have hq2 : IntKind.u64.wrap (x.s / 2) = x.s / 2 := by rw [IntKind.wrap_u64]; omega
  have hqq : IntKind.u64.wrap (x.s / 2 + 1) = x.s / 2 + 1 := by rw [IntKind.wrap_u64]; omega
  have c1 := hb.cell (i := 1) rfl
  have c7 := hb.cell (i := 7) rfl
  have c11 := hb.cell (i := 11) rfl
  have lo := hb.lt
  rw [hnn] at hb
  have HD : Hid (RB o (rfx S (.slice a ws.length cap) tr 3 (tr - x.left) x.s nn 0 x.steps) w.drew ∧ Row w.drew wb ys ∧ Upd (Ow2 o wb) w w.drew ∧ Wds n₀ w.drew a ws ∧ n₀ ≤ w.drew.heap.size) := Lib.hid ⟨hb, hB, (Upd.refl _ w).drew, hW.keep (belN (Below.refl _ _) 1), by have := hb.lt; show n₀ ≤ w.heap.size; omega⟩
  obtain ⟨_, hv'⟩ := getI_some hv
  have hlt := lt_of_some hv'
  obtain ⟨ln, hln⟩ := Int.eq_ofNat_of_zero_le (show 0 ≤ lie S x by omega)
  rw [hln, Int.toNat_natCast] at hv' hlt
  have i1 : (ln : Int) < ys.length := by omega
  have i2 : (nn : Int) < ws.length := by omega
  have hwj : ws[nn]? = some (ws[nn]'(by omega)) := List.getElem?_eq_getElem _
  have hgd : ws.getD x.n.toNat 0 = ws[nn]'(by omega) := by
    rw [hnn, Int.toNat_natCast, List.getD_eq_getElem?_getD, hwj]
    rfl
  generalize ws[nn]'(by omega) = wv at *
  obtain ⟨uw, rb, roff, rfl, rlt, _⟩ := hW nn _ hwj
  have Hx := Lib.hid (And.intro hv' (And.intro hwj (And.intro hgd hln)))
  have hrb : rb ≠ o ∧ rb ≠ wb := by omega
  obtain ⟨hr1, hr2⟩ := hrb
  rw [hln] at hww
  clear hlie hv hv' hwj hgd hlt uw rlt hln
  have Hn := Lib.hid hnn
  clear h hb hB hW hnn hl ok A0 A1 n0
  go_enter Try.func17, Try.ntmps17
  go_wp2_with fail
  refine wp_region_held_drew (S := RB o (rfx S (.slice (some ⟨rb, roff, none⟩) ws.length cap) tr 3 (tr - x.left) x.s nn 0 x.steps)) (by kernel_rfl) (HD.out.1) (fun hHeld => ?_)
  refine wpAnyH_take (i := 0) (v := ?v1) rfl (by kernel_rfl) (by kernel_rfl) (by kernel_rfl) (fun _ _ _ h => h) (Or.inl ⟨by rfl, ?y1⟩) hHeld ?r1
  case y1 => (intro w hSw; have y0 := Blk.cell (i := 0) hSw rfl; have y1 := Blk.cell (i := 1) hSw rfl; have y2 := Blk.cell (i := 2) hSw rfl; have y3 := Blk.cell (i := 3) hSw rfl; have y4 := Blk.cell (i := 4) hSw rfl; have y9 := Blk.cell (i := 9) hSw rfl; have y10 := Blk.cell (i := 10) hSw rfl; have yl := Blk.lt hSw; go_simp; try with_reducible rfl)
  simp only [List.getElem_toArray, List.getElem_cons_zero, Act.put, List.setIfInBounds_toArray, List.set_cons_zero, List.set_cons_succ]
  refine wpAnyH_take (i := 1) (v := ?v2) rfl (by kernel_rfl) (by kernel_rfl) (by kernel_rfl) (fun _ _ _ h => h) (Or.inl ⟨by rfl, ?y2⟩) hHeld ?r2
  case y2 => (intro w hSw; have y0 := Blk.cell (i := 0) hSw rfl; have y1 := Blk.cell (i := 1) hSw rfl; have y2 := Blk.cell (i := 2) hSw rfl; have y3 := Blk.cell (i := 3) hSw rfl; have y4 := Blk.cell (i := 4) hSw rfl; have y9 := Blk.cell (i := 9) hSw rfl; have y10 := Blk.cell (i := 10) hSw rfl; have yl := Blk.lt hSw; go_simp; try with_reducible rfl)
  simp only [List.getElem_toArray, List.getElem_cons_zero, List.getElem_cons_succ, Act.put, List.setIfInBounds_toArray, List.set_cons_zero, List.set_cons_succ]
  refine wpAnyH_take (i := 2) (v := ?v3) rfl (by kernel_rfl) (by kernel_rfl) (by kernel_rfl) (fun _ _ _ h => h) (Or.inl ⟨by rfl, ?y3⟩) hHeld ?r3
  case y3 => (intro w hSw; have y0 := Blk.cell (i := 0) hSw rfl; have y1 := Blk.cell (i := 1) hSw rfl; have y2 := Blk.cell (i := 2) hSw rfl; have y3 := Blk.cell (i := 3) hSw rfl; have y4 := Blk.cell (i := 4) hSw rfl; have y9 := Blk.cell (i := 9) hSw rfl; have y10 := Blk.cell (i := 10) hSw rfl; have yl := Blk.lt hSw; go_simp; try with_reducible rfl)
  simp only [List.getElem_toArray, List.getElem_cons_zero, List.getElem_cons_succ, Act.put, List.setIfInBounds_toArray, List.set_cons_zero, List.set_cons_succ]
  refine wpAnyH_take (i := 3) (v := ?v4) rfl (by kernel_rfl) (by kernel_rfl) (by kernel_rfl) (fun _ _ _ h => h) (Or.inl ⟨by rfl, ?y4⟩) hHeld ?r4
  case y4 => (intro w hSw; have y0 := Blk.cell (i := 0) hSw rfl; have y1 := Blk.cell (i := 1) hSw rfl; have y2 := Blk.cell (i := 2) hSw rfl; have y3 := Blk.cell (i := 3) hSw rfl; have y4 := Blk.cell (i := 4) hSw rfl; have y9 := Blk.cell (i := 9) hSw rfl; have y10 := Blk.cell (i := 10) hSw rfl; have yl := Blk.lt hSw; go_simp; try with_reducible rfl)
  simp only [List.getElem_toArray, List.getElem_cons_zero, List.getElem_cons_succ, Act.put, List.setIfInBounds_toArray, List.set_cons_zero, List.set_cons_succ]
  refine wpAnyH_take (i := 4) (v := ?v5) rfl (by kernel_rfl) (by kernel_rfl) (by kernel_rfl) (fun _ _ _ h => h) (Or.inl ⟨by rfl, ?y5⟩) hHeld ?r5
  case y5 => (intro w hSw; have y0 := Blk.cell (i := 0) hSw rfl; have y1 := Blk.cell (i := 1) hSw rfl; have y2 := Blk.cell (i := 2) hSw rfl; have y3 := Blk.cell (i := 3) hSw rfl; have y4 := Blk.cell (i := 4) hSw rfl; have y9 := Blk.cell (i := 9) hSw rfl; have y10 := Blk.cell (i := 10) hSw rfl; have yl := Blk.lt hSw; go_simp; try with_reducible rfl)
  simp only [List.getElem_toArray, List.getElem_cons_zero, List.getElem_cons_succ, Act.put, List.setIfInBounds_toArray, List.set_cons_zero, List.set_cons_succ]
  refine wpAnyH_take (i := 5) (v := ?v6) rfl (by kernel_rfl) (by kernel_rfl) (by kernel_rfl) (fun _ _ _ h => h) (Or.inl ⟨by rfl, ?y6⟩) hHeld ?r6
  case y6 => (intro w hSw; have y0 := Blk.cell (i := 0) hSw rfl; have y1 := Blk.cell (i := 1) hSw rfl; have y2 := Blk.cell (i := 2) hSw rfl; have y3 := Blk.cell (i := 3) hSw rfl; have y4 := Blk.cell (i := 4) hSw rfl; have y9 := Blk.cell (i := 9) hSw rfl; have y10 := Blk.cell (i := 10) hSw rfl; have yl := Blk.lt hSw; go_simp; try with_reducible rfl)
  simp only [List.getElem_toArray, List.getElem_cons_zero, List.getElem_cons_succ, Act.put, List.setIfInBounds_toArray, List.set_cons_zero, List.set_cons_succ]
  refine wpAnyH_take (i := 6) (v := ?v7) rfl (by kernel_rfl) (by kernel_rfl) (by kernel_rfl) (fun _ _ _ h => h) (Or.inl ⟨by rfl, ?y7⟩) hHeld ?r7
  case y7 => (intro w hSw; have y0 := Blk.cell (i := 0) hSw rfl; have y1 := Blk.cell (i := 1) hSw rfl; have y2 := Blk.cell (i := 2) hSw rfl; have y3 := Blk.cell (i := 3) hSw rfl; have y4 := Blk.cell (i := 4) hSw rfl; have y9 := Blk.cell (i := 9) hSw rfl; have y10 := Blk.cell (i := 10) hSw rfl; have yl := Blk.lt hSw; go_simp; try with_reducible rfl)
  simp only [List.getElem_toArray, List.getElem_cons_zero, List.getElem_cons_succ, Act.put, List.setIfInBounds_toArray, List.set_cons_zero, List.set_cons_succ]
  refine wpAnyH_take (i := 7) (v := ?v8) rfl (by kernel_rfl) (by kernel_rfl) (by kernel_rfl) (fun _ _ _ h => h) (Or.inl ⟨by rfl, ?y8⟩) hHeld ?r8
  case y8 => (intro w hSw; have y0 := Blk.cell (i := 0) hSw rfl; have y1 := Blk.cell (i := 1) hSw rfl; have y2 := Blk.cell (i := 2) hSw rfl; have y3 := Blk.cell (i := 3) hSw rfl; have y4 := Blk.cell (i := 4) hSw rfl; have y9 := Blk.cell (i := 9) hSw rfl; have y10 := Blk.cell (i := 10) hSw rfl; have yl := Blk.lt hSw; go_simp; try with_reducible rfl)
  simp only [List.getElem_toArray, List.getElem_cons_zero, List.getElem_cons_succ, Act.put, List.setIfInBounds_toArray, List.set_cons_zero, List.set_cons_succ]
  refine wpAnyH_take (i := 8) (v := .int .u64 (x.s / 2)) rfl (by kernel_rfl) (by kernel_rfl) (by kernel_rfl) (fun _ _ _ h => h) (Or.inl ⟨by rfl, ?y9⟩) hHeld ?r9
  case y9 => (intro w hSw; have y0 := Blk.cell (i := 0) hSw rfl; have y1 := Blk.cell (i := 1) hSw rfl; have y2 := Blk.cell (i := 2) hSw rfl; have y3 := Blk.cell (i := 3) hSw rfl; have y4 := Blk.cell (i := 4) hSw rfl; have y9 := Blk.cell (i := 9) hSw rfl; have y10 := Blk.cell (i := 10) hSw rfl; have yl := Blk.lt hSw; go_simp; try with_reducible rfl)
  simp only [List.getElem_toArray, List.getElem_cons_zero, List.getElem_cons_succ, Act.put, List.setIfInBounds_toArray, List.set_cons_zero, List.set_cons_succ]
  refine wpAnyH_take (i := 9) (v := .int .u64 (x.s / 2 + 1)) rfl (by kernel_rfl) (by kernel_rfl) (by kernel_rfl) (fun _ _ _ h => h) (Or.inl ⟨by rfl, ?y10⟩) hHeld ?r10
  case y10 => (intro w hSw; have y0 := Blk.cell (i := 0) hSw rfl; have y1 := Blk.cell (i := 1) hSw rfl; have y2 := Blk.cell (i := 2) hSw rfl; have y3 := Blk.cell (i := 3) hSw rfl; have y4 := Blk.cell (i := 4) hSw rfl; have y9 := Blk.cell (i := 9) hSw rfl; have y10 := Blk.cell (i := 10) hSw rfl; have yl := Blk.lt hSw; go_simp; try with_reducible rfl)
  simp only [List.getElem_toArray, List.getElem_cons_zero, List.getElem_cons_succ, Act.put, List.setIfInBounds_toArray, List.set_cons_zero, List.set_cons_succ]
  refine wpAnyH_take (i := 11) (v := ?v11) rfl (by kernel_rfl) (by kernel_rfl) (by kernel_rfl) (fun _ _ _ h => h) (Or.inl ⟨by rfl, ?y11⟩) hHeld ?r11
  case y11 => (intro w hSw; have y0 := Blk.cell (i := 0) hSw rfl; have y1 := Blk.cell (i := 1) hSw rfl; have y2 := Blk.cell (i := 2) hSw rfl; have y3 := Blk.cell (i := 3) hSw rfl; have y4 := Blk.cell (i := 4) hSw rfl; have y9 := Blk.cell (i := 9) hSw rfl; have y10 := Blk.cell (i := 10) hSw rfl; have yl := Blk.lt hSw; go_simp; try with_reducible rfl)
  simp only [List.getElem_toArray, List.getElem_cons_zero, List.getElem_cons_succ, Act.put, List.setIfInBounds_toArray, List.set_cons_zero, List.set_cons_succ]
  refine wpAnyH_take (i := 12) (v := ?v12) rfl (by kernel_rfl) (by kernel_rfl) (by kernel_rfl) (fun _ _ _ h => h) (Or.inl ⟨by rfl, ?y12⟩) hHeld ?r12
  case y12 => (intro w hSw; have y0 := Blk.cell (i := 0) hSw rfl; have y1 := Blk.cell (i := 1) hSw rfl; have y2 := Blk.cell (i := 2) hSw rfl; have y3 := Blk.cell (i := 3) hSw rfl; have y4 := Blk.cell (i := 4) hSw rfl; have y9 := Blk.cell (i := 9) hSw rfl; have y10 := Blk.cell (i := 10) hSw rfl; have yl := Blk.lt hSw; go_simp; try with_reducible rfl)
  simp only [List.getElem_toArray, List.getElem_cons_zero, List.getElem_cons_succ, Act.put, List.setIfInBounds_toArray, List.set_cons_zero, List.set_cons_succ]
  refine wpAnyH_take (i := 13) (v := ?v13) rfl (by kernel_rfl) (by kernel_rfl) (by kernel_rfl) (fun _ _ _ h => h) (Or.inl ⟨by rfl, ?y13⟩) hHeld ?r13
  case y13 => (intro w hSw; have y0 := Blk.cell (i := 0) hSw rfl; have y1 := Blk.cell (i := 1) hSw rfl; have y2 := Blk.cell (i := 2) hSw rfl; have y3 := Blk.cell (i := 3) hSw rfl; have y4 := Blk.cell (i := 4) hSw rfl; have y9 := Blk.cell (i := 9) hSw rfl; have y10 := Blk.cell (i := 10) hSw rfl; have yl := Blk.lt hSw; go_simp; try with_reducible rfl)
  simp only [List.getElem_toArray, List.getElem_cons_zero, List.getElem_cons_succ, Act.put, List.setIfInBounds_toArray, List.set_cons_zero, List.set_cons_succ]
  refine wpAnyH_take (i := 14) (v := ?v14) rfl (by kernel_rfl) (by kernel_rfl) (by kernel_rfl) (fun _ _ _ h => h) (Or.inl ⟨by rfl, ?y14⟩) hHeld ?r14
  case y14 => (intro w hSw; have y0 := Blk.cell (i := 0) hSw rfl; have y1 := Blk.cell (i := 1) hSw rfl; have y2 := Blk.cell (i := 2) hSw rfl; have y3 := Blk.cell (i := 3) hSw rfl; have y4 := Blk.cell (i := 4) hSw rfl; have y9 := Blk.cell (i := 9) hSw rfl; have y10 := Blk.cell (i := 10) hSw rfl; have yl := Blk.lt hSw; go_simp; try with_reducible rfl)
  simp only [List.getElem_toArray, List.getElem_cons_zero, List.getElem_cons_succ, Act.put, List.setIfInBounds_toArray, List.set_cons_zero, List.set_cons_succ]
  refine wpAnyH_ready (rs := [10]) (by kernel_rfl) (by simp) (AllReadyH.cons rfl (fun K hK => ?_) AllReadyH.nil)
  go_simp
  refine (Hrat.out _).mono ?_
  rintro e V1 ⟨rfl, hu1⟩
  have HV : Hid (RB o (rfx S (.slice (some ⟨rb, roff, none⟩) ws.length cap) tr 3 (tr - x.left) x.s nn 0 x.steps) V1 ∧ Row V1 wb ys ∧ Upd (Ow2 o wb) w V1 ∧ Wds n₀ V1 (some ⟨rb, roff, none⟩) ws) := Lib.hid ⟨Blk.low HD.out.1 hu1, HD.out.2.1.below hu1, HD.out.2.2.1.trans (Upd.of_below _ hu1), HD.out.2.2.2.1.keep (hu1.mono HD.out.2.2.2.2)⟩
  clear hu1
  go_wp2_with fail
  refine hK.out _ _ (HV.out.1) (fun hHeld => ?_)
  clear hK K
  refine wpAnyH_take (i := 15) (v := .int .i64 (ln)) rfl (by kernel_rfl) (by kernel_rfl) (by kernel_rfl) (fun _ _ _ h => h) (Or.inl ⟨by rfl, ?y16⟩) hHeld ?r16
  case y16 => (intro w hSw; have y0 := Blk.cell (i := 0) hSw rfl; have y1 := Blk.cell (i := 1) hSw rfl; have y2 := Blk.cell (i := 2) hSw rfl; have y3 := Blk.cell (i := 3) hSw rfl; have y4 := Blk.cell (i := 4) hSw rfl; have y9 := Blk.cell (i := 9) hSw rfl; have y10 := Blk.cell (i := 10) hSw rfl; have yl := Blk.lt hSw; go_simp; try with_reducible rfl)
  simp only [List.getElem_toArray, List.getElem_cons_zero, List.getElem_cons_succ, Act.put, List.setIfInBounds_toArray, List.set_cons_zero, List.set_cons_succ]
  refine wpAnyH_take (i := 16) (v := ?v17) rfl (by kernel_rfl) (by kernel_rfl) (by kernel_rfl) (fun _ _ _ h => h) (Or.inl ⟨by rfl, ?y17⟩) hHeld ?r17
  case y17 => (intro w hSw; have y0 := Blk.cell (i := 0) hSw rfl; have y1 := Blk.cell (i := 1) hSw rfl; have y2 := Blk.cell (i := 2) hSw rfl; have y3 := Blk.cell (i := 3) hSw rfl; have y4 := Blk.cell (i := 4) hSw rfl; have y9 := Blk.cell (i := 9) hSw rfl; have y10 := Blk.cell (i := 10) hSw rfl; have yl := Blk.lt hSw; go_simp; try with_reducible rfl)
  simp only [List.getElem_toArray, List.getElem_cons_zero, List.getElem_cons_succ, Act.put, List.setIfInBounds_toArray, List.set_cons_zero, List.set_cons_succ]
  refine wpAnyH_done (by kernel_rfl) ?_ _
  clear hHeld HD c1 c7 c11 lo Hrat hww hq hq2 hqq
  have c12 := Blk.cell (i := 12) HV.out.1 rfl
  have c7 := Blk.cell (i := 7) HV.out.1 rfl
  have z12 := Blk.frozen HV.out.1 12
  have lo := Blk.lt HV.out.1
  have lw := HV.out.2.1.lt
  have HW1 : Hid (RC o (rfx S (.slice (some ⟨rb, roff, none⟩) ws.length cap) tr 3 (tr - x.left) x.s nn 0 (x.steps + 1)) ⟨rb, roff + nn, none⟩ (.int .u64 wv) (V1.setCell ⟨o, 12, none⟩ (.int .i64 (x.steps + 1))).drew ∧ Row (V1.setCell ⟨o, 12, none⟩ (.int .i64 (x.steps + 1))).drew wb ys ∧ Upd (Ow2 o wb) w (V1.setCell ⟨o, 12, none⟩ (.int .i64 (x.steps + 1))).drew) := by
    obtain ⟨_, rb', roff', e, _, hc⟩ := HV.out.2.2.2 nn _ Hx.out.2.1
    cases e
    have hlb := World.block_lt_of_cell? _ _ hc
    refine Lib.hid ⟨⟨Blk.put HV.out.1 12 (.int .i64 (x.steps + 1)), ?_⟩, HV.out.2.1.setFar hne' _, (HV.out.2.2.1.setCell (.inl (.inl rfl)) _).drew⟩
    exact (((Upd.refl (fun k => k = o) V1).setCell (p := ⟨o, 12, none⟩) (.inl rfl) (.int .i64 (x.steps + 1))).drew.cell (p := ⟨rb, roff + nn, none⟩) hlb hr1).trans hc
  go_wp2_with fail
  generalize V1.setCell ⟨o, 12, none⟩ (.int .i64 (x.steps + 1)) = W0 at HW1 ⊢
  clear c12 c7 z12 lo lw HV
  have cw := HW1.out.2.1.cell Hx.out.1
  have zw := HW1.out.2.1.frozen ln
  have lw := HW1.out.2.1.lt
  have HW2 : Hid (RC o (rfx S (.slice (some ⟨rb, roff, none⟩) ws.length cap) tr 3 (tr - x.left) x.s nn 0 (x.steps + 1)) ⟨rb, roff + nn, none⟩ (.int .u64 wv) (W0.drew.setCell ⟨wb, ln, none⟩ (.int .u64 wv)) ∧ Row (W0.drew.setCell ⟨wb, ln, none⟩ (.int .u64 wv)) wb (ys.set ln wv) ∧ Upd (Ow2 o wb) w (W0.drew.setCell ⟨wb, ln, none⟩ (.int .u64 wv))) :=
    Lib.hid ⟨⟨HW1.out.1.1.setFar (p := ⟨wb, ln, none⟩) hne _, (((Upd.refl (fun k => k = wb) W0.drew).setCell (p := ⟨wb, ln, none⟩) (.inl rfl) (.int .u64 wv)).cell (p := ⟨rb, roff + nn, none⟩) (World.block_lt_of_cell? _ _ HW1.out.1.2) hr2).trans HW1.out.1.2⟩, HW1.out.2.1.put ln wv, HW1.out.2.2.setCell (.inl (.inr rfl)) _⟩
  refine wp_region_held_drew (S := RC o (rfx S (.slice (some ⟨rb, roff, none⟩) ws.length cap) tr 3 (tr - x.left) x.s nn 0 (x.steps + 1)) ⟨rb, roff + nn, none⟩ (.int .u64 wv)) (by kernel_rfl) (HW1.out.1) (fun hHeld => ?_)
  refine wpAnyH_take (i := 0) (v := ?v32) rfl (by kernel_rfl) (by kernel_rfl) (by kernel_rfl) (fun _ _ _ h => h) (Or.inl ⟨by rfl, ?y32⟩) hHeld ?r32
  case y32 => (intro w hSw; obtain ⟨hSb, cS⟩ := hSw; have y5 := Blk.cell (i := 5) hSb rfl; have y10 := Blk.cell (i := 10) hSb rfl; have yl := Blk.lt hSb; clear hSb; go_simp; try with_reducible rfl)
  simp only [List.getElem_toArray, List.getElem_cons_zero, Act.put, List.setIfInBounds_toArray, List.set_cons_zero, List.set_cons_succ]
  refine wpAnyH_take (i := 1) (v := ?v33) rfl (by kernel_rfl) (by kernel_rfl) (by kernel_rfl) (fun _ _ _ h => h) (Or.inl ⟨by rfl, ?y33⟩) hHeld ?r33
  case y33 => (intro w hSw; obtain ⟨hSb, cS⟩ := hSw; have y5 := Blk.cell (i := 5) hSb rfl; have y10 := Blk.cell (i := 10) hSb rfl; have yl := Blk.lt hSb; clear hSb; go_simp; try with_reducible rfl)
  simp only [List.getElem_toArray, List.getElem_cons_zero, List.getElem_cons_succ, Act.put, List.setIfInBounds_toArray, List.set_cons_zero, List.set_cons_succ]
  refine wpAnyH_take (i := 2) (v := ?v34) rfl (by kernel_rfl) (by kernel_rfl) (by kernel_rfl) (fun _ _ _ h => h) (Or.inl ⟨by rfl, ?y34⟩) hHeld ?r34
  case y34 => (intro w hSw; obtain ⟨hSb, cS⟩ := hSw; have y5 := Blk.cell (i := 5) hSb rfl; have y10 := Blk.cell (i := 10) hSb rfl; have yl := Blk.lt hSb; clear hSb; go_simp; try with_reducible rfl)
  simp only [List.getElem_toArray, List.getElem_cons_zero, List.getElem_cons_succ, Act.put, List.setIfInBounds_toArray, List.set_cons_zero, List.set_cons_succ]
  refine wpAnyH_take (i := 3) (v := ?v35) rfl (by kernel_rfl) (by kernel_rfl) (by kernel_rfl) (fun _ _ _ h => h) (Or.inl ⟨by rfl, ?y35⟩) hHeld ?r35
  case y35 => (intro w hSw; obtain ⟨hSb, cS⟩ := hSw; have y5 := Blk.cell (i := 5) hSb rfl; have y10 := Blk.cell (i := 10) hSb rfl; have yl := Blk.lt hSb; clear hSb; go_simp; try with_reducible rfl)
  simp only [List.getElem_toArray, List.getElem_cons_zero, List.getElem_cons_succ, Act.put, List.setIfInBounds_toArray, List.set_cons_zero, List.set_cons_succ]
  refine wpAnyH_take (i := 4) (v := ?v36) rfl (by kernel_rfl) (by kernel_rfl) (by kernel_rfl) (fun _ _ _ h => h) (Or.inl ⟨by rfl, ?y36⟩) hHeld ?r36
  case y36 => (intro w hSw; obtain ⟨hSb, cS⟩ := hSw; have y5 := Blk.cell (i := 5) hSb rfl; have y10 := Blk.cell (i := 10) hSb rfl; have yl := Blk.lt hSb; clear hSb; go_simp; try with_reducible rfl)
  simp only [List.getElem_toArray, List.getElem_cons_zero, List.getElem_cons_succ, Act.put, List.setIfInBounds_toArray, List.set_cons_zero, List.set_cons_succ]
  refine wpAnyH_take (i := 5) (v := ?v37) rfl (by kernel_rfl) (by kernel_rfl) (by kernel_rfl) (fun _ _ _ h => h) (Or.inl ⟨by rfl, ?y37⟩) hHeld ?r37
  case y37 => (intro w hSw; obtain ⟨hSb, cS⟩ := hSw; have y5 := Blk.cell (i := 5) hSb rfl; have y10 := Blk.cell (i := 10) hSb rfl; have yl := Blk.lt hSb; clear hSb; go_simp; try with_reducible rfl)
  simp only [List.getElem_toArray, List.getElem_cons_zero, List.getElem_cons_succ, Act.put, List.setIfInBounds_toArray, List.set_cons_zero, List.set_cons_succ]
  refine wpAnyH_take (i := 6) (v := ?v38) rfl (by kernel_rfl) (by kernel_rfl) (by kernel_rfl) (fun _ _ _ h => h) (Or.inl ⟨by rfl, ?y38⟩) hHeld ?r38
  case y38 => (intro w hSw; obtain ⟨hSb, cS⟩ := hSw; have y5 := Blk.cell (i := 5) hSb rfl; have y10 := Blk.cell (i := 10) hSb rfl; have yl := Blk.lt hSb; clear hSb; go_simp; try with_reducible rfl)
  simp only [List.getElem_toArray, List.getElem_cons_zero, List.getElem_cons_succ, Act.put, List.setIfInBounds_toArray, List.set_cons_zero, List.set_cons_succ]
  refine wpAnyH_take (i := 7) (v := ?v39) rfl (by kernel_rfl) (by kernel_rfl) (by kernel_rfl) (fun _ _ _ h => h) (Or.inl ⟨by rfl, ?y39⟩) hHeld ?r39
  case y39 => (intro w hSw; obtain ⟨hSb, cS⟩ := hSw; have y5 := Blk.cell (i := 5) hSb rfl; have y10 := Blk.cell (i := 10) hSb rfl; have yl := Blk.lt hSb; clear hSb; go_simp; try with_reducible rfl)
  simp only [List.getElem_toArray, List.getElem_cons_zero, List.getElem_cons_succ, Act.put, List.setIfInBounds_toArray, List.set_cons_zero, List.set_cons_succ]
  refine wpAnyH_take (i := 8) (v := ?v40) rfl (by kernel_rfl) (by kernel_rfl) (by kernel_rfl) (fun _ _ _ h => h) (Or.inl ⟨by rfl, ?y40⟩) hHeld ?r40
  case y40 => (intro w hSw; obtain ⟨hSb, cS⟩ := hSw; have y5 := Blk.cell (i := 5) hSb rfl; have y10 := Blk.cell (i := 10) hSb rfl; have yl := Blk.lt hSb; clear hSb; go_simp; try with_reducible rfl)
  simp only [List.getElem_toArray, List.getElem_cons_zero, List.getElem_cons_succ, Act.put, List.setIfInBounds_toArray, List.set_cons_zero, List.set_cons_succ]
  refine wpAnyH_take (i := 9) (v := ?v41) rfl (by kernel_rfl) (by kernel_rfl) (by kernel_rfl) (fun _ _ _ h => h) (Or.inl ⟨by rfl, ?y41⟩) hHeld ?r41
  case y41 => (intro w hSw; obtain ⟨hSb, cS⟩ := hSw; have y5 := Blk.cell (i := 5) hSb rfl; have y10 := Blk.cell (i := 10) hSb rfl; have yl := Blk.lt hSb; clear hSb; go_simp; try with_reducible rfl)
  simp only [List.getElem_toArray, List.getElem_cons_zero, List.getElem_cons_succ, Act.put, List.setIfInBounds_toArray, List.set_cons_zero, List.set_cons_succ]
  refine wpAnyH_take (i := 10) (v := ?v42) rfl (by kernel_rfl) (by kernel_rfl) (by kernel_rfl) (fun _ _ _ h => h) (Or.inl ⟨by rfl, ?y42⟩) hHeld ?r42
  case y42 => (intro w hSw; obtain ⟨hSb, cS⟩ := hSw; have y5 := Blk.cell (i := 5) hSb rfl; have y10 := Blk.cell (i := 10) hSb rfl; have yl := Blk.lt hSb; clear hSb; go_simp; try with_reducible rfl)
  simp only [List.getElem_toArray, List.getElem_cons_zero, List.getElem_cons_succ, Act.put, List.setIfInBounds_toArray, List.set_cons_zero, List.set_cons_succ]
  refine wpAnyH_take (i := 11) (v := ?v43) rfl (by kernel_rfl) (by kernel_rfl) (by kernel_rfl) (fun _ _ _ h => h) (Or.inl ⟨by rfl, ?y43⟩) hHeld ?r43
  case y43 => (intro w hSw; obtain ⟨hSb, cS⟩ := hSw; have y5 := Blk.cell (i := 5) hSb rfl; have y10 := Blk.cell (i := 10) hSb rfl; have yl := Blk.lt hSb; clear hSb; go_simp; try with_reducible rfl)
  simp only [List.getElem_toArray, List.getElem_cons_zero, List.getElem_cons_succ, Act.put, List.setIfInBounds_toArray, List.set_cons_zero, List.set_cons_succ]
  refine wpAnyH_take (i := 12) (v := ?v44) rfl (by kernel_rfl) (by kernel_rfl) (by kernel_rfl) (fun _ _ _ h => h) (Or.inl ⟨by rfl, ?y44⟩) hHeld ?r44
  case y44 => (intro w hSw; obtain ⟨hSb, cS⟩ := hSw; have y5 := Blk.cell (i := 5) hSb rfl; have y10 := Blk.cell (i := 10) hSb rfl; have yl := Blk.lt hSb; clear hSb; go_simp; try with_reducible rfl)
  simp only [List.getElem_toArray, List.getElem_cons_zero, List.getElem_cons_succ, Act.put, List.setIfInBounds_toArray, List.set_cons_zero, List.set_cons_succ]
  refine wpAnyH_ready (rs := [13]) (by kernel_rfl) (by simp) (AllReadyH.cons rfl (fun K hK => ?_) AllReadyH.nil)
  go_simp
  refine hK.out _ _ (HW2.out.1) (fun hHeld => ?_)
  clear hK K
  refine wpAnyH_done (by kernel_rfl) ?_ _
  clear hHeld cw zw lw HW1
  have Hgen : (W0.setCell ⟨wb, ln, none⟩ (.int .u64 wv)).drew = W0.drew.setCell ⟨wb, ln, none⟩ (.int .u64 wv) := rfl
  try rw [Hgen]
  clear Hgen
  generalize W0.drew.setCell ⟨wb, ln, none⟩ (.int .u64 wv) = W2 at HW2 ⊢
  have c10 := HW2.out.1.1.cell (i := 10) rfl
  have z10 := HW2.out.1.1.frozen 10
  have lo := HW2.out.1.1.lt
  have HW3 := Lib.hid (And.intro (HW2.out.1.1.put 10 (.int .i64 ((nn : Int) + 1))) (And.intro (HW2.out.2.1.setFar (p := ⟨o, 10, none⟩) hne' (.int .i64 ((nn : Int) + 1))) (HW2.out.2.2.setCell (p := ⟨o, 10, none⟩) (.inl (.inl rfl)) (.int .i64 ((nn : Int) + 1)))))
  clear HW2
  have nn0 : (nn : Int) ≤ 64 := by have := Hn.out; omega
  have m1 : (((nn : Int) + 1) == ws.length) = true := by have := Hn.out; simp; omega
  clear he
  go_wp2_with fail
  generalize W2.setCell ⟨o, 10, none⟩ (.int .i64 ((nn : Int) + 1)) = W3 at HW3 ⊢
  clear c10 z10 lo
  have c10 := HW3.out.1.cell (i := 10) rfl
  have c5 := HW3.out.1.cell (i := 5) rfl
  have c7 := HW3.out.1.cell (i := 7) rfl
  have z7 := HW3.out.1.frozen 7
  have lo := HW3.out.1.lt
  go_quiet (fail)
  have y7 : (W3.drewN nq).frozen? ⟨o, 7, none⟩ = false := z7
  go_wp2
  go_end0
  refine ⟨rfl, ⟨x.s, ((blkN HW3.out.1 nq).put 7 (.int .i64 4)).to ?_, fun _ => rfl⟩, ?_, (HW3.out.2.2.drewN nq).setCell (.inl (.inl rfl)) _⟩
  · show _ = rfx S _ tr (3 + 1) _ _ (x.n + 1) x.how _
    rw [hh, Hn.out]
    rfl
  · show Row _ wb (ys.set (lie S x).toNat (ws.getD x.n.toNat 0))
    rw [Hx.out.2.2.2, Hx.out.2.2.1, Int.toNat_natCast]
    exact Row.setFar (w := W3.drewN nq) HW3.out.2.1 hne' _
theorem rstep_any (h : RfAt w o S a ws cap tr x) (hB : Row w wb ys) (hne : o ≠ wb) (hW : Wds n₀ w a ws) (ho : n₀ ≤ o) (hw : n₀ ≤ wb) (hwf : Wf S ws x) (hu : ∀ v ∈ ys, U64 v) (f1 : x.left ≤ tr) (f2 : tr ≤ 16) (p0 : 0 ≤ x.steps) (p1 : x.steps ≤ 1000000) :
    Calls Try.prog 17 #[.pointer (some ⟨o, 0, none⟩), .slice (some ⟨wb, 0, none⟩) ys.length ys.length] w (RPost o wb S a ws cap tr (stp S ws ys x) w) := by
  have q0 : 0 ≤ S.sq := hwf.rt.2.2.2.2.2.2.1
  unfold stp
  by_cases hh : x.how = 0
  · have f0 := hwf.fp hh
    rw [if_neg (fun c => c hh)]
    by_cases l0 : x.line = 0
    · rw [if_pos l0]
      cases hv : getI ys S.sq with
      | none => exact rstep_look_out h hB hne hh l0 hv q0
      | some v =>
        dsimp only
        have u0 := (hu v (List.mem_of_getElem? (getI_some hv).2)).1
        by_cases he : v % 2 = 1
        · rw [if_pos he]; exact rstep_look_odd h hB hne hh l0 v hv he u0 f0 f1 f2 q0 p0 p1
        · rw [if_neg he]; exact rstep_look_even h hB hne hh l0 v hv he u0 q0 p0 p1
    · rw [if_neg l0]
      by_cases l1 : x.line = 1
      · rw [if_pos l1]
        cases hv : getI ys S.sq with
        | none => exact rstep_take_out h hB hne hh l1 hv q0
        | some v =>
          dsimp only
          by_cases he : v = x.s
          · rw [if_pos he]; exact rstep_take_hit h hB hne hh l1 (hwf.nz (by omega)) (he ▸ hv) q0 p0 p1
          · rw [if_neg he]; exact rstep_take_miss h hB hne hh l1 v hv he f0 f1 f2 q0 p0 p1
      · rw [if_neg l1]
        by_cases l2 : x.line = 2
        · rw [if_pos l2]
          cases hv : getI ys (lie S x) with
          | none => exact rstep_lay_out h hB hne hh hW ho hw hwf l2 hv
          | some v =>
            dsimp only
            by_cases he : x.n + 1 = ws.length
            · rw [if_pos he]; exact rstep_lay_last h hB hne hh hW ho hw hwf l2 v hv he p0 p1
            · rw [if_neg he]
              have := rstep_lay_mid h hB hne hh hW ho hw hwf l2 v hv he p0 p1
              exact this
        · rw [if_neg l2]
          have l3 : x.line = 3 := by have := hwf.l0; have := hwf.l3; omega
          cases hv : getI ys S.sq with
          | none => exact rstep_give_out h hB hne hh l3 hv q0
          | some v => exact rstep_give_in h hB hne hh l3 v hv q0 p0 p1
  · rw [if_pos hh]
    refine (rstep_ended h _ hh).mono ?_
    rintro e w' ⟨rfl, rfl⟩
    exact ⟨rfl, h, hB, Upd.refl _ _⟩
end
end Go.Proofs.Ytbfelghfimcenaa
