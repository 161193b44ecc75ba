/- publish: a record published to its end. -/
import Derived.Test.YtflgggfomhifeaaRec
import Derived.Deep.RegionHeld3
namespace Go.Proofs.Ytflgggfomhifeaa
open Go.RowKit

/-- What comes of it. -/
def PubPost (b bg B n d k : Nat) (ws xs : List Int) (t : Int) (w : World) (e : Ending) (w' : World) : Prop :=
  ∃ zs : List Int, e = .returned (.bool true) ∧ Bk w' b bg zs (t + n + 3) ∧ zs.length = xs.length ∧ zs[B + 1]? = some (2 * (k : Int) + 2) ∧ Laid B (plc B n d k) n ws xs zs ∧ Upd (Own b bg) w w'
/-- The loop's head. -/
def PuRel (w : World) (b bg o g m B n d k : Nat) (ws xs : List Int) (t : Int) (i : Value) (wr : World) : Prop :=
  ∃ (j : Nat) (x : St) (zs : List Int), i = .int .i64 j ∧ j ≤ n + 3 ∧ AlInv B n d k ws xs j x zs ∧ OpAt wr o g (spB B n d) ws x ∧ Bk wr b bg zs (t + j) ∧ Blk wr m (spc B (B + 1) (B + 2) n d) ∧ Wf (spB B n d) ws x ∧ x.steps = j ∧ Upd (Own b bg) w wr
theorem upd_own {o b bg : Nat} {w A B : World} (h : Upd (Own b bg) w A) (u : Upd (OwnS o b bg) A B) (ho : w.heap.size ≤ o) : Upd (Own b bg) w B :=
  ⟨u.os.trans h.os, u.tape.trans h.tape, u.output.trans h.output, Nat.le_trans h.size u.size, fun i hi hn => (u.block i (Nat.lt_of_lt_of_le hi h.size) (fun q => by
    rcases q with q | q
    · omega
    · exact hn q)).trans (h.block i hi hn)⟩
set_option maxRecDepth 100000 in
set_option maxHeartbeats 2000000 in
theorem publish_any (b bg B n d k : Nat) (x : Int) (xs : List Int) (t : Int) (w : World) (n1 : 1 ≤ n) (n2 : n ≤ 64) (d1 : 2 ≤ d) (d2 : d ≤ 16) (hB0 : B ≤ 100000) (hk : k ≤ 1000) (hxu : U64 x)
    (hB : Bk w b bg xs t) (hxl : B + 2 + n * d ≤ xs.length) (hx : xs[B + 1]? = some (2 * (k : Int))) (t0 : 0 ≤ t) (t1 : t ≤ 900000) :
    Calls Try.prog 28 #[.pointer (some ⟨b, 0, none⟩), spV (spB B n d), .int .u64 x] w (PubPost b bg B n d k (rcd n x) xs t w) := by
  have hnw : nwE (spB B n d) (rcd n x).length 1 = 0 := by
    unfold nwE
    rw [if_pos ((mb_iff _ _).2 ⟨by unfold Rt spB; simp only; omega, by omega, by omega⟩), rcd_len, if_pos (show (n : Int) = (spB B n d).wd from rfl)]
  have hru : ∀ v ∈ rcd n x, U64 v := fun v hv => by
    obtain ⟨j, hj⟩ := List.mem_iff_getElem?.1 hv
    rw [(rcd_at hj).2]
    exact u64_rcw _ _
  have hu0 := (Upd.refl (Own b bg) w).alloc (sb (spB B n d))
  have hM0 : Blk (w.alloc (sb (spB B n d))) w.heap.size (spc B (B + 1) (B + 2) n d) := Blk.new w _ _
  have HB0 := Lib.hid (And.intro (hB.alloc (sb (spB B n d))) (And.intro hu0 hM0))
  have lb := hB.ltb
  have lg := hB.ltg
  have Hwf := Lib.hid (wf0 (S := spB B n d) (tr := 1) hnw hru)
  have Hrec := Lib.hid (fun w => record_any n x w n2 hxu)
  have Hnew : Hid (∀ (w' : World) (a : Option Addr) (cap : Nat), Wds w'.heap.size w' a (rcd n x) → Calls Try.prog 24 #[.agg #[.int .i64 B, .int .i64 (B + 1), .int .i64 (B + 2), .int .i64 n, .int .i64 d], .slice a n cap, .int .i64 1] w' (NewOp (spB B n d) (rcd n x) 1 w')) := Lib.hid (fun w' a cap hW => by
    have := newo_ok (spB B n d) a (rcd n x) cap 1 w' w'.heap.size (Nat.le_refl _) hW hnw
    rw [rcd_len] at this
    exact this)
  have HC := Lib.hid (And.intro (rcd_len n x) (And.intro hxl (And.intro hx (And.intro n1 (And.intro n2 (And.intro d1 (And.intro d2 hB0)))))))
  have hn64 : (n : Int) ≤ 64 := by omega
  have hsz : w.heap.size < (w.alloc (sb (spB B n d))).heap.size := by simp
  have hs0 : (w.alloc (sb (spB B n d))).heap.size = w.heap.size + 1 := by simp
  have HS0 := Lib.hid (And.intro hs0 (And.intro lb lg))
  clear hnw hru hu0 hM0 hB hxl hx hs0 d1 d2 n2 n1 hB0 hxu lb lg
  generalize hws : rcd n x = ws at *
  have Hws := Lib.hid hws
  clear hws
  unfold spV spv
  go_enter Try.func28, Try.ntmps28
  go_wp2_with fail
  generalize hm : w.heap.size = m at *
  have Hm := Lib.hid hm
  clear hm
  have hq : Blk (w.alloc (sb (spB B n d))).drew m (spc B (B + 1) (B + 2) n d) := HB0.out.2.2.drew
  refine wp_region_held_drew (S := fun w' => Blk w' m (spc B (B + 1) (B + 2) n d)) (by kernel_rfl) (hq) (fun hHeld => ?_)
  refine wpAnyH_take (i := 0) (v := ?v1) rfl (by kernel_rfl) (by kernel_rfl) (by kernel_rfl) (fun _ _ _ h => h) (Or.inl ⟨by rfl, ?y1⟩) hHeld ?r1
  case y1 => (intro w hSw; have c0 := hSw.cell (i := 0) rfl; have c1 := hSw.cell (i := 1) rfl; have c2 := hSw.cell (i := 2) rfl; have c3 := hSw.cell (i := 3) rfl; have c4 := hSw.cell (i := 4) rfl; clear hSw; go_simp; try with_reducible rfl)
  simp only [List.getElem_toArray, List.getElem_cons_zero, Act.put, List.setIfInBounds_toArray, List.set_cons_zero, List.set_cons_succ]
  refine wpAnyH_take (i := 1) (v := ?v2) rfl (by kernel_rfl) (by kernel_rfl) (by kernel_rfl) (fun _ _ _ h => h) (Or.inl ⟨by rfl, ?y2⟩) hHeld ?r2
  case y2 => (intro w hSw; have c0 := hSw.cell (i := 0) rfl; have c1 := hSw.cell (i := 1) rfl; have c2 := hSw.cell (i := 2) rfl; have c3 := hSw.cell (i := 3) rfl; have c4 := hSw.cell (i := 4) rfl; clear hSw; go_simp; try with_reducible rfl)
  simp only [List.getElem_toArray, List.getElem_cons_zero, List.getElem_cons_succ, Act.put, List.setIfInBounds_toArray, List.set_cons_zero, List.set_cons_succ]
  refine wpAnyH_take (i := 2) (v := ?v3) rfl (by kernel_rfl) (by kernel_rfl) (by kernel_rfl) (fun _ _ _ h => h) (Or.inl ⟨by rfl, ?y3⟩) hHeld ?r3
  case y3 => (intro w hSw; have c0 := hSw.cell (i := 0) rfl; have c1 := hSw.cell (i := 1) rfl; have c2 := hSw.cell (i := 2) rfl; have c3 := hSw.cell (i := 3) rfl; have c4 := hSw.cell (i := 4) rfl; clear hSw; go_simp; try with_reducible rfl)
  simp only [List.getElem_toArray, List.getElem_cons_zero, List.getElem_cons_succ, Act.put, List.setIfInBounds_toArray, List.set_cons_zero, List.set_cons_succ]
  refine wpAnyH_take (i := 3) (v := ?v4) rfl (by kernel_rfl) (by kernel_rfl) (by kernel_rfl) (fun _ _ _ h => h) (Or.inl ⟨by rfl, ?y4⟩) hHeld ?r4
  case y4 => (intro w hSw; have c0 := hSw.cell (i := 0) rfl; have c1 := hSw.cell (i := 1) rfl; have c2 := hSw.cell (i := 2) rfl; have c3 := hSw.cell (i := 3) rfl; have c4 := hSw.cell (i := 4) rfl; clear hSw; go_simp; try with_reducible rfl)
  simp only [List.getElem_toArray, List.getElem_cons_zero, List.getElem_cons_succ, Act.put, List.setIfInBounds_toArray, List.set_cons_zero, List.set_cons_succ]
  refine wpAnyH_ready (rs := [4]) (by kernel_rfl) (by simp) (AllReadyH.cons rfl (fun K hK => ?_) AllReadyH.nil)
  go_simp
  refine (Hrec.out _).mono ?_
  rintro e w2 ⟨ra, rc, rfl, hW2, hb2⟩
  rw [Hws.out] at hW2
  have H2 := Lib.hid (And.intro (HB0.out.1.drew.below hb2) (And.intro (HB0.out.2.1.drew.trans (Upd.of_below (Own b bg) hb2)) (And.intro (HB0.out.2.2.drew.low hb2) (And.intro hW2 hb2.size))))
  clear hW2 hb2 Hrec
  go_wp2_with fail
  refine hK.out _ _ (H2.out.2.2.1) (fun hHeld => ?_)
  clear hK K
  refine wpAnyH_ready (rs := [5]) (by kernel_rfl) (by simp) (AllReadyH.cons rfl (fun K hK => ?_) AllReadyH.nil)
  go_simp
  refine (Hnew.out _ ra rc H2.out.2.2.2.1).mono ?_
  rintro e w3 ⟨o, g, ho, hg, rfl, hO, hu3⟩
  have hk3 := H2.out.1.below hu3
  have hv3 := H2.out.2.1.trans (Upd.of_below (Own b bg) hu3)
  have hm3 := H2.out.2.2.1.low hu3
  have hqq : o ≠ b ∧ o ≠ bg ∧ g ≠ b ∧ g ≠ bg ∧ w.heap.size ≤ o ∧ m ≠ o ∧ m ≠ b ∧ m ≠ bg := by
    have h1 := HS0.out
    have h2 : (w.alloc (sb (spB B n d))).drew.heap.size ≤ w2.heap.size := H2.out.2.2.2.2
    have h3 := Hm.out
    have h4 : (w.alloc (sb (spB B n d))).drew.heap.size = (w.alloc (sb (spB B n d))).heap.size := rfl
    omega
  have Hq := Lib.hid (And.intro hqq (And.intro hO (And.intro hk3 (And.intro hm3 hv3))))
  clear hqq hu3 Hnew HB0 H2 HS0 ho hg hO hk3 hv3 hsz hm3
  go_wp2_with fail
  refine hK.out _ _ (Hq.out.2.2.2.1) (fun hHeld => ?_)
  clear hK K
  refine wpAnyH_take (i := 6) (v := ?v7) rfl (by kernel_rfl) (by kernel_rfl) (by kernel_rfl) (fun _ _ _ h => h) (Or.inl ⟨by rfl, ?y7⟩) hHeld ?r7
  case y7 => (intro w hSw; have c0 := hSw.cell (i := 0) rfl; have c1 := hSw.cell (i := 1) rfl; have c2 := hSw.cell (i := 2) rfl; have c3 := hSw.cell (i := 3) rfl; have c4 := hSw.cell (i := 4) rfl; clear hSw; go_simp; try with_reducible rfl)
  simp only [List.getElem_toArray, List.getElem_cons_zero, List.getElem_cons_succ, Act.put, List.setIfInBounds_toArray, List.set_cons_zero, List.set_cons_succ]
  refine wpAnyH_take (i := 7) (v := ?v8) rfl (by kernel_rfl) (by kernel_rfl) (by kernel_rfl) (fun _ _ _ h => h) (Or.inl ⟨by rfl, ?y8⟩) hHeld ?r8
  case y8 => (intro w hSw; have c0 := hSw.cell (i := 0) rfl; have c1 := hSw.cell (i := 1) rfl; have c2 := hSw.cell (i := 2) rfl; have c3 := hSw.cell (i := 3) rfl; have c4 := hSw.cell (i := 4) rfl; clear hSw; go_simp; try with_reducible rfl)
  simp only [List.getElem_toArray, List.getElem_cons_zero, List.getElem_cons_succ, Act.put, List.setIfInBounds_toArray, List.set_cons_zero, List.set_cons_succ]
  refine wpAnyH_take (i := 8) (v := ?v9) rfl (by kernel_rfl) (by kernel_rfl) (by kernel_rfl) (fun _ _ _ h => h) (Or.inl ⟨by rfl, ?y9⟩) hHeld ?r9
  case y9 => (intro w hSw; have c0 := hSw.cell (i := 0) rfl; have c1 := hSw.cell (i := 1) rfl; have c2 := hSw.cell (i := 2) rfl; have c3 := hSw.cell (i := 3) rfl; have c4 := hSw.cell (i := 4) rfl; clear hSw; go_simp; try with_reducible rfl)
  simp only [List.getElem_toArray, List.getElem_cons_zero, List.getElem_cons_succ, Act.put, List.setIfInBounds_toArray, List.set_cons_zero, List.set_cons_succ]
  refine wpAnyH_take (i := 9) (v := ?v10) rfl (by kernel_rfl) (by kernel_rfl) (by kernel_rfl) (fun _ _ _ h => h) (Or.inl ⟨by rfl, ?y10⟩) hHeld ?r10
  case y10 => (intro w hSw; have c0 := hSw.cell (i := 0) rfl; have c1 := hSw.cell (i := 1) rfl; have c2 := hSw.cell (i := 2) rfl; have c3 := hSw.cell (i := 3) rfl; have c4 := hSw.cell (i := 4) rfl; clear hSw; go_simp; try with_reducible rfl)
  simp only [List.getElem_toArray, List.getElem_cons_zero, List.getElem_cons_succ, Act.put, List.setIfInBounds_toArray, List.set_cons_zero, List.set_cons_succ]
  refine wpAnyH_take (i := 10) (v := ?v11) rfl (by kernel_rfl) (by kernel_rfl) (by kernel_rfl) (fun _ _ _ h => h) (Or.inl ⟨by rfl, ?y11⟩) hHeld ?r11
  case y11 => (intro w hSw; have c0 := hSw.cell (i := 0) rfl; have c1 := hSw.cell (i := 1) rfl; have c2 := hSw.cell (i := 2) rfl; have c3 := hSw.cell (i := 3) rfl; have c4 := hSw.cell (i := 4) rfl; clear hSw; go_simp; try with_reducible rfl)
  simp only [List.getElem_toArray, List.getElem_cons_zero, List.getElem_cons_succ, Act.put, List.setIfInBounds_toArray, List.set_cons_zero, List.set_cons_succ]
  refine wpAnyH_done (by kernel_rfl) ?_ _
  clear hHeld hq
  have HQ := Lib.hid Hq.out.1
  obtain ⟨_, hO, hk1, hm1, hv1⟩ := Hq.out
  clear Hq
  go_wp2_with fail
  go_loopw [9] (fun i wr => PuRel w b bg o g m B n d k ws xs t i wr) (fun i _ => n + 3 - (intOf i).toNat)
  case atStart => exact ⟨0, st0 1, xs, rfl, by omega, ⟨rfl, .inl ⟨rfl, rfl, rfl⟩⟩, hO, (by rw [show ((0 : Nat) : Int) = 0 from rfl, Int.add_zero]; exact hk1), hm1, Hwf.out, rfl, hv1⟩
  case round =>
    clear hO hk1 hv1 hm1
    obtain ⟨j, y, zs, rfl, hj, hI, hO, hK, hM, hwf, hst, hv⟩ := hrel
    have cM := hM.cell (i := 3) rfl
    by_cases hlt : (j : Int) < n + 3
    · obtain ⟨hn, hxl, hx, n1, n2, d1, d2, hB0⟩ := HC.out
      obtain ⟨hI2, ha, hs2, hh2⟩ := al_step hB0 n1 n2 d1 d2 hk hxl hn hx hI (by omega)
      obtain ⟨e1, e2, e3, e4, e5, e6, e7, e8⟩ := HQ.out
      have Hst := Lib.hid (step_any hO hK e1 e2 e3 e4 hwf (by omega) (by omega) (by omega) (by omega))
      have Hwf2 := Lib.hid (wf_stp hwf hK.rng)
      have HI2 := Lib.hid (And.intro hI2 (And.intro ha (And.intro hs2 hM)))
      have Hv := Lib.hid hv
      have hj64 : (j : Int) ≤ 67 := by omega
      clear hI2 ha hs2 hh2 hI hO hK hwf hst hv hn hxl hx n1 n2 d1 d2 e1 e2 e3 e4 e5 e6 e7 e8 hM hB0
      generalize stp (spB B n d) ws zs y = r at *
      go_wp2_with fail
      refine Hst.out.mono ?_
      rintro e w2 ⟨rfl, hO2, hK2, hu2⟩
      have hv2 := upd_own Hv.out hu2 HQ.out.2.2.2.2.1
      obtain ⟨hI2, ha, hs2, hM⟩ := HI2.out
      have hM2 := hM.of_block (hu2.block m hM.lt (fun q => by have := HQ.out; rcases q with q | q | q <;> omega))
      rw [ha] at hK2
      have HR := Lib.hid (And.intro hI2 (And.intro hO2 (And.intro hK2 (And.intro hM2 (And.intro Hwf2.out (And.intro hs2 hv2))))))
      clear Hst hu2 HI2 hI2 ha hs2 hO2 hK2 hv2 Hwf2 Hv hM hM2 cM
      go_wp2_with fail
      go_roundw
      case rel =>
        obtain ⟨a1, a2, a3, a4, a5, a6, a7⟩ := HR.out
        exact ⟨j + 1, r.1, r.2.1, by go_num, by omega, a1, a2, (by rw [show ((j + 1 : Nat) : Int) = (j : Int) + 1 by omega, ← Int.add_assoc]; exact a3), a4, a5, by omega, a7⟩
      case measure => simp [intOf]; omega
    · obtain rfl : j = n + 3 := by omega
      obtain ⟨z1, hc⟩ := hI
      obtain ⟨rfl, y1, y2⟩ : y = ⟨1, 3 + n, 1, 3, n, 2 * k⟩ ∧ zs[B + 1]? = some (2 * (k : Int) + 2) ∧ Laid B (plc B n d k) n ws xs zs := by
        rcases hc with ⟨c, _⟩ | ⟨c, _⟩ | ⟨m, c, c2, _⟩ | ⟨_, c1, c2, c3⟩
        · omega
        · omega
        · omega
        · exact ⟨c1, c2, c3⟩
      have HG := Lib.hid (gen_any hO (by show U64 (2 * (k : Int)); unfold U64; omega))
      have HR := Lib.hid (show ∃ zs : List Int, Bk wr b bg zs (t + n + 3) ∧ zs.length = xs.length ∧ zs[B + 1]? = some (2 * (k : Int) + 2) ∧ Laid B (plc B n d k) n ws xs zs ∧ Upd (Own b bg) w wr from ⟨zs, (by have := hK; rw [show t + ((n + 3 : Nat) : Int) = t + n + 3 by push_cast; omega] at this; exact this), z1, y1, y2, hv⟩)
      clear hO hK hv hc z1 y1 y2 hwf hst hM
      simp only [if_true] at HG
      have hk0 : 0 < 2 * (k : Int) / 2 + 1 := by omega
      generalize 2 * (k : Int) / 2 + 1 = G at *
      go_wp2_with fail
      refine HG.out.mono ?_
      rintro e w' ⟨rfl, rfl⟩
      go_wp2
      go_ret
      obtain ⟨zs, hr⟩ := HR.out
      exact ⟨zs, by simp, hr⟩
end Go.Proofs.Ytflgggfomhifeaa
