/- The law BitsRows returns true, whatever it is given. No condition. -/
import Derived.Test.YtknhbpifkpcpnaaAny
import Derived.Test.YtknhbpifkpcpnaaArgs
import Derived.Test.YtknhbpifkpcpnaaFew
import Derived.ProofKit
import Derived.OpenShut
import Derived.ChangeOld
namespace Go.Proofs.Ytknhbpifkpcpnaa.bitsRows
open Go.ChangeShapes Go.WideShapes Go.ChangeAt Go.RowKit Go.Deep

theorem own : ownKnob Try.prog.godebug = none := by kernel_rfl
theorem laidOut : laidOutB Try.prog = true := by kernel_rfl

/-- At the head of the law's loop. -/
def RelL (w2 : World) (len : Nat) (i : Value) (wr : World) : Prop := ∃ k : Nat, k ≤ len ∧ i = .int .i64 k ∧ Below w2.heap.size w2 wr

set_option maxRecDepth 100000 in
set_option maxHeartbeats 4000000 in
theorem walk (a : Option Addr) (len cap : Nat) (zs : List Int) (hlen : len = zs.length) (w : World) (hI : Ints w.heap.size w a zs) : Calls Try.prog 8 #[.slice a len cap] w (Ret (.bool true) w) := by
  have hnot := hnot
  subst hlen
  by_cases h80 : zs.length ≤ 80
  · have hd : decide ((zs.length : Int) ≤ 80) = true := decide_eq_true (by omega)
    go_enter Try.func8, Try.ntmps8
    go_wp2_with fail
    refine (few_any a zs.length cap w).mono ?_
    rintro e w0 ⟨rfl, hb0⟩
    rw [hd]
    go_wp2_with fail
    refine (row_any a _ cap zs rfl h80 w0 ((hI.below hb0).mono hb0.size)).mono ?_
    rintro e w1 ⟨v, rfl, hb1, hv0, hv1⟩
    have hI1 := ((hI.below hb0).mono hb0.size).below hb1 |>.mono hb1.size
    go_wp2_with fail
    refine (rrow_any a _ cap zs rfl h80 w1 hI1).mono ?_
    rintro e w2 ⟨v', rfl, hb2, hv0', hv1'⟩
    have hb02 : Below w.heap.size w w2 := hb0.trans ((hb1.mono hb0.size).trans (hb2.mono (Nat.le_trans hb0.size hb1.size)))
    have hfl := rowF_len zs 0
    by_cases he : rowE 0 zs = 0
    · obtain ⟨av, cv, rfl, hf⟩ := owns_flds (hv1 he)
      obtain ⟨av', cv', rfl, hf'⟩ := owns_flds (hv1' he)
      have hfx := hf.below hb2
      have hsz := hb2.size
      rw [he]
      generalize rowF 0 zs = fs at *
      clear hv0 hv1 hv0' hv1' he hI hI1 hf hb0 hb1 hd
      have Hf := Lib.hid (And.intro hfx hf')
      clear hfx hf'
      go_wp2_with fail
      go_loopw [7] (RelL w2 fs.length) (fun i _ => fs.length - (intOf i).toNat)
      case atStart => exact ⟨0, by omega, rfl, Below.refl _ _⟩
      case round =>
        obtain ⟨k, hk, rfl, hu⟩ := hrel
        by_cases hlt : k < fs.length
        · obtain ⟨f, hfk⟩ : ∃ f, fs[k]? = some f := ⟨fs[k], List.getElem?_eq_getElem hlt⟩
          obtain ⟨g, rfl, _, hg2, c1, c2⟩ := Hf.out.1.below (hu.mono hsz) k f hfk
          obtain ⟨g', rfl, _, hg2', e1, e2⟩ := Hf.out.2.below hu k f hfk
          have hl1 : g < wr.heap.size := Nat.lt_of_lt_of_le (Nat.lt_of_lt_of_le hg2 hsz) hu.size
          have hl2 : g' < wr.heap.size := Nat.lt_of_lt_of_le hg2' hu.size
          have hkl : (k : Int) < fs.length := by omega
          have hw2 : wrap64 ((k : Int) + 1) = (k : Int) + 1 := by unfold wrap64; omega
          clear hfk hg2 hg2' hsz
          go_wp2_with fail
          refine wp_region_held_drew (S := fun w' => w'.cell? ⟨g, k * 2, none⟩ = some (.int .i64 f.1) ∧ w'.cell? ⟨g, k * 2 + 1, none⟩ = some (.int .i64 f.2) ∧ w'.cell? ⟨g', k * 2, none⟩ = some (.int .i64 f.1) ∧ w'.cell? ⟨g', k * 2 + 1, none⟩ = some (.int .i64 f.2)) (by kernel_rfl) (⟨c1, c2, e1, e2⟩) (fun hHeld => ?_)
          refine wpAnyH_take (i := 0) (v := ?v1) rfl (by kernel_rfl) (by kernel_rfl) (by kernel_rfl) (fun _ _ _ h => h) (Or.inl ⟨by rfl, ?y1⟩) hHeld ?r1
          case y1 => (intro w hSw; obtain ⟨s0, s1, s2, s3⟩ := hSw; go_simp; try with_reducible rfl)
          simp only [List.getElem_toArray, List.getElem_cons_zero, List.getElem_cons_succ, Act.put, List.setIfInBounds_toArray, List.set_cons_zero, List.set_cons_succ]
          refine wpAnyH_take (i := 1) (v := ?v2) rfl (by kernel_rfl) (by kernel_rfl) (by kernel_rfl) (fun _ _ _ h => h) (Or.inl ⟨by rfl, ?y2⟩) hHeld ?r2
          case y2 => (intro w hSw; obtain ⟨s0, s1, s2, s3⟩ := hSw; go_simp; try with_reducible rfl)
          simp only [List.getElem_toArray, List.getElem_cons_zero, List.getElem_cons_succ, Act.put, List.setIfInBounds_toArray, List.set_cons_zero, List.set_cons_succ]
          refine wpAnyH_take (i := 2) (v := ?v3) rfl (by kernel_rfl) (by kernel_rfl) (by kernel_rfl) (fun _ _ _ h => h) (Or.inl ⟨by rfl, ?y3⟩) hHeld ?r3
          case y3 => (intro w hSw; obtain ⟨s0, s1, s2, s3⟩ := hSw; go_simp; try with_reducible rfl)
          simp only [List.getElem_toArray, List.getElem_cons_zero, List.getElem_cons_succ, Act.put, List.setIfInBounds_toArray, List.set_cons_zero, List.set_cons_succ]
          refine wpAnyH_take (i := 3) (v := ?v4) rfl (by kernel_rfl) (by kernel_rfl) (by kernel_rfl) (fun _ _ _ h => h) (Or.inl ⟨by rfl, ?y4⟩) hHeld ?r4
          case y4 => (intro w hSw; obtain ⟨s0, s1, s2, s3⟩ := hSw; go_simp; try with_reducible rfl)
          simp only [List.getElem_toArray, List.getElem_cons_zero, List.getElem_cons_succ, Act.put, List.setIfInBounds_toArray, List.set_cons_zero, List.set_cons_succ]
          refine wpAnyH_take (i := 5) (v := ?v5) rfl (by kernel_rfl) (by kernel_rfl) (by kernel_rfl) (fun _ _ _ h => h) (Or.inl ⟨by rfl, ?y5⟩) hHeld ?r5
          case y5 => (intro w hSw; obtain ⟨s0, s1, s2, s3⟩ := hSw; go_simp; try with_reducible rfl)
          simp only [List.getElem_toArray, List.getElem_cons_zero, List.getElem_cons_succ, Act.put, List.setIfInBounds_toArray, List.set_cons_zero, List.set_cons_succ]
          refine wpAnyH_take (i := 6) (v := ?v6) rfl (by kernel_rfl) (by kernel_rfl) (by kernel_rfl) (fun _ _ _ h => h) (Or.inl ⟨by rfl, ?y6⟩) hHeld ?r6
          case y6 => (intro w hSw; obtain ⟨s0, s1, s2, s3⟩ := hSw; go_simp; try with_reducible rfl)
          simp only [List.getElem_toArray, List.getElem_cons_zero, List.getElem_cons_succ, Act.put, List.setIfInBounds_toArray, List.set_cons_zero, List.set_cons_succ]
          refine wpAnyH_take (i := 7) (v := ?v7) rfl (by kernel_rfl) (by kernel_rfl) (by kernel_rfl) (fun _ _ _ h => h) (Or.inl ⟨by rfl, ?y7⟩) hHeld ?r7
          case y7 => (intro w hSw; obtain ⟨s0, s1, s2, s3⟩ := hSw; go_simp; try with_reducible rfl)
          simp only [List.getElem_toArray, List.getElem_cons_zero, List.getElem_cons_succ, Act.put, List.setIfInBounds_toArray, List.set_cons_zero, List.set_cons_succ]
          refine wpAnyH_take (i := 8) (v := ?v8) rfl (by kernel_rfl) (by kernel_rfl) (by kernel_rfl) (fun _ _ _ h => h) (Or.inl ⟨by rfl, ?y8⟩) hHeld ?r8
          case y8 => (intro w hSw; obtain ⟨s0, s1, s2, s3⟩ := hSw; go_simp; try with_reducible rfl)
          simp only [List.getElem_toArray, List.getElem_cons_zero, List.getElem_cons_succ, Act.put, List.setIfInBounds_toArray, List.set_cons_zero, List.set_cons_succ]
          refine wpAnyH_ready (rs := [4]) (by kernel_rfl) (by simp) (AllReadyH.cons rfl (fun K hK => ?_) AllReadyH.nil)
          go_simp
          refine (plain_any f.1 f.2 _).mono ?_
          rintro e w9 ⟨rfl, hbX⟩
          have n0 := (Below.cell hbX (p := ⟨g, k * 2, none⟩) hl1).trans c1
          have n1 := (Below.cell hbX (p := ⟨g, k * 2 + 1, none⟩) hl1).trans c2
          have n2 := (Below.cell hbX (p := ⟨g', k * 2, none⟩) hl2).trans e1
          have n3 := (Below.cell hbX (p := ⟨g', k * 2 + 1, none⟩) hl2).trans e2
          have hu9 : Below w2.heap.size w2 w9 := hu.trans (Below.mono ⟨hbX.os, hbX.tape, hbX.output, hbX.size, hbX.block⟩ hu.size)
          go_wp2_with fail
          refine hK.out _ _ (⟨n0, n1, n2, n3⟩) (fun hHeld => ?_)
          clear hK K
          refine wpAnyH_take (i := 9) (v := .bool false) rfl (by kernel_rfl) (by kernel_rfl) (by kernel_rfl) (fun _ _ _ h => h) (Or.inl ⟨by rfl, ?y10⟩) hHeld ?r10
          case y10 => (intro w hSw; obtain ⟨s0, s1, s2, s3⟩ := hSw; go_simp; try with_reducible rfl)
          simp only [List.getElem_toArray, List.getElem_cons_zero, List.getElem_cons_succ, Act.put, List.setIfInBounds_toArray, List.set_cons_zero, List.set_cons_succ]
          refine wpAnyH_done (by kernel_rfl) ?_ _
          clear hHeld n0 n1 n2 n3 c1 c2 e1 e2 hl1 hl2 hbX
          go_wp2
          go_roundw
          case rel => exact ⟨k + 1, by omega, by go_num, hu9⟩
          case measure => simp [intOf]; omega
        · obtain rfl : k = fs.length := by omega
          go_wp2_with fail
          refine (awake_any wr).mono ?_
          rintro e w4 ⟨rfl, hb4⟩
          have hfin := hb02.trans ((hu.mono hb02.size).trans (hb4.mono (Nat.le_trans hb02.size hu.size)))
          go_wp2
          go_ret
          exact ⟨rfl, hfin⟩
    · obtain rfl := hv0 he
      obtain rfl := hv0' he
      generalize rowE 0 zs = er at *
      clear hv1 hv1' he hI hI1 hb0 hb1 hd hfl
      go_wp2_with fail
      go_loopw [7] (RelL w2 0) (fun i _ => 0 - (intOf i).toNat)
      case atStart => exact ⟨0, by omega, rfl, Below.refl _ _⟩
      case round =>
        obtain ⟨k, hk, rfl, hu⟩ := hrel
        obtain rfl : k = 0 := by omega
        go_wp2_with fail
        refine (awake_any wr).mono ?_
        rintro e w4 ⟨rfl, hb4⟩
        have hfin := hb02.trans ((hu.mono hb02.size).trans (hb4.mono (Nat.le_trans hb02.size hu.size)))
        go_wp2
        go_ret
        exact ⟨rfl, hfin⟩
  · have hd : decide ((zs.length : Int) ≤ 80) = false := decide_eq_false (by omega)
    go_enter Try.func8, Try.ntmps8
    go_wp2_with fail
    refine (few_any a zs.length cap w).mono ?_
    rintro e w0 ⟨rfl, hb0⟩
    rw [hd]
    go_wp2_with fail
    refine (awake_any w0).mono ?_
    rintro e w1 ⟨rfl, hb1⟩
    have hfin := hb0.trans (hb1.mono hb0.size)
    go_wp2
    go_ret
    exact ⟨rfl, hfin⟩

set_option maxRecDepth 100000 in
theorem lifted (os : Os) (started : os.Started) (H : Type) (enc : TypeId × Value → H) :
    ReturnsInHanded {} Try.checked os 8 .any (Rows.bitsRowsSpec.pre6 enc Try.prog Try.f8 Rows.bitsRowsRow.domain false) (Rows.bitsRowsSpec.post enc Try.prog Try.f8 false true false false) := by
  refine returnsInHanded_of_change (C := Try.checked) own started (by kernel_rfl) Try.func8
    (ChangeSpec.witness6 (enc := enc) (C := Try.checked) false ⟨#[], #[.slice none 0 0], []⟩ 8 (by kernel_rfl) (by kernel_rfl) (by kernel_rfl) (by kernel_rfl)) ?_
  intro W base args ds gs before hval0 hW _ _
  have hval : ∀ (j : Nat) t v, Try.f8.params[j]? = some t → args[j]? = some v → Value.okWide Try.prog W .any base t v := hval0
  have hW' := hW
  obtain ⟨p, q, hA0, hV, rfl, _, _⟩ := hW
  have hA : DataW.TrodAll enc Try.prog W 0 (fun _ => true) true Try.f8.params.toList args.toList ds p := hA0
  rw [Try.params8] at hA hval
  obtain ⟨v0, vs0, d0, ds0, p0, q0, hargs, rfl, rfl, h0, r0⟩ := trodAll_cons hA
  obtain ⟨rfl, rfl, rfl⟩ := trodAll_nil r0
  obtain rfl : args = #[v0] := by cases args; simp_all
  obtain ⟨rfl, rfl⟩ := trodVars_none hV
  have k0 := h0
  have lt0 : ∀ x ∈ p0, x.block < W.heap.size := by obtain ⟨m, hm⟩ := k0; exact DataW.trod_lt m _ _ _ hm
  obtain ⟨sa0, len0, cap0, rfl⟩ := okWide_slice Try.underlying48 (hval 0 48 v0 rfl rfl)
  obtain ⟨zs0, hl0, hi0⟩ := lens_of h0
  clear hA0 hval0
  refine (walk sa0 len0 cap0 zs0 hl0 W hi0).mono fun e W' ⟨he, bel⟩ => ?_
  subst he
  exact ⟨_, rfl, _, _, _, [], _, [], hW', trodAll_mk1 (shut_bool Try.underlying4 _), (trodAll_cons_mk (Below.trod laidOut (by kernel_rfl) (of_decide_eq_true (by kernel_rfl)) k0 bel lt0) trodAll_mk0), rfl, bel.frame _, fun h => by cases h⟩

theorem over : Rows.bitsRowsRow.holds Try.pinned (OpenSpec.ofChange Rows.bitsRowsSpec) :=
  OpenClaim.holds_of_wide 8 Try.f8 rfl rfl rfl rfl rfl rfl rfl ⟨rfl, rfl, rfl, rfl, rfl⟩ rfl rfl rfl rfl rfl (by kernel_rfl) Try.func8 (by kernel_rfl)
    (of_decide_eq_true (by kernel_rfl)) (by unfold Func.isWrapper; first | (rw [if_pos (by decide +kernel)]; kernel_rfl) | (rw [if_neg (by decide +kernel)]; exact ⟨rfl, rfl⟩))
    (fun os started H enc _ => lifted os started H enc)

theorem proved : Rows.BitsRowsSaid := over
#print axioms proved
end Go.Proofs.Ytknhbpifkpcpnaa.bitsRows
