/- The document's answer for Join and Split, and rows of words held against one another: contracts. -/
import Derived.Test.YtknhbpifkpcpnaaAny
namespace Go.Proofs.Ytknhbpifkpcpnaa
open Go.RowKit

/-- At the head of Join's loop: w1 is the world behind Row. -/
def RelRJ (w1 : World) (fs : List (Int × Int)) (xs : List Nat) (s8 s9 : Value) (wr : World) : Prop :=
  ∃ k y : Nat, k ≤ fs.length ∧ s9 = .int .i64 k ∧ s8 = .int .u64 y ∧ W64 y ∧ joinS fs xs 0 = joinS (fs.drop k) (xs.drop k) y ∧ Below w1.heap.size w1 wr

set_option maxRecDepth 100000 in
set_option maxHeartbeats 4000000 in
theorem rjoin_any (a : Option Addr) (len cap : Nat) (zs : List Int) (hlen : len = zs.length) (hl80 : zs.length ≤ 80) (a2 : Option Addr) (len2 cap2 : Nat) (xs : List Nat) (hlen2 : len2 = xs.length)
    (w : World) (hI : Ints w.heap.size w a zs) (hX : Words w.heap.size w a2 xs) :
    Calls Try.prog 29 #[.slice a len cap, .slice a2 len2 cap2] w (Ret (.tuple #[.int .u64 (joinE zs xs).1, .int .i64 (joinE zs xs).2]) w) := by
  subst hlen hlen2
  go_enter Try.func29, Try.ntmps29
  go_wp2_with fail
  refine (rrow_any a _ cap zs rfl hl80 w hI).mono ?_
  rintro e w1 ⟨v, rfl, hb, h1, h2⟩
  by_cases he : rowE 0 zs = 0
  · obtain ⟨av, cv, rfl, hf⟩ := owns_flds (h2 he)
    have hj : joinE zs xs = if xs.length ≠ (rowF 0 zs).length then (0, 17) else joinS (rowF 0 zs) xs 0 := by unfold joinE; rw [if_neg (by simp [he])]
    have hmay := rowF_may zs 0 (by omega) (by omega)
    have hfl : (rowF 0 zs).length ≤ 80 := Nat.le_trans (rowF_len zs 0) hl80
    rw [he]
    generalize rowF 0 zs = fs at *
    generalize joinE zs xs = je at *
    clear h1 h2 he hI
    by_cases hlen : xs.length = fs.length
    · rw [if_neg (by simp [hlen])] at hj
      subst hj
      have hX1 := hX.below hb
      have hd : ((xs.length : Int) != (fs.length : Int)) = false := by simp; omega
      have Hlen := Lib.hid hlen
      clear hlen
      have Hmay := Lib.hid hmay
      have hs := hb.size
      clear hX hmay
      go_wp2_with fail
      go_loopw [8, 9] (RelRJ w1 fs xs) (fun _ i _ => fs.length - (intOf i).toNat)
      case atStart => exact ⟨0, 0, by omega, rfl, rfl, by decide, rfl, Below.refl _ _⟩
      case round =>
        obtain ⟨k, y, hk, rfl, rfl, hy, hjs, hu⟩ := hrel
        have Hjs := Lib.hid hjs
        clear hjs
        have hsu := hu.size
        have hlen := Hlen.out
        by_cases hlt : k < fs.length
        · obtain ⟨f, hfk⟩ : ∃ f, fs[k]? = some f := ⟨fs[k], List.getElem?_eq_getElem hlt⟩
          obtain ⟨x, hxk⟩ : ∃ x, xs[k]? = some x := ⟨xs[k]'(by omega), List.getElem?_eq_getElem _⟩
          obtain ⟨g, rfl, hg1, hg2, hc1, hc2⟩ := (hf.below hu) k f hfk
          obtain ⟨hxw, xb, xo, rfl, hxb, hcx⟩ := hX1 k x hxk
          have m2 : wr.cell? ⟨xb, xo + k, none⟩ = some (.int .u64 (x : Int)) := (hu.cell (p := ⟨xb, xo + k, none⟩) (by show xb < _; omega)).trans hcx
          obtain ⟨p, q, hp, hq, hq1, hq2⟩ := may_split (Hmay.out f (List.mem_of_getElem? hfk))
          have hdf : fs.drop k = f :: fs.drop (k + 1) := by
            rw [List.drop_eq_getElem_cons hlt]
            congr 1
            exact (List.getElem?_eq_some_iff.1 hfk).2
          have hdx : xs.drop k = x :: xs.drop (k + 1) := by
            rw [List.drop_eq_getElem_cons (by omega)]
            congr 1
            exact (List.getElem?_eq_some_iff.1 hxk).2
          have hjn : joinS fs xs 0 = if mx q < x then (0, 10) else joinS (fs.drop (k + 1)) (xs.drop (k + 1)) (pt p q y x) := by
            rw [Hjs.out, hdf, hdx, joinS, hp, hq]
            simp
          have Hjn := Lib.hid hjn
          have hkl : (k : Int) < fs.length := by omega
          have hkx : (k : Int) < xs.length := by omega
          have m0 := hc1
          have m1 := hc2
          rw [hp] at m0
          rw [hq] at m1
          have mg : g < wr.heap.size := Nat.lt_of_lt_of_le hg2 hsu
          have mxx : xb < wr.heap.size := Nat.lt_of_lt_of_le (Nat.lt_of_lt_of_le hxb hs) hsu
          have mu := hu
          have hq64 : q ≤ 64 := by omega
          clear hjn hdf hdx hp hq hfk hxk hcx hX1 hlen hc1 hc2 hg1 hg2 hsu hxb
          by_cases hbig : mx q < x
          · rw [if_pos hbig] at Hjn
            have hdb : decide (mx q < x) = true := decide_eq_true hbig
            go_wp2_with fail
            refine wp_region_held_drew (S := fun w' => w'.cell? ⟨g, k * 2, none⟩ = some (.int .i64 (p : Int)) ∧ w'.cell? ⟨g, k * 2 + 1, none⟩ = some (.int .i64 (q : Int)) ∧ w'.cell? ⟨xb, xo + k, none⟩ = some (.int .u64 (x : Int))) (by kernel_rfl) (⟨m0, m1, m2⟩) (fun hHeld => ?_)
            refine wpAnyH_take (i := 0) (v := ?v1) rfl (by kernel_rfl) (by kernel_rfl) (by kernel_rfl) (fun _ _ _ h => h) (Or.inl ⟨by rfl, ?y1⟩) hHeld ?r1
            case y1 => (intro w hSw; obtain ⟨s0, s1, s2⟩ := hSw; go_simp; try with_reducible rfl)
            simp only [List.getElem_toArray, List.getElem_cons_zero, List.getElem_cons_succ, Act.put, List.setIfInBounds_toArray, List.set_cons_zero, List.set_cons_succ]
            refine wpAnyH_take (i := 1) (v := ?v2) rfl (by kernel_rfl) (by kernel_rfl) (by kernel_rfl) (fun _ _ _ h => h) (Or.inl ⟨by rfl, ?y2⟩) hHeld ?r2
            case y2 => (intro w hSw; obtain ⟨s0, s1, s2⟩ := hSw; go_simp; try with_reducible rfl)
            simp only [List.getElem_toArray, List.getElem_cons_zero, List.getElem_cons_succ, Act.put, List.setIfInBounds_toArray, List.set_cons_zero, List.set_cons_succ]
            refine wpAnyH_take (i := 2) (v := ?v3) rfl (by kernel_rfl) (by kernel_rfl) (by kernel_rfl) (fun _ _ _ h => h) (Or.inl ⟨by rfl, ?y3⟩) hHeld ?r3
            case y3 => (intro w hSw; obtain ⟨s0, s1, s2⟩ := hSw; go_simp; try with_reducible rfl)
            simp only [List.getElem_toArray, List.getElem_cons_zero, List.getElem_cons_succ, Act.put, List.setIfInBounds_toArray, List.set_cons_zero, List.set_cons_succ]
            refine wpAnyH_take (i := 3) (v := ?v4) rfl (by kernel_rfl) (by kernel_rfl) (by kernel_rfl) (fun _ _ _ h => h) (Or.inl ⟨by rfl, ?y4⟩) hHeld ?r4
            case y4 => (intro w hSw; obtain ⟨s0, s1, s2⟩ := hSw; go_simp; try with_reducible rfl)
            simp only [List.getElem_toArray, List.getElem_cons_zero, List.getElem_cons_succ, Act.put, List.setIfInBounds_toArray, List.set_cons_zero, List.set_cons_succ]
            refine wpAnyH_take (i := 4) (v := ?v5) rfl (by kernel_rfl) (by kernel_rfl) (by kernel_rfl) (fun _ _ _ h => h) (Or.inl ⟨by rfl, ?y5⟩) hHeld ?r5
            case y5 => (intro w hSw; obtain ⟨s0, s1, s2⟩ := hSw; go_simp; try with_reducible rfl)
            simp only [List.getElem_toArray, List.getElem_cons_zero, List.getElem_cons_succ, Act.put, List.setIfInBounds_toArray, List.set_cons_zero, List.set_cons_succ]
            refine wpAnyH_take (i := 5) (v := ?v6) rfl (by kernel_rfl) (by kernel_rfl) (by kernel_rfl) (fun _ _ _ h => h) (Or.inl ⟨by rfl, ?y6⟩) hHeld ?r6
            case y6 => (intro w hSw; obtain ⟨s0, s1, s2⟩ := hSw; go_simp; try with_reducible rfl)
            simp only [List.getElem_toArray, List.getElem_cons_zero, List.getElem_cons_succ, Act.put, List.setIfInBounds_toArray, List.set_cons_zero, List.set_cons_succ]
            refine wpAnyH_take (i := 6) (v := ?v7) rfl (by kernel_rfl) (by kernel_rfl) (by kernel_rfl) (fun _ _ _ h => h) (Or.inl ⟨by rfl, ?y7⟩) hHeld ?r7
            case y7 => (intro w hSw; obtain ⟨s0, s1, s2⟩ := hSw; go_simp; try with_reducible rfl)
            simp only [List.getElem_toArray, List.getElem_cons_zero, List.getElem_cons_succ, Act.put, List.setIfInBounds_toArray, List.set_cons_zero, List.set_cons_succ]
            refine wpAnyH_take (i := 7) (v := ?v8) rfl (by kernel_rfl) (by kernel_rfl) (by kernel_rfl) (fun _ _ _ h => h) (Or.inl ⟨by rfl, ?y8⟩) hHeld ?r8
            case y8 => (intro w hSw; obtain ⟨s0, s1, s2⟩ := hSw; go_simp; try with_reducible rfl)
            simp only [List.getElem_toArray, List.getElem_cons_zero, List.getElem_cons_succ, Act.put, List.setIfInBounds_toArray, List.set_cons_zero, List.set_cons_succ]
            refine wpAnyH_ready (rs := [8]) (by kernel_rfl) (by simp) (AllReadyH.cons rfl (fun K hK => ?_) AllReadyH.nil)
            go_simp
            refine (rmax_in p q _ hq1 hq2).mono ?_
            rintro e nw ⟨rfl, hbX⟩
            have n0 := (Below.cell hbX (p := ⟨g, k * 2, none⟩) mg).trans m0
            have n1 := (Below.cell hbX (p := ⟨g, k * 2 + 1, none⟩) mg).trans m1
            have n2 := (Below.cell hbX (p := ⟨xb, xo + k, none⟩) mxx).trans m2
            have ng : g < nw.heap.size := Nat.lt_of_lt_of_le mg hbX.size
            have nxx : xb < nw.heap.size := Nat.lt_of_lt_of_le mxx hbX.size
            have nu : Below w1.heap.size w1 nw := mu.trans (Below.mono ⟨hbX.os, hbX.tape, hbX.output, hbX.size, hbX.block⟩ mu.size)
            clear hbX
            rw [wordMax hq64]
            go_wp2_with fail
            refine hK.out _ _ (⟨n0, n1, n2⟩) (fun hHeld => ?_)
            clear hK K
            refine wpAnyH_take (i := 9) (v := ?v10) rfl (by kernel_rfl) (by kernel_rfl) (by kernel_rfl) (fun _ _ _ h => h) (Or.inl ⟨by rfl, ?y10⟩) hHeld ?r10
            case y10 => (intro w hSw; obtain ⟨s0, s1, s2⟩ := hSw; go_simp; try with_reducible rfl)
            simp only [List.getElem_toArray, List.getElem_cons_zero, List.getElem_cons_succ, Act.put, List.setIfInBounds_toArray, List.set_cons_zero, List.set_cons_succ]
            refine wpAnyH_done (by kernel_rfl) ?_ _
            go_wp2
            go_ret2
            exact ⟨by rw [Hjn.out]; rfl, hb.trans (nu.mono hs)⟩
          · rw [if_neg hbig] at Hjn
            have hdb : decide (mx q < x) = false := decide_eq_false hbig
            have Hxm := Lib.hid (show x % 2 ^ q = x from Nat.mod_eq_of_lt (le_mx.1 (Nat.le_of_not_lt hbig)))
            have hzw := pt_w hq2 (Nat.le_of_not_lt hbig) y
            have Hz := Lib.hid (And.intro Hjn.out hzw)
            clear hzw Hjn hbig
            go_wp2_with fail
            refine wp_region_held_drew (S := fun w' => w'.cell? ⟨g, k * 2, none⟩ = some (.int .i64 (p : Int)) ∧ w'.cell? ⟨g, k * 2 + 1, none⟩ = some (.int .i64 (q : Int)) ∧ w'.cell? ⟨xb, xo + k, none⟩ = some (.int .u64 (x : Int))) (by kernel_rfl) (⟨m0, m1, m2⟩) (fun hHeld => ?_)
            refine wpAnyH_take (i := 0) (v := ?v11) rfl (by kernel_rfl) (by kernel_rfl) (by kernel_rfl) (fun _ _ _ h => h) (Or.inl ⟨by rfl, ?y11⟩) hHeld ?r11
            case y11 => (intro w hSw; obtain ⟨s0, s1, s2⟩ := hSw; go_simp; try with_reducible rfl)
            simp only [List.getElem_toArray, List.getElem_cons_zero, List.getElem_cons_succ, Act.put, List.setIfInBounds_toArray, List.set_cons_zero, List.set_cons_succ]
            refine wpAnyH_take (i := 1) (v := ?v12) rfl (by kernel_rfl) (by kernel_rfl) (by kernel_rfl) (fun _ _ _ h => h) (Or.inl ⟨by rfl, ?y12⟩) hHeld ?r12
            case y12 => (intro w hSw; obtain ⟨s0, s1, s2⟩ := hSw; go_simp; try with_reducible rfl)
            simp only [List.getElem_toArray, List.getElem_cons_zero, List.getElem_cons_succ, Act.put, List.setIfInBounds_toArray, List.set_cons_zero, List.set_cons_succ]
            refine wpAnyH_take (i := 2) (v := ?v13) rfl (by kernel_rfl) (by kernel_rfl) (by kernel_rfl) (fun _ _ _ h => h) (Or.inl ⟨by rfl, ?y13⟩) hHeld ?r13
            case y13 => (intro w hSw; obtain ⟨s0, s1, s2⟩ := hSw; go_simp; try with_reducible rfl)
            simp only [List.getElem_toArray, List.getElem_cons_zero, List.getElem_cons_succ, Act.put, List.setIfInBounds_toArray, List.set_cons_zero, List.set_cons_succ]
            refine wpAnyH_take (i := 3) (v := ?v14) rfl (by kernel_rfl) (by kernel_rfl) (by kernel_rfl) (fun _ _ _ h => h) (Or.inl ⟨by rfl, ?y14⟩) hHeld ?r14
            case y14 => (intro w hSw; obtain ⟨s0, s1, s2⟩ := hSw; go_simp; try with_reducible rfl)
            simp only [List.getElem_toArray, List.getElem_cons_zero, List.getElem_cons_succ, Act.put, List.setIfInBounds_toArray, List.set_cons_zero, List.set_cons_succ]
            refine wpAnyH_take (i := 4) (v := ?v15) rfl (by kernel_rfl) (by kernel_rfl) (by kernel_rfl) (fun _ _ _ h => h) (Or.inl ⟨by rfl, ?y15⟩) hHeld ?r15
            case y15 => (intro w hSw; obtain ⟨s0, s1, s2⟩ := hSw; go_simp; try with_reducible rfl)
            simp only [List.getElem_toArray, List.getElem_cons_zero, List.getElem_cons_succ, Act.put, List.setIfInBounds_toArray, List.set_cons_zero, List.set_cons_succ]
            refine wpAnyH_take (i := 5) (v := ?v16) rfl (by kernel_rfl) (by kernel_rfl) (by kernel_rfl) (fun _ _ _ h => h) (Or.inl ⟨by rfl, ?y16⟩) hHeld ?r16
            case y16 => (intro w hSw; obtain ⟨s0, s1, s2⟩ := hSw; go_simp; try with_reducible rfl)
            simp only [List.getElem_toArray, List.getElem_cons_zero, List.getElem_cons_succ, Act.put, List.setIfInBounds_toArray, List.set_cons_zero, List.set_cons_succ]
            refine wpAnyH_take (i := 6) (v := ?v17) rfl (by kernel_rfl) (by kernel_rfl) (by kernel_rfl) (fun _ _ _ h => h) (Or.inl ⟨by rfl, ?y17⟩) hHeld ?r17
            case y17 => (intro w hSw; obtain ⟨s0, s1, s2⟩ := hSw; go_simp; try with_reducible rfl)
            simp only [List.getElem_toArray, List.getElem_cons_zero, List.getElem_cons_succ, Act.put, List.setIfInBounds_toArray, List.set_cons_zero, List.set_cons_succ]
            refine wpAnyH_take (i := 7) (v := ?v18) rfl (by kernel_rfl) (by kernel_rfl) (by kernel_rfl) (fun _ _ _ h => h) (Or.inl ⟨by rfl, ?y18⟩) hHeld ?r18
            case y18 => (intro w hSw; obtain ⟨s0, s1, s2⟩ := hSw; go_simp; try with_reducible rfl)
            simp only [List.getElem_toArray, List.getElem_cons_zero, List.getElem_cons_succ, Act.put, List.setIfInBounds_toArray, List.set_cons_zero, List.set_cons_succ]
            refine wpAnyH_ready (rs := [8]) (by kernel_rfl) (by simp) (AllReadyH.cons rfl (fun K hK => ?_) AllReadyH.nil)
            go_simp
            refine (rmax_in p q _ hq1 hq2).mono ?_
            rintro e nw ⟨rfl, hbX⟩
            have n0 := (Below.cell hbX (p := ⟨g, k * 2, none⟩) mg).trans m0
            have n1 := (Below.cell hbX (p := ⟨g, k * 2 + 1, none⟩) mg).trans m1
            have n2 := (Below.cell hbX (p := ⟨xb, xo + k, none⟩) mxx).trans m2
            have ng : g < nw.heap.size := Nat.lt_of_lt_of_le mg hbX.size
            have nxx : xb < nw.heap.size := Nat.lt_of_lt_of_le mxx hbX.size
            have nu : Below w1.heap.size w1 nw := mu.trans (Below.mono ⟨hbX.os, hbX.tape, hbX.output, hbX.size, hbX.block⟩ mu.size)
            clear hbX
            rw [wordMax hq64]
            go_wp2_with fail
            refine hK.out _ _ (⟨n0, n1, n2⟩) (fun hHeld => ?_)
            clear hK K
            refine wpAnyH_take (i := 9) (v := ?v20) rfl (by kernel_rfl) (by kernel_rfl) (by kernel_rfl) (fun _ _ _ h => h) (Or.inl ⟨by rfl, ?y20⟩) hHeld ?r20
            case y20 => (intro w hSw; obtain ⟨s0, s1, s2⟩ := hSw; go_simp; try with_reducible rfl)
            simp only [List.getElem_toArray, List.getElem_cons_zero, List.getElem_cons_succ, Act.put, List.setIfInBounds_toArray, List.set_cons_zero, List.set_cons_succ]
            refine wpAnyH_done (by kernel_rfl) ?_ _
            clear m0 m1 m2
            go_wp2_with fail
            refine wp_region_held_drew (S := fun w' => w'.cell? ⟨g, k * 2, none⟩ = some (.int .i64 (p : Int)) ∧ w'.cell? ⟨g, k * 2 + 1, none⟩ = some (.int .i64 (q : Int)) ∧ w'.cell? ⟨xb, xo + k, none⟩ = some (.int .u64 (x : Int))) (by kernel_rfl) (⟨n0, n1, n2⟩) (fun hHeld => ?_)
            refine wpAnyH_take (i := 0) (v := ?v21) rfl (by kernel_rfl) (by kernel_rfl) (by kernel_rfl) (fun _ _ _ h => h) (Or.inl ⟨by rfl, ?y21⟩) hHeld ?r21
            case y21 => (intro w hSw; obtain ⟨s0, s1, s2⟩ := hSw; go_simp; try with_reducible rfl)
            simp only [List.getElem_toArray, List.getElem_cons_zero, List.getElem_cons_succ, Act.put, List.setIfInBounds_toArray, List.set_cons_zero, List.set_cons_succ]
            refine wpAnyH_take (i := 1) (v := ?v22) rfl (by kernel_rfl) (by kernel_rfl) (by kernel_rfl) (fun _ _ _ h => h) (Or.inl ⟨by rfl, ?y22⟩) hHeld ?r22
            case y22 => (intro w hSw; obtain ⟨s0, s1, s2⟩ := hSw; go_simp; try with_reducible rfl)
            simp only [List.getElem_toArray, List.getElem_cons_zero, List.getElem_cons_succ, Act.put, List.setIfInBounds_toArray, List.set_cons_zero, List.set_cons_succ]
            refine wpAnyH_take (i := 2) (v := ?v23) rfl (by kernel_rfl) (by kernel_rfl) (by kernel_rfl) (fun _ _ _ h => h) (Or.inl ⟨by rfl, ?y23⟩) hHeld ?r23
            case y23 => (intro w hSw; obtain ⟨s0, s1, s2⟩ := hSw; go_simp; try with_reducible rfl)
            simp only [List.getElem_toArray, List.getElem_cons_zero, List.getElem_cons_succ, Act.put, List.setIfInBounds_toArray, List.set_cons_zero, List.set_cons_succ]
            refine wpAnyH_take (i := 3) (v := ?v24) rfl (by kernel_rfl) (by kernel_rfl) (by kernel_rfl) (fun _ _ _ h => h) (Or.inl ⟨by rfl, ?y24⟩) hHeld ?r24
            case y24 => (intro w hSw; obtain ⟨s0, s1, s2⟩ := hSw; go_simp; try with_reducible rfl)
            simp only [List.getElem_toArray, List.getElem_cons_zero, List.getElem_cons_succ, Act.put, List.setIfInBounds_toArray, List.set_cons_zero, List.set_cons_succ]
            refine wpAnyH_take (i := 4) (v := ?v25) rfl (by kernel_rfl) (by kernel_rfl) (by kernel_rfl) (fun _ _ _ h => h) (Or.inl ⟨by rfl, ?y25⟩) hHeld ?r25
            case y25 => (intro w hSw; obtain ⟨s0, s1, s2⟩ := hSw; go_simp; try with_reducible rfl)
            simp only [List.getElem_toArray, List.getElem_cons_zero, List.getElem_cons_succ, Act.put, List.setIfInBounds_toArray, List.set_cons_zero, List.set_cons_succ]
            refine wpAnyH_take (i := 5) (v := ?v26) rfl (by kernel_rfl) (by kernel_rfl) (by kernel_rfl) (fun _ _ _ h => h) (Or.inl ⟨by rfl, ?y26⟩) hHeld ?r26
            case y26 => (intro w hSw; obtain ⟨s0, s1, s2⟩ := hSw; go_simp; try with_reducible rfl)
            simp only [List.getElem_toArray, List.getElem_cons_zero, List.getElem_cons_succ, Act.put, List.setIfInBounds_toArray, List.set_cons_zero, List.set_cons_succ]
            refine wpAnyH_take (i := 6) (v := ?v27) rfl (by kernel_rfl) (by kernel_rfl) (by kernel_rfl) (fun _ _ _ h => h) (Or.inl ⟨by rfl, ?y27⟩) hHeld ?r27
            case y27 => (intro w hSw; obtain ⟨s0, s1, s2⟩ := hSw; go_simp; try with_reducible rfl)
            simp only [List.getElem_toArray, List.getElem_cons_zero, List.getElem_cons_succ, Act.put, List.setIfInBounds_toArray, List.set_cons_zero, List.set_cons_succ]
            refine wpAnyH_take (i := 7) (v := ?v28) rfl (by kernel_rfl) (by kernel_rfl) (by kernel_rfl) (fun _ _ _ h => h) (Or.inl ⟨by rfl, ?y28⟩) hHeld ?r28
            case y28 => (intro w hSw; obtain ⟨s0, s1, s2⟩ := hSw; go_simp; try with_reducible rfl)
            simp only [List.getElem_toArray, List.getElem_cons_zero, List.getElem_cons_succ, Act.put, List.setIfInBounds_toArray, List.set_cons_zero, List.set_cons_succ]
            refine wpAnyH_take (i := 8) (v := ?v29) rfl (by kernel_rfl) (by kernel_rfl) (by kernel_rfl) (fun _ _ _ h => h) (Or.inl ⟨by rfl, ?y29⟩) hHeld ?r29
            case y29 => (intro w hSw; obtain ⟨s0, s1, s2⟩ := hSw; go_simp; try with_reducible rfl)
            simp only [List.getElem_toArray, List.getElem_cons_zero, List.getElem_cons_succ, Act.put, List.setIfInBounds_toArray, List.set_cons_zero, List.set_cons_succ]
            refine wpAnyH_ready (rs := [9]) (by kernel_rfl) (by simp) (AllReadyH.cons rfl (fun K hK => ?_) AllReadyH.nil)
            go_simp
            refine (set_in p q y x _ hq1 hq2 hy hxw).mono ?_
            rintro e ow ⟨rfl, hbX⟩
            have o0 := (Below.cell hbX (p := ⟨g, k * 2, none⟩) ng).trans n0
            have o1 := (Below.cell hbX (p := ⟨g, k * 2 + 1, none⟩) ng).trans n1
            have o2 := (Below.cell hbX (p := ⟨xb, xo + k, none⟩) nxx).trans n2
            have og : g < ow.heap.size := Nat.lt_of_lt_of_le ng hbX.size
            have oxx : xb < ow.heap.size := Nat.lt_of_lt_of_le nxx hbX.size
            have ou : Below w1.heap.size w1 ow := nu.trans (Below.mono ⟨hbX.os, hbX.tape, hbX.output, hbX.size, hbX.block⟩ nu.size)
            clear hbX
            rw [wordSet hq2 hy, Hxm.out]
            go_wp2_with fail
            refine hK.out _ _ (⟨o0, o1, o2⟩) (fun hHeld => ?_)
            clear hK K
            refine wpAnyH_take (i := 10) (v := ?v31) rfl (by kernel_rfl) (by kernel_rfl) (by kernel_rfl) (fun _ _ _ h => h) (Or.inl ⟨by rfl, ?y31⟩) hHeld ?r31
            case y31 => (intro w hSw; obtain ⟨s0, s1, s2⟩ := hSw; go_simp; try with_reducible rfl)
            simp only [List.getElem_toArray, List.getElem_cons_zero, List.getElem_cons_succ, Act.put, List.setIfInBounds_toArray, List.set_cons_zero, List.set_cons_succ]
            refine wpAnyH_done (by kernel_rfl) ?_ _
            generalize pt p q y x = z at *
            clear hHeld o0 o1 o2 og oxx n0 n1 n2 ng nxx mg mxx hkx hkl hq1 hq2 hxw hq64
            go_wp2
            go_roundw
            case rel => exact ⟨k + 1, z, by omega, by go_num, rfl, Hz.out.2, Hz.out.1, ou⟩
            case measure => simp [intOf]; omega
        · obtain rfl : k = fs.length := by omega
          have hjn : joinS fs xs 0 = (y, 0) := by
            rw [Hjs.out]
            simp [joinS]
          have Hjn := Lib.hid hjn
          clear hjn hlen
          go_wp2
          go_ret2
          exact ⟨by rw [Hjn.out]; rfl, hb.trans (hu.mono hs)⟩
    · rw [if_pos hlen] at hj
      subst hj
      have hd : ((xs.length : Int) != (fs.length : Int)) = true := by simp; omega
      go_wp2
      go_ret2
      exact ⟨rfl, hb⟩
  · have hj : joinE zs xs = (0, rowE 0 zs) := by unfold joinE; rw [if_pos he]
    generalize joinE zs xs = je at *
    subst hj
    generalize rowE 0 zs = er at *
    obtain rfl := h1 he
    clear h2
    have hd : (er != 0) = true := by simp [he]
    go_wp2
    go_ret2
    exact ⟨rfl, hb⟩
end Go.Proofs.Ytknhbpifkpcpnaa
