/- The document's Pick: its walk. -/
import Derived.Test.YtkkkicinlghikaaRpM
import Derived.BigQuiet
namespace Go.Proofs.Ytkkkicinlghikaa
open Go.RowKit

set_option maxRecDepth 100000 in
set_option maxHeartbeats 4000000 in
theorem rpick_ok (b off b' off' : Nat) (cap cap' : Nat) (l : List Sb) (gs : List Int) (n : Nat) (hn : l.length = n) (hm : gs.length = n) (w : World) (hR : Rq w (some ⟨b, off, none⟩) (some ⟨b', off', none⟩) l gs w) (h40 : n ≤ 1000000) (hW : anyw l = false) (hG : anyg gs = false) (h0 : ∀ S ∈ l, 0 ≤ S.n) (h1 : ∀ x ∈ gs, Gen x) :
    Calls Try.prog 23 #[.slice (some ⟨b, off, none⟩) n cap, .slice (some ⟨b', off', none⟩) n cap'] w (Ret (.tuple #[.int .i64 (bst (rkf l) (wvf l gs) n), .int .i64 0]) w) := by
  have hn40 : (n : Int) ≤ 1000000 := by omega
  have Hn := Lib.hid (And.intro hn hm)
  have HR := Lib.hid hR
  have HRt := Lib.hid rright_w
  have HIs := Lib.hid is_w
  have hnn : ((n : Int) != n) = false := by simp
  have HW := Lib.hid (all_w hW)
  have HG := Lib.hid (all_g hG)
  have HN := Lib.hid (fun (S : Sb) (hS : S ∈ l) => h0 S hS)
  have HX := Lib.hid (fun (x : Int) (hx : x ∈ gs) => h1 x hx)
  have HB := Lib.hid (bst_in (rkf l) (wvf l gs))
  obtain ⟨B, hBe⟩ : ∃ B, B = bst (rkf l) (wvf l gs) := ⟨_, rfl⟩
  rw [← hBe] at HB ⊢
  have HBe := Lib.hid hBe
  clear hBe
  clear hW hG h0 h1
  clear hn hm hR h40
  go_enter Try.func23, Try.ntmps23
  go_wp2_with fail
  go_loopw [6] (fun i wr => R1 w (some ⟨b, off, none⟩) (some ⟨b', off', none⟩) l gs n i wr) (fun i _ => n - (intOf i).toNat)
  case atStart => exact ⟨0, rfl, by omega, fun j S hj => absurd hj (by omega), HR.out⟩
  case round =>
    obtain ⟨k, rfl, hk, hK, hb⟩ := hrel
    have HK := Lib.hid (And.intro hK hb)
    clear hK hb
    by_cases hlt : (k : Int) < n
    · obtain ⟨S, hSk⟩ : ∃ S, l[k]? = some S := ⟨_, List.getElem?_eq_getElem (by have := Hn.out.1; omega)⟩
      obtain ⟨x, hxk⟩ : ∃ x, gs[k]? = some x := ⟨_, List.getElem?_eq_getElem (by have := Hn.out.2; omega)⟩
      have Hk := Lib.hid (And.intro hSk hxk)
      have G := HK.out.2.at hSk hxk
      have g1 := G.c1
      have g2 := G.c2
      have g3 := G.c3
      have g4 := G.c4
      clear G hSk hxk
      go_wp2_with fail
      refine (HRt.out S _).mono ?_
      rintro e w2 ⟨rfl, hb⟩
      have H2 := Lib.hid (HK.out.2.next hb)
      clear hb g1 g2 g3 g4
      have hq : wrg S = false := HW.out S (List.mem_of_getElem? Hk.out.1)
      rw [hq]
      clear hq
      go_wp2_with fail
      go_roundw
      case rel => exact ⟨k + 1, by go_num, by omega, fun j S' _ hS' => HW.out S' (List.mem_of_getElem? hS'), H2.out⟩
      case measure => simp [intOf]; omega
    · obtain rfl : k = n := by omega
      have HS2 := Lib.hid HK.out.2
      clear HK HR
      go_wp2_with fail
      go_loopw [7] (fun i wr => R2 w (some ⟨b, off, none⟩) (some ⟨b', off', none⟩) l gs k i wr) (fun i _ => k - (intOf i).toNat)
      case atStart => exact ⟨0, rfl, by omega, fun j S hj => absurd hj (by omega), HS2.out⟩
      case round =>
        obtain ⟨k2, rfl, hk2, hK2, hb⟩ := hrel
        have HK2 := Lib.hid (And.intro hK2 hb)
        clear hK2 hb HS2
        by_cases hlt2 : (k2 : Int) < k
        · obtain ⟨S, hSk⟩ : ∃ S, l[k2]? = some S := ⟨_, List.getElem?_eq_getElem (by have := Hn.out.1; omega)⟩
          obtain ⟨x, hxk⟩ : ∃ x, gs[k2]? = some x := ⟨_, List.getElem?_eq_getElem (by have := Hn.out.2; omega)⟩
          have Hk := Lib.hid (And.intro hSk hxk)
          have G := HK2.out.2.at hSk hxk
          have g1 := G.x0
          clear G hSk hxk
          go_wp2_with fail
          refine (HIs.out x _).mono ?_
          rintro e w' ⟨rfl, rfl⟩
          have hq : ng x = false := HG.out x (List.mem_of_getElem? Hk.out.2)
          rw [hq]
          clear hq
          go_wp2_with fail
          go_roundw
          case rel => exact ⟨k2 + 1, by go_num, by omega, fun j S' _ hS' => HG.out S' (List.mem_of_getElem? hS'), HK2.out.2⟩
          case measure => simp [intOf]; omega
        · obtain rfl : k2 = k := by omega
          have HS3 := Lib.hid HK2.out.2
          clear HK2
          go_wp2_with fail
          go_loopw [8, 9] (fun f i wr => R3 w (some ⟨b, off, none⟩) (some ⟨b', off', none⟩) l gs k2 B f i wr) (fun _ i _ => k2 - (intOf i).toNat)
          case atStart => exact ⟨0, rfl, by omega, by rw [HBe.out]; rfl, HS3.out⟩
          case round =>
            obtain ⟨k3, rfl, hk3, rfl, hb⟩ := hrel
            have HK3 := Lib.hid hb
            clear hb HS3
            have hB0 := (HB.out k3).1
            have hB1 := (HB.out k3).2
            by_cases hlt3 : (k3 : Int) < k2
            · obtain ⟨S, hSk⟩ : ∃ S, l[k3]? = some S := ⟨_, List.getElem?_eq_getElem (by have := Hn.out.1; omega)⟩
              obtain ⟨x, hxk⟩ : ∃ x, gs[k3]? = some x := ⟨_, List.getElem?_eq_getElem (by have := Hn.out.2; omega)⟩
              have Hk := Lib.hid (And.intro hSk hxk)
              have HC := Lib.hid (rwaits_any S.n S.c S.g S.l x (HN.out S (List.mem_of_getElem? hSk)) (HX.out x (List.mem_of_getElem? hxk)))
              have hwv : wvf l gs k3 = wt S.n x := wvf_at hSk hxk
              have hrk : rkf l k3 = S.rk := rkf_at hSk
              have hw0 := wt_nn S.n x
              obtain ⟨tp, rk, sn, sc, sg, sl⟩ := S
              simp only at HC hwv hrk hw0
              have HV := Lib.hid (And.intro hwv hrk)
              clear hSk hxk hwv hrk
              generalize wt sn x = q at *
              by_cases hq : q = 0
              · as_aux_lemma =>
                have hz : decide (0 < q) = false := decide_eq_false (by omega)
                have Hq := Lib.hid hq
                clear hq hw0
                go_wp2_with fail
                refine wp_region_held_drew (S := Rq w (some ⟨b, off, none⟩) (some ⟨b', off', none⟩) l gs) (by kernel_rfl) (HK3.out.drew) (fun hHeld => ?_)
                refine wpAnyH_take (i := 0) (v := ?v1) rfl (by kernel_rfl) (by kernel_rfl) (by kernel_rfl) (fun _ _ _ h => h) (Or.inl ⟨by rfl, ?y1⟩) hHeld ?r1
                case y1 => (intro w hSw; have G := (show RG b off b' off' k3 rk sn sc sg sl x _ from Rq.at hSw Hk.out.1 Hk.out.2); have g0 := G.c0; have g1 := G.c1; have g2 := G.c2; have g3 := G.c3; have g4 := G.c4; have g6 := G.x0; clear G hSw; go_simp; try with_reducible rfl)
                simp only [List.getElem_toArray, List.getElem_cons_zero, Act.put, List.setIfInBounds_toArray, List.set_cons_zero, List.set_cons_succ]
                refine wpAnyH_take (i := 1) (v := ?v2) rfl (by kernel_rfl) (by kernel_rfl) (by kernel_rfl) (fun _ _ _ h => h) (Or.inl ⟨by rfl, ?y2⟩) hHeld ?r2
                case y2 => (intro w hSw; have G := (show RG b off b' off' k3 rk sn sc sg sl x _ from Rq.at hSw Hk.out.1 Hk.out.2); have g0 := G.c0; have g1 := G.c1; have g2 := G.c2; have g3 := G.c3; have g4 := G.c4; have g6 := G.x0; clear G hSw; go_simp; try with_reducible rfl)
                simp only [List.getElem_toArray, List.getElem_cons_zero, List.getElem_cons_succ, Act.put, List.setIfInBounds_toArray, List.set_cons_zero, List.set_cons_succ]
                refine wpAnyH_take (i := 2) (v := ?v3) rfl (by kernel_rfl) (by kernel_rfl) (by kernel_rfl) (fun _ _ _ h => h) (Or.inl ⟨by rfl, ?y3⟩) hHeld ?r3
                case y3 => (intro w hSw; have G := (show RG b off b' off' k3 rk sn sc sg sl x _ from Rq.at hSw Hk.out.1 Hk.out.2); have g0 := G.c0; have g1 := G.c1; have g2 := G.c2; have g3 := G.c3; have g4 := G.c4; have g6 := G.x0; clear G hSw; go_simp; try with_reducible rfl)
                simp only [List.getElem_toArray, List.getElem_cons_zero, List.getElem_cons_succ, Act.put, List.setIfInBounds_toArray, List.set_cons_zero, List.set_cons_succ]
                refine wpAnyH_take (i := 3) (v := ?v4) rfl (by kernel_rfl) (by kernel_rfl) (by kernel_rfl) (fun _ _ _ h => h) (Or.inl ⟨by rfl, ?y4⟩) hHeld ?r4
                case y4 => (intro w hSw; have G := (show RG b off b' off' k3 rk sn sc sg sl x _ from Rq.at hSw Hk.out.1 Hk.out.2); have g0 := G.c0; have g1 := G.c1; have g2 := G.c2; have g3 := G.c3; have g4 := G.c4; have g6 := G.x0; clear G hSw; go_simp; try with_reducible rfl)
                simp only [List.getElem_toArray, List.getElem_cons_zero, List.getElem_cons_succ, Act.put, List.setIfInBounds_toArray, List.set_cons_zero, List.set_cons_succ]
                refine wpAnyH_take (i := 4) (v := ?v5) rfl (by kernel_rfl) (by kernel_rfl) (by kernel_rfl) (fun _ _ _ h => h) (Or.inl ⟨by rfl, ?y5⟩) hHeld ?r5
                case y5 => (intro w hSw; have G := (show RG b off b' off' k3 rk sn sc sg sl x _ from Rq.at hSw Hk.out.1 Hk.out.2); have g0 := G.c0; have g1 := G.c1; have g2 := G.c2; have g3 := G.c3; have g4 := G.c4; have g6 := G.x0; clear G hSw; go_simp; try with_reducible rfl)
                simp only [List.getElem_toArray, List.getElem_cons_zero, List.getElem_cons_succ, Act.put, List.setIfInBounds_toArray, List.set_cons_zero, List.set_cons_succ]
                refine wpAnyH_take (i := 5) (v := ?v6) rfl (by kernel_rfl) (by kernel_rfl) (by kernel_rfl) (fun _ _ _ h => h) (Or.inl ⟨by rfl, ?y6⟩) hHeld ?r6
                case y6 => (intro w hSw; have G := (show RG b off b' off' k3 rk sn sc sg sl x _ from Rq.at hSw Hk.out.1 Hk.out.2); have g0 := G.c0; have g1 := G.c1; have g2 := G.c2; have g3 := G.c3; have g4 := G.c4; have g6 := G.x0; clear G hSw; go_simp; try with_reducible rfl)
                simp only [List.getElem_toArray, List.getElem_cons_zero, List.getElem_cons_succ, Act.put, List.setIfInBounds_toArray, List.set_cons_zero, List.set_cons_succ]
                refine wpAnyH_take (i := 6) (v := ?v7) rfl (by kernel_rfl) (by kernel_rfl) (by kernel_rfl) (fun _ _ _ h => h) (Or.inl ⟨by rfl, ?y7⟩) hHeld ?r7
                case y7 => (intro w hSw; have G := (show RG b off b' off' k3 rk sn sc sg sl x _ from Rq.at hSw Hk.out.1 Hk.out.2); have g0 := G.c0; have g1 := G.c1; have g2 := G.c2; have g3 := G.c3; have g4 := G.c4; have g6 := G.x0; clear G hSw; go_simp; try with_reducible rfl)
                simp only [List.getElem_toArray, List.getElem_cons_zero, List.getElem_cons_succ, Act.put, List.setIfInBounds_toArray, List.set_cons_zero, List.set_cons_succ]
                refine wpAnyH_take (i := 7) (v := ?v8) rfl (by kernel_rfl) (by kernel_rfl) (by kernel_rfl) (fun _ _ _ h => h) (Or.inl ⟨by rfl, ?y8⟩) hHeld ?r8
                case y8 => (intro w hSw; have G := (show RG b off b' off' k3 rk sn sc sg sl x _ from Rq.at hSw Hk.out.1 Hk.out.2); have g0 := G.c0; have g1 := G.c1; have g2 := G.c2; have g3 := G.c3; have g4 := G.c4; have g6 := G.x0; clear G hSw; go_simp; try with_reducible rfl)
                simp only [List.getElem_toArray, List.getElem_cons_zero, List.getElem_cons_succ, Act.put, List.setIfInBounds_toArray, List.set_cons_zero, List.set_cons_succ]
                refine wpAnyH_take (i := 8) (v := ?v9) rfl (by kernel_rfl) (by kernel_rfl) (by kernel_rfl) (fun _ _ _ h => h) (Or.inl ⟨by rfl, ?y9⟩) hHeld ?r9
                case y9 => (intro w hSw; have G := (show RG b off b' off' k3 rk sn sc sg sl x _ from Rq.at hSw Hk.out.1 Hk.out.2); have g0 := G.c0; have g1 := G.c1; have g2 := G.c2; have g3 := G.c3; have g4 := G.c4; have g6 := G.x0; clear G hSw; go_simp; try with_reducible rfl)
                simp only [List.getElem_toArray, List.getElem_cons_zero, List.getElem_cons_succ, Act.put, List.setIfInBounds_toArray, List.set_cons_zero, List.set_cons_succ]
                refine wpAnyH_ready (rs := [9]) (by kernel_rfl) (by simp) (AllReadyH.cons rfl (fun K hK => ?_) AllReadyH.nil)
                go_simp
                refine (HC.out _).mono ?_
                rintro e x2 ⟨rfl, hb⟩
                have X2 := Lib.hid (Rq.next hHeld hb)
                clear hb
                go_wp2_with fail
                refine hK.out _ _ (X2.out) (fun hHeld => ?_)
                clear hK K
                refine wpAnyH_take (i := 10) (v := ?v11) rfl (by kernel_rfl) (by kernel_rfl) (by kernel_rfl) (fun _ _ _ h => h) (Or.inl ⟨by rfl, ?y11⟩) hHeld ?r11
                case y11 => (intro w hSw; have G := (show RG b off b' off' k3 rk sn sc sg sl x _ from Rq.at hSw Hk.out.1 Hk.out.2); have g0 := G.c0; have g1 := G.c1; have g2 := G.c2; have g3 := G.c3; have g4 := G.c4; have g6 := G.x0; clear G hSw; go_simp; try with_reducible rfl)
                simp only [List.getElem_toArray, List.getElem_cons_zero, List.getElem_cons_succ, Act.put, List.setIfInBounds_toArray, List.set_cons_zero, List.set_cons_succ]
                refine wpAnyH_take (i := 11) (v := ?v12) rfl (by kernel_rfl) (by kernel_rfl) (by kernel_rfl) (fun _ _ _ h => h) (Or.inl ⟨by rfl, ?y12⟩) hHeld ?r12
                case y12 => (intro w hSw; have G := (show RG b off b' off' k3 rk sn sc sg sl x _ from Rq.at hSw Hk.out.1 Hk.out.2); have g0 := G.c0; have g1 := G.c1; have g2 := G.c2; have g3 := G.c3; have g4 := G.c4; have g6 := G.x0; clear G hSw; go_simp; try with_reducible rfl)
                simp only [List.getElem_toArray, List.getElem_cons_zero, List.getElem_cons_succ, Act.put, List.setIfInBounds_toArray, List.set_cons_zero, List.set_cons_succ]
                refine wpAnyH_take (i := 12) (v := undef) rfl (by kernel_rfl) (by kernel_rfl) (by kernel_rfl) (fun _ _ _ h => h) (Or.inr ⟨by rfl, rfl⟩) hHeld ?_
                simp only [List.getElem_toArray, List.getElem_cons_zero, List.getElem_cons_succ, Act.put, List.setIfInBounds_toArray, List.set_cons_zero, List.set_cons_succ]
                refine wpAnyH_take (i := 13) (v := undef) rfl (by kernel_rfl) (by kernel_rfl) (by kernel_rfl) (fun _ _ _ h => h) (Or.inr ⟨by rfl, rfl⟩) hHeld ?_
                simp only [List.getElem_toArray, List.getElem_cons_zero, List.getElem_cons_succ, Act.put, List.setIfInBounds_toArray, List.set_cons_zero, List.set_cons_succ]
                refine wpAnyH_take (i := 14) (v := undef) rfl (by kernel_rfl) (by kernel_rfl) (by kernel_rfl) (fun _ _ _ h => h) (Or.inr ⟨by rfl, rfl⟩) hHeld ?_
                simp only [List.getElem_toArray, List.getElem_cons_zero, List.getElem_cons_succ, Act.put, List.setIfInBounds_toArray, List.set_cons_zero, List.set_cons_succ]
                refine wpAnyH_take (i := 15) (v := undef) rfl (by kernel_rfl) (by kernel_rfl) (by kernel_rfl) (fun _ _ _ h => h) (Or.inr ⟨by rfl, rfl⟩) hHeld ?_
                simp only [List.getElem_toArray, List.getElem_cons_zero, List.getElem_cons_succ, Act.put, List.setIfInBounds_toArray, List.set_cons_zero, List.set_cons_succ]
                refine wpAnyH_take (i := 16) (v := undef) rfl (by kernel_rfl) (by kernel_rfl) (by kernel_rfl) (fun _ _ _ h => h) (Or.inr ⟨by rfl, rfl⟩) hHeld ?_
                simp only [List.getElem_toArray, List.getElem_cons_zero, List.getElem_cons_succ, Act.put, List.setIfInBounds_toArray, List.set_cons_zero, List.set_cons_succ]
                refine wpAnyH_take (i := 17) (v := undef) rfl (by kernel_rfl) (by kernel_rfl) (by kernel_rfl) (fun _ _ _ h => h) (Or.inr ⟨by rfl, rfl⟩) hHeld ?_
                simp only [List.getElem_toArray, List.getElem_cons_zero, List.getElem_cons_succ, Act.put, List.setIfInBounds_toArray, List.set_cons_zero, List.set_cons_succ]
                refine wpAnyH_take (i := 18) (v := undef) rfl (by kernel_rfl) (by kernel_rfl) (by kernel_rfl) (fun _ _ _ h => h) (Or.inr ⟨by rfl, rfl⟩) hHeld ?_
                simp only [List.getElem_toArray, List.getElem_cons_zero, List.getElem_cons_succ, Act.put, List.setIfInBounds_toArray, List.set_cons_zero, List.set_cons_succ]
                refine wpAnyH_take (i := 19) (v := undef) rfl (by kernel_rfl) (by kernel_rfl) (by kernel_rfl) (fun _ _ _ h => h) (Or.inr ⟨by rfl, rfl⟩) hHeld ?_
                simp only [List.getElem_toArray, List.getElem_cons_zero, List.getElem_cons_succ, Act.put, List.setIfInBounds_toArray, List.set_cons_zero, List.set_cons_succ]
                refine wpAnyH_take (i := 20) (v := undef) rfl (by kernel_rfl) (by kernel_rfl) (by kernel_rfl) (fun _ _ _ h => h) (Or.inr ⟨by rfl, rfl⟩) hHeld ?_
                simp only [List.getElem_toArray, List.getElem_cons_zero, List.getElem_cons_succ, Act.put, List.setIfInBounds_toArray, List.set_cons_zero, List.set_cons_succ]
                refine wpAnyH_take (i := 21) (v := undef) rfl (by kernel_rfl) (by kernel_rfl) (by kernel_rfl) (fun _ _ _ h => h) (Or.inr ⟨by rfl, rfl⟩) hHeld ?_
                simp only [List.getElem_toArray, List.getElem_cons_zero, List.getElem_cons_succ, Act.put, List.setIfInBounds_toArray, List.set_cons_zero, List.set_cons_succ]
                refine wpAnyH_take (i := 22) (v := undef) rfl (by kernel_rfl) (by kernel_rfl) (by kernel_rfl) (fun _ _ _ h => h) (Or.inr ⟨by rfl, rfl⟩) hHeld ?_
                simp only [List.getElem_toArray, List.getElem_cons_zero, List.getElem_cons_succ, Act.put, List.setIfInBounds_toArray, List.set_cons_zero, List.set_cons_succ]
                refine wpAnyH_take (i := 23) (v := undef) rfl (by kernel_rfl) (by kernel_rfl) (by kernel_rfl) (fun _ _ _ h => h) (Or.inr ⟨by rfl, rfl⟩) hHeld ?_
                simp only [List.getElem_toArray, List.getElem_cons_zero, List.getElem_cons_succ, Act.put, List.setIfInBounds_toArray, List.set_cons_zero, List.set_cons_succ]
                refine wpAnyH_take (i := 24) (v := undef) rfl (by kernel_rfl) (by kernel_rfl) (by kernel_rfl) (fun _ _ _ h => h) (Or.inr ⟨by rfl, rfl⟩) hHeld ?_
                simp only [List.getElem_toArray, List.getElem_cons_zero, List.getElem_cons_succ, Act.put, List.setIfInBounds_toArray, List.set_cons_zero, List.set_cons_succ]
                refine wpAnyH_take (i := 25) (v := undef) rfl (by kernel_rfl) (by kernel_rfl) (by kernel_rfl) (fun _ _ _ h => h) (Or.inr ⟨by rfl, rfl⟩) hHeld ?_
                simp only [List.getElem_toArray, List.getElem_cons_zero, List.getElem_cons_succ, Act.put, List.setIfInBounds_toArray, List.set_cons_zero, List.set_cons_succ]
                refine wpAnyH_take (i := 26) (v := undef) rfl (by kernel_rfl) (by kernel_rfl) (by kernel_rfl) (fun _ _ _ h => h) (Or.inr ⟨by rfl, rfl⟩) hHeld ?_
                simp only [List.getElem_toArray, List.getElem_cons_zero, List.getElem_cons_succ, Act.put, List.setIfInBounds_toArray, List.set_cons_zero, List.set_cons_succ]
                refine wpAnyH_take (i := 27) (v := ?v28) rfl (by kernel_rfl) (by kernel_rfl) (by kernel_rfl) (fun _ _ _ h => h) (Or.inl ⟨by rfl, ?y28⟩) hHeld ?r28
                case y28 => (intro w hSw; have G := (show RG b off b' off' k3 rk sn sc sg sl x _ from Rq.at hSw Hk.out.1 Hk.out.2); have g0 := G.c0; have g1 := G.c1; have g2 := G.c2; have g3 := G.c3; have g4 := G.c4; have g6 := G.x0; clear G hSw; go_simp; try with_reducible rfl)
                simp only [List.getElem_toArray, List.getElem_cons_zero, List.getElem_cons_succ, Act.put, List.setIfInBounds_toArray, List.set_cons_zero, List.set_cons_succ]
                refine wpAnyH_done (by kernel_rfl) ?_ _
                go_wp2_with fail
                go_roundw
                case rel => exact ⟨k3 + 1, by go_num, by omega, by rw [HBe.out, bst_no (by rw [HV.out.1]; exact Hq.out), ← HBe.out], X2.out⟩
                case measure => simp [intOf]; omega
              · have hz : decide (0 < q) = true := decide_eq_true (by omega)
                have Hq := Lib.hid hq
                clear hq hw0
                by_cases hf : 0 ≤ B k3
                · as_aux_lemma =>
                  obtain ⟨p, hp⟩ : ∃ p : Nat, B k3 = p := ⟨(B k3).toNat, by omega⟩
                  obtain ⟨S', hS'⟩ : ∃ S', l[p]? = some S' := ⟨_, List.getElem?_eq_getElem (by have := Hn.out.1; omega)⟩
                  obtain ⟨xp, hxp⟩ : ∃ x, gs[p]? = some x := ⟨_, List.getElem?_eq_getElem (by have := Hn.out.2; omega)⟩
                  have Hp := Lib.hid (And.intro hS' hxp)
                  have HRk := Lib.hid (show rkf l (bst (rkf l) (wvf l gs) k3).toNat = S'.rk by rw [← HBe.out, hp]; exact rkf_at hS')
                  have HF := Lib.hid (show 0 ≤ bst (rkf l) (wvf l gs) k3 by rw [← HBe.out]; exact hf)
                  have HPe := Lib.hid (show B k3 = p from hp)
                  rw [hp]
                  have hpi : (p : Int) < k2 := by omega
                  have hpn : p < k2 := by omega
                  have m0 : decide ((p : Int) < 0) = false := decide_eq_false (by omega)
                  clear hS' hxp hf hB0 hB1 hp
                  obtain ⟨tpp, rkp, np, cp, gp, lp⟩ := S'
                  simp only at HRk
                  by_cases hr : rk ≤ rkp
                  · have m1 : decide (rkp < rk) = false := decide_eq_false (by omega)
                    have Hr := Lib.hid hr
                    clear hr
                    go_wp2_with fail
                    refine wp_region_held_drew (S := Rq w (some ⟨b, off, none⟩) (some ⟨b', off', none⟩) l gs) (by kernel_rfl) (HK3.out.drew) (fun hHeld => ?_)
                    refine wpAnyH_take (i := 0) (v := ?v29) rfl (by kernel_rfl) (by kernel_rfl) (by kernel_rfl) (fun _ _ _ h => h) (Or.inl ⟨by rfl, ?y29⟩) hHeld ?r29
                    case y29 => (intro w hSw; have G := (show RG b off b' off' k3 rk sn sc sg sl x _ from Rq.at hSw Hk.out.1 Hk.out.2); have g0 := G.c0; have g1 := G.c1; have g2 := G.c2; have g3 := G.c3; have g4 := G.c4; have g6 := G.x0; have P0 := (show RG b off b' off' p rkp np cp gp lp xp _ from Rq.at hSw Hp.out.1 Hp.out.2).c0; clear G hSw; go_simp; try with_reducible rfl)
                    simp only [List.getElem_toArray, List.getElem_cons_zero, Act.put, List.setIfInBounds_toArray, List.set_cons_zero, List.set_cons_succ]
                    refine wpAnyH_take (i := 1) (v := ?v30) rfl (by kernel_rfl) (by kernel_rfl) (by kernel_rfl) (fun _ _ _ h => h) (Or.inl ⟨by rfl, ?y30⟩) hHeld ?r30
                    case y30 => (intro w hSw; have G := (show RG b off b' off' k3 rk sn sc sg sl x _ from Rq.at hSw Hk.out.1 Hk.out.2); have g0 := G.c0; have g1 := G.c1; have g2 := G.c2; have g3 := G.c3; have g4 := G.c4; have g6 := G.x0; have P0 := (show RG b off b' off' p rkp np cp gp lp xp _ from Rq.at hSw Hp.out.1 Hp.out.2).c0; clear G hSw; go_simp; try with_reducible rfl)
                    simp only [List.getElem_toArray, List.getElem_cons_zero, List.getElem_cons_succ, Act.put, List.setIfInBounds_toArray, List.set_cons_zero, List.set_cons_succ]
                    refine wpAnyH_take (i := 2) (v := ?v31) rfl (by kernel_rfl) (by kernel_rfl) (by kernel_rfl) (fun _ _ _ h => h) (Or.inl ⟨by rfl, ?y31⟩) hHeld ?r31
                    case y31 => (intro w hSw; have G := (show RG b off b' off' k3 rk sn sc sg sl x _ from Rq.at hSw Hk.out.1 Hk.out.2); have g0 := G.c0; have g1 := G.c1; have g2 := G.c2; have g3 := G.c3; have g4 := G.c4; have g6 := G.x0; have P0 := (show RG b off b' off' p rkp np cp gp lp xp _ from Rq.at hSw Hp.out.1 Hp.out.2).c0; clear G hSw; go_simp; try with_reducible rfl)
                    simp only [List.getElem_toArray, List.getElem_cons_zero, List.getElem_cons_succ, Act.put, List.setIfInBounds_toArray, List.set_cons_zero, List.set_cons_succ]
                    refine wpAnyH_take (i := 3) (v := ?v32) rfl (by kernel_rfl) (by kernel_rfl) (by kernel_rfl) (fun _ _ _ h => h) (Or.inl ⟨by rfl, ?y32⟩) hHeld ?r32
                    case y32 => (intro w hSw; have G := (show RG b off b' off' k3 rk sn sc sg sl x _ from Rq.at hSw Hk.out.1 Hk.out.2); have g0 := G.c0; have g1 := G.c1; have g2 := G.c2; have g3 := G.c3; have g4 := G.c4; have g6 := G.x0; have P0 := (show RG b off b' off' p rkp np cp gp lp xp _ from Rq.at hSw Hp.out.1 Hp.out.2).c0; clear G hSw; go_simp; try with_reducible rfl)
                    simp only [List.getElem_toArray, List.getElem_cons_zero, List.getElem_cons_succ, Act.put, List.setIfInBounds_toArray, List.set_cons_zero, List.set_cons_succ]
                    refine wpAnyH_take (i := 4) (v := ?v33) rfl (by kernel_rfl) (by kernel_rfl) (by kernel_rfl) (fun _ _ _ h => h) (Or.inl ⟨by rfl, ?y33⟩) hHeld ?r33
                    case y33 => (intro w hSw; have G := (show RG b off b' off' k3 rk sn sc sg sl x _ from Rq.at hSw Hk.out.1 Hk.out.2); have g0 := G.c0; have g1 := G.c1; have g2 := G.c2; have g3 := G.c3; have g4 := G.c4; have g6 := G.x0; have P0 := (show RG b off b' off' p rkp np cp gp lp xp _ from Rq.at hSw Hp.out.1 Hp.out.2).c0; clear G hSw; go_simp; try with_reducible rfl)
                    simp only [List.getElem_toArray, List.getElem_cons_zero, List.getElem_cons_succ, Act.put, List.setIfInBounds_toArray, List.set_cons_zero, List.set_cons_succ]
                    refine wpAnyH_take (i := 5) (v := ?v34) rfl (by kernel_rfl) (by kernel_rfl) (by kernel_rfl) (fun _ _ _ h => h) (Or.inl ⟨by rfl, ?y34⟩) hHeld ?r34
                    case y34 => (intro w hSw; have G := (show RG b off b' off' k3 rk sn sc sg sl x _ from Rq.at hSw Hk.out.1 Hk.out.2); have g0 := G.c0; have g1 := G.c1; have g2 := G.c2; have g3 := G.c3; have g4 := G.c4; have g6 := G.x0; have P0 := (show RG b off b' off' p rkp np cp gp lp xp _ from Rq.at hSw Hp.out.1 Hp.out.2).c0; clear G hSw; go_simp; try with_reducible rfl)
                    simp only [List.getElem_toArray, List.getElem_cons_zero, List.getElem_cons_succ, Act.put, List.setIfInBounds_toArray, List.set_cons_zero, List.set_cons_succ]
                    refine wpAnyH_take (i := 6) (v := ?v35) rfl (by kernel_rfl) (by kernel_rfl) (by kernel_rfl) (fun _ _ _ h => h) (Or.inl ⟨by rfl, ?y35⟩) hHeld ?r35
                    case y35 => (intro w hSw; have G := (show RG b off b' off' k3 rk sn sc sg sl x _ from Rq.at hSw Hk.out.1 Hk.out.2); have g0 := G.c0; have g1 := G.c1; have g2 := G.c2; have g3 := G.c3; have g4 := G.c4; have g6 := G.x0; have P0 := (show RG b off b' off' p rkp np cp gp lp xp _ from Rq.at hSw Hp.out.1 Hp.out.2).c0; clear G hSw; go_simp; try with_reducible rfl)
                    simp only [List.getElem_toArray, List.getElem_cons_zero, List.getElem_cons_succ, Act.put, List.setIfInBounds_toArray, List.set_cons_zero, List.set_cons_succ]
                    refine wpAnyH_take (i := 7) (v := ?v36) rfl (by kernel_rfl) (by kernel_rfl) (by kernel_rfl) (fun _ _ _ h => h) (Or.inl ⟨by rfl, ?y36⟩) hHeld ?r36
                    case y36 => (intro w hSw; have G := (show RG b off b' off' k3 rk sn sc sg sl x _ from Rq.at hSw Hk.out.1 Hk.out.2); have g0 := G.c0; have g1 := G.c1; have g2 := G.c2; have g3 := G.c3; have g4 := G.c4; have g6 := G.x0; have P0 := (show RG b off b' off' p rkp np cp gp lp xp _ from Rq.at hSw Hp.out.1 Hp.out.2).c0; clear G hSw; go_simp; try with_reducible rfl)
                    simp only [List.getElem_toArray, List.getElem_cons_zero, List.getElem_cons_succ, Act.put, List.setIfInBounds_toArray, List.set_cons_zero, List.set_cons_succ]
                    refine wpAnyH_take (i := 8) (v := ?v37) rfl (by kernel_rfl) (by kernel_rfl) (by kernel_rfl) (fun _ _ _ h => h) (Or.inl ⟨by rfl, ?y37⟩) hHeld ?r37
                    case y37 => (intro w hSw; have G := (show RG b off b' off' k3 rk sn sc sg sl x _ from Rq.at hSw Hk.out.1 Hk.out.2); have g0 := G.c0; have g1 := G.c1; have g2 := G.c2; have g3 := G.c3; have g4 := G.c4; have g6 := G.x0; have P0 := (show RG b off b' off' p rkp np cp gp lp xp _ from Rq.at hSw Hp.out.1 Hp.out.2).c0; clear G hSw; go_simp; try with_reducible rfl)
                    simp only [List.getElem_toArray, List.getElem_cons_zero, List.getElem_cons_succ, Act.put, List.setIfInBounds_toArray, List.set_cons_zero, List.set_cons_succ]
                    refine wpAnyH_ready (rs := [9]) (by kernel_rfl) (by simp) (AllReadyH.cons rfl (fun K hK => ?_) AllReadyH.nil)
                    go_simp
                    refine (HC.out _).mono ?_
                    rintro e x2 ⟨rfl, hb⟩
                    have X2 := Lib.hid (Rq.next hHeld hb)
                    clear hb
                    go_wp2_with fail
                    refine hK.out _ _ (X2.out) (fun hHeld => ?_)
                    clear hK K
                    refine wpAnyH_take (i := 10) (v := ?v39) rfl (by kernel_rfl) (by kernel_rfl) (by kernel_rfl) (fun _ _ _ h => h) (Or.inl ⟨by rfl, ?y39⟩) hHeld ?r39
                    case y39 => (intro w hSw; have G := (show RG b off b' off' k3 rk sn sc sg sl x _ from Rq.at hSw Hk.out.1 Hk.out.2); have g0 := G.c0; have g1 := G.c1; have g2 := G.c2; have g3 := G.c3; have g4 := G.c4; have g6 := G.x0; have P0 := (show RG b off b' off' p rkp np cp gp lp xp _ from Rq.at hSw Hp.out.1 Hp.out.2).c0; clear G hSw; go_simp; try with_reducible rfl)
                    simp only [List.getElem_toArray, List.getElem_cons_zero, List.getElem_cons_succ, Act.put, List.setIfInBounds_toArray, List.set_cons_zero, List.set_cons_succ]
                    refine wpAnyH_take (i := 11) (v := ?v40) rfl (by kernel_rfl) (by kernel_rfl) (by kernel_rfl) (fun _ _ _ h => h) (Or.inl ⟨by rfl, ?y40⟩) hHeld ?r40
                    case y40 => (intro w hSw; have G := (show RG b off b' off' k3 rk sn sc sg sl x _ from Rq.at hSw Hk.out.1 Hk.out.2); have g0 := G.c0; have g1 := G.c1; have g2 := G.c2; have g3 := G.c3; have g4 := G.c4; have g6 := G.x0; have P0 := (show RG b off b' off' p rkp np cp gp lp xp _ from Rq.at hSw Hp.out.1 Hp.out.2).c0; clear G hSw; go_simp; try with_reducible rfl)
                    simp only [List.getElem_toArray, List.getElem_cons_zero, List.getElem_cons_succ, Act.put, List.setIfInBounds_toArray, List.set_cons_zero, List.set_cons_succ]
                    refine wpAnyH_take (i := 12) (v := ?v41) rfl (by kernel_rfl) (by kernel_rfl) (by kernel_rfl) (fun _ _ _ h => h) (Or.inl ⟨by rfl, ?y41⟩) hHeld ?r41
                    case y41 => (intro w hSw; have G := (show RG b off b' off' k3 rk sn sc sg sl x _ from Rq.at hSw Hk.out.1 Hk.out.2); have g0 := G.c0; have g1 := G.c1; have g2 := G.c2; have g3 := G.c3; have g4 := G.c4; have g6 := G.x0; have P0 := (show RG b off b' off' p rkp np cp gp lp xp _ from Rq.at hSw Hp.out.1 Hp.out.2).c0; clear G hSw; go_simp; try with_reducible rfl)
                    simp only [List.getElem_toArray, List.getElem_cons_zero, List.getElem_cons_succ, Act.put, List.setIfInBounds_toArray, List.set_cons_zero, List.set_cons_succ]
                    refine wpAnyH_take (i := 13) (v := ?v42) rfl (by kernel_rfl) (by kernel_rfl) (by kernel_rfl) (fun _ _ _ h => h) (Or.inl ⟨by rfl, ?y42⟩) hHeld ?r42
                    case y42 => (intro w hSw; have G := (show RG b off b' off' k3 rk sn sc sg sl x _ from Rq.at hSw Hk.out.1 Hk.out.2); have g0 := G.c0; have g1 := G.c1; have g2 := G.c2; have g3 := G.c3; have g4 := G.c4; have g6 := G.x0; have P0 := (show RG b off b' off' p rkp np cp gp lp xp _ from Rq.at hSw Hp.out.1 Hp.out.2).c0; clear G hSw; go_simp; try with_reducible rfl)
                    simp only [List.getElem_toArray, List.getElem_cons_zero, List.getElem_cons_succ, Act.put, List.setIfInBounds_toArray, List.set_cons_zero, List.set_cons_succ]
                    refine wpAnyH_take (i := 14) (v := ?v43) rfl (by kernel_rfl) (by kernel_rfl) (by kernel_rfl) (fun _ _ _ h => h) (Or.inl ⟨by rfl, ?y43⟩) hHeld ?r43
                    case y43 => (intro w hSw; have G := (show RG b off b' off' k3 rk sn sc sg sl x _ from Rq.at hSw Hk.out.1 Hk.out.2); have g0 := G.c0; have g1 := G.c1; have g2 := G.c2; have g3 := G.c3; have g4 := G.c4; have g6 := G.x0; have P0 := (show RG b off b' off' p rkp np cp gp lp xp _ from Rq.at hSw Hp.out.1 Hp.out.2).c0; clear G hSw; go_simp; try with_reducible rfl)
                    simp only [List.getElem_toArray, List.getElem_cons_zero, List.getElem_cons_succ, Act.put, List.setIfInBounds_toArray, List.set_cons_zero, List.set_cons_succ]
                    refine wpAnyH_take (i := 15) (v := ?v44) rfl (by kernel_rfl) (by kernel_rfl) (by kernel_rfl) (fun _ _ _ h => h) (Or.inl ⟨by rfl, ?y44⟩) hHeld ?r44
                    case y44 => (intro w hSw; have G := (show RG b off b' off' k3 rk sn sc sg sl x _ from Rq.at hSw Hk.out.1 Hk.out.2); have g0 := G.c0; have g1 := G.c1; have g2 := G.c2; have g3 := G.c3; have g4 := G.c4; have g6 := G.x0; have P0 := (show RG b off b' off' p rkp np cp gp lp xp _ from Rq.at hSw Hp.out.1 Hp.out.2).c0; clear G hSw; go_simp; try with_reducible rfl)
                    simp only [List.getElem_toArray, List.getElem_cons_zero, List.getElem_cons_succ, Act.put, List.setIfInBounds_toArray, List.set_cons_zero, List.set_cons_succ]
                    refine wpAnyH_take (i := 16) (v := ?v45) rfl (by kernel_rfl) (by kernel_rfl) (by kernel_rfl) (fun _ _ _ h => h) (Or.inl ⟨by rfl, ?y45⟩) hHeld ?r45
                    case y45 => (intro w hSw; have G := (show RG b off b' off' k3 rk sn sc sg sl x _ from Rq.at hSw Hk.out.1 Hk.out.2); have g0 := G.c0; have g1 := G.c1; have g2 := G.c2; have g3 := G.c3; have g4 := G.c4; have g6 := G.x0; have P0 := (show RG b off b' off' p rkp np cp gp lp xp _ from Rq.at hSw Hp.out.1 Hp.out.2).c0; clear G hSw; go_simp; try with_reducible rfl)
                    simp only [List.getElem_toArray, List.getElem_cons_zero, List.getElem_cons_succ, Act.put, List.setIfInBounds_toArray, List.set_cons_zero, List.set_cons_succ]
                    refine wpAnyH_take (i := 17) (v := ?v46) rfl (by kernel_rfl) (by kernel_rfl) (by kernel_rfl) (fun _ _ _ h => h) (Or.inl ⟨by rfl, ?y46⟩) hHeld ?r46
                    case y46 => (intro w hSw; have G := (show RG b off b' off' k3 rk sn sc sg sl x _ from Rq.at hSw Hk.out.1 Hk.out.2); have g0 := G.c0; have g1 := G.c1; have g2 := G.c2; have g3 := G.c3; have g4 := G.c4; have g6 := G.x0; have P0 := (show RG b off b' off' p rkp np cp gp lp xp _ from Rq.at hSw Hp.out.1 Hp.out.2).c0; clear G hSw; go_simp; try with_reducible rfl)
                    simp only [List.getElem_toArray, List.getElem_cons_zero, List.getElem_cons_succ, Act.put, List.setIfInBounds_toArray, List.set_cons_zero, List.set_cons_succ]
                    refine wpAnyH_take (i := 18) (v := ?v47) rfl (by kernel_rfl) (by kernel_rfl) (by kernel_rfl) (fun _ _ _ h => h) (Or.inl ⟨by rfl, ?y47⟩) hHeld ?r47
                    case y47 => (intro w hSw; have G := (show RG b off b' off' k3 rk sn sc sg sl x _ from Rq.at hSw Hk.out.1 Hk.out.2); have g0 := G.c0; have g1 := G.c1; have g2 := G.c2; have g3 := G.c3; have g4 := G.c4; have g6 := G.x0; have P0 := (show RG b off b' off' p rkp np cp gp lp xp _ from Rq.at hSw Hp.out.1 Hp.out.2).c0; clear G hSw; go_simp; try with_reducible rfl)
                    simp only [List.getElem_toArray, List.getElem_cons_zero, List.getElem_cons_succ, Act.put, List.setIfInBounds_toArray, List.set_cons_zero, List.set_cons_succ]
                    refine wpAnyH_take (i := 19) (v := ?v48) rfl (by kernel_rfl) (by kernel_rfl) (by kernel_rfl) (fun _ _ _ h => h) (Or.inl ⟨by rfl, ?y48⟩) hHeld ?r48
                    case y48 => (intro w hSw; have G := (show RG b off b' off' k3 rk sn sc sg sl x _ from Rq.at hSw Hk.out.1 Hk.out.2); have g0 := G.c0; have g1 := G.c1; have g2 := G.c2; have g3 := G.c3; have g4 := G.c4; have g6 := G.x0; have P0 := (show RG b off b' off' p rkp np cp gp lp xp _ from Rq.at hSw Hp.out.1 Hp.out.2).c0; clear G hSw; go_simp; try with_reducible rfl)
                    simp only [List.getElem_toArray, List.getElem_cons_zero, List.getElem_cons_succ, Act.put, List.setIfInBounds_toArray, List.set_cons_zero, List.set_cons_succ]
                    refine wpAnyH_take (i := 20) (v := ?v49) rfl (by kernel_rfl) (by kernel_rfl) (by kernel_rfl) (fun _ _ _ h => h) (Or.inl ⟨by rfl, ?y49⟩) hHeld ?r49
                    case y49 => (intro w hSw; have G := (show RG b off b' off' k3 rk sn sc sg sl x _ from Rq.at hSw Hk.out.1 Hk.out.2); have g0 := G.c0; have g1 := G.c1; have g2 := G.c2; have g3 := G.c3; have g4 := G.c4; have g6 := G.x0; have P0 := (show RG b off b' off' p rkp np cp gp lp xp _ from Rq.at hSw Hp.out.1 Hp.out.2).c0; clear G hSw; go_simp; try with_reducible rfl)
                    simp only [List.getElem_toArray, List.getElem_cons_zero, List.getElem_cons_succ, Act.put, List.setIfInBounds_toArray, List.set_cons_zero, List.set_cons_succ]
                    refine wpAnyH_take (i := 21) (v := ?v50) rfl (by kernel_rfl) (by kernel_rfl) (by kernel_rfl) (fun _ _ _ h => h) (Or.inl ⟨by rfl, ?y50⟩) hHeld ?r50
                    case y50 => (intro w hSw; have G := (show RG b off b' off' k3 rk sn sc sg sl x _ from Rq.at hSw Hk.out.1 Hk.out.2); have g0 := G.c0; have g1 := G.c1; have g2 := G.c2; have g3 := G.c3; have g4 := G.c4; have g6 := G.x0; have P0 := (show RG b off b' off' p rkp np cp gp lp xp _ from Rq.at hSw Hp.out.1 Hp.out.2).c0; clear G hSw; go_simp; try with_reducible rfl)
                    simp only [List.getElem_toArray, List.getElem_cons_zero, List.getElem_cons_succ, Act.put, List.setIfInBounds_toArray, List.set_cons_zero, List.set_cons_succ]
                    refine wpAnyH_take (i := 22) (v := ?v51) rfl (by kernel_rfl) (by kernel_rfl) (by kernel_rfl) (fun _ _ _ h => h) (Or.inl ⟨by rfl, ?y51⟩) hHeld ?r51
                    case y51 => (intro w hSw; have G := (show RG b off b' off' k3 rk sn sc sg sl x _ from Rq.at hSw Hk.out.1 Hk.out.2); have g0 := G.c0; have g1 := G.c1; have g2 := G.c2; have g3 := G.c3; have g4 := G.c4; have g6 := G.x0; have P0 := (show RG b off b' off' p rkp np cp gp lp xp _ from Rq.at hSw Hp.out.1 Hp.out.2).c0; clear G hSw; go_simp; try with_reducible rfl)
                    simp only [List.getElem_toArray, List.getElem_cons_zero, List.getElem_cons_succ, Act.put, List.setIfInBounds_toArray, List.set_cons_zero, List.set_cons_succ]
                    refine wpAnyH_take (i := 23) (v := ?v52) rfl (by kernel_rfl) (by kernel_rfl) (by kernel_rfl) (fun _ _ _ h => h) (Or.inl ⟨by rfl, ?y52⟩) hHeld ?r52
                    case y52 => (intro w hSw; have G := (show RG b off b' off' k3 rk sn sc sg sl x _ from Rq.at hSw Hk.out.1 Hk.out.2); have g0 := G.c0; have g1 := G.c1; have g2 := G.c2; have g3 := G.c3; have g4 := G.c4; have g6 := G.x0; have P0 := (show RG b off b' off' p rkp np cp gp lp xp _ from Rq.at hSw Hp.out.1 Hp.out.2).c0; clear G hSw; go_simp; try with_reducible rfl)
                    simp only [List.getElem_toArray, List.getElem_cons_zero, List.getElem_cons_succ, Act.put, List.setIfInBounds_toArray, List.set_cons_zero, List.set_cons_succ]
                    refine wpAnyH_take (i := 24) (v := ?v53) rfl (by kernel_rfl) (by kernel_rfl) (by kernel_rfl) (fun _ _ _ h => h) (Or.inl ⟨by rfl, ?y53⟩) hHeld ?r53
                    case y53 => (intro w hSw; have G := (show RG b off b' off' k3 rk sn sc sg sl x _ from Rq.at hSw Hk.out.1 Hk.out.2); have g0 := G.c0; have g1 := G.c1; have g2 := G.c2; have g3 := G.c3; have g4 := G.c4; have g6 := G.x0; have P0 := (show RG b off b' off' p rkp np cp gp lp xp _ from Rq.at hSw Hp.out.1 Hp.out.2).c0; clear G hSw; go_simp; try with_reducible rfl)
                    simp only [List.getElem_toArray, List.getElem_cons_zero, List.getElem_cons_succ, Act.put, List.setIfInBounds_toArray, List.set_cons_zero, List.set_cons_succ]
                    refine wpAnyH_take (i := 25) (v := ?v54) rfl (by kernel_rfl) (by kernel_rfl) (by kernel_rfl) (fun _ _ _ h => h) (Or.inl ⟨by rfl, ?y54⟩) hHeld ?r54
                    case y54 => (intro w hSw; have G := (show RG b off b' off' k3 rk sn sc sg sl x _ from Rq.at hSw Hk.out.1 Hk.out.2); have g0 := G.c0; have g1 := G.c1; have g2 := G.c2; have g3 := G.c3; have g4 := G.c4; have g6 := G.x0; have P0 := (show RG b off b' off' p rkp np cp gp lp xp _ from Rq.at hSw Hp.out.1 Hp.out.2).c0; clear G hSw; go_simp; try with_reducible rfl)
                    simp only [List.getElem_toArray, List.getElem_cons_zero, List.getElem_cons_succ, Act.put, List.setIfInBounds_toArray, List.set_cons_zero, List.set_cons_succ]
                    refine wpAnyH_take (i := 26) (v := ?v55) rfl (by kernel_rfl) (by kernel_rfl) (by kernel_rfl) (fun _ _ _ h => h) (Or.inl ⟨by rfl, ?y55⟩) hHeld ?r55
                    case y55 => (intro w hSw; have G := (show RG b off b' off' k3 rk sn sc sg sl x _ from Rq.at hSw Hk.out.1 Hk.out.2); have g0 := G.c0; have g1 := G.c1; have g2 := G.c2; have g3 := G.c3; have g4 := G.c4; have g6 := G.x0; have P0 := (show RG b off b' off' p rkp np cp gp lp xp _ from Rq.at hSw Hp.out.1 Hp.out.2).c0; clear G hSw; go_simp; try with_reducible rfl)
                    simp only [List.getElem_toArray, List.getElem_cons_zero, List.getElem_cons_succ, Act.put, List.setIfInBounds_toArray, List.set_cons_zero, List.set_cons_succ]
                    refine wpAnyH_take (i := 27) (v := ?v56) rfl (by kernel_rfl) (by kernel_rfl) (by kernel_rfl) (fun _ _ _ h => h) (Or.inl ⟨by rfl, ?y56⟩) hHeld ?r56
                    case y56 => (intro w hSw; have G := (show RG b off b' off' k3 rk sn sc sg sl x _ from Rq.at hSw Hk.out.1 Hk.out.2); have g0 := G.c0; have g1 := G.c1; have g2 := G.c2; have g3 := G.c3; have g4 := G.c4; have g6 := G.x0; have P0 := (show RG b off b' off' p rkp np cp gp lp xp _ from Rq.at hSw Hp.out.1 Hp.out.2).c0; clear G hSw; go_simp; try with_reducible rfl)
                    simp only [List.getElem_toArray, List.getElem_cons_zero, List.getElem_cons_succ, Act.put, List.setIfInBounds_toArray, List.set_cons_zero, List.set_cons_succ]
                    refine wpAnyH_done (by kernel_rfl) ?_ _
                    go_wp2_with fail
                    go_roundw
                    case rel => exact ⟨k3 + 1, by go_num, by omega, by rw [HBe.out, bst_keep HF.out (by rw [HRk.out, HV.out.2]; exact Hr.out), ← HBe.out, HPe.out], X2.out⟩
                    case measure => simp [intOf]; omega
                  · have m1 : decide (rkp < rk) = true := decide_eq_true (by omega)
                    have Hr := Lib.hid hr
                    clear hr
                    go_wp2_with fail
                    refine wp_region_held_drew (S := Rq w (some ⟨b, off, none⟩) (some ⟨b', off', none⟩) l gs) (by kernel_rfl) (HK3.out.drew) (fun hHeld => ?_)
                    refine wpAnyH_take (i := 0) (v := ?v57) rfl (by kernel_rfl) (by kernel_rfl) (by kernel_rfl) (fun _ _ _ h => h) (Or.inl ⟨by rfl, ?y57⟩) hHeld ?r57
                    case y57 => (intro w hSw; have G := (show RG b off b' off' k3 rk sn sc sg sl x _ from Rq.at hSw Hk.out.1 Hk.out.2); have g0 := G.c0; have g1 := G.c1; have g2 := G.c2; have g3 := G.c3; have g4 := G.c4; have g6 := G.x0; have P0 := (show RG b off b' off' p rkp np cp gp lp xp _ from Rq.at hSw Hp.out.1 Hp.out.2).c0; clear G hSw; go_simp; try with_reducible rfl)
                    simp only [List.getElem_toArray, List.getElem_cons_zero, Act.put, List.setIfInBounds_toArray, List.set_cons_zero, List.set_cons_succ]
                    refine wpAnyH_take (i := 1) (v := ?v58) rfl (by kernel_rfl) (by kernel_rfl) (by kernel_rfl) (fun _ _ _ h => h) (Or.inl ⟨by rfl, ?y58⟩) hHeld ?r58
                    case y58 => (intro w hSw; have G := (show RG b off b' off' k3 rk sn sc sg sl x _ from Rq.at hSw Hk.out.1 Hk.out.2); have g0 := G.c0; have g1 := G.c1; have g2 := G.c2; have g3 := G.c3; have g4 := G.c4; have g6 := G.x0; have P0 := (show RG b off b' off' p rkp np cp gp lp xp _ from Rq.at hSw Hp.out.1 Hp.out.2).c0; clear G hSw; go_simp; try with_reducible rfl)
                    simp only [List.getElem_toArray, List.getElem_cons_zero, List.getElem_cons_succ, Act.put, List.setIfInBounds_toArray, List.set_cons_zero, List.set_cons_succ]
                    refine wpAnyH_take (i := 2) (v := ?v59) rfl (by kernel_rfl) (by kernel_rfl) (by kernel_rfl) (fun _ _ _ h => h) (Or.inl ⟨by rfl, ?y59⟩) hHeld ?r59
                    case y59 => (intro w hSw; have G := (show RG b off b' off' k3 rk sn sc sg sl x _ from Rq.at hSw Hk.out.1 Hk.out.2); have g0 := G.c0; have g1 := G.c1; have g2 := G.c2; have g3 := G.c3; have g4 := G.c4; have g6 := G.x0; have P0 := (show RG b off b' off' p rkp np cp gp lp xp _ from Rq.at hSw Hp.out.1 Hp.out.2).c0; clear G hSw; go_simp; try with_reducible rfl)
                    simp only [List.getElem_toArray, List.getElem_cons_zero, List.getElem_cons_succ, Act.put, List.setIfInBounds_toArray, List.set_cons_zero, List.set_cons_succ]
                    refine wpAnyH_take (i := 3) (v := ?v60) rfl (by kernel_rfl) (by kernel_rfl) (by kernel_rfl) (fun _ _ _ h => h) (Or.inl ⟨by rfl, ?y60⟩) hHeld ?r60
                    case y60 => (intro w hSw; have G := (show RG b off b' off' k3 rk sn sc sg sl x _ from Rq.at hSw Hk.out.1 Hk.out.2); have g0 := G.c0; have g1 := G.c1; have g2 := G.c2; have g3 := G.c3; have g4 := G.c4; have g6 := G.x0; have P0 := (show RG b off b' off' p rkp np cp gp lp xp _ from Rq.at hSw Hp.out.1 Hp.out.2).c0; clear G hSw; go_simp; try with_reducible rfl)
                    simp only [List.getElem_toArray, List.getElem_cons_zero, List.getElem_cons_succ, Act.put, List.setIfInBounds_toArray, List.set_cons_zero, List.set_cons_succ]
                    refine wpAnyH_take (i := 4) (v := ?v61) rfl (by kernel_rfl) (by kernel_rfl) (by kernel_rfl) (fun _ _ _ h => h) (Or.inl ⟨by rfl, ?y61⟩) hHeld ?r61
                    case y61 => (intro w hSw; have G := (show RG b off b' off' k3 rk sn sc sg sl x _ from Rq.at hSw Hk.out.1 Hk.out.2); have g0 := G.c0; have g1 := G.c1; have g2 := G.c2; have g3 := G.c3; have g4 := G.c4; have g6 := G.x0; have P0 := (show RG b off b' off' p rkp np cp gp lp xp _ from Rq.at hSw Hp.out.1 Hp.out.2).c0; clear G hSw; go_simp; try with_reducible rfl)
                    simp only [List.getElem_toArray, List.getElem_cons_zero, List.getElem_cons_succ, Act.put, List.setIfInBounds_toArray, List.set_cons_zero, List.set_cons_succ]
                    refine wpAnyH_take (i := 5) (v := ?v62) rfl (by kernel_rfl) (by kernel_rfl) (by kernel_rfl) (fun _ _ _ h => h) (Or.inl ⟨by rfl, ?y62⟩) hHeld ?r62
                    case y62 => (intro w hSw; have G := (show RG b off b' off' k3 rk sn sc sg sl x _ from Rq.at hSw Hk.out.1 Hk.out.2); have g0 := G.c0; have g1 := G.c1; have g2 := G.c2; have g3 := G.c3; have g4 := G.c4; have g6 := G.x0; have P0 := (show RG b off b' off' p rkp np cp gp lp xp _ from Rq.at hSw Hp.out.1 Hp.out.2).c0; clear G hSw; go_simp; try with_reducible rfl)
                    simp only [List.getElem_toArray, List.getElem_cons_zero, List.getElem_cons_succ, Act.put, List.setIfInBounds_toArray, List.set_cons_zero, List.set_cons_succ]
                    refine wpAnyH_take (i := 6) (v := ?v63) rfl (by kernel_rfl) (by kernel_rfl) (by kernel_rfl) (fun _ _ _ h => h) (Or.inl ⟨by rfl, ?y63⟩) hHeld ?r63
                    case y63 => (intro w hSw; have G := (show RG b off b' off' k3 rk sn sc sg sl x _ from Rq.at hSw Hk.out.1 Hk.out.2); have g0 := G.c0; have g1 := G.c1; have g2 := G.c2; have g3 := G.c3; have g4 := G.c4; have g6 := G.x0; have P0 := (show RG b off b' off' p rkp np cp gp lp xp _ from Rq.at hSw Hp.out.1 Hp.out.2).c0; clear G hSw; go_simp; try with_reducible rfl)
                    simp only [List.getElem_toArray, List.getElem_cons_zero, List.getElem_cons_succ, Act.put, List.setIfInBounds_toArray, List.set_cons_zero, List.set_cons_succ]
                    refine wpAnyH_take (i := 7) (v := ?v64) rfl (by kernel_rfl) (by kernel_rfl) (by kernel_rfl) (fun _ _ _ h => h) (Or.inl ⟨by rfl, ?y64⟩) hHeld ?r64
                    case y64 => (intro w hSw; have G := (show RG b off b' off' k3 rk sn sc sg sl x _ from Rq.at hSw Hk.out.1 Hk.out.2); have g0 := G.c0; have g1 := G.c1; have g2 := G.c2; have g3 := G.c3; have g4 := G.c4; have g6 := G.x0; have P0 := (show RG b off b' off' p rkp np cp gp lp xp _ from Rq.at hSw Hp.out.1 Hp.out.2).c0; clear G hSw; go_simp; try with_reducible rfl)
                    simp only [List.getElem_toArray, List.getElem_cons_zero, List.getElem_cons_succ, Act.put, List.setIfInBounds_toArray, List.set_cons_zero, List.set_cons_succ]
                    refine wpAnyH_take (i := 8) (v := ?v65) rfl (by kernel_rfl) (by kernel_rfl) (by kernel_rfl) (fun _ _ _ h => h) (Or.inl ⟨by rfl, ?y65⟩) hHeld ?r65
                    case y65 => (intro w hSw; have G := (show RG b off b' off' k3 rk sn sc sg sl x _ from Rq.at hSw Hk.out.1 Hk.out.2); have g0 := G.c0; have g1 := G.c1; have g2 := G.c2; have g3 := G.c3; have g4 := G.c4; have g6 := G.x0; have P0 := (show RG b off b' off' p rkp np cp gp lp xp _ from Rq.at hSw Hp.out.1 Hp.out.2).c0; clear G hSw; go_simp; try with_reducible rfl)
                    simp only [List.getElem_toArray, List.getElem_cons_zero, List.getElem_cons_succ, Act.put, List.setIfInBounds_toArray, List.set_cons_zero, List.set_cons_succ]
                    refine wpAnyH_ready (rs := [9]) (by kernel_rfl) (by simp) (AllReadyH.cons rfl (fun K hK => ?_) AllReadyH.nil)
                    go_simp
                    refine (HC.out _).mono ?_
                    rintro e x2 ⟨rfl, hb⟩
                    have X2 := Lib.hid (Rq.next hHeld hb)
                    clear hb
                    go_wp2_with fail
                    refine hK.out _ _ (X2.out) (fun hHeld => ?_)
                    clear hK K
                    refine wpAnyH_take (i := 10) (v := ?v67) rfl (by kernel_rfl) (by kernel_rfl) (by kernel_rfl) (fun _ _ _ h => h) (Or.inl ⟨by rfl, ?y67⟩) hHeld ?r67
                    case y67 => (intro w hSw; have G := (show RG b off b' off' k3 rk sn sc sg sl x _ from Rq.at hSw Hk.out.1 Hk.out.2); have g0 := G.c0; have g1 := G.c1; have g2 := G.c2; have g3 := G.c3; have g4 := G.c4; have g6 := G.x0; have P0 := (show RG b off b' off' p rkp np cp gp lp xp _ from Rq.at hSw Hp.out.1 Hp.out.2).c0; clear G hSw; go_simp; try with_reducible rfl)
                    simp only [List.getElem_toArray, List.getElem_cons_zero, List.getElem_cons_succ, Act.put, List.setIfInBounds_toArray, List.set_cons_zero, List.set_cons_succ]
                    refine wpAnyH_take (i := 11) (v := ?v68) rfl (by kernel_rfl) (by kernel_rfl) (by kernel_rfl) (fun _ _ _ h => h) (Or.inl ⟨by rfl, ?y68⟩) hHeld ?r68
                    case y68 => (intro w hSw; have G := (show RG b off b' off' k3 rk sn sc sg sl x _ from Rq.at hSw Hk.out.1 Hk.out.2); have g0 := G.c0; have g1 := G.c1; have g2 := G.c2; have g3 := G.c3; have g4 := G.c4; have g6 := G.x0; have P0 := (show RG b off b' off' p rkp np cp gp lp xp _ from Rq.at hSw Hp.out.1 Hp.out.2).c0; clear G hSw; go_simp; try with_reducible rfl)
                    simp only [List.getElem_toArray, List.getElem_cons_zero, List.getElem_cons_succ, Act.put, List.setIfInBounds_toArray, List.set_cons_zero, List.set_cons_succ]
                    refine wpAnyH_take (i := 12) (v := ?v69) rfl (by kernel_rfl) (by kernel_rfl) (by kernel_rfl) (fun _ _ _ h => h) (Or.inl ⟨by rfl, ?y69⟩) hHeld ?r69
                    case y69 => (intro w hSw; have G := (show RG b off b' off' k3 rk sn sc sg sl x _ from Rq.at hSw Hk.out.1 Hk.out.2); have g0 := G.c0; have g1 := G.c1; have g2 := G.c2; have g3 := G.c3; have g4 := G.c4; have g6 := G.x0; have P0 := (show RG b off b' off' p rkp np cp gp lp xp _ from Rq.at hSw Hp.out.1 Hp.out.2).c0; clear G hSw; go_simp; try with_reducible rfl)
                    simp only [List.getElem_toArray, List.getElem_cons_zero, List.getElem_cons_succ, Act.put, List.setIfInBounds_toArray, List.set_cons_zero, List.set_cons_succ]
                    refine wpAnyH_take (i := 13) (v := ?v70) rfl (by kernel_rfl) (by kernel_rfl) (by kernel_rfl) (fun _ _ _ h => h) (Or.inl ⟨by rfl, ?y70⟩) hHeld ?r70
                    case y70 => (intro w hSw; have G := (show RG b off b' off' k3 rk sn sc sg sl x _ from Rq.at hSw Hk.out.1 Hk.out.2); have g0 := G.c0; have g1 := G.c1; have g2 := G.c2; have g3 := G.c3; have g4 := G.c4; have g6 := G.x0; have P0 := (show RG b off b' off' p rkp np cp gp lp xp _ from Rq.at hSw Hp.out.1 Hp.out.2).c0; clear G hSw; go_simp; try with_reducible rfl)
                    simp only [List.getElem_toArray, List.getElem_cons_zero, List.getElem_cons_succ, Act.put, List.setIfInBounds_toArray, List.set_cons_zero, List.set_cons_succ]
                    refine wpAnyH_take (i := 14) (v := ?v71) rfl (by kernel_rfl) (by kernel_rfl) (by kernel_rfl) (fun _ _ _ h => h) (Or.inl ⟨by rfl, ?y71⟩) hHeld ?r71
                    case y71 => (intro w hSw; have G := (show RG b off b' off' k3 rk sn sc sg sl x _ from Rq.at hSw Hk.out.1 Hk.out.2); have g0 := G.c0; have g1 := G.c1; have g2 := G.c2; have g3 := G.c3; have g4 := G.c4; have g6 := G.x0; have P0 := (show RG b off b' off' p rkp np cp gp lp xp _ from Rq.at hSw Hp.out.1 Hp.out.2).c0; clear G hSw; go_simp; try with_reducible rfl)
                    simp only [List.getElem_toArray, List.getElem_cons_zero, List.getElem_cons_succ, Act.put, List.setIfInBounds_toArray, List.set_cons_zero, List.set_cons_succ]
                    refine wpAnyH_take (i := 15) (v := ?v72) rfl (by kernel_rfl) (by kernel_rfl) (by kernel_rfl) (fun _ _ _ h => h) (Or.inl ⟨by rfl, ?y72⟩) hHeld ?r72
                    case y72 => (intro w hSw; have G := (show RG b off b' off' k3 rk sn sc sg sl x _ from Rq.at hSw Hk.out.1 Hk.out.2); have g0 := G.c0; have g1 := G.c1; have g2 := G.c2; have g3 := G.c3; have g4 := G.c4; have g6 := G.x0; have P0 := (show RG b off b' off' p rkp np cp gp lp xp _ from Rq.at hSw Hp.out.1 Hp.out.2).c0; clear G hSw; go_simp; try with_reducible rfl)
                    simp only [List.getElem_toArray, List.getElem_cons_zero, List.getElem_cons_succ, Act.put, List.setIfInBounds_toArray, List.set_cons_zero, List.set_cons_succ]
                    refine wpAnyH_take (i := 16) (v := ?v73) rfl (by kernel_rfl) (by kernel_rfl) (by kernel_rfl) (fun _ _ _ h => h) (Or.inl ⟨by rfl, ?y73⟩) hHeld ?r73
                    case y73 => (intro w hSw; have G := (show RG b off b' off' k3 rk sn sc sg sl x _ from Rq.at hSw Hk.out.1 Hk.out.2); have g0 := G.c0; have g1 := G.c1; have g2 := G.c2; have g3 := G.c3; have g4 := G.c4; have g6 := G.x0; have P0 := (show RG b off b' off' p rkp np cp gp lp xp _ from Rq.at hSw Hp.out.1 Hp.out.2).c0; clear G hSw; go_simp; try with_reducible rfl)
                    simp only [List.getElem_toArray, List.getElem_cons_zero, List.getElem_cons_succ, Act.put, List.setIfInBounds_toArray, List.set_cons_zero, List.set_cons_succ]
                    refine wpAnyH_take (i := 17) (v := ?v74) rfl (by kernel_rfl) (by kernel_rfl) (by kernel_rfl) (fun _ _ _ h => h) (Or.inl ⟨by rfl, ?y74⟩) hHeld ?r74
                    case y74 => (intro w hSw; have G := (show RG b off b' off' k3 rk sn sc sg sl x _ from Rq.at hSw Hk.out.1 Hk.out.2); have g0 := G.c0; have g1 := G.c1; have g2 := G.c2; have g3 := G.c3; have g4 := G.c4; have g6 := G.x0; have P0 := (show RG b off b' off' p rkp np cp gp lp xp _ from Rq.at hSw Hp.out.1 Hp.out.2).c0; clear G hSw; go_simp; try with_reducible rfl)
                    simp only [List.getElem_toArray, List.getElem_cons_zero, List.getElem_cons_succ, Act.put, List.setIfInBounds_toArray, List.set_cons_zero, List.set_cons_succ]
                    refine wpAnyH_take (i := 18) (v := ?v75) rfl (by kernel_rfl) (by kernel_rfl) (by kernel_rfl) (fun _ _ _ h => h) (Or.inl ⟨by rfl, ?y75⟩) hHeld ?r75
                    case y75 => (intro w hSw; have G := (show RG b off b' off' k3 rk sn sc sg sl x _ from Rq.at hSw Hk.out.1 Hk.out.2); have g0 := G.c0; have g1 := G.c1; have g2 := G.c2; have g3 := G.c3; have g4 := G.c4; have g6 := G.x0; have P0 := (show RG b off b' off' p rkp np cp gp lp xp _ from Rq.at hSw Hp.out.1 Hp.out.2).c0; clear G hSw; go_simp; try with_reducible rfl)
                    simp only [List.getElem_toArray, List.getElem_cons_zero, List.getElem_cons_succ, Act.put, List.setIfInBounds_toArray, List.set_cons_zero, List.set_cons_succ]
                    refine wpAnyH_take (i := 19) (v := ?v76) rfl (by kernel_rfl) (by kernel_rfl) (by kernel_rfl) (fun _ _ _ h => h) (Or.inl ⟨by rfl, ?y76⟩) hHeld ?r76
                    case y76 => (intro w hSw; have G := (show RG b off b' off' k3 rk sn sc sg sl x _ from Rq.at hSw Hk.out.1 Hk.out.2); have g0 := G.c0; have g1 := G.c1; have g2 := G.c2; have g3 := G.c3; have g4 := G.c4; have g6 := G.x0; have P0 := (show RG b off b' off' p rkp np cp gp lp xp _ from Rq.at hSw Hp.out.1 Hp.out.2).c0; clear G hSw; go_simp; try with_reducible rfl)
                    simp only [List.getElem_toArray, List.getElem_cons_zero, List.getElem_cons_succ, Act.put, List.setIfInBounds_toArray, List.set_cons_zero, List.set_cons_succ]
                    refine wpAnyH_take (i := 20) (v := ?v77) rfl (by kernel_rfl) (by kernel_rfl) (by kernel_rfl) (fun _ _ _ h => h) (Or.inl ⟨by rfl, ?y77⟩) hHeld ?r77
                    case y77 => (intro w hSw; have G := (show RG b off b' off' k3 rk sn sc sg sl x _ from Rq.at hSw Hk.out.1 Hk.out.2); have g0 := G.c0; have g1 := G.c1; have g2 := G.c2; have g3 := G.c3; have g4 := G.c4; have g6 := G.x0; have P0 := (show RG b off b' off' p rkp np cp gp lp xp _ from Rq.at hSw Hp.out.1 Hp.out.2).c0; clear G hSw; go_simp; try with_reducible rfl)
                    simp only [List.getElem_toArray, List.getElem_cons_zero, List.getElem_cons_succ, Act.put, List.setIfInBounds_toArray, List.set_cons_zero, List.set_cons_succ]
                    refine wpAnyH_take (i := 21) (v := ?v78) rfl (by kernel_rfl) (by kernel_rfl) (by kernel_rfl) (fun _ _ _ h => h) (Or.inl ⟨by rfl, ?y78⟩) hHeld ?r78
                    case y78 => (intro w hSw; have G := (show RG b off b' off' k3 rk sn sc sg sl x _ from Rq.at hSw Hk.out.1 Hk.out.2); have g0 := G.c0; have g1 := G.c1; have g2 := G.c2; have g3 := G.c3; have g4 := G.c4; have g6 := G.x0; have P0 := (show RG b off b' off' p rkp np cp gp lp xp _ from Rq.at hSw Hp.out.1 Hp.out.2).c0; clear G hSw; go_simp; try with_reducible rfl)
                    simp only [List.getElem_toArray, List.getElem_cons_zero, List.getElem_cons_succ, Act.put, List.setIfInBounds_toArray, List.set_cons_zero, List.set_cons_succ]
                    refine wpAnyH_take (i := 22) (v := ?v79) rfl (by kernel_rfl) (by kernel_rfl) (by kernel_rfl) (fun _ _ _ h => h) (Or.inl ⟨by rfl, ?y79⟩) hHeld ?r79
                    case y79 => (intro w hSw; have G := (show RG b off b' off' k3 rk sn sc sg sl x _ from Rq.at hSw Hk.out.1 Hk.out.2); have g0 := G.c0; have g1 := G.c1; have g2 := G.c2; have g3 := G.c3; have g4 := G.c4; have g6 := G.x0; have P0 := (show RG b off b' off' p rkp np cp gp lp xp _ from Rq.at hSw Hp.out.1 Hp.out.2).c0; clear G hSw; go_simp; try with_reducible rfl)
                    simp only [List.getElem_toArray, List.getElem_cons_zero, List.getElem_cons_succ, Act.put, List.setIfInBounds_toArray, List.set_cons_zero, List.set_cons_succ]
                    refine wpAnyH_take (i := 23) (v := ?v80) rfl (by kernel_rfl) (by kernel_rfl) (by kernel_rfl) (fun _ _ _ h => h) (Or.inl ⟨by rfl, ?y80⟩) hHeld ?r80
                    case y80 => (intro w hSw; have G := (show RG b off b' off' k3 rk sn sc sg sl x _ from Rq.at hSw Hk.out.1 Hk.out.2); have g0 := G.c0; have g1 := G.c1; have g2 := G.c2; have g3 := G.c3; have g4 := G.c4; have g6 := G.x0; have P0 := (show RG b off b' off' p rkp np cp gp lp xp _ from Rq.at hSw Hp.out.1 Hp.out.2).c0; clear G hSw; go_simp; try with_reducible rfl)
                    simp only [List.getElem_toArray, List.getElem_cons_zero, List.getElem_cons_succ, Act.put, List.setIfInBounds_toArray, List.set_cons_zero, List.set_cons_succ]
                    refine wpAnyH_take (i := 24) (v := ?v81) rfl (by kernel_rfl) (by kernel_rfl) (by kernel_rfl) (fun _ _ _ h => h) (Or.inl ⟨by rfl, ?y81⟩) hHeld ?r81
                    case y81 => (intro w hSw; have G := (show RG b off b' off' k3 rk sn sc sg sl x _ from Rq.at hSw Hk.out.1 Hk.out.2); have g0 := G.c0; have g1 := G.c1; have g2 := G.c2; have g3 := G.c3; have g4 := G.c4; have g6 := G.x0; have P0 := (show RG b off b' off' p rkp np cp gp lp xp _ from Rq.at hSw Hp.out.1 Hp.out.2).c0; clear G hSw; go_simp; try with_reducible rfl)
                    simp only [List.getElem_toArray, List.getElem_cons_zero, List.getElem_cons_succ, Act.put, List.setIfInBounds_toArray, List.set_cons_zero, List.set_cons_succ]
                    refine wpAnyH_take (i := 25) (v := ?v82) rfl (by kernel_rfl) (by kernel_rfl) (by kernel_rfl) (fun _ _ _ h => h) (Or.inl ⟨by rfl, ?y82⟩) hHeld ?r82
                    case y82 => (intro w hSw; have G := (show RG b off b' off' k3 rk sn sc sg sl x _ from Rq.at hSw Hk.out.1 Hk.out.2); have g0 := G.c0; have g1 := G.c1; have g2 := G.c2; have g3 := G.c3; have g4 := G.c4; have g6 := G.x0; have P0 := (show RG b off b' off' p rkp np cp gp lp xp _ from Rq.at hSw Hp.out.1 Hp.out.2).c0; clear G hSw; go_simp; try with_reducible rfl)
                    simp only [List.getElem_toArray, List.getElem_cons_zero, List.getElem_cons_succ, Act.put, List.setIfInBounds_toArray, List.set_cons_zero, List.set_cons_succ]
                    refine wpAnyH_take (i := 26) (v := ?v83) rfl (by kernel_rfl) (by kernel_rfl) (by kernel_rfl) (fun _ _ _ h => h) (Or.inl ⟨by rfl, ?y83⟩) hHeld ?r83
                    case y83 => (intro w hSw; have G := (show RG b off b' off' k3 rk sn sc sg sl x _ from Rq.at hSw Hk.out.1 Hk.out.2); have g0 := G.c0; have g1 := G.c1; have g2 := G.c2; have g3 := G.c3; have g4 := G.c4; have g6 := G.x0; have P0 := (show RG b off b' off' p rkp np cp gp lp xp _ from Rq.at hSw Hp.out.1 Hp.out.2).c0; clear G hSw; go_simp; try with_reducible rfl)
                    simp only [List.getElem_toArray, List.getElem_cons_zero, List.getElem_cons_succ, Act.put, List.setIfInBounds_toArray, List.set_cons_zero, List.set_cons_succ]
                    refine wpAnyH_take (i := 27) (v := ?v84) rfl (by kernel_rfl) (by kernel_rfl) (by kernel_rfl) (fun _ _ _ h => h) (Or.inl ⟨by rfl, ?y84⟩) hHeld ?r84
                    case y84 => (intro w hSw; have G := (show RG b off b' off' k3 rk sn sc sg sl x _ from Rq.at hSw Hk.out.1 Hk.out.2); have g0 := G.c0; have g1 := G.c1; have g2 := G.c2; have g3 := G.c3; have g4 := G.c4; have g6 := G.x0; have P0 := (show RG b off b' off' p rkp np cp gp lp xp _ from Rq.at hSw Hp.out.1 Hp.out.2).c0; clear G hSw; go_simp; try with_reducible rfl)
                    simp only [List.getElem_toArray, List.getElem_cons_zero, List.getElem_cons_succ, Act.put, List.setIfInBounds_toArray, List.set_cons_zero, List.set_cons_succ]
                    refine wpAnyH_done (by kernel_rfl) ?_ _
                    go_wp2_with fail
                    go_roundw
                    case rel => exact ⟨k3 + 1, by go_num, by omega, by rw [HBe.out, bst_new (by rw [HV.out.1]; exact Hq.out) (by rw [HRk.out, HV.out.2]; exact fun c => absurd c.2 (by have := Hr.out; omega))], X2.out⟩
                    case measure => simp [intOf]; omega
                · as_aux_lemma =>
                  have m0 : decide (B k3 < 0) = true := decide_eq_true (by omega)
                  have Hf := Lib.hid (show ¬ 0 ≤ bst (rkf l) (wvf l gs) k3 by rw [← HBe.out]; exact hf)
                  clear hf
                  go_wp2_with fail
                  refine wp_region_held_drew (S := Rq w (some ⟨b, off, none⟩) (some ⟨b', off', none⟩) l gs) (by kernel_rfl) (HK3.out.drew) (fun hHeld => ?_)
                  refine wpAnyH_take (i := 0) (v := ?v85) rfl (by kernel_rfl) (by kernel_rfl) (by kernel_rfl) (fun _ _ _ h => h) (Or.inl ⟨by rfl, ?y85⟩) hHeld ?r85
                  case y85 => (intro w hSw; have G := (show RG b off b' off' k3 rk sn sc sg sl x _ from Rq.at hSw Hk.out.1 Hk.out.2); have g0 := G.c0; have g1 := G.c1; have g2 := G.c2; have g3 := G.c3; have g4 := G.c4; have g6 := G.x0; clear G hSw; go_simp; try with_reducible rfl)
                  simp only [List.getElem_toArray, List.getElem_cons_zero, Act.put, List.setIfInBounds_toArray, List.set_cons_zero, List.set_cons_succ]
                  refine wpAnyH_take (i := 1) (v := ?v86) rfl (by kernel_rfl) (by kernel_rfl) (by kernel_rfl) (fun _ _ _ h => h) (Or.inl ⟨by rfl, ?y86⟩) hHeld ?r86
                  case y86 => (intro w hSw; have G := (show RG b off b' off' k3 rk sn sc sg sl x _ from Rq.at hSw Hk.out.1 Hk.out.2); have g0 := G.c0; have g1 := G.c1; have g2 := G.c2; have g3 := G.c3; have g4 := G.c4; have g6 := G.x0; clear G hSw; go_simp; try with_reducible rfl)
                  simp only [List.getElem_toArray, List.getElem_cons_zero, List.getElem_cons_succ, Act.put, List.setIfInBounds_toArray, List.set_cons_zero, List.set_cons_succ]
                  refine wpAnyH_take (i := 2) (v := ?v87) rfl (by kernel_rfl) (by kernel_rfl) (by kernel_rfl) (fun _ _ _ h => h) (Or.inl ⟨by rfl, ?y87⟩) hHeld ?r87
                  case y87 => (intro w hSw; have G := (show RG b off b' off' k3 rk sn sc sg sl x _ from Rq.at hSw Hk.out.1 Hk.out.2); have g0 := G.c0; have g1 := G.c1; have g2 := G.c2; have g3 := G.c3; have g4 := G.c4; have g6 := G.x0; clear G hSw; go_simp; try with_reducible rfl)
                  simp only [List.getElem_toArray, List.getElem_cons_zero, List.getElem_cons_succ, Act.put, List.setIfInBounds_toArray, List.set_cons_zero, List.set_cons_succ]
                  refine wpAnyH_take (i := 3) (v := ?v88) rfl (by kernel_rfl) (by kernel_rfl) (by kernel_rfl) (fun _ _ _ h => h) (Or.inl ⟨by rfl, ?y88⟩) hHeld ?r88
                  case y88 => (intro w hSw; have G := (show RG b off b' off' k3 rk sn sc sg sl x _ from Rq.at hSw Hk.out.1 Hk.out.2); have g0 := G.c0; have g1 := G.c1; have g2 := G.c2; have g3 := G.c3; have g4 := G.c4; have g6 := G.x0; clear G hSw; go_simp; try with_reducible rfl)
                  simp only [List.getElem_toArray, List.getElem_cons_zero, List.getElem_cons_succ, Act.put, List.setIfInBounds_toArray, List.set_cons_zero, List.set_cons_succ]
                  refine wpAnyH_take (i := 4) (v := ?v89) rfl (by kernel_rfl) (by kernel_rfl) (by kernel_rfl) (fun _ _ _ h => h) (Or.inl ⟨by rfl, ?y89⟩) hHeld ?r89
                  case y89 => (intro w hSw; have G := (show RG b off b' off' k3 rk sn sc sg sl x _ from Rq.at hSw Hk.out.1 Hk.out.2); have g0 := G.c0; have g1 := G.c1; have g2 := G.c2; have g3 := G.c3; have g4 := G.c4; have g6 := G.x0; clear G hSw; go_simp; try with_reducible rfl)
                  simp only [List.getElem_toArray, List.getElem_cons_zero, List.getElem_cons_succ, Act.put, List.setIfInBounds_toArray, List.set_cons_zero, List.set_cons_succ]
                  refine wpAnyH_take (i := 5) (v := ?v90) rfl (by kernel_rfl) (by kernel_rfl) (by kernel_rfl) (fun _ _ _ h => h) (Or.inl ⟨by rfl, ?y90⟩) hHeld ?r90
                  case y90 => (intro w hSw; have G := (show RG b off b' off' k3 rk sn sc sg sl x _ from Rq.at hSw Hk.out.1 Hk.out.2); have g0 := G.c0; have g1 := G.c1; have g2 := G.c2; have g3 := G.c3; have g4 := G.c4; have g6 := G.x0; clear G hSw; go_simp; try with_reducible rfl)
                  simp only [List.getElem_toArray, List.getElem_cons_zero, List.getElem_cons_succ, Act.put, List.setIfInBounds_toArray, List.set_cons_zero, List.set_cons_succ]
                  refine wpAnyH_take (i := 6) (v := ?v91) rfl (by kernel_rfl) (by kernel_rfl) (by kernel_rfl) (fun _ _ _ h => h) (Or.inl ⟨by rfl, ?y91⟩) hHeld ?r91
                  case y91 => (intro w hSw; have G := (show RG b off b' off' k3 rk sn sc sg sl x _ from Rq.at hSw Hk.out.1 Hk.out.2); have g0 := G.c0; have g1 := G.c1; have g2 := G.c2; have g3 := G.c3; have g4 := G.c4; have g6 := G.x0; clear G hSw; go_simp; try with_reducible rfl)
                  simp only [List.getElem_toArray, List.getElem_cons_zero, List.getElem_cons_succ, Act.put, List.setIfInBounds_toArray, List.set_cons_zero, List.set_cons_succ]
                  refine wpAnyH_take (i := 7) (v := ?v92) rfl (by kernel_rfl) (by kernel_rfl) (by kernel_rfl) (fun _ _ _ h => h) (Or.inl ⟨by rfl, ?y92⟩) hHeld ?r92
                  case y92 => (intro w hSw; have G := (show RG b off b' off' k3 rk sn sc sg sl x _ from Rq.at hSw Hk.out.1 Hk.out.2); have g0 := G.c0; have g1 := G.c1; have g2 := G.c2; have g3 := G.c3; have g4 := G.c4; have g6 := G.x0; clear G hSw; go_simp; try with_reducible rfl)
                  simp only [List.getElem_toArray, List.getElem_cons_zero, List.getElem_cons_succ, Act.put, List.setIfInBounds_toArray, List.set_cons_zero, List.set_cons_succ]
                  refine wpAnyH_take (i := 8) (v := ?v93) rfl (by kernel_rfl) (by kernel_rfl) (by kernel_rfl) (fun _ _ _ h => h) (Or.inl ⟨by rfl, ?y93⟩) hHeld ?r93
                  case y93 => (intro w hSw; have G := (show RG b off b' off' k3 rk sn sc sg sl x _ from Rq.at hSw Hk.out.1 Hk.out.2); have g0 := G.c0; have g1 := G.c1; have g2 := G.c2; have g3 := G.c3; have g4 := G.c4; have g6 := G.x0; clear G hSw; go_simp; try with_reducible rfl)
                  simp only [List.getElem_toArray, List.getElem_cons_zero, List.getElem_cons_succ, Act.put, List.setIfInBounds_toArray, List.set_cons_zero, List.set_cons_succ]
                  refine wpAnyH_ready (rs := [9]) (by kernel_rfl) (by simp) (AllReadyH.cons rfl (fun K hK => ?_) AllReadyH.nil)
                  go_simp
                  refine (HC.out _).mono ?_
                  rintro e x2 ⟨rfl, hb⟩
                  have X2 := Lib.hid (Rq.next hHeld hb)
                  clear hb
                  go_wp2_with fail
                  refine hK.out _ _ (X2.out) (fun hHeld => ?_)
                  clear hK K
                  refine wpAnyH_take (i := 10) (v := ?v95) rfl (by kernel_rfl) (by kernel_rfl) (by kernel_rfl) (fun _ _ _ h => h) (Or.inl ⟨by rfl, ?y95⟩) hHeld ?r95
                  case y95 => (intro w hSw; have G := (show RG b off b' off' k3 rk sn sc sg sl x _ from Rq.at hSw Hk.out.1 Hk.out.2); have g0 := G.c0; have g1 := G.c1; have g2 := G.c2; have g3 := G.c3; have g4 := G.c4; have g6 := G.x0; clear G hSw; go_simp; try with_reducible rfl)
                  simp only [List.getElem_toArray, List.getElem_cons_zero, List.getElem_cons_succ, Act.put, List.setIfInBounds_toArray, List.set_cons_zero, List.set_cons_succ]
                  refine wpAnyH_take (i := 11) (v := ?v96) rfl (by kernel_rfl) (by kernel_rfl) (by kernel_rfl) (fun _ _ _ h => h) (Or.inl ⟨by rfl, ?y96⟩) hHeld ?r96
                  case y96 => (intro w hSw; have G := (show RG b off b' off' k3 rk sn sc sg sl x _ from Rq.at hSw Hk.out.1 Hk.out.2); have g0 := G.c0; have g1 := G.c1; have g2 := G.c2; have g3 := G.c3; have g4 := G.c4; have g6 := G.x0; clear G hSw; go_simp; try with_reducible rfl)
                  simp only [List.getElem_toArray, List.getElem_cons_zero, List.getElem_cons_succ, Act.put, List.setIfInBounds_toArray, List.set_cons_zero, List.set_cons_succ]
                  refine wpAnyH_take (i := 12) (v := ?v97) rfl (by kernel_rfl) (by kernel_rfl) (by kernel_rfl) (fun _ _ _ h => h) (Or.inl ⟨by rfl, ?y97⟩) hHeld ?r97
                  case y97 => (intro w hSw; have G := (show RG b off b' off' k3 rk sn sc sg sl x _ from Rq.at hSw Hk.out.1 Hk.out.2); have g0 := G.c0; have g1 := G.c1; have g2 := G.c2; have g3 := G.c3; have g4 := G.c4; have g6 := G.x0; clear G hSw; go_simp; try with_reducible rfl)
                  simp only [List.getElem_toArray, List.getElem_cons_zero, List.getElem_cons_succ, Act.put, List.setIfInBounds_toArray, List.set_cons_zero, List.set_cons_succ]
                  refine wpAnyH_take (i := 13) (v := ?v98) rfl (by kernel_rfl) (by kernel_rfl) (by kernel_rfl) (fun _ _ _ h => h) (Or.inl ⟨by rfl, ?y98⟩) hHeld ?r98
                  case y98 => (intro w hSw; have G := (show RG b off b' off' k3 rk sn sc sg sl x _ from Rq.at hSw Hk.out.1 Hk.out.2); have g0 := G.c0; have g1 := G.c1; have g2 := G.c2; have g3 := G.c3; have g4 := G.c4; have g6 := G.x0; clear G hSw; go_simp; try with_reducible rfl)
                  simp only [List.getElem_toArray, List.getElem_cons_zero, List.getElem_cons_succ, Act.put, List.setIfInBounds_toArray, List.set_cons_zero, List.set_cons_succ]
                  refine wpAnyH_take (i := 14) (v := ?v99) rfl (by kernel_rfl) (by kernel_rfl) (by kernel_rfl) (fun _ _ _ h => h) (Or.inl ⟨by rfl, ?y99⟩) hHeld ?r99
                  case y99 => (intro w hSw; have G := (show RG b off b' off' k3 rk sn sc sg sl x _ from Rq.at hSw Hk.out.1 Hk.out.2); have g0 := G.c0; have g1 := G.c1; have g2 := G.c2; have g3 := G.c3; have g4 := G.c4; have g6 := G.x0; clear G hSw; go_simp; try with_reducible rfl)
                  simp only [List.getElem_toArray, List.getElem_cons_zero, List.getElem_cons_succ, Act.put, List.setIfInBounds_toArray, List.set_cons_zero, List.set_cons_succ]
                  refine wpAnyH_take (i := 15) (v := undef) rfl (by kernel_rfl) (by kernel_rfl) (by kernel_rfl) (fun _ _ _ h => h) (Or.inr ⟨by rfl, rfl⟩) hHeld ?_
                  simp only [List.getElem_toArray, List.getElem_cons_zero, List.getElem_cons_succ, Act.put, List.setIfInBounds_toArray, List.set_cons_zero, List.set_cons_succ]
                  refine wpAnyH_take (i := 16) (v := undef) rfl (by kernel_rfl) (by kernel_rfl) (by kernel_rfl) (fun _ _ _ h => h) (Or.inr ⟨by rfl, rfl⟩) hHeld ?_
                  simp only [List.getElem_toArray, List.getElem_cons_zero, List.getElem_cons_succ, Act.put, List.setIfInBounds_toArray, List.set_cons_zero, List.set_cons_succ]
                  refine wpAnyH_take (i := 17) (v := undef) rfl (by kernel_rfl) (by kernel_rfl) (by kernel_rfl) (fun _ _ _ h => h) (Or.inr ⟨by rfl, rfl⟩) hHeld ?_
                  simp only [List.getElem_toArray, List.getElem_cons_zero, List.getElem_cons_succ, Act.put, List.setIfInBounds_toArray, List.set_cons_zero, List.set_cons_succ]
                  refine wpAnyH_take (i := 18) (v := undef) rfl (by kernel_rfl) (by kernel_rfl) (by kernel_rfl) (fun _ _ _ h => h) (Or.inr ⟨by rfl, rfl⟩) hHeld ?_
                  simp only [List.getElem_toArray, List.getElem_cons_zero, List.getElem_cons_succ, Act.put, List.setIfInBounds_toArray, List.set_cons_zero, List.set_cons_succ]
                  refine wpAnyH_take (i := 19) (v := undef) rfl (by kernel_rfl) (by kernel_rfl) (by kernel_rfl) (fun _ _ _ h => h) (Or.inr ⟨by rfl, rfl⟩) hHeld ?_
                  simp only [List.getElem_toArray, List.getElem_cons_zero, List.getElem_cons_succ, Act.put, List.setIfInBounds_toArray, List.set_cons_zero, List.set_cons_succ]
                  refine wpAnyH_take (i := 20) (v := undef) rfl (by kernel_rfl) (by kernel_rfl) (by kernel_rfl) (fun _ _ _ h => h) (Or.inr ⟨by rfl, rfl⟩) hHeld ?_
                  simp only [List.getElem_toArray, List.getElem_cons_zero, List.getElem_cons_succ, Act.put, List.setIfInBounds_toArray, List.set_cons_zero, List.set_cons_succ]
                  refine wpAnyH_take (i := 21) (v := undef) rfl (by kernel_rfl) (by kernel_rfl) (by kernel_rfl) (fun _ _ _ h => h) (Or.inr ⟨by rfl, rfl⟩) hHeld ?_
                  simp only [List.getElem_toArray, List.getElem_cons_zero, List.getElem_cons_succ, Act.put, List.setIfInBounds_toArray, List.set_cons_zero, List.set_cons_succ]
                  refine wpAnyH_take (i := 22) (v := undef) rfl (by kernel_rfl) (by kernel_rfl) (by kernel_rfl) (fun _ _ _ h => h) (Or.inr ⟨by rfl, rfl⟩) hHeld ?_
                  simp only [List.getElem_toArray, List.getElem_cons_zero, List.getElem_cons_succ, Act.put, List.setIfInBounds_toArray, List.set_cons_zero, List.set_cons_succ]
                  refine wpAnyH_take (i := 23) (v := undef) rfl (by kernel_rfl) (by kernel_rfl) (by kernel_rfl) (fun _ _ _ h => h) (Or.inr ⟨by rfl, rfl⟩) hHeld ?_
                  simp only [List.getElem_toArray, List.getElem_cons_zero, List.getElem_cons_succ, Act.put, List.setIfInBounds_toArray, List.set_cons_zero, List.set_cons_succ]
                  refine wpAnyH_take (i := 24) (v := undef) rfl (by kernel_rfl) (by kernel_rfl) (by kernel_rfl) (fun _ _ _ h => h) (Or.inr ⟨by rfl, rfl⟩) hHeld ?_
                  simp only [List.getElem_toArray, List.getElem_cons_zero, List.getElem_cons_succ, Act.put, List.setIfInBounds_toArray, List.set_cons_zero, List.set_cons_succ]
                  refine wpAnyH_take (i := 25) (v := undef) rfl (by kernel_rfl) (by kernel_rfl) (by kernel_rfl) (fun _ _ _ h => h) (Or.inr ⟨by rfl, rfl⟩) hHeld ?_
                  simp only [List.getElem_toArray, List.getElem_cons_zero, List.getElem_cons_succ, Act.put, List.setIfInBounds_toArray, List.set_cons_zero, List.set_cons_succ]
                  refine wpAnyH_take (i := 26) (v := ?v111) rfl (by kernel_rfl) (by kernel_rfl) (by kernel_rfl) (fun _ _ _ h => h) (Or.inl ⟨by rfl, ?y111⟩) hHeld ?r111
                  case y111 => (intro w hSw; have G := (show RG b off b' off' k3 rk sn sc sg sl x _ from Rq.at hSw Hk.out.1 Hk.out.2); have g0 := G.c0; have g1 := G.c1; have g2 := G.c2; have g3 := G.c3; have g4 := G.c4; have g6 := G.x0; clear G hSw; go_simp; try with_reducible rfl)
                  simp only [List.getElem_toArray, List.getElem_cons_zero, List.getElem_cons_succ, Act.put, List.setIfInBounds_toArray, List.set_cons_zero, List.set_cons_succ]
                  refine wpAnyH_take (i := 27) (v := ?v112) rfl (by kernel_rfl) (by kernel_rfl) (by kernel_rfl) (fun _ _ _ h => h) (Or.inl ⟨by rfl, ?y112⟩) hHeld ?r112
                  case y112 => (intro w hSw; have G := (show RG b off b' off' k3 rk sn sc sg sl x _ from Rq.at hSw Hk.out.1 Hk.out.2); have g0 := G.c0; have g1 := G.c1; have g2 := G.c2; have g3 := G.c3; have g4 := G.c4; have g6 := G.x0; clear G hSw; go_simp; try with_reducible rfl)
                  simp only [List.getElem_toArray, List.getElem_cons_zero, List.getElem_cons_succ, Act.put, List.setIfInBounds_toArray, List.set_cons_zero, List.set_cons_succ]
                  refine wpAnyH_done (by kernel_rfl) ?_ _
                  go_wp2_with fail
                  go_roundw
                  case rel => exact ⟨k3 + 1, by go_num, by omega, by rw [HBe.out, bst_new (by rw [HV.out.1]; exact Hq.out) (fun c => absurd c.1 (by have := Hf.out; omega))], X2.out⟩
                  case measure => simp [intOf]; omega
            · obtain rfl : k3 = k2 := by omega
              go_wp2_with fail
              go_ret2
              exact ⟨rfl, HK3.out.b⟩
end Go.Proofs.Ytkkkicinlghikaa
