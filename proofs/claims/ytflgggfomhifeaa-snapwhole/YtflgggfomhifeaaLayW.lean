/- lay: topics in a bank of their own. -/
import Derived.Test.YtflgggfomhifeaaTpM
import Derived.Test.YtflgggfomhifeaaLaP
import Derived.Deep.RegionHeld3
import Derived.BigQuiet
namespace Go.Proofs.Ytflgggfomhifeaa
open Go.RowKit

def LyPost (l : List Tp) (w : World) (e : Ending) (w' : World) : Prop :=
  ∃ sa cs b bg : Nat, w.heap.size ≤ sa ∧ w.heap.size ≤ b ∧ w.heap.size ≤ bg ∧ sa ≠ b ∧ sa ≠ bg ∧ e = .returned (.tuple #[.slice (some ⟨sa, 0, none⟩) l.length cs, .pointer (some ⟨b, 0, none⟩), .bool true]) ∧
    SpB sa (spots 0 l) w' ∧ Bk w' b bg (List.replicate (tot 0 l).toNat 0) 0 ∧ Below w.heap.size w w'
/-- At the head of lay's loop. -/
def LyRel (w : World) (l : List Tp) (v n i : Value) (wr : World) : Prop :=
  ∃ k : Nat, k ≤ l.length ∧ i = .int .i64 k ∧ n = .int .i64 (tot 0 (l.take k)) ∧ (∀ t ∈ l.take k, okT t) ∧ wr.ownsRow w.heap.size 69 5 v k (scl (spots 0 (l.take k))) ∧ Below w.heap.size w wr
/-- What the append's takes read. -/
def RLy (b off k : Nat) (x y : Int) (w' : World) : Prop := w'.cell? ⟨b, off + k * 2, none⟩ = some (.int .i64 x) ∧ w'.cell? ⟨b, off + k * 2 + 1, none⟩ = some (.int .i64 y)
theorem owns_slice5 {W : World} {base : Nat} {v : Value} {k : Nat} {xs : List Value} (h : W.ownsRow base 69 5 v k xs) : ∃ a c, v = .slice a k c := by
  rcases h.2 with ⟨rfl, rfl⟩ | ⟨g, cap, cur, rfl, _⟩
  · exact ⟨none, 0, rfl⟩
  · exact ⟨_, cap, rfl⟩
theorem ly_append {W : World} {base : Nat} {v : Value} {k : Nat} {xs : List Value} (h : W.ownsRow base 69 5 v k xs) (hb : base ≤ W.heap.size) (hk : k ≤ 100) (S : Sp) :
    ∃ v' w', (Builtin.append_ #[22, 22] 22 #[v, .slice (some ⟨W.heap.size, 0, none⟩) 1 1]).run Try.prog (W.alloc (sb S)) = .ok v' w' ∧ w'.ownsRow base 69 5 v' (k + 1) (xs ++ spc5 S) ∧ Below base W w' := by
  obtain ⟨i, hi, he⟩ := Option.map_eq_some_iff.1 info69
  simp only [Prod.mk.injEq] at he
  obtain ⟨hz, hs, hbb⟩ := he
  have hA : (W.alloc (sb S)).ownsRow base 69 5 v k xs := owns_blocks h (fun g hg => Below.heap_alloc _ _ _ (h.lt g hg).2)
  have hB := Blk.new W #[.int .i64 S.ow, .int .i64 S.sq, .int .i64 S.fs, .int .i64 S.wd, .int .i64 S.dp] 69
  obtain ⟨v', w', hr, ho, hg, _⟩ := run_append_own (P := Try.prog) (W.alloc (sb S)) base 22 22 69 i _ 5 40 Try.underlying22 hi hz hs hbb rfl (by omega) v k xs hA ⟨W.heap.size, 0, none⟩ 1 1 (spc5 S) rfl (fun j u hu => by
    have e : (⟨W.heap.size, 0, none⟩ : Addr).add j = ⟨W.heap.size, j, none⟩ := by unfold Addr.add; split <;> simp_all
    rw [e]
    exact hB.cell hu) (fun u hu => by
    simp only [spc5, List.mem_cons, List.not_mem_nil, or_false] at hu
    rcases hu with rfl | rfl | rfl | rfl | rfl <;> rfl) (by simp only [maxLen]; omega) (by omega) (by simp; omega)
  refine ⟨v', w', hr, ho, ?_⟩
  have h2 : Below base (W.alloc (sb S)) w' := ⟨hg.os, hg.tape, hg.output, hg.size, fun q hq => hg.block q (by simp; omega) (fun c => by have := (h.lt q c.symm).1; omega)⟩
  exact ((Below.refl base W).alloc hb (sb S)).trans h2
set_option maxRecDepth 100000 in
set_option maxHeartbeats 2000000 in
theorem lay_ok (a : Option Addr) (cap : Nat) (l : List Tp) (w : World) (hT : Tps w.heap.size w a l) (h : okL l) :
    Calls Try.prog 23 #[.slice a l.length cap] w (LyPost l w) := by
  have h1 : 1 ≤ (l.length : Int) := by have := h.1; omega
  have h2 : (l.length : Int) ≤ 5 := by have := h.2.1; omega
  have HT := Lib.hid hT
  have Hok := Lib.hid h.2.2
  have Hz := Lib.hid (tot_bd l 0 h.2.2)
  obtain ⟨ln, hn⟩ : ∃ ln, l.length = ln := ⟨_, rfl⟩
  have Hn := Lib.hid hn
  rw [hn] at h1 h2 ⊢
  have Hl5 := Lib.hid (And.intro h1 h2)
  clear hT h hn
  go_enter Try.func23, Try.ntmps23
  go_wp2_with fail
  go_loopw [5, 6, 7] (fun v n i wr => LyRel w l v n i wr) (fun _ _ i _ => ln - (intOf i).toNat)
  case atStart => exact ⟨0, by omega, rfl, rfl, fun t ht => (by simp at ht), World.ownsRow_nil _ _ _ _, Below.refl _ _⟩
  case round =>
    obtain ⟨k, hk, rfl, rfl, hall, hO, hb⟩ := hrel
    rw [Hn.out] at hk
    obtain ⟨va, vc, rfl⟩ := owns_slice5 hO
    have HK := Lib.hid (And.intro hall (And.intro hO hb))
    have hbd := tot_bd (l.take k) 0 hall
    have hlk : (l.take k).length = k := by rw [List.length_take]; have := Hn.out; omega
    rw [hlk] at hbd
    clear hall hO hb hlk
    generalize htk : tot 0 (l.take k) = z at *
    have Htk := Lib.hid htk
    clear htk
    by_cases hlt : (k : Int) < ln
    · obtain ⟨t, ht⟩ : ∃ t, l[k]? = some t := ⟨_, List.getElem?_eq_getElem (by have := Hn.out; omega)⟩
      obtain ⟨b, off, rfl, hbl, c0, c1, i0, i1⟩ := (HT.out.below HK.out.2.2) k t ht
      have Ht := Lib.hid (And.intro ht (And.intro hbl (And.intro c0 c1)))
      obtain ⟨x, y⟩ := t
      dsimp only at c0 c1 i0 i1
      clear ht hbl
      by_cases k1 : x < 1
      · exact absurd (Hok.out _ (List.mem_of_getElem? Ht.out.1)) (fun c => by obtain ⟨c1, c2, c3, c4⟩ := c; dsimp only at c1 c2 c3 c4; omega)
      · skip
        by_cases k2 : 4 < x
        · exact absurd (Hok.out _ (List.mem_of_getElem? Ht.out.1)) (fun c => by obtain ⟨c1, c2, c3, c4⟩ := c; dsimp only at c1 c2 c3 c4; omega)
        · skip
          by_cases k3 : y < 2
          · exact absurd (Hok.out _ (List.mem_of_getElem? Ht.out.1)) (fun c => by obtain ⟨c1, c2, c3, c4⟩ := c; dsimp only at c1 c2 c3 c4; omega)
          · skip
            by_cases k4 : 5 < y
            · exact absurd (Hok.out _ (List.mem_of_getElem? Ht.out.1)) (fun c => by obtain ⟨c1, c2, c3, c4⟩ := c; dsimp only at c1 c2 c3 c4; omega)
            · skip
              have hok : okT (x, y) := by unfold okT; dsimp only; omega
              obtain ⟨mm1, mm2⟩ := mul_bd (m := 4) (n := 5) (by omega : 0 ≤ x) (by omega) (by omega : 0 ≤ y) (by omega)
              have Hok2 := Lib.hid hok
              clear hok
              obtain ⟨v2, w2, hr2, ho2, hb2⟩ := ly_append (W := wr.drew) (base := w.heap.size) (v := .slice va k vc) (owns_blocks HK.out.2.1 (fun _ _ => rfl)) HK.out.2.2.size (by omega) ⟨z, z + 1, z + 2, x, y⟩
              have Hap := Lib.hid hr2
              have HO2 := Lib.hid (And.intro ho2 ((belN HK.out.2.2 1).trans hb2))
              have hq : RLy b off k x y wr.drew := ⟨c0, c1⟩
              have hqa : RLy b off k x y (wr.drew.alloc (sb ⟨z, z + 1, z + 2, x, y⟩)) := by
                have h1 := ((belN HK.out.2.2 1).alloc (belN HK.out.2.2 1).size (sb ⟨z, z + 1, z + 2, x, y⟩))
                obtain ⟨_, _, e, _, d0, d1, _⟩ := (HT.out.below h1) k _ Ht.out.1
                cases e
                exact ⟨d0, d1⟩
              have hq2 : RLy b off k x y w2 := by
                obtain ⟨_, _, e, _, d0, d1, _⟩ := (HT.out.below HO2.out.2) k _ Ht.out.1
                cases e
                exact ⟨d0, d1⟩
              obtain ⟨va2, vc2, rfl⟩ := owns_slice5 ho2
              have w1 : IntKind.i64.wrap (z + 1) = z + 1 := by rw [IntKind.wrap_i64]; omega
              have w2e : IntKind.i64.wrap (z + 2) = z + 2 := by rw [IntKind.wrap_i64]; omega
              clear hr2 ho2 hb2 i0 i1
              go_wp2_with fail
              refine wp_region_held_drew (S := RLy b off k x y) (by kernel_rfl) (hq) (fun hHeld => ?_)
              refine wpAnyH_take (i := 0) (v := ?v1) rfl (by kernel_rfl) (by kernel_rfl) (by kernel_rfl) (fun _ _ _ h => h) (Or.inl ⟨by rfl, ?y1⟩) hHeld ?r1
              case y1 => (intro w hSw; obtain ⟨q0, q1⟩ := hSw; go_simp; try with_reducible rfl)
              simp only [List.getElem_toArray, List.getElem_cons_zero, Act.put, List.setIfInBounds_toArray, List.set_cons_zero, List.set_cons_succ]
              refine wpAnyH_take (i := 1) (v := ?v2) rfl (by kernel_rfl) (by kernel_rfl) (by kernel_rfl) (fun _ _ _ h => h) (Or.inl ⟨by rfl, ?y2⟩) hHeld ?r2
              case y2 => (intro w hSw; obtain ⟨q0, q1⟩ := hSw; go_simp; try with_reducible rfl)
              simp only [List.getElem_toArray, List.getElem_cons_zero, List.getElem_cons_succ, Act.put, List.setIfInBounds_toArray, List.set_cons_zero, List.set_cons_succ]
              refine wpAnyH_take (i := 2) (v := ?v3) rfl (by kernel_rfl) (by kernel_rfl) (by kernel_rfl) (fun _ _ _ h => h) (Or.inl ⟨by rfl, ?y3⟩) hHeld ?r3
              case y3 => (intro w hSw; obtain ⟨q0, q1⟩ := hSw; go_simp; try with_reducible rfl)
              simp only [List.getElem_toArray, List.getElem_cons_zero, List.getElem_cons_succ, Act.put, List.setIfInBounds_toArray, List.set_cons_zero, List.set_cons_succ]
              refine wpAnyH_take (i := 3) (v := ?v4) rfl (by kernel_rfl) (by kernel_rfl) (by kernel_rfl) (fun _ _ _ h => h) (Or.inl ⟨by rfl, ?y4⟩) hHeld ?r4
              case y4 => (intro w hSw; obtain ⟨q0, q1⟩ := hSw; go_simp; try with_reducible rfl)
              simp only [List.getElem_toArray, List.getElem_cons_zero, List.getElem_cons_succ, Act.put, List.setIfInBounds_toArray, List.set_cons_zero, List.set_cons_succ]
              refine wpAnyH_take (i := 4) (v := ?v5) rfl (by kernel_rfl) (by kernel_rfl) (by kernel_rfl) (fun _ _ _ h => h) (Or.inl ⟨by rfl, ?y5⟩) hHeld ?r5
              case y5 => (intro w hSw; obtain ⟨q0, q1⟩ := hSw; go_simp; try with_reducible rfl)
              simp only [List.getElem_toArray, List.getElem_cons_zero, List.getElem_cons_succ, Act.put, List.setIfInBounds_toArray, List.set_cons_zero, List.set_cons_succ]
              refine wpAnyH_take (i := 5) (v := ?v6) rfl (by kernel_rfl) (by kernel_rfl) (by kernel_rfl) (fun _ _ _ h => h) (Or.inl ⟨by rfl, ?y6⟩) hHeld ?r6
              case y6 => (intro w hSw; obtain ⟨q0, q1⟩ := hSw; go_simp; try with_reducible rfl)
              simp only [List.getElem_toArray, List.getElem_cons_zero, List.getElem_cons_succ, Act.put, List.setIfInBounds_toArray, List.set_cons_zero, List.set_cons_succ]
              refine wpAnyH_take (i := 6) (v := ?v7) rfl (by kernel_rfl) (by kernel_rfl) (by kernel_rfl) (fun _ _ _ h => h) (Or.inl ⟨by rfl, ?y7⟩) hHeld ?r7
              case y7 => (intro w hSw; obtain ⟨q0, q1⟩ := hSw; go_simp; try with_reducible rfl)
              simp only [List.getElem_toArray, List.getElem_cons_zero, List.getElem_cons_succ, Act.put, List.setIfInBounds_toArray, List.set_cons_zero, List.set_cons_succ]
              refine wpAnyH_take (i := 7) (v := ?v8) rfl (by kernel_rfl) (by kernel_rfl) (by kernel_rfl) (fun _ _ _ h => h) (Or.inl ⟨by rfl, ?y8⟩) hHeld ?r8
              case y8 => (intro w hSw; obtain ⟨q0, q1⟩ := hSw; go_simp; try with_reducible rfl)
              simp only [List.getElem_toArray, List.getElem_cons_zero, List.getElem_cons_succ, Act.put, List.setIfInBounds_toArray, List.set_cons_zero, List.set_cons_succ]
              refine wpAnyH_take (i := 8) (v := ?v9) rfl (by kernel_rfl) (by kernel_rfl) (by kernel_rfl) (fun _ _ _ h => h) (Or.inl ⟨by rfl, ?y9⟩) hHeld ?r9
              case y9 => (intro w hSw; obtain ⟨q0, q1⟩ := hSw; go_simp; try with_reducible rfl)
              simp only [List.getElem_toArray, List.getElem_cons_zero, List.getElem_cons_succ, Act.put, List.setIfInBounds_toArray, List.set_cons_zero, List.set_cons_succ]
              refine wpAnyH_take (i := 9) (v := ?v10) rfl (by kernel_rfl) (by kernel_rfl) (by kernel_rfl) (fun _ _ _ h => h) (Or.inl ⟨by rfl, ?y10⟩) hHeld ?r10
              case y10 => (intro w hSw; obtain ⟨q0, q1⟩ := hSw; go_simp; try with_reducible rfl)
              simp only [List.getElem_toArray, List.getElem_cons_zero, List.getElem_cons_succ, Act.put, List.setIfInBounds_toArray, List.set_cons_zero, List.set_cons_succ]
              refine wpAnyH_take (i := 10) (v := ?v11) rfl (by kernel_rfl) (by kernel_rfl) (by kernel_rfl) (fun _ _ _ h => h) (Or.inl ⟨by rfl, ?y11⟩) hHeld ?r11
              case y11 => (intro w hSw; obtain ⟨q0, q1⟩ := hSw; go_simp; try with_reducible rfl)
              simp only [List.getElem_toArray, List.getElem_cons_zero, List.getElem_cons_succ, Act.put, List.setIfInBounds_toArray, List.set_cons_zero, List.set_cons_succ]
              refine wpAnyH_take (i := 11) (v := ?v12) rfl (by kernel_rfl) (by kernel_rfl) (by kernel_rfl) (fun _ _ _ h => h) (Or.inl ⟨by rfl, ?y12⟩) hHeld ?r12
              case y12 => (intro w hSw; obtain ⟨q0, q1⟩ := hSw; go_simp; try with_reducible rfl)
              simp only [List.getElem_toArray, List.getElem_cons_zero, List.getElem_cons_succ, Act.put, List.setIfInBounds_toArray, List.set_cons_zero, List.set_cons_succ]
              refine wpAnyH_take (i := 12) (v := ?v13) rfl (by kernel_rfl) (by kernel_rfl) (by kernel_rfl) (fun _ _ _ h => h) (Or.inl ⟨by rfl, ?y13⟩) hHeld ?r13
              case y13 => (intro w hSw; obtain ⟨q0, q1⟩ := hSw; go_simp; try with_reducible rfl)
              simp only [List.getElem_toArray, List.getElem_cons_zero, List.getElem_cons_succ, Act.put, List.setIfInBounds_toArray, List.set_cons_zero, List.set_cons_succ]
              refine wpAnyH_take (i := 13) (v := ?v14) rfl (by kernel_rfl) (by kernel_rfl) (by kernel_rfl) (fun _ _ _ h => h) (Or.inl ⟨by rfl, ?y14⟩) hHeld ?r14
              case y14 => (intro w hSw; obtain ⟨q0, q1⟩ := hSw; go_simp; try with_reducible rfl)
              simp only [List.getElem_toArray, List.getElem_cons_zero, List.getElem_cons_succ, Act.put, List.setIfInBounds_toArray, List.set_cons_zero, List.set_cons_succ]
              refine wpAnyH_take (i := 14) (v := ?v15) rfl (by kernel_rfl) (by kernel_rfl) (by kernel_rfl) (fun _ _ _ h => h) (Or.inl ⟨by rfl, ?y15⟩) hHeld ?r15
              case y15 => (intro w hSw; obtain ⟨q0, q1⟩ := hSw; go_simp; try with_reducible rfl)
              simp only [List.getElem_toArray, List.getElem_cons_zero, List.getElem_cons_succ, Act.put, List.setIfInBounds_toArray, List.set_cons_zero, List.set_cons_succ]
              refine wpAnyH_take (i := 15) (v := ?v16) rfl (by kernel_rfl) (by kernel_rfl) (by kernel_rfl) (fun _ _ _ h => h) (Or.inl ⟨by rfl, ?y16⟩) hHeld ?r16
              case y16 => (intro w hSw; obtain ⟨q0, q1⟩ := hSw; go_simp; try with_reducible rfl)
              simp only [List.getElem_toArray, List.getElem_cons_zero, List.getElem_cons_succ, Act.put, List.setIfInBounds_toArray, List.set_cons_zero, List.set_cons_succ]
              refine wpAnyH_take (i := 16) (v := ?v17) rfl (by kernel_rfl) (by kernel_rfl) (by kernel_rfl) (fun _ _ _ h => h) (Or.inl ⟨by rfl, ?y17⟩) hHeld ?r17
              case y17 => (intro w hSw; obtain ⟨q0, q1⟩ := hSw; go_simp; try with_reducible rfl)
              simp only [List.getElem_toArray, List.getElem_cons_zero, List.getElem_cons_succ, Act.put, List.setIfInBounds_toArray, List.set_cons_zero, List.set_cons_succ]
              refine wpAnyH_ready (rs := [17]) (by kernel_rfl) (by simp) (AllReadyH.cons rfl (fun K hK => ?_) AllReadyH.nil)
              go_simp
              try simp only [w1, w2e]
              refine hK.out _ _ (hqa) (fun hHeld => ?_)
              clear hK K
              refine wpAnyH_ready (rs := [18]) (by kernel_rfl) (by simp) (AllReadyH.cons rfl (fun K hK => ?_) AllReadyH.nil)
              refine wp_append_run _ (.tmp 54) (.tmp 71) 22 22 rfl _ _ rfl rfl Hap.out ?_
              refine hK.out _ _ (hq2) (fun hHeld => ?_)
              clear hK K
              refine wpAnyH_take (i := 19) (v := ?v19) rfl (by kernel_rfl) (by kernel_rfl) (by kernel_rfl) (fun _ _ _ h => h) (Or.inl ⟨by rfl, ?y19⟩) hHeld ?r19
              case y19 => (intro w hSw; obtain ⟨q0, q1⟩ := hSw; go_simp; try with_reducible rfl)
              simp only [List.getElem_toArray, List.getElem_cons_zero, List.getElem_cons_succ, Act.put, List.setIfInBounds_toArray, List.set_cons_zero, List.set_cons_succ]
              refine wpAnyH_done (by kernel_rfl) ?_ _
              clear hHeld hq hqa Hap w1 w2e
              obtain ⟨c0, c1⟩ := hq2
              go_wp2_with fail
              go_quiet (fail)
              go_wp2
              go_roundw
              case rel => exact ⟨k + 1, by have := Hn.out; omega, by go_num, by rw [tot_take Ht.out.1, Htk.out]; unfold wl; go_num, fun t ht => (by
                rw [take_snoc Ht.out.1] at ht
                rcases List.mem_append.1 ht with c | c
                · exact HK.out.1 t c
                · rw [List.mem_singleton.1 c]; exact Hok2.out), owns_blocks (by
                  have h := HO2.out.1
                  rw [take_snoc Ht.out.1, spots_snoc, scl_snoc, Htk.out]
                  exact h) (fun _ _ => rfl), belN HO2.out.2 _⟩
              case measure => simp [intOf]; omega
    · obtain rfl : k = ln := by omega
      go_wp2_with fail
      obtain ⟨hz1, hz2⟩ := Hz.out
      obtain ⟨N, hN⟩ := Int.eq_ofNat_of_zero_le (show 0 ≤ z by omega)
      have HN := Lib.hid hN
      rw [hN]
      rw [hN] at hbd
      have hk5 := Hl5.out
      clear hN
      refine (new_ok N wr (by omega) (by omega)).mono ?_
      rintro e w1 ⟨b, g, hb, hg, rfl, hk1, hu1⟩
      have H1 := Lib.hid (And.intro hb (And.intro hg (And.intro hk1 hu1)))
      clear hb hg hk1 hu1
      go_wp2_with fail
      go_ret3
      obtain ⟨hb, hg, hk1, hu1⟩ := H1.out
      obtain ⟨_, hO, hb0⟩ := HK.out
      obtain ⟨hO1, hO2⟩ := hO
      rcases hO2 with ⟨_, c⟩ | ⟨q, cap2, cur, he, hq1, hq2, hq3, hq4, hq5, hq6⟩
      · omega
      · cases he
        have hql := (Array.getElem?_eq_some_iff.1 hq2).1
        refine ⟨q, vc, b, g, hq1, Nat.le_trans hb0.size hb, Nat.le_trans hb0.size hg, by omega, by omega, ?_, ⟨cur.toList, ⟨69, ?_⟩, fun i v hv => ?_⟩, ?_, hb0.trans (hu1.mono hb0.size)⟩
        · rw [Hn.out]; rfl
        · rw [hu1.block q hql]; simpa using hq2
        · have e5 : l.take k = l := List.take_of_length_le (by rw [Hn.out]; exact Nat.le_refl _)
          rw [e5] at hq6
          rw [← hq6, List.getElem?_take] at hv
          split at hv
          · exact hv
          · cases hv
        · have : (tot 0 l).toNat = N := by
            have e := Htk.out
            have e5 : l.take k = l := List.take_of_length_le (by rw [Hn.out]; exact Nat.le_refl _)
            rw [e5, HN.out] at e
            omega
          rw [this]
          exact hk1
set_option maxRecDepth 100000 in
set_option maxHeartbeats 2000000 in
theorem lay_bad (a : Option Addr) (cap : Nat) (l : List Tp) (w : World) (hT : Tps w.heap.size w a l) (h : ¬ okL l) :
    Calls Try.prog 23 #[.slice a l.length cap] w (Ret (.tuple #[.slice none 0 0, .pointer none, .bool false]) w) := by
  by_cases h1 : l.length < 1
  · have h1' : (l.length : Int) < 1 := by omega
    generalize l.length = ln at *
    clear h hT h1
    go_enter Try.func23, Try.ntmps23
    go_wp2
    go_ret3
    exact ⟨rfl, Below.refl _ _⟩
  by_cases h2 : 5 < l.length
  · have h1' : ¬ (l.length : Int) < 1 := by omega
    have h2' : (5 : Int) < l.length := by omega
    generalize l.length = ln at *
    clear h hT h1 h2
    go_enter Try.func23, Try.ntmps23
    go_wp2
    go_ret3
    exact ⟨rfl, Below.refl _ _⟩
  have Hno := Lib.hid (show ¬ ∀ t ∈ l, okT t from fun c => h ⟨by omega, by omega, c⟩)
  have g1 : ¬ (l.length : Int) < 1 := by omega
  have g2 : ¬ (5 : Int) < l.length := by omega
  have HT := Lib.hid hT
  obtain ⟨ln, hn⟩ : ∃ ln, l.length = ln := ⟨_, rfl⟩
  have Hn := Lib.hid hn
  rw [hn] at g1 g2 ⊢
  have Hl5 := Lib.hid (And.intro g1 g2)
  clear hT h hn h1 h2
  go_enter Try.func23, Try.ntmps23
  go_wp2_with fail
  go_loopw [5, 6, 7] (fun v n i wr => LyRel w l v n i wr) (fun _ _ i _ => ln - (intOf i).toNat)
  case atStart => exact ⟨0, by omega, rfl, rfl, fun t ht => (by simp at ht), World.ownsRow_nil _ _ _ _, Below.refl _ _⟩
  case round =>
    obtain ⟨k, hk, rfl, rfl, hall, hO, hb⟩ := hrel
    rw [Hn.out] at hk
    obtain ⟨va, vc, rfl⟩ := owns_slice5 hO
    have HK := Lib.hid (And.intro hall (And.intro hO hb))
    have hbd := tot_bd (l.take k) 0 hall
    have hlk : (l.take k).length = k := by rw [List.length_take]; have := Hn.out; omega
    rw [hlk] at hbd
    clear hall hO hb hlk
    generalize htk : tot 0 (l.take k) = z at *
    have Htk := Lib.hid htk
    clear htk
    by_cases hlt : (k : Int) < ln
    · obtain ⟨t, ht⟩ : ∃ t, l[k]? = some t := ⟨_, List.getElem?_eq_getElem (by have := Hn.out; omega)⟩
      obtain ⟨b, off, rfl, hbl, c0, c1, i0, i1⟩ := (HT.out.below HK.out.2.2) k t ht
      have Ht := Lib.hid (And.intro ht (And.intro hbl (And.intro c0 c1)))
      obtain ⟨x, y⟩ := t
      dsimp only at c0 c1 i0 i1
      clear ht hbl
      by_cases k1 : x < 1
      · go_wp2_with fail
        go_ret3
        exact ⟨rfl, HK.out.2.2⟩
      · skip
        by_cases k2 : 4 < x
        · go_wp2_with fail
          go_ret3
          exact ⟨rfl, HK.out.2.2⟩
        · skip
          by_cases k3 : y < 2
          · go_wp2_with fail
            go_ret3
            exact ⟨rfl, HK.out.2.2⟩
          · skip
            by_cases k4 : 5 < y
            · go_wp2_with fail
              go_ret3
              exact ⟨rfl, HK.out.2.2⟩
            · skip
              have hok : okT (x, y) := by unfold okT; dsimp only; omega
              obtain ⟨mm1, mm2⟩ := mul_bd (m := 4) (n := 5) (by omega : 0 ≤ x) (by omega) (by omega : 0 ≤ y) (by omega)
              have Hok2 := Lib.hid hok
              clear hok
              obtain ⟨v2, w2, hr2, ho2, hb2⟩ := ly_append (W := wr.drew) (base := w.heap.size) (v := .slice va k vc) (owns_blocks HK.out.2.1 (fun _ _ => rfl)) HK.out.2.2.size (by omega) ⟨z, z + 1, z + 2, x, y⟩
              have Hap := Lib.hid hr2
              have HO2 := Lib.hid (And.intro ho2 ((belN HK.out.2.2 1).trans hb2))
              have hq : RLy b off k x y wr.drew := ⟨c0, c1⟩
              have hqa : RLy b off k x y (wr.drew.alloc (sb ⟨z, z + 1, z + 2, x, y⟩)) := by
                have h1 := ((belN HK.out.2.2 1).alloc (belN HK.out.2.2 1).size (sb ⟨z, z + 1, z + 2, x, y⟩))
                obtain ⟨_, _, e, _, d0, d1, _⟩ := (HT.out.below h1) k _ Ht.out.1
                cases e
                exact ⟨d0, d1⟩
              have hq2 : RLy b off k x y w2 := by
                obtain ⟨_, _, e, _, d0, d1, _⟩ := (HT.out.below HO2.out.2) k _ Ht.out.1
                cases e
                exact ⟨d0, d1⟩
              obtain ⟨va2, vc2, rfl⟩ := owns_slice5 ho2
              have w1 : IntKind.i64.wrap (z + 1) = z + 1 := by rw [IntKind.wrap_i64]; omega
              have w2e : IntKind.i64.wrap (z + 2) = z + 2 := by rw [IntKind.wrap_i64]; omega
              clear hr2 ho2 hb2 i0 i1
              go_wp2_with fail
              refine wp_region_held_drew (S := RLy b off k x y) (by kernel_rfl) (hq) (fun hHeld => ?_)
              refine wpAnyH_take (i := 0) (v := ?v20) rfl (by kernel_rfl) (by kernel_rfl) (by kernel_rfl) (fun _ _ _ h => h) (Or.inl ⟨by rfl, ?y20⟩) hHeld ?r20
              case y20 => (intro w hSw; obtain ⟨q0, q1⟩ := hSw; go_simp; try with_reducible rfl)
              simp only [List.getElem_toArray, List.getElem_cons_zero, Act.put, List.setIfInBounds_toArray, List.set_cons_zero, List.set_cons_succ]
              refine wpAnyH_take (i := 1) (v := ?v21) rfl (by kernel_rfl) (by kernel_rfl) (by kernel_rfl) (fun _ _ _ h => h) (Or.inl ⟨by rfl, ?y21⟩) hHeld ?r21
              case y21 => (intro w hSw; obtain ⟨q0, q1⟩ := hSw; go_simp; try with_reducible rfl)
              simp only [List.getElem_toArray, List.getElem_cons_zero, List.getElem_cons_succ, Act.put, List.setIfInBounds_toArray, List.set_cons_zero, List.set_cons_succ]
              refine wpAnyH_take (i := 2) (v := ?v22) rfl (by kernel_rfl) (by kernel_rfl) (by kernel_rfl) (fun _ _ _ h => h) (Or.inl ⟨by rfl, ?y22⟩) hHeld ?r22
              case y22 => (intro w hSw; obtain ⟨q0, q1⟩ := hSw; go_simp; try with_reducible rfl)
              simp only [List.getElem_toArray, List.getElem_cons_zero, List.getElem_cons_succ, Act.put, List.setIfInBounds_toArray, List.set_cons_zero, List.set_cons_succ]
              refine wpAnyH_take (i := 3) (v := ?v23) rfl (by kernel_rfl) (by kernel_rfl) (by kernel_rfl) (fun _ _ _ h => h) (Or.inl ⟨by rfl, ?y23⟩) hHeld ?r23
              case y23 => (intro w hSw; obtain ⟨q0, q1⟩ := hSw; go_simp; try with_reducible rfl)
              simp only [List.getElem_toArray, List.getElem_cons_zero, List.getElem_cons_succ, Act.put, List.setIfInBounds_toArray, List.set_cons_zero, List.set_cons_succ]
              refine wpAnyH_take (i := 4) (v := ?v24) rfl (by kernel_rfl) (by kernel_rfl) (by kernel_rfl) (fun _ _ _ h => h) (Or.inl ⟨by rfl, ?y24⟩) hHeld ?r24
              case y24 => (intro w hSw; obtain ⟨q0, q1⟩ := hSw; go_simp; try with_reducible rfl)
              simp only [List.getElem_toArray, List.getElem_cons_zero, List.getElem_cons_succ, Act.put, List.setIfInBounds_toArray, List.set_cons_zero, List.set_cons_succ]
              refine wpAnyH_take (i := 5) (v := ?v25) rfl (by kernel_rfl) (by kernel_rfl) (by kernel_rfl) (fun _ _ _ h => h) (Or.inl ⟨by rfl, ?y25⟩) hHeld ?r25
              case y25 => (intro w hSw; obtain ⟨q0, q1⟩ := hSw; go_simp; try with_reducible rfl)
              simp only [List.getElem_toArray, List.getElem_cons_zero, List.getElem_cons_succ, Act.put, List.setIfInBounds_toArray, List.set_cons_zero, List.set_cons_succ]
              refine wpAnyH_take (i := 6) (v := ?v26) rfl (by kernel_rfl) (by kernel_rfl) (by kernel_rfl) (fun _ _ _ h => h) (Or.inl ⟨by rfl, ?y26⟩) hHeld ?r26
              case y26 => (intro w hSw; obtain ⟨q0, q1⟩ := hSw; go_simp; try with_reducible rfl)
              simp only [List.getElem_toArray, List.getElem_cons_zero, List.getElem_cons_succ, Act.put, List.setIfInBounds_toArray, List.set_cons_zero, List.set_cons_succ]
              refine wpAnyH_take (i := 7) (v := ?v27) rfl (by kernel_rfl) (by kernel_rfl) (by kernel_rfl) (fun _ _ _ h => h) (Or.inl ⟨by rfl, ?y27⟩) hHeld ?r27
              case y27 => (intro w hSw; obtain ⟨q0, q1⟩ := hSw; go_simp; try with_reducible rfl)
              simp only [List.getElem_toArray, List.getElem_cons_zero, List.getElem_cons_succ, Act.put, List.setIfInBounds_toArray, List.set_cons_zero, List.set_cons_succ]
              refine wpAnyH_take (i := 8) (v := ?v28) rfl (by kernel_rfl) (by kernel_rfl) (by kernel_rfl) (fun _ _ _ h => h) (Or.inl ⟨by rfl, ?y28⟩) hHeld ?r28
              case y28 => (intro w hSw; obtain ⟨q0, q1⟩ := hSw; go_simp; try with_reducible rfl)
              simp only [List.getElem_toArray, List.getElem_cons_zero, List.getElem_cons_succ, Act.put, List.setIfInBounds_toArray, List.set_cons_zero, List.set_cons_succ]
              refine wpAnyH_take (i := 9) (v := ?v29) rfl (by kernel_rfl) (by kernel_rfl) (by kernel_rfl) (fun _ _ _ h => h) (Or.inl ⟨by rfl, ?y29⟩) hHeld ?r29
              case y29 => (intro w hSw; obtain ⟨q0, q1⟩ := hSw; go_simp; try with_reducible rfl)
              simp only [List.getElem_toArray, List.getElem_cons_zero, List.getElem_cons_succ, Act.put, List.setIfInBounds_toArray, List.set_cons_zero, List.set_cons_succ]
              refine wpAnyH_take (i := 10) (v := ?v30) rfl (by kernel_rfl) (by kernel_rfl) (by kernel_rfl) (fun _ _ _ h => h) (Or.inl ⟨by rfl, ?y30⟩) hHeld ?r30
              case y30 => (intro w hSw; obtain ⟨q0, q1⟩ := hSw; go_simp; try with_reducible rfl)
              simp only [List.getElem_toArray, List.getElem_cons_zero, List.getElem_cons_succ, Act.put, List.setIfInBounds_toArray, List.set_cons_zero, List.set_cons_succ]
              refine wpAnyH_take (i := 11) (v := ?v31) rfl (by kernel_rfl) (by kernel_rfl) (by kernel_rfl) (fun _ _ _ h => h) (Or.inl ⟨by rfl, ?y31⟩) hHeld ?r31
              case y31 => (intro w hSw; obtain ⟨q0, q1⟩ := hSw; go_simp; try with_reducible rfl)
              simp only [List.getElem_toArray, List.getElem_cons_zero, List.getElem_cons_succ, Act.put, List.setIfInBounds_toArray, List.set_cons_zero, List.set_cons_succ]
              refine wpAnyH_take (i := 12) (v := ?v32) rfl (by kernel_rfl) (by kernel_rfl) (by kernel_rfl) (fun _ _ _ h => h) (Or.inl ⟨by rfl, ?y32⟩) hHeld ?r32
              case y32 => (intro w hSw; obtain ⟨q0, q1⟩ := hSw; go_simp; try with_reducible rfl)
              simp only [List.getElem_toArray, List.getElem_cons_zero, List.getElem_cons_succ, Act.put, List.setIfInBounds_toArray, List.set_cons_zero, List.set_cons_succ]
              refine wpAnyH_take (i := 13) (v := ?v33) rfl (by kernel_rfl) (by kernel_rfl) (by kernel_rfl) (fun _ _ _ h => h) (Or.inl ⟨by rfl, ?y33⟩) hHeld ?r33
              case y33 => (intro w hSw; obtain ⟨q0, q1⟩ := hSw; go_simp; try with_reducible rfl)
              simp only [List.getElem_toArray, List.getElem_cons_zero, List.getElem_cons_succ, Act.put, List.setIfInBounds_toArray, List.set_cons_zero, List.set_cons_succ]
              refine wpAnyH_take (i := 14) (v := ?v34) rfl (by kernel_rfl) (by kernel_rfl) (by kernel_rfl) (fun _ _ _ h => h) (Or.inl ⟨by rfl, ?y34⟩) hHeld ?r34
              case y34 => (intro w hSw; obtain ⟨q0, q1⟩ := hSw; go_simp; try with_reducible rfl)
              simp only [List.getElem_toArray, List.getElem_cons_zero, List.getElem_cons_succ, Act.put, List.setIfInBounds_toArray, List.set_cons_zero, List.set_cons_succ]
              refine wpAnyH_take (i := 15) (v := ?v35) rfl (by kernel_rfl) (by kernel_rfl) (by kernel_rfl) (fun _ _ _ h => h) (Or.inl ⟨by rfl, ?y35⟩) hHeld ?r35
              case y35 => (intro w hSw; obtain ⟨q0, q1⟩ := hSw; go_simp; try with_reducible rfl)
              simp only [List.getElem_toArray, List.getElem_cons_zero, List.getElem_cons_succ, Act.put, List.setIfInBounds_toArray, List.set_cons_zero, List.set_cons_succ]
              refine wpAnyH_take (i := 16) (v := ?v36) rfl (by kernel_rfl) (by kernel_rfl) (by kernel_rfl) (fun _ _ _ h => h) (Or.inl ⟨by rfl, ?y36⟩) hHeld ?r36
              case y36 => (intro w hSw; obtain ⟨q0, q1⟩ := hSw; go_simp; try with_reducible rfl)
              simp only [List.getElem_toArray, List.getElem_cons_zero, List.getElem_cons_succ, Act.put, List.setIfInBounds_toArray, List.set_cons_zero, List.set_cons_succ]
              refine wpAnyH_ready (rs := [17]) (by kernel_rfl) (by simp) (AllReadyH.cons rfl (fun K hK => ?_) AllReadyH.nil)
              go_simp
              try simp only [w1, w2e]
              refine hK.out _ _ (hqa) (fun hHeld => ?_)
              clear hK K
              refine wpAnyH_ready (rs := [18]) (by kernel_rfl) (by simp) (AllReadyH.cons rfl (fun K hK => ?_) AllReadyH.nil)
              refine wp_append_run _ (.tmp 54) (.tmp 71) 22 22 rfl _ _ rfl rfl Hap.out ?_
              refine hK.out _ _ (hq2) (fun hHeld => ?_)
              clear hK K
              refine wpAnyH_take (i := 19) (v := ?v38) rfl (by kernel_rfl) (by kernel_rfl) (by kernel_rfl) (fun _ _ _ h => h) (Or.inl ⟨by rfl, ?y38⟩) hHeld ?r38
              case y38 => (intro w hSw; obtain ⟨q0, q1⟩ := hSw; go_simp; try with_reducible rfl)
              simp only [List.getElem_toArray, List.getElem_cons_zero, List.getElem_cons_succ, Act.put, List.setIfInBounds_toArray, List.set_cons_zero, List.set_cons_succ]
              refine wpAnyH_done (by kernel_rfl) ?_ _
              clear hHeld hq hqa Hap w1 w2e
              obtain ⟨c0, c1⟩ := hq2
              go_wp2_with fail
              go_quiet (fail)
              go_wp2
              go_roundw
              case rel => exact ⟨k + 1, by have := Hn.out; omega, by go_num, by rw [tot_take Ht.out.1, Htk.out]; unfold wl; go_num, fun t ht => (by
                rw [take_snoc Ht.out.1] at ht
                rcases List.mem_append.1 ht with c | c
                · exact HK.out.1 t c
                · rw [List.mem_singleton.1 c]; exact Hok2.out), owns_blocks (by
                  have h := HO2.out.1
                  rw [take_snoc Ht.out.1, spots_snoc, scl_snoc, Htk.out]
                  exact h) (fun _ _ => rfl), belN HO2.out.2 _⟩
              case measure => simp [intOf]; omega
    · obtain rfl : k = ln := by omega
      exact absurd HK.out.1 (by
        rw [List.take_of_length_le (by rw [Hn.out]; exact Nat.le_refl _)]
        exact Hno.out)
end Go.Proofs.Ytflgggfomhifeaa
