/- The walk of the law QueueActs. -/
import Derived.Test.YtkkkicinlghikaaAcM
namespace Go.Proofs.Ytkkkicinlghikaa
open Go.RowKit

def AcRel (w : World) (cb qb : Nat) (r beg : Int) (m : Nat) (x i : Value) (wr : World) : Prop :=
  ∃ (k : Nat) (x' n g ls : Int) (v : Value), i = .int .i64 k ∧ x = .int .u64 x' ∧ k ≤ m ∧ SuI r beg x' beg n g ls k ∧ AI w cb qb r n g ls x' v wr
def AcMid (w : World) (cb qb : Nat) (r beg : Int) (k : Nat) (x : Value) (wx : World) : Prop :=
  ∃ (x2 n2 g2 l2 : Int) (v : Value), x = .int .u64 x2 ∧ SuI r beg x2 beg n2 g2 l2 (k + 1) ∧ AI w cb qb r n2 g2 l2 x2 v wx
def AcIn (w : World) (cb qb : Nat) (r beg n g ls : Int) (k : Nat) (x0 y : Int) (x j : Value) (W : World) : Prop :=
  ∃ (t : Nat) (v : Value), j = .int .i64 t ∧ x = .int .u64 (x0 + t) ∧ (t : Int) ≤ y ∧ SuI r beg (x0 + t) beg n g ls (k + 1) ∧ AI w cb qb r n g ls (x0 + t) v W
theorem Qu.first {W : World} {qb : Nat} {r : Int} {vb vc j : Nat} {y : Int} {ys : List Int} {g l : Int} (h : Qu W qb r (.slice (some ⟨vb, 0, none⟩) (j + 1) vc) (j + 1) (y :: ys) g l) : W.cell? ⟨vb, 0, none⟩ = some (.int .u64 y) := by
  obtain ⟨b2, cap2, e2, _, _, _, _, h5⟩ := h.shape
  simp only [Value.slice.injEq, Option.some.injEq, Addr.mk.injEq, and_true, true_and] at e2
  obtain ⟨rfl, rfl⟩ := e2
  exact h5 0 y rfl
/-- The cursor, what See tells of it, and the queue. -/
structure S29 (w : World) (cb sb qb : Nat) (r n g ls N D : Int) (K : Nat) (xs : List Int) (v : Value) (W : World) : Prop where
  c : Cs w [(cb, n, r, g, ls), (sb, N, r, g, D)] W
  m : AM w cb qb r n g ls K xs g D v W
theorem S29.next {w W W' : World} {cb sb qb : Nat} {r n g ls N D : Int} {K : Nat} {xs : List Int} {v : Value} (h : S29 w cb sb qb r n g ls N D K xs v W) (u : Below W.heap.size W W') : S29 w cb sb qb r n g ls N D K xs v W' := ⟨h.c.next u, h.m.next u⟩
theorem S29.drew {w W : World} {cb sb qb : Nat} {r n g ls N D : Int} {K : Nat} {xs : List Int} {v : Value} (h : S29 w cb sb qb r n g ls N D K xs v W) : S29 w cb sb qb r n g ls N D K xs v W.drew := h.next ((Below.refl _ _).drew)
theorem AI.start' {w w1 : World} {r beg : Int} (h : SuI r beg beg beg (beg + 1) 0 0 0) (hC : Cs w [(w1.heap.size, beg + 1, r, 0, 0)] (w1.alloc (cuO (beg + 1) r 0 0))) (hb : w.heap.size ≤ w1.heap.size) :
    AI w w1.heap.size (w1.heap.size + 1) r (beg + 1) 0 0 beg (.slice none 0 0) ((w1.alloc (cuO (beg + 1) r 0 0)).alloc (.cells #[.int .i64 r, .slice none 0 0, .int .u64 0, .int .u64 0] 34)) := by
  have := AI.start h hC hb
  simpa using this
attribute [local go_sem] eql27 neq27
set_option maxRecDepth 100000 in
set_option maxHeartbeats 4000000 in
theorem acts_ok (beg r : Int) (a : Option Addr) (cap : Nat) (l : List (Int × Int)) (w : World) (hA : Ats w.heap.size w a l) (hb0 : 0 ≤ beg) (hW : Whl beg l) (hr : 1 ≤ r) (hr2 : r ≤ 15) :
    Calls Try.prog 3 #[.int .u64 beg, .int .i64 r, .slice a l.length cap] w (Ret (.bool true) w) := by
  have HA := Lib.hid hA
  have HW := Lib.hid hW
  have hw := fun w (h : Ats w.heap.size w a l) => whole_any beg a cap l w h
  rw [whl_t hW] at hw
  have Hw := Lib.hid (hw w hA)
  have HN := Lib.hid (fun w => new_ok beg r ⟨hb0, by have := hW.1; omega⟩ ⟨hr, by omega⟩ w)
  have HI := Lib.hid (SuI.start (r := r) hb0 hW.1 hr (by omega))
  obtain ⟨m, hm⟩ : ∃ m, l.length = m := ⟨_, rfl⟩
  have Hm := Lib.hid hm
  have hm2 : (m : Int) ≤ 200 := by have := hW.2.1; omega
  have q0 : same4 0 0 0 0 0 0 0 0 = true := rfl
  rw [hm] at Hw ⊢
  have hbb : beg ≤ 9223372036854767806 := hW.1
  have m0 : decide (r < 1) = false := decide_eq_false (by omega)
  have m1 : decide (15 < r) = false := decide_eq_false (by omega)
  clear hw hA hW hm
  go_enter Try.func3, Try.ntmps3
  go_wp2_with fail
  refine Hw.out.mono ?_
  rintro e w' ⟨rfl, rfl⟩
  go_wp2_with fail
  refine (HN.out _).mono ?_
  rintro e w1 ⟨rfl, hb⟩
  have HC := Lib.hid (show Cs w [(w1.heap.size, beg + 1, r, 0, 0)] _ from ((Cs.nil w).next hb).new (beg + 1) r 0 0)
  have HS := Lib.hid (AI.start' HI.out HC.out hb.size)
  clear hb Hw HN HC
  go_wp2_with fail
  generalize (w1.alloc (cuO (beg + 1) r 0 0)).alloc (.cells #[.int .i64 r, .slice none 0 0, .int .u64 0, .int .u64 0] 34) = W1 at HS ⊢
  generalize w1.heap.size + 1 = qb at *
  generalize w1.heap.size = cb at *
  go_loopw [0, 10] (fun x i wr => AcRel w cb qb r beg m x i wr) (fun _ i _ => m - (intOf i).toNat)
  case atStart => exact ⟨0, beg, beg + 1, 0, 0, _, rfl, rfl, by omega, HI.out, HS.out⟩
  case round =>
    obtain ⟨k, x, n, g, ls, v, rfl, rfl, hk, hI, hM⟩ := hrel
    have HK := Lib.hid hI
    have HM := Lib.hid hM
    clear hI hM HI HS
    by_cases hlt : (k : Int) < m
    · obtain ⟨⟨d, y⟩, hak⟩ : ∃ a, l[k]? = some a := ⟨_, List.getElem?_eq_getElem (by have := Hm.out; omega)⟩
      have Hy := Lib.hid (show 0 ≤ y ∧ y ≤ 40 from HW.out.2.2 _ (List.mem_of_getElem? hak))
      have Hk := Lib.hid (show k < 200 by omega)
      obtain ⟨b, off, rfl, hbl, c0, c1⟩ := (HA.out.below HM.out.c.1) k _ hak
      have Hac := Lib.hid (show ∀ W, Below w.heap.size w W → W.cell? ⟨b, off + k * 2, none⟩ = some (.int .i64 d) ∧ W.cell? ⟨b, off + k * 2 + 1, none⟩ = some (.int .i64 y) from fun W u => by
        obtain ⟨b2, o2, e, _, z0, z1⟩ := (HA.out.below u) k _ hak
        simp only [Option.some.injEq, Addr.mk.injEq, and_true] at e
        obtain ⟨rfl, rfl⟩ := e
        exact ⟨z0, z1⟩)
      clear hak hbl
      go_upto_block 2 with fail
      go_cut [0, 11, 12, 13, 14, 15, 16, 17, 18] (fun x' _ _ _ _ _ _ _ _ wx => AcMid w cb qb r beg k x' wx)
      case first =>
        by_cases hd0 : d = 0
        · as_aux_lemma =>
          have m0 : (d == 0) = true := by simpa using hd0
          have hy0 := Hy.out.1
          have hy1 := Hy.out.2
          have HP := Lib.hid (fun (t : Nat) (h : (t : Int) ≤ y) => HK.out.publ Hk.out (show 0 ≤ (t : Int) by omega) (by omega))
          clear hd0
          go_wp2_with fail
          go_loopw [0, 11] (fun x' j W => AcIn w cb qb r beg n g ls k x y x' j W) (fun _ j _ => y.toNat - (intOf j).toNat)
          case atStart => exact ⟨0, v, rfl, by simp, hy0, HP.out 0 (by omega), by simpa using HM.out⟩
          case round =>
            clear c0 c1
            obtain ⟨t, v2, rfl, rfl, ht, hI2, hM2⟩ := hrel
            have HI2 := Lib.hid hI2
            have HM2 := Lib.hid hM2
            obtain ⟨c0, c1⟩ := Hac.out _ hM2.c.1
            have hx := hI2.xb
            have hx0 := hx.1
            have hx1 := hx.2
            clear hI2 hM2 hx
            by_cases hty : (t : Int) < y
            · have HI3 := Lib.hid (show SuI r beg (x + t + 1) beg n g ls (k + 1) from by
                have := HP.out (t + 1) (by push_cast; omega)
                rw [Int.add_assoc]
                exact this)
              have HC := Lib.hid (push_AI HI2.out HI3.out HM2.out)
              go_wp2_with fail
              refine HC.out.mono ?_
              rintro e w2 ⟨rfl, v3, hA3⟩
              have HA3 := Lib.hid hA3
              clear hA3
              go_wp2_with fail
              go_roundw
              case rel => exact ⟨t + 1, v3, by go_num, by push_cast; rw [Int.add_assoc], by push_cast; omega, by push_cast; rw [← Int.add_assoc]; exact HI3.out, by push_cast; rw [← Int.add_assoc]; exact HA3.out⟩
              case measure => simp [intOf]; omega
            · go_wp2_with fail
              go_meet
              exact ⟨x + t, n, g, ls, v2, rfl, HI2.out, HM2.out⟩
        · have m0 : (d == 0) = false := by simpa using hd0
          by_cases hd1 : d = 1
          · as_aux_lemma =>
            have m1 : (d == 1) = true := by simpa using hd1
            have hls := HK.out.w64.1
            clear hd0 hd1
            by_cases hq : qd n r x = 0
            · have HT := Lib.hid (fun w => take_none n r g ls x HK.out.rgt hls HK.out.gen hq w)
              have HP := Lib.hid (fun W (h : AI w cb qb r n g ls x v W) => pop_AI0 HK.out hq h)
              clear hls
              have a0 := (HM.out.c.blk 0 rfl).cell (i := 0) rfl
              have a1 := (HM.out.c.blk 0 rfl).cell (i := 1) rfl
              have a2 := (HM.out.c.blk 0 rfl).cell (i := 2) rfl
              have a3 := (HM.out.c.blk 0 rfl).cell (i := 3) rfl
              go_wp2_with fail
              refine (HT.out _).mono ?_
              rintro e w2 ⟨rfl, hb⟩
              have HM2 := Lib.hid (AM.next (HM.out.next hb) ((Below.refl w2.heap.size w2).alloc (Nat.le_refl _) (cuO 0 0 0 0)))
              have e0 := (cuN w2 0 0 0 0).1.cell (i := 0) rfl
              have e1 := (cuN w2 0 0 0 0).1.cell (i := 1) rfl
              have e2 := (cuN w2 0 0 0 0).1.cell (i := 2) rfl
              have e3 := (cuN w2 0 0 0 0).1.cell (i := 3) rfl
              clear hb a0 a1 a2 a3
              go_wp2_with fail
              refine (HP.out _ HM2.out).mono ?_
              rintro e w' ⟨rfl, rfl⟩
              go_wp2
              go_meet
              exact ⟨x, n, g, ls, v, rfl, HK.out.same Hk.out, HM2.out⟩
            · have HT := Lib.hid (fun w => take_ok n r g ls x HK.out.rgt hls HK.out.gen hq w)
              have HP := Lib.hid (fun W (h : AI w cb qb r n g ls x v W) => pop_AI HK.out hq h)
              have Ht := Lib.hid (HK.out.take Hk.out hq)
              have HD := Lib.hid (fun v W (h : Pd w cb qb r n g ls x v W) => h.cur HK.out Hk.out hq)
              rw [HK.out.l6, HK.out.g6] at HT
              clear hls hq
              obtain ⟨N, hN⟩ : ∃ N, N = n + lo n r x := ⟨_, rfl⟩
              obtain ⟨L, hL⟩ : ∃ L, L = ls + lo n r x := ⟨_, rfl⟩
              rw [← hL, ← hN] at HT
              rw [← hN] at HP
              rw [← hL, ← hN] at Ht
              rw [← hL, ← hN] at HD
              clear hN hL
              have a0 := (HM.out.c.blk 0 rfl).cell (i := 0) rfl
              have a1 := (HM.out.c.blk 0 rfl).cell (i := 1) rfl
              have a2 := (HM.out.c.blk 0 rfl).cell (i := 2) rfl
              have a3 := (HM.out.c.blk 0 rfl).cell (i := 3) rfl
              go_wp2_with fail
              refine (HT.out _).mono ?_
              rintro e w2 ⟨rfl, hb⟩
              have HM2 := Lib.hid (AM.next (HM.out.next hb) ((Below.refl w2.heap.size w2).alloc (Nat.le_refl _) (cuO (N + 1) r (g + 1) L)))
              have HMa := HM.out.next hb
              have HZ := Lib.hid (show ∀ W, Upd (Qs qb v) (w2.alloc (cuO (N + 1) r (g + 1) L)) W → Blk W w2.heap.size (cuL (N + 1) r (g + 1) L) from fun W u => (cuN w2 (N + 1) r (g + 1) L).1.of_block (u.block _ (by simp) (fun c => by
                rcases c with c | c
                · have := HMa.q.b.lt
                  omega
                · have := own_lt HMa.q.o c
                  omega)))
              clear hb a0 a1 a2 a3 HMa
              go_wp2_with fail
              refine (HP.out _ HM2.out).mono ?_
              rintro e w3 ⟨rfl, v3, hD, hu⟩
              have HD3 := Lib.hid hD
              have hz := HZ.out _ hu
              have e0 := hz.cell (i := 0) rfl
              have e1 := hz.cell (i := 1) rfl
              have e2 := hz.cell (i := 2) rfl
              have e3 := hz.cell (i := 3) rfl
              clear hu hD hz HM2
              have b0 := (HD3.out.c.blk 0 rfl).cell (i := 0) rfl
              have b1 := (HD3.out.c.blk 0 rfl).cell (i := 1) rfl
              have b2 := (HD3.out.c.blk 0 rfl).cell (i := 2) rfl
              have b3 := (HD3.out.c.blk 0 rfl).cell (i := 3) rfl
              have bf0 := (HD3.out.c.blk 0 rfl).frozen 0
              have bf1 := (HD3.out.c.blk 0 rfl).frozen 1
              have bf2 := (HD3.out.c.blk 0 rfl).frozen 2
              have bf3 := (HD3.out.c.blk 0 rfl).frozen 3
              go_wp2
              go_meet
              exact ⟨x, N + 1, g + 1, L, v3, rfl, Ht.out.low, HD.out _ _ HD3.out⟩
          · as_aux_lemma =>
            have m1 : (d == 1) = false := by simpa using hd1
            have hls := HK.out.w64.1
            have HS := Lib.hid (fun w => see_ok n r g ls x HK.out.rgt hls HK.out.gen w)
            have Hs := Lib.hid (HK.out.seen Hk.out)
            have HD := Lib.hid (fun W (h : AI w cb qb r n g ls x v W) => h.seen HK.out)
            rw [HK.out.l6] at HS
            clear hd0 hd1 hls
            obtain ⟨N, hN⟩ : ∃ N, N = n + lo n r x := ⟨_, rfl⟩
            obtain ⟨L, hL⟩ : ∃ L, L = ls + lo n r x := ⟨_, rfl⟩
            rw [← hL, ← hN] at HS
            rw [← hL, ← hN] at Hs
            rw [← hL, ← hN] at HD
            clear hN hL
            have a0 := (HM.out.c.blk 0 rfl).cell (i := 0) rfl
            have a1 := (HM.out.c.blk 0 rfl).cell (i := 1) rfl
            have a2 := (HM.out.c.blk 0 rfl).cell (i := 2) rfl
            have a3 := (HM.out.c.blk 0 rfl).cell (i := 3) rfl
            go_wp2_with fail
            refine (HS.out _).mono ?_
            rintro e w2 ⟨rfl, hb⟩
            have HM2 := Lib.hid (AM.next (HM.out.next hb) ((Below.refl w2.heap.size w2).alloc (Nat.le_refl _) (cuO N r g L)))
            have HZ := (cuN w2 N r g L).1
            have e0 := HZ.cell (i := 0) rfl
            have e1 := HZ.cell (i := 1) rfl
            have e2 := HZ.cell (i := 2) rfl
            have e3 := HZ.cell (i := 3) rfl
            clear hb a0 a1 a2 a3 HZ
            have b0 := (HM2.out.c.blk 0 rfl).cell (i := 0) rfl
            have b1 := (HM2.out.c.blk 0 rfl).cell (i := 1) rfl
            have b2 := (HM2.out.c.blk 0 rfl).cell (i := 2) rfl
            have b3 := (HM2.out.c.blk 0 rfl).cell (i := 3) rfl
            have bf0 := (HM2.out.c.blk 0 rfl).frozen 0
            have bf1 := (HM2.out.c.blk 0 rfl).frozen 1
            have bf2 := (HM2.out.c.blk 0 rfl).frozen 2
            have bf3 := (HM2.out.c.blk 0 rfl).frozen 3
            go_wp2
            go_meet
            exact ⟨x, N, g, L, v, rfl, Hs.out.low, HD.out _ HM2.out⟩
      case rest =>
        obtain ⟨x2, n2, g2, l2, v2, rfl, hI2, hM2⟩ := hcut
        have HI2 := Lib.hid hI2
        have HR := Lib.hid (fun W (h : AI w cb qb r n2 g2 l2 x2 v2 W) => (show AcRel w cb qb r beg m (.int .u64 x2) (.int .i64 (k + 1 : Nat)) W from ⟨k + 1, x2, n2, g2, l2, v2, rfl, rfl, by omega, HI2.out, h⟩))
        unfold AI at hM2 HR
        have HM2 := Lib.hid hM2
        have hls := hI2.w64.1
        have HS := Lib.hid (fun w => see_ok n2 r g2 l2 x2 hI2.rgt hls hI2.gen w)
        have HC := Lib.hid (fun w => count_ok n2 r g2 l2 x2 hI2.rgt hI2.gen w)
        have Hc16 := Lib.hid (kq_lt hI2)
        rw [hI2.kq] at HC
        rw [hI2.l6] at HS
        have rr : (r != r) = false := by simp
        have gg : (g2 != g2) = false := by simp
        clear hls hI2 hM2
        obtain ⟨D, hD⟩ : ∃ D, D = l2 + lo n2 r x2 := ⟨_, rfl⟩
        obtain ⟨N, hN⟩ : ∃ N, N = n2 + lo n2 r x2 := ⟨_, rfl⟩
        obtain ⟨K, hK⟩ : ∃ K, K = kq n2 r x2 := ⟨_, rfl⟩
        rw [← hD, ← hN] at HS
        rw [← hK] at HC Hc16
        rw [← hD, ← hN, ← hK] at HM2
        rw [← hD, ← hN, ← hK] at HR
        have dd : (D != D) = false := by simp
        have nn : (N != N) = false := by simp
        clear hD hN hK
        have a0 := (HM2.out.c.blk 0 rfl).cell (i := 0) rfl
        have a1 := (HM2.out.c.blk 0 rfl).cell (i := 1) rfl
        have a2 := (HM2.out.c.blk 0 rfl).cell (i := 2) rfl
        have a3 := (HM2.out.c.blk 0 rfl).cell (i := 3) rfl
        go_wp2_with fail
        refine (HS.out _).mono ?_
        rintro e w5 ⟨rfl, hb⟩
        have HM5 := Lib.hid (S29.mk ((HM2.out.c.next hb).new N r g2 D) (AM.next (HM2.out.next hb) ((Below.refl w5.heap.size w5).alloc (Nat.le_refl _) (cuO N r g2 D))))
        clear hb HM2 a0 a1 a2 a3
        go_wp2_with fail
        generalize w5.alloc (cuO N r g2 D) = W5 at HM5 ⊢
        cases K with
        | zero =>
          as_aux_lemma =>
          obtain ⟨va, vc, rfl⟩ := HM5.out.m.q.slice
          have kk : (((0 : Nat) : Int) != ((0 : Nat) : Int)) = false := by simp
          have kz : decide ((0 : Int) < ((0 : Nat) : Int)) = false := by simp
          refine wp_region_held_drew (S := S29 w cb w5.heap.size qb r n2 g2 l2 N D 0 [] (.slice va 0 vc)) (by kernel_rfl) (HM5.out.drew) (fun hHeld => ?_)
          refine wpAnyH_take (i := 0) (v := ?v1) rfl (by kernel_rfl) (by kernel_rfl) (by kernel_rfl) (fun _ _ _ h => h) (Or.inl ⟨by rfl, ?y1⟩) hHeld ?r1
          case y1 => (intro w hSw; have a0 := (hSw.c.blk 0 rfl).cell (i := 0) rfl; have a1 := (hSw.c.blk 0 rfl).cell (i := 1) rfl; have a2 := (hSw.c.blk 0 rfl).cell (i := 2) rfl; have a3 := (hSw.c.blk 0 rfl).cell (i := 3) rfl; have b0 := (hSw.c.blk 1 rfl).cell (i := 0) rfl; have b1 := (hSw.c.blk 1 rfl).cell (i := 1) rfl; have b2 := (hSw.c.blk 1 rfl).cell (i := 2) rfl; have b3 := (hSw.c.blk 1 rfl).cell (i := 3) rfl; have q0 := hSw.m.q.b.cell (i := 0) rfl; have q1 := hSw.m.q.b.cell (i := 1) rfl; have q2 := hSw.m.q.b.cell (i := 2) rfl; have q3 := hSw.m.q.b.cell (i := 3) rfl; clear hSw; go_simp; try with_reducible rfl)
          simp only [List.getElem_toArray, List.getElem_cons_zero, Act.put, List.setIfInBounds_toArray, List.set_cons_zero, List.set_cons_succ]
          refine wpAnyH_take (i := 1) (v := ?v2) rfl (by kernel_rfl) (by kernel_rfl) (by kernel_rfl) (fun _ _ _ h => h) (Or.inl ⟨by rfl, ?y2⟩) hHeld ?r2
          case y2 => (intro w hSw; have a0 := (hSw.c.blk 0 rfl).cell (i := 0) rfl; have a1 := (hSw.c.blk 0 rfl).cell (i := 1) rfl; have a2 := (hSw.c.blk 0 rfl).cell (i := 2) rfl; have a3 := (hSw.c.blk 0 rfl).cell (i := 3) rfl; have b0 := (hSw.c.blk 1 rfl).cell (i := 0) rfl; have b1 := (hSw.c.blk 1 rfl).cell (i := 1) rfl; have b2 := (hSw.c.blk 1 rfl).cell (i := 2) rfl; have b3 := (hSw.c.blk 1 rfl).cell (i := 3) rfl; have q0 := hSw.m.q.b.cell (i := 0) rfl; have q1 := hSw.m.q.b.cell (i := 1) rfl; have q2 := hSw.m.q.b.cell (i := 2) rfl; have q3 := hSw.m.q.b.cell (i := 3) rfl; clear hSw; go_simp; try with_reducible rfl)
          simp only [List.getElem_toArray, List.getElem_cons_zero, List.getElem_cons_succ, Act.put, List.setIfInBounds_toArray, List.set_cons_zero, List.set_cons_succ]
          refine wpAnyH_take (i := 2) (v := ?v3) rfl (by kernel_rfl) (by kernel_rfl) (by kernel_rfl) (fun _ _ _ h => h) (Or.inl ⟨by rfl, ?y3⟩) hHeld ?r3
          case y3 => (intro w hSw; have a0 := (hSw.c.blk 0 rfl).cell (i := 0) rfl; have a1 := (hSw.c.blk 0 rfl).cell (i := 1) rfl; have a2 := (hSw.c.blk 0 rfl).cell (i := 2) rfl; have a3 := (hSw.c.blk 0 rfl).cell (i := 3) rfl; have b0 := (hSw.c.blk 1 rfl).cell (i := 0) rfl; have b1 := (hSw.c.blk 1 rfl).cell (i := 1) rfl; have b2 := (hSw.c.blk 1 rfl).cell (i := 2) rfl; have b3 := (hSw.c.blk 1 rfl).cell (i := 3) rfl; have q0 := hSw.m.q.b.cell (i := 0) rfl; have q1 := hSw.m.q.b.cell (i := 1) rfl; have q2 := hSw.m.q.b.cell (i := 2) rfl; have q3 := hSw.m.q.b.cell (i := 3) rfl; clear hSw; go_simp; try with_reducible rfl)
          simp only [List.getElem_toArray, List.getElem_cons_zero, List.getElem_cons_succ, Act.put, List.setIfInBounds_toArray, List.set_cons_zero, List.set_cons_succ]
          refine wpAnyH_take (i := 3) (v := ?v4) rfl (by kernel_rfl) (by kernel_rfl) (by kernel_rfl) (fun _ _ _ h => h) (Or.inl ⟨by rfl, ?y4⟩) hHeld ?r4
          case y4 => (intro w hSw; have a0 := (hSw.c.blk 0 rfl).cell (i := 0) rfl; have a1 := (hSw.c.blk 0 rfl).cell (i := 1) rfl; have a2 := (hSw.c.blk 0 rfl).cell (i := 2) rfl; have a3 := (hSw.c.blk 0 rfl).cell (i := 3) rfl; have b0 := (hSw.c.blk 1 rfl).cell (i := 0) rfl; have b1 := (hSw.c.blk 1 rfl).cell (i := 1) rfl; have b2 := (hSw.c.blk 1 rfl).cell (i := 2) rfl; have b3 := (hSw.c.blk 1 rfl).cell (i := 3) rfl; have q0 := hSw.m.q.b.cell (i := 0) rfl; have q1 := hSw.m.q.b.cell (i := 1) rfl; have q2 := hSw.m.q.b.cell (i := 2) rfl; have q3 := hSw.m.q.b.cell (i := 3) rfl; clear hSw; go_simp; try with_reducible rfl)
          simp only [List.getElem_toArray, List.getElem_cons_zero, List.getElem_cons_succ, Act.put, List.setIfInBounds_toArray, List.set_cons_zero, List.set_cons_succ]
          refine wpAnyH_take (i := 4) (v := ?v5) rfl (by kernel_rfl) (by kernel_rfl) (by kernel_rfl) (fun _ _ _ h => h) (Or.inl ⟨by rfl, ?y5⟩) hHeld ?r5
          case y5 => (intro w hSw; have a0 := (hSw.c.blk 0 rfl).cell (i := 0) rfl; have a1 := (hSw.c.blk 0 rfl).cell (i := 1) rfl; have a2 := (hSw.c.blk 0 rfl).cell (i := 2) rfl; have a3 := (hSw.c.blk 0 rfl).cell (i := 3) rfl; have b0 := (hSw.c.blk 1 rfl).cell (i := 0) rfl; have b1 := (hSw.c.blk 1 rfl).cell (i := 1) rfl; have b2 := (hSw.c.blk 1 rfl).cell (i := 2) rfl; have b3 := (hSw.c.blk 1 rfl).cell (i := 3) rfl; have q0 := hSw.m.q.b.cell (i := 0) rfl; have q1 := hSw.m.q.b.cell (i := 1) rfl; have q2 := hSw.m.q.b.cell (i := 2) rfl; have q3 := hSw.m.q.b.cell (i := 3) rfl; clear hSw; go_simp; try with_reducible rfl)
          simp only [List.getElem_toArray, List.getElem_cons_zero, List.getElem_cons_succ, Act.put, List.setIfInBounds_toArray, List.set_cons_zero, List.set_cons_succ]
          refine wpAnyH_take (i := 6) (v := ?v6) rfl (by kernel_rfl) (by kernel_rfl) (by kernel_rfl) (fun _ _ _ h => h) (Or.inl ⟨by rfl, ?y6⟩) hHeld ?r6
          case y6 => (intro w hSw; have a0 := (hSw.c.blk 0 rfl).cell (i := 0) rfl; have a1 := (hSw.c.blk 0 rfl).cell (i := 1) rfl; have a2 := (hSw.c.blk 0 rfl).cell (i := 2) rfl; have a3 := (hSw.c.blk 0 rfl).cell (i := 3) rfl; have b0 := (hSw.c.blk 1 rfl).cell (i := 0) rfl; have b1 := (hSw.c.blk 1 rfl).cell (i := 1) rfl; have b2 := (hSw.c.blk 1 rfl).cell (i := 2) rfl; have b3 := (hSw.c.blk 1 rfl).cell (i := 3) rfl; have q0 := hSw.m.q.b.cell (i := 0) rfl; have q1 := hSw.m.q.b.cell (i := 1) rfl; have q2 := hSw.m.q.b.cell (i := 2) rfl; have q3 := hSw.m.q.b.cell (i := 3) rfl; clear hSw; go_simp; try with_reducible rfl)
          simp only [List.getElem_toArray, List.getElem_cons_zero, List.getElem_cons_succ, Act.put, List.setIfInBounds_toArray, List.set_cons_zero, List.set_cons_succ]
          refine wpAnyH_take (i := 7) (v := ?v7) rfl (by kernel_rfl) (by kernel_rfl) (by kernel_rfl) (fun _ _ _ h => h) (Or.inl ⟨by rfl, ?y7⟩) hHeld ?r7
          case y7 => (intro w hSw; have a0 := (hSw.c.blk 0 rfl).cell (i := 0) rfl; have a1 := (hSw.c.blk 0 rfl).cell (i := 1) rfl; have a2 := (hSw.c.blk 0 rfl).cell (i := 2) rfl; have a3 := (hSw.c.blk 0 rfl).cell (i := 3) rfl; have b0 := (hSw.c.blk 1 rfl).cell (i := 0) rfl; have b1 := (hSw.c.blk 1 rfl).cell (i := 1) rfl; have b2 := (hSw.c.blk 1 rfl).cell (i := 2) rfl; have b3 := (hSw.c.blk 1 rfl).cell (i := 3) rfl; have q0 := hSw.m.q.b.cell (i := 0) rfl; have q1 := hSw.m.q.b.cell (i := 1) rfl; have q2 := hSw.m.q.b.cell (i := 2) rfl; have q3 := hSw.m.q.b.cell (i := 3) rfl; clear hSw; go_simp; try with_reducible rfl)
          simp only [List.getElem_toArray, List.getElem_cons_zero, List.getElem_cons_succ, Act.put, List.setIfInBounds_toArray, List.set_cons_zero, List.set_cons_succ]
          refine wpAnyH_take (i := 8) (v := ?v8) rfl (by kernel_rfl) (by kernel_rfl) (by kernel_rfl) (fun _ _ _ h => h) (Or.inl ⟨by rfl, ?y8⟩) hHeld ?r8
          case y8 => (intro w hSw; have a0 := (hSw.c.blk 0 rfl).cell (i := 0) rfl; have a1 := (hSw.c.blk 0 rfl).cell (i := 1) rfl; have a2 := (hSw.c.blk 0 rfl).cell (i := 2) rfl; have a3 := (hSw.c.blk 0 rfl).cell (i := 3) rfl; have b0 := (hSw.c.blk 1 rfl).cell (i := 0) rfl; have b1 := (hSw.c.blk 1 rfl).cell (i := 1) rfl; have b2 := (hSw.c.blk 1 rfl).cell (i := 2) rfl; have b3 := (hSw.c.blk 1 rfl).cell (i := 3) rfl; have q0 := hSw.m.q.b.cell (i := 0) rfl; have q1 := hSw.m.q.b.cell (i := 1) rfl; have q2 := hSw.m.q.b.cell (i := 2) rfl; have q3 := hSw.m.q.b.cell (i := 3) rfl; clear hSw; go_simp; try with_reducible rfl)
          simp only [List.getElem_toArray, List.getElem_cons_zero, List.getElem_cons_succ, Act.put, List.setIfInBounds_toArray, List.set_cons_zero, List.set_cons_succ]
          refine wpAnyH_take (i := 9) (v := ?v9) rfl (by kernel_rfl) (by kernel_rfl) (by kernel_rfl) (fun _ _ _ h => h) (Or.inl ⟨by rfl, ?y9⟩) hHeld ?r9
          case y9 => (intro w hSw; have a0 := (hSw.c.blk 0 rfl).cell (i := 0) rfl; have a1 := (hSw.c.blk 0 rfl).cell (i := 1) rfl; have a2 := (hSw.c.blk 0 rfl).cell (i := 2) rfl; have a3 := (hSw.c.blk 0 rfl).cell (i := 3) rfl; have b0 := (hSw.c.blk 1 rfl).cell (i := 0) rfl; have b1 := (hSw.c.blk 1 rfl).cell (i := 1) rfl; have b2 := (hSw.c.blk 1 rfl).cell (i := 2) rfl; have b3 := (hSw.c.blk 1 rfl).cell (i := 3) rfl; have q0 := hSw.m.q.b.cell (i := 0) rfl; have q1 := hSw.m.q.b.cell (i := 1) rfl; have q2 := hSw.m.q.b.cell (i := 2) rfl; have q3 := hSw.m.q.b.cell (i := 3) rfl; clear hSw; go_simp; try with_reducible rfl)
          simp only [List.getElem_toArray, List.getElem_cons_zero, List.getElem_cons_succ, Act.put, List.setIfInBounds_toArray, List.set_cons_zero, List.set_cons_succ]
          refine wpAnyH_take (i := 10) (v := ?v10) rfl (by kernel_rfl) (by kernel_rfl) (by kernel_rfl) (fun _ _ _ h => h) (Or.inl ⟨by rfl, ?y10⟩) hHeld ?r10
          case y10 => (intro w hSw; have a0 := (hSw.c.blk 0 rfl).cell (i := 0) rfl; have a1 := (hSw.c.blk 0 rfl).cell (i := 1) rfl; have a2 := (hSw.c.blk 0 rfl).cell (i := 2) rfl; have a3 := (hSw.c.blk 0 rfl).cell (i := 3) rfl; have b0 := (hSw.c.blk 1 rfl).cell (i := 0) rfl; have b1 := (hSw.c.blk 1 rfl).cell (i := 1) rfl; have b2 := (hSw.c.blk 1 rfl).cell (i := 2) rfl; have b3 := (hSw.c.blk 1 rfl).cell (i := 3) rfl; have q0 := hSw.m.q.b.cell (i := 0) rfl; have q1 := hSw.m.q.b.cell (i := 1) rfl; have q2 := hSw.m.q.b.cell (i := 2) rfl; have q3 := hSw.m.q.b.cell (i := 3) rfl; clear hSw; go_simp; try with_reducible rfl)
          simp only [List.getElem_toArray, List.getElem_cons_zero, List.getElem_cons_succ, Act.put, List.setIfInBounds_toArray, List.set_cons_zero, List.set_cons_succ]
          refine wpAnyH_ready (rs := [5]) (by kernel_rfl) (by simp) (AllReadyH.cons rfl (fun K hK => ?_) AllReadyH.nil)
          go_simp
          refine (HC.out _).mono ?_
          rintro e w6 ⟨rfl, hb⟩
          have X6 := Lib.hid (S29.next hHeld hb)
          clear hb
          go_wp2_with fail
          refine hK.out _ _ (X6.out) (fun hHeld => ?_)
          clear hK K
          refine wpAnyH_take (i := 11) (v := ?v12) rfl (by kernel_rfl) (by kernel_rfl) (by kernel_rfl) (fun _ _ _ h => h) (Or.inl ⟨by rfl, ?y12⟩) hHeld ?r12
          case y12 => (intro w hSw; have a0 := (hSw.c.blk 0 rfl).cell (i := 0) rfl; have a1 := (hSw.c.blk 0 rfl).cell (i := 1) rfl; have a2 := (hSw.c.blk 0 rfl).cell (i := 2) rfl; have a3 := (hSw.c.blk 0 rfl).cell (i := 3) rfl; have b0 := (hSw.c.blk 1 rfl).cell (i := 0) rfl; have b1 := (hSw.c.blk 1 rfl).cell (i := 1) rfl; have b2 := (hSw.c.blk 1 rfl).cell (i := 2) rfl; have b3 := (hSw.c.blk 1 rfl).cell (i := 3) rfl; have q0 := hSw.m.q.b.cell (i := 0) rfl; have q1 := hSw.m.q.b.cell (i := 1) rfl; have q2 := hSw.m.q.b.cell (i := 2) rfl; have q3 := hSw.m.q.b.cell (i := 3) rfl; clear hSw; go_simp; try with_reducible rfl)
          simp only [List.getElem_toArray, List.getElem_cons_zero, List.getElem_cons_succ, Act.put, List.setIfInBounds_toArray, List.set_cons_zero, List.set_cons_succ]
          refine wpAnyH_take (i := 12) (v := ?v13) rfl (by kernel_rfl) (by kernel_rfl) (by kernel_rfl) (fun _ _ _ h => h) (Or.inl ⟨by rfl, ?y13⟩) hHeld ?r13
          case y13 => (intro w hSw; have a0 := (hSw.c.blk 0 rfl).cell (i := 0) rfl; have a1 := (hSw.c.blk 0 rfl).cell (i := 1) rfl; have a2 := (hSw.c.blk 0 rfl).cell (i := 2) rfl; have a3 := (hSw.c.blk 0 rfl).cell (i := 3) rfl; have b0 := (hSw.c.blk 1 rfl).cell (i := 0) rfl; have b1 := (hSw.c.blk 1 rfl).cell (i := 1) rfl; have b2 := (hSw.c.blk 1 rfl).cell (i := 2) rfl; have b3 := (hSw.c.blk 1 rfl).cell (i := 3) rfl; have q0 := hSw.m.q.b.cell (i := 0) rfl; have q1 := hSw.m.q.b.cell (i := 1) rfl; have q2 := hSw.m.q.b.cell (i := 2) rfl; have q3 := hSw.m.q.b.cell (i := 3) rfl; clear hSw; go_simp; try with_reducible rfl)
          simp only [List.getElem_toArray, List.getElem_cons_zero, List.getElem_cons_succ, Act.put, List.setIfInBounds_toArray, List.set_cons_zero, List.set_cons_succ]
          refine wpAnyH_take (i := 13) (v := ?v14) rfl (by kernel_rfl) (by kernel_rfl) (by kernel_rfl) (fun _ _ _ h => h) (Or.inl ⟨by rfl, ?y14⟩) hHeld ?r14
          case y14 => (intro w hSw; have a0 := (hSw.c.blk 0 rfl).cell (i := 0) rfl; have a1 := (hSw.c.blk 0 rfl).cell (i := 1) rfl; have a2 := (hSw.c.blk 0 rfl).cell (i := 2) rfl; have a3 := (hSw.c.blk 0 rfl).cell (i := 3) rfl; have b0 := (hSw.c.blk 1 rfl).cell (i := 0) rfl; have b1 := (hSw.c.blk 1 rfl).cell (i := 1) rfl; have b2 := (hSw.c.blk 1 rfl).cell (i := 2) rfl; have b3 := (hSw.c.blk 1 rfl).cell (i := 3) rfl; have q0 := hSw.m.q.b.cell (i := 0) rfl; have q1 := hSw.m.q.b.cell (i := 1) rfl; have q2 := hSw.m.q.b.cell (i := 2) rfl; have q3 := hSw.m.q.b.cell (i := 3) rfl; clear hSw; go_simp; try with_reducible rfl)
          simp only [List.getElem_toArray, List.getElem_cons_zero, List.getElem_cons_succ, Act.put, List.setIfInBounds_toArray, List.set_cons_zero, List.set_cons_succ]
          refine wpAnyH_take (i := 14) (v := ?v15) rfl (by kernel_rfl) (by kernel_rfl) (by kernel_rfl) (fun _ _ _ h => h) (Or.inl ⟨by rfl, ?y15⟩) hHeld ?r15
          case y15 => (intro w hSw; have a0 := (hSw.c.blk 0 rfl).cell (i := 0) rfl; have a1 := (hSw.c.blk 0 rfl).cell (i := 1) rfl; have a2 := (hSw.c.blk 0 rfl).cell (i := 2) rfl; have a3 := (hSw.c.blk 0 rfl).cell (i := 3) rfl; have b0 := (hSw.c.blk 1 rfl).cell (i := 0) rfl; have b1 := (hSw.c.blk 1 rfl).cell (i := 1) rfl; have b2 := (hSw.c.blk 1 rfl).cell (i := 2) rfl; have b3 := (hSw.c.blk 1 rfl).cell (i := 3) rfl; have q0 := hSw.m.q.b.cell (i := 0) rfl; have q1 := hSw.m.q.b.cell (i := 1) rfl; have q2 := hSw.m.q.b.cell (i := 2) rfl; have q3 := hSw.m.q.b.cell (i := 3) rfl; clear hSw; go_simp; try with_reducible rfl)
          simp only [List.getElem_toArray, List.getElem_cons_zero, List.getElem_cons_succ, Act.put, List.setIfInBounds_toArray, List.set_cons_zero, List.set_cons_succ]
          refine wpAnyH_take (i := 15) (v := ?v16) rfl (by kernel_rfl) (by kernel_rfl) (by kernel_rfl) (fun _ _ _ h => h) (Or.inl ⟨by rfl, ?y16⟩) hHeld ?r16
          case y16 => (intro w hSw; have a0 := (hSw.c.blk 0 rfl).cell (i := 0) rfl; have a1 := (hSw.c.blk 0 rfl).cell (i := 1) rfl; have a2 := (hSw.c.blk 0 rfl).cell (i := 2) rfl; have a3 := (hSw.c.blk 0 rfl).cell (i := 3) rfl; have b0 := (hSw.c.blk 1 rfl).cell (i := 0) rfl; have b1 := (hSw.c.blk 1 rfl).cell (i := 1) rfl; have b2 := (hSw.c.blk 1 rfl).cell (i := 2) rfl; have b3 := (hSw.c.blk 1 rfl).cell (i := 3) rfl; have q0 := hSw.m.q.b.cell (i := 0) rfl; have q1 := hSw.m.q.b.cell (i := 1) rfl; have q2 := hSw.m.q.b.cell (i := 2) rfl; have q3 := hSw.m.q.b.cell (i := 3) rfl; clear hSw; go_simp; try with_reducible rfl)
          simp only [List.getElem_toArray, List.getElem_cons_zero, List.getElem_cons_succ, Act.put, List.setIfInBounds_toArray, List.set_cons_zero, List.set_cons_succ]
          refine wpAnyH_take (i := 16) (v := ?v17) rfl (by kernel_rfl) (by kernel_rfl) (by kernel_rfl) (fun _ _ _ h => h) (Or.inl ⟨by rfl, ?y17⟩) hHeld ?r17
          case y17 => (intro w hSw; have a0 := (hSw.c.blk 0 rfl).cell (i := 0) rfl; have a1 := (hSw.c.blk 0 rfl).cell (i := 1) rfl; have a2 := (hSw.c.blk 0 rfl).cell (i := 2) rfl; have a3 := (hSw.c.blk 0 rfl).cell (i := 3) rfl; have b0 := (hSw.c.blk 1 rfl).cell (i := 0) rfl; have b1 := (hSw.c.blk 1 rfl).cell (i := 1) rfl; have b2 := (hSw.c.blk 1 rfl).cell (i := 2) rfl; have b3 := (hSw.c.blk 1 rfl).cell (i := 3) rfl; have q0 := hSw.m.q.b.cell (i := 0) rfl; have q1 := hSw.m.q.b.cell (i := 1) rfl; have q2 := hSw.m.q.b.cell (i := 2) rfl; have q3 := hSw.m.q.b.cell (i := 3) rfl; clear hSw; go_simp; try with_reducible rfl)
          simp only [List.getElem_toArray, List.getElem_cons_zero, List.getElem_cons_succ, Act.put, List.setIfInBounds_toArray, List.set_cons_zero, List.set_cons_succ]
          refine wpAnyH_take (i := 17) (v := ?v18) rfl (by kernel_rfl) (by kernel_rfl) (by kernel_rfl) (fun _ _ _ h => h) (Or.inl ⟨by rfl, ?y18⟩) hHeld ?r18
          case y18 => (intro w hSw; have a0 := (hSw.c.blk 0 rfl).cell (i := 0) rfl; have a1 := (hSw.c.blk 0 rfl).cell (i := 1) rfl; have a2 := (hSw.c.blk 0 rfl).cell (i := 2) rfl; have a3 := (hSw.c.blk 0 rfl).cell (i := 3) rfl; have b0 := (hSw.c.blk 1 rfl).cell (i := 0) rfl; have b1 := (hSw.c.blk 1 rfl).cell (i := 1) rfl; have b2 := (hSw.c.blk 1 rfl).cell (i := 2) rfl; have b3 := (hSw.c.blk 1 rfl).cell (i := 3) rfl; have q0 := hSw.m.q.b.cell (i := 0) rfl; have q1 := hSw.m.q.b.cell (i := 1) rfl; have q2 := hSw.m.q.b.cell (i := 2) rfl; have q3 := hSw.m.q.b.cell (i := 3) rfl; clear hSw; go_simp; try with_reducible rfl)
          simp only [List.getElem_toArray, List.getElem_cons_zero, List.getElem_cons_succ, Act.put, List.setIfInBounds_toArray, List.set_cons_zero, List.set_cons_succ]
          refine wpAnyH_take (i := 18) (v := ?v19) rfl (by kernel_rfl) (by kernel_rfl) (by kernel_rfl) (fun _ _ _ h => h) (Or.inl ⟨by rfl, ?y19⟩) hHeld ?r19
          case y19 => (intro w hSw; have a0 := (hSw.c.blk 0 rfl).cell (i := 0) rfl; have a1 := (hSw.c.blk 0 rfl).cell (i := 1) rfl; have a2 := (hSw.c.blk 0 rfl).cell (i := 2) rfl; have a3 := (hSw.c.blk 0 rfl).cell (i := 3) rfl; have b0 := (hSw.c.blk 1 rfl).cell (i := 0) rfl; have b1 := (hSw.c.blk 1 rfl).cell (i := 1) rfl; have b2 := (hSw.c.blk 1 rfl).cell (i := 2) rfl; have b3 := (hSw.c.blk 1 rfl).cell (i := 3) rfl; have q0 := hSw.m.q.b.cell (i := 0) rfl; have q1 := hSw.m.q.b.cell (i := 1) rfl; have q2 := hSw.m.q.b.cell (i := 2) rfl; have q3 := hSw.m.q.b.cell (i := 3) rfl; clear hSw; go_simp; try with_reducible rfl)
          simp only [List.getElem_toArray, List.getElem_cons_zero, List.getElem_cons_succ, Act.put, List.setIfInBounds_toArray, List.set_cons_zero, List.set_cons_succ]
          refine wpAnyH_take (i := 19) (v := ?v20) rfl (by kernel_rfl) (by kernel_rfl) (by kernel_rfl) (fun _ _ _ h => h) (Or.inl ⟨by rfl, ?y20⟩) hHeld ?r20
          case y20 => (intro w hSw; have a0 := (hSw.c.blk 0 rfl).cell (i := 0) rfl; have a1 := (hSw.c.blk 0 rfl).cell (i := 1) rfl; have a2 := (hSw.c.blk 0 rfl).cell (i := 2) rfl; have a3 := (hSw.c.blk 0 rfl).cell (i := 3) rfl; have b0 := (hSw.c.blk 1 rfl).cell (i := 0) rfl; have b1 := (hSw.c.blk 1 rfl).cell (i := 1) rfl; have b2 := (hSw.c.blk 1 rfl).cell (i := 2) rfl; have b3 := (hSw.c.blk 1 rfl).cell (i := 3) rfl; have q0 := hSw.m.q.b.cell (i := 0) rfl; have q1 := hSw.m.q.b.cell (i := 1) rfl; have q2 := hSw.m.q.b.cell (i := 2) rfl; have q3 := hSw.m.q.b.cell (i := 3) rfl; clear hSw; go_simp; try with_reducible rfl)
          simp only [List.getElem_toArray, List.getElem_cons_zero, List.getElem_cons_succ, Act.put, List.setIfInBounds_toArray, List.set_cons_zero, List.set_cons_succ]
          refine wpAnyH_take (i := 20) (v := ?v21) rfl (by kernel_rfl) (by kernel_rfl) (by kernel_rfl) (fun _ _ _ h => h) (Or.inl ⟨by rfl, ?y21⟩) hHeld ?r21
          case y21 => (intro w hSw; have a0 := (hSw.c.blk 0 rfl).cell (i := 0) rfl; have a1 := (hSw.c.blk 0 rfl).cell (i := 1) rfl; have a2 := (hSw.c.blk 0 rfl).cell (i := 2) rfl; have a3 := (hSw.c.blk 0 rfl).cell (i := 3) rfl; have b0 := (hSw.c.blk 1 rfl).cell (i := 0) rfl; have b1 := (hSw.c.blk 1 rfl).cell (i := 1) rfl; have b2 := (hSw.c.blk 1 rfl).cell (i := 2) rfl; have b3 := (hSw.c.blk 1 rfl).cell (i := 3) rfl; have q0 := hSw.m.q.b.cell (i := 0) rfl; have q1 := hSw.m.q.b.cell (i := 1) rfl; have q2 := hSw.m.q.b.cell (i := 2) rfl; have q3 := hSw.m.q.b.cell (i := 3) rfl; clear hSw; go_simp; try with_reducible rfl)
          simp only [List.getElem_toArray, List.getElem_cons_zero, List.getElem_cons_succ, Act.put, List.setIfInBounds_toArray, List.set_cons_zero, List.set_cons_succ]
          refine wpAnyH_take (i := 21) (v := ?v22) rfl (by kernel_rfl) (by kernel_rfl) (by kernel_rfl) (fun _ _ _ h => h) (Or.inl ⟨by rfl, ?y22⟩) hHeld ?r22
          case y22 => (intro w hSw; have a0 := (hSw.c.blk 0 rfl).cell (i := 0) rfl; have a1 := (hSw.c.blk 0 rfl).cell (i := 1) rfl; have a2 := (hSw.c.blk 0 rfl).cell (i := 2) rfl; have a3 := (hSw.c.blk 0 rfl).cell (i := 3) rfl; have b0 := (hSw.c.blk 1 rfl).cell (i := 0) rfl; have b1 := (hSw.c.blk 1 rfl).cell (i := 1) rfl; have b2 := (hSw.c.blk 1 rfl).cell (i := 2) rfl; have b3 := (hSw.c.blk 1 rfl).cell (i := 3) rfl; have q0 := hSw.m.q.b.cell (i := 0) rfl; have q1 := hSw.m.q.b.cell (i := 1) rfl; have q2 := hSw.m.q.b.cell (i := 2) rfl; have q3 := hSw.m.q.b.cell (i := 3) rfl; clear hSw; go_simp; try with_reducible rfl)
          simp only [List.getElem_toArray, List.getElem_cons_zero, List.getElem_cons_succ, Act.put, List.setIfInBounds_toArray, List.set_cons_zero, List.set_cons_succ]
          refine wpAnyH_take (i := 22) (v := ?v23) rfl (by kernel_rfl) (by kernel_rfl) (by kernel_rfl) (fun _ _ _ h => h) (Or.inl ⟨by rfl, ?y23⟩) hHeld ?r23
          case y23 => (intro w hSw; have a0 := (hSw.c.blk 0 rfl).cell (i := 0) rfl; have a1 := (hSw.c.blk 0 rfl).cell (i := 1) rfl; have a2 := (hSw.c.blk 0 rfl).cell (i := 2) rfl; have a3 := (hSw.c.blk 0 rfl).cell (i := 3) rfl; have b0 := (hSw.c.blk 1 rfl).cell (i := 0) rfl; have b1 := (hSw.c.blk 1 rfl).cell (i := 1) rfl; have b2 := (hSw.c.blk 1 rfl).cell (i := 2) rfl; have b3 := (hSw.c.blk 1 rfl).cell (i := 3) rfl; have q0 := hSw.m.q.b.cell (i := 0) rfl; have q1 := hSw.m.q.b.cell (i := 1) rfl; have q2 := hSw.m.q.b.cell (i := 2) rfl; have q3 := hSw.m.q.b.cell (i := 3) rfl; clear hSw; go_simp; try with_reducible rfl)
          simp only [List.getElem_toArray, List.getElem_cons_zero, List.getElem_cons_succ, Act.put, List.setIfInBounds_toArray, List.set_cons_zero, List.set_cons_succ]
          refine wpAnyH_take (i := 23) (v := ?v24) rfl (by kernel_rfl) (by kernel_rfl) (by kernel_rfl) (fun _ _ _ h => h) (Or.inl ⟨by rfl, ?y24⟩) hHeld ?r24
          case y24 => (intro w hSw; have a0 := (hSw.c.blk 0 rfl).cell (i := 0) rfl; have a1 := (hSw.c.blk 0 rfl).cell (i := 1) rfl; have a2 := (hSw.c.blk 0 rfl).cell (i := 2) rfl; have a3 := (hSw.c.blk 0 rfl).cell (i := 3) rfl; have b0 := (hSw.c.blk 1 rfl).cell (i := 0) rfl; have b1 := (hSw.c.blk 1 rfl).cell (i := 1) rfl; have b2 := (hSw.c.blk 1 rfl).cell (i := 2) rfl; have b3 := (hSw.c.blk 1 rfl).cell (i := 3) rfl; have q0 := hSw.m.q.b.cell (i := 0) rfl; have q1 := hSw.m.q.b.cell (i := 1) rfl; have q2 := hSw.m.q.b.cell (i := 2) rfl; have q3 := hSw.m.q.b.cell (i := 3) rfl; clear hSw; go_simp; try with_reducible rfl)
          simp only [List.getElem_toArray, List.getElem_cons_zero, List.getElem_cons_succ, Act.put, List.setIfInBounds_toArray, List.set_cons_zero, List.set_cons_succ]
          refine wpAnyH_take (i := 24) (v := ?v25) rfl (by kernel_rfl) (by kernel_rfl) (by kernel_rfl) (fun _ _ _ h => h) (Or.inl ⟨by rfl, ?y25⟩) hHeld ?r25
          case y25 => (intro w hSw; have a0 := (hSw.c.blk 0 rfl).cell (i := 0) rfl; have a1 := (hSw.c.blk 0 rfl).cell (i := 1) rfl; have a2 := (hSw.c.blk 0 rfl).cell (i := 2) rfl; have a3 := (hSw.c.blk 0 rfl).cell (i := 3) rfl; have b0 := (hSw.c.blk 1 rfl).cell (i := 0) rfl; have b1 := (hSw.c.blk 1 rfl).cell (i := 1) rfl; have b2 := (hSw.c.blk 1 rfl).cell (i := 2) rfl; have b3 := (hSw.c.blk 1 rfl).cell (i := 3) rfl; have q0 := hSw.m.q.b.cell (i := 0) rfl; have q1 := hSw.m.q.b.cell (i := 1) rfl; have q2 := hSw.m.q.b.cell (i := 2) rfl; have q3 := hSw.m.q.b.cell (i := 3) rfl; clear hSw; go_simp; try with_reducible rfl)
          simp only [List.getElem_toArray, List.getElem_cons_zero, List.getElem_cons_succ, Act.put, List.setIfInBounds_toArray, List.set_cons_zero, List.set_cons_succ]
          refine wpAnyH_take (i := 25) (v := ?v26) rfl (by kernel_rfl) (by kernel_rfl) (by kernel_rfl) (fun _ _ _ h => h) (Or.inl ⟨by rfl, ?y26⟩) hHeld ?r26
          case y26 => (intro w hSw; have a0 := (hSw.c.blk 0 rfl).cell (i := 0) rfl; have a1 := (hSw.c.blk 0 rfl).cell (i := 1) rfl; have a2 := (hSw.c.blk 0 rfl).cell (i := 2) rfl; have a3 := (hSw.c.blk 0 rfl).cell (i := 3) rfl; have b0 := (hSw.c.blk 1 rfl).cell (i := 0) rfl; have b1 := (hSw.c.blk 1 rfl).cell (i := 1) rfl; have b2 := (hSw.c.blk 1 rfl).cell (i := 2) rfl; have b3 := (hSw.c.blk 1 rfl).cell (i := 3) rfl; have q0 := hSw.m.q.b.cell (i := 0) rfl; have q1 := hSw.m.q.b.cell (i := 1) rfl; have q2 := hSw.m.q.b.cell (i := 2) rfl; have q3 := hSw.m.q.b.cell (i := 3) rfl; clear hSw; go_simp; try with_reducible rfl)
          simp only [List.getElem_toArray, List.getElem_cons_zero, List.getElem_cons_succ, Act.put, List.setIfInBounds_toArray, List.set_cons_zero, List.set_cons_succ]
          refine wpAnyH_take (i := 26) (v := ?v27) rfl (by kernel_rfl) (by kernel_rfl) (by kernel_rfl) (fun _ _ _ h => h) (Or.inl ⟨by rfl, ?y27⟩) hHeld ?r27
          case y27 => (intro w hSw; have a0 := (hSw.c.blk 0 rfl).cell (i := 0) rfl; have a1 := (hSw.c.blk 0 rfl).cell (i := 1) rfl; have a2 := (hSw.c.blk 0 rfl).cell (i := 2) rfl; have a3 := (hSw.c.blk 0 rfl).cell (i := 3) rfl; have b0 := (hSw.c.blk 1 rfl).cell (i := 0) rfl; have b1 := (hSw.c.blk 1 rfl).cell (i := 1) rfl; have b2 := (hSw.c.blk 1 rfl).cell (i := 2) rfl; have b3 := (hSw.c.blk 1 rfl).cell (i := 3) rfl; have q0 := hSw.m.q.b.cell (i := 0) rfl; have q1 := hSw.m.q.b.cell (i := 1) rfl; have q2 := hSw.m.q.b.cell (i := 2) rfl; have q3 := hSw.m.q.b.cell (i := 3) rfl; clear hSw; go_simp; try with_reducible rfl)
          simp only [List.getElem_toArray, List.getElem_cons_zero, List.getElem_cons_succ, Act.put, List.setIfInBounds_toArray, List.set_cons_zero, List.set_cons_succ]
          refine wpAnyH_take (i := 27) (v := ?v28) rfl (by kernel_rfl) (by kernel_rfl) (by kernel_rfl) (fun _ _ _ h => h) (Or.inl ⟨by rfl, ?y28⟩) hHeld ?r28
          case y28 => (intro w hSw; have a0 := (hSw.c.blk 0 rfl).cell (i := 0) rfl; have a1 := (hSw.c.blk 0 rfl).cell (i := 1) rfl; have a2 := (hSw.c.blk 0 rfl).cell (i := 2) rfl; have a3 := (hSw.c.blk 0 rfl).cell (i := 3) rfl; have b0 := (hSw.c.blk 1 rfl).cell (i := 0) rfl; have b1 := (hSw.c.blk 1 rfl).cell (i := 1) rfl; have b2 := (hSw.c.blk 1 rfl).cell (i := 2) rfl; have b3 := (hSw.c.blk 1 rfl).cell (i := 3) rfl; have q0 := hSw.m.q.b.cell (i := 0) rfl; have q1 := hSw.m.q.b.cell (i := 1) rfl; have q2 := hSw.m.q.b.cell (i := 2) rfl; have q3 := hSw.m.q.b.cell (i := 3) rfl; clear hSw; go_simp; try with_reducible rfl)
          simp only [List.getElem_toArray, List.getElem_cons_zero, List.getElem_cons_succ, Act.put, List.setIfInBounds_toArray, List.set_cons_zero, List.set_cons_succ]
          refine wpAnyH_take (i := 28) (v := ?v29) rfl (by kernel_rfl) (by kernel_rfl) (by kernel_rfl) (fun _ _ _ h => h) (Or.inl ⟨by rfl, ?y29⟩) hHeld ?r29
          case y29 => (intro w hSw; have a0 := (hSw.c.blk 0 rfl).cell (i := 0) rfl; have a1 := (hSw.c.blk 0 rfl).cell (i := 1) rfl; have a2 := (hSw.c.blk 0 rfl).cell (i := 2) rfl; have a3 := (hSw.c.blk 0 rfl).cell (i := 3) rfl; have b0 := (hSw.c.blk 1 rfl).cell (i := 0) rfl; have b1 := (hSw.c.blk 1 rfl).cell (i := 1) rfl; have b2 := (hSw.c.blk 1 rfl).cell (i := 2) rfl; have b3 := (hSw.c.blk 1 rfl).cell (i := 3) rfl; have q0 := hSw.m.q.b.cell (i := 0) rfl; have q1 := hSw.m.q.b.cell (i := 1) rfl; have q2 := hSw.m.q.b.cell (i := 2) rfl; have q3 := hSw.m.q.b.cell (i := 3) rfl; clear hSw; go_simp; try with_reducible rfl)
          simp only [List.getElem_toArray, List.getElem_cons_zero, List.getElem_cons_succ, Act.put, List.setIfInBounds_toArray, List.set_cons_zero, List.set_cons_succ]
          refine wpAnyH_take (i := 29) (v := ?v30) rfl (by kernel_rfl) (by kernel_rfl) (by kernel_rfl) (fun _ _ _ h => h) (Or.inl ⟨by rfl, ?y30⟩) hHeld ?r30
          case y30 => (intro w hSw; have a0 := (hSw.c.blk 0 rfl).cell (i := 0) rfl; have a1 := (hSw.c.blk 0 rfl).cell (i := 1) rfl; have a2 := (hSw.c.blk 0 rfl).cell (i := 2) rfl; have a3 := (hSw.c.blk 0 rfl).cell (i := 3) rfl; have b0 := (hSw.c.blk 1 rfl).cell (i := 0) rfl; have b1 := (hSw.c.blk 1 rfl).cell (i := 1) rfl; have b2 := (hSw.c.blk 1 rfl).cell (i := 2) rfl; have b3 := (hSw.c.blk 1 rfl).cell (i := 3) rfl; have q0 := hSw.m.q.b.cell (i := 0) rfl; have q1 := hSw.m.q.b.cell (i := 1) rfl; have q2 := hSw.m.q.b.cell (i := 2) rfl; have q3 := hSw.m.q.b.cell (i := 3) rfl; clear hSw; go_simp; try with_reducible rfl)
          simp only [List.getElem_toArray, List.getElem_cons_zero, List.getElem_cons_succ, Act.put, List.setIfInBounds_toArray, List.set_cons_zero, List.set_cons_succ]
          refine wpAnyH_take (i := 30) (v := ?v31) rfl (by kernel_rfl) (by kernel_rfl) (by kernel_rfl) (fun _ _ _ h => h) (Or.inl ⟨by rfl, ?y31⟩) hHeld ?r31
          case y31 => (intro w hSw; have a0 := (hSw.c.blk 0 rfl).cell (i := 0) rfl; have a1 := (hSw.c.blk 0 rfl).cell (i := 1) rfl; have a2 := (hSw.c.blk 0 rfl).cell (i := 2) rfl; have a3 := (hSw.c.blk 0 rfl).cell (i := 3) rfl; have b0 := (hSw.c.blk 1 rfl).cell (i := 0) rfl; have b1 := (hSw.c.blk 1 rfl).cell (i := 1) rfl; have b2 := (hSw.c.blk 1 rfl).cell (i := 2) rfl; have b3 := (hSw.c.blk 1 rfl).cell (i := 3) rfl; have q0 := hSw.m.q.b.cell (i := 0) rfl; have q1 := hSw.m.q.b.cell (i := 1) rfl; have q2 := hSw.m.q.b.cell (i := 2) rfl; have q3 := hSw.m.q.b.cell (i := 3) rfl; clear hSw; go_simp; try with_reducible rfl)
          simp only [List.getElem_toArray, List.getElem_cons_zero, List.getElem_cons_succ, Act.put, List.setIfInBounds_toArray, List.set_cons_zero, List.set_cons_succ]
          refine wpAnyH_take (i := 31) (v := ?v32) rfl (by kernel_rfl) (by kernel_rfl) (by kernel_rfl) (fun _ _ _ h => h) (Or.inl ⟨by rfl, ?y32⟩) hHeld ?r32
          case y32 => (intro w hSw; have a0 := (hSw.c.blk 0 rfl).cell (i := 0) rfl; have a1 := (hSw.c.blk 0 rfl).cell (i := 1) rfl; have a2 := (hSw.c.blk 0 rfl).cell (i := 2) rfl; have a3 := (hSw.c.blk 0 rfl).cell (i := 3) rfl; have b0 := (hSw.c.blk 1 rfl).cell (i := 0) rfl; have b1 := (hSw.c.blk 1 rfl).cell (i := 1) rfl; have b2 := (hSw.c.blk 1 rfl).cell (i := 2) rfl; have b3 := (hSw.c.blk 1 rfl).cell (i := 3) rfl; have q0 := hSw.m.q.b.cell (i := 0) rfl; have q1 := hSw.m.q.b.cell (i := 1) rfl; have q2 := hSw.m.q.b.cell (i := 2) rfl; have q3 := hSw.m.q.b.cell (i := 3) rfl; clear hSw; go_simp; try with_reducible rfl)
          simp only [List.getElem_toArray, List.getElem_cons_zero, List.getElem_cons_succ, Act.put, List.setIfInBounds_toArray, List.set_cons_zero, List.set_cons_succ]
          refine wpAnyH_take (i := 32) (v := ?v33) rfl (by kernel_rfl) (by kernel_rfl) (by kernel_rfl) (fun _ _ _ h => h) (Or.inl ⟨by rfl, ?y33⟩) hHeld ?r33
          case y33 => (intro w hSw; have a0 := (hSw.c.blk 0 rfl).cell (i := 0) rfl; have a1 := (hSw.c.blk 0 rfl).cell (i := 1) rfl; have a2 := (hSw.c.blk 0 rfl).cell (i := 2) rfl; have a3 := (hSw.c.blk 0 rfl).cell (i := 3) rfl; have b0 := (hSw.c.blk 1 rfl).cell (i := 0) rfl; have b1 := (hSw.c.blk 1 rfl).cell (i := 1) rfl; have b2 := (hSw.c.blk 1 rfl).cell (i := 2) rfl; have b3 := (hSw.c.blk 1 rfl).cell (i := 3) rfl; have q0 := hSw.m.q.b.cell (i := 0) rfl; have q1 := hSw.m.q.b.cell (i := 1) rfl; have q2 := hSw.m.q.b.cell (i := 2) rfl; have q3 := hSw.m.q.b.cell (i := 3) rfl; clear hSw; go_simp; try with_reducible rfl)
          simp only [List.getElem_toArray, List.getElem_cons_zero, List.getElem_cons_succ, Act.put, List.setIfInBounds_toArray, List.set_cons_zero, List.set_cons_succ]
          refine wpAnyH_take (i := 33) (v := ?v34) rfl (by kernel_rfl) (by kernel_rfl) (by kernel_rfl) (fun _ _ _ h => h) (Or.inl ⟨by rfl, ?y34⟩) hHeld ?r34
          case y34 => (intro w hSw; have a0 := (hSw.c.blk 0 rfl).cell (i := 0) rfl; have a1 := (hSw.c.blk 0 rfl).cell (i := 1) rfl; have a2 := (hSw.c.blk 0 rfl).cell (i := 2) rfl; have a3 := (hSw.c.blk 0 rfl).cell (i := 3) rfl; have b0 := (hSw.c.blk 1 rfl).cell (i := 0) rfl; have b1 := (hSw.c.blk 1 rfl).cell (i := 1) rfl; have b2 := (hSw.c.blk 1 rfl).cell (i := 2) rfl; have b3 := (hSw.c.blk 1 rfl).cell (i := 3) rfl; have q0 := hSw.m.q.b.cell (i := 0) rfl; have q1 := hSw.m.q.b.cell (i := 1) rfl; have q2 := hSw.m.q.b.cell (i := 2) rfl; have q3 := hSw.m.q.b.cell (i := 3) rfl; clear hSw; go_simp; try with_reducible rfl)
          simp only [List.getElem_toArray, List.getElem_cons_zero, List.getElem_cons_succ, Act.put, List.setIfInBounds_toArray, List.set_cons_zero, List.set_cons_succ]
          refine wpAnyH_take (i := 34) (v := ?v35) rfl (by kernel_rfl) (by kernel_rfl) (by kernel_rfl) (fun _ _ _ h => h) (Or.inl ⟨by rfl, ?y35⟩) hHeld ?r35
          case y35 => (intro w hSw; have a0 := (hSw.c.blk 0 rfl).cell (i := 0) rfl; have a1 := (hSw.c.blk 0 rfl).cell (i := 1) rfl; have a2 := (hSw.c.blk 0 rfl).cell (i := 2) rfl; have a3 := (hSw.c.blk 0 rfl).cell (i := 3) rfl; have b0 := (hSw.c.blk 1 rfl).cell (i := 0) rfl; have b1 := (hSw.c.blk 1 rfl).cell (i := 1) rfl; have b2 := (hSw.c.blk 1 rfl).cell (i := 2) rfl; have b3 := (hSw.c.blk 1 rfl).cell (i := 3) rfl; have q0 := hSw.m.q.b.cell (i := 0) rfl; have q1 := hSw.m.q.b.cell (i := 1) rfl; have q2 := hSw.m.q.b.cell (i := 2) rfl; have q3 := hSw.m.q.b.cell (i := 3) rfl; clear hSw; go_simp; try with_reducible rfl)
          simp only [List.getElem_toArray, List.getElem_cons_zero, List.getElem_cons_succ, Act.put, List.setIfInBounds_toArray, List.set_cons_zero, List.set_cons_succ]
          refine wpAnyH_take (i := 35) (v := ?v36) rfl (by kernel_rfl) (by kernel_rfl) (by kernel_rfl) (fun _ _ _ h => h) (Or.inl ⟨by rfl, ?y36⟩) hHeld ?r36
          case y36 => (intro w hSw; have a0 := (hSw.c.blk 0 rfl).cell (i := 0) rfl; have a1 := (hSw.c.blk 0 rfl).cell (i := 1) rfl; have a2 := (hSw.c.blk 0 rfl).cell (i := 2) rfl; have a3 := (hSw.c.blk 0 rfl).cell (i := 3) rfl; have b0 := (hSw.c.blk 1 rfl).cell (i := 0) rfl; have b1 := (hSw.c.blk 1 rfl).cell (i := 1) rfl; have b2 := (hSw.c.blk 1 rfl).cell (i := 2) rfl; have b3 := (hSw.c.blk 1 rfl).cell (i := 3) rfl; have q0 := hSw.m.q.b.cell (i := 0) rfl; have q1 := hSw.m.q.b.cell (i := 1) rfl; have q2 := hSw.m.q.b.cell (i := 2) rfl; have q3 := hSw.m.q.b.cell (i := 3) rfl; clear hSw; go_simp; try with_reducible rfl)
          simp only [List.getElem_toArray, List.getElem_cons_zero, List.getElem_cons_succ, Act.put, List.setIfInBounds_toArray, List.set_cons_zero, List.set_cons_succ]
          refine wpAnyH_take (i := 36) (v := ?v37) rfl (by kernel_rfl) (by kernel_rfl) (by kernel_rfl) (fun _ _ _ h => h) (Or.inl ⟨by rfl, ?y37⟩) hHeld ?r37
          case y37 => (intro w hSw; have a0 := (hSw.c.blk 0 rfl).cell (i := 0) rfl; have a1 := (hSw.c.blk 0 rfl).cell (i := 1) rfl; have a2 := (hSw.c.blk 0 rfl).cell (i := 2) rfl; have a3 := (hSw.c.blk 0 rfl).cell (i := 3) rfl; have b0 := (hSw.c.blk 1 rfl).cell (i := 0) rfl; have b1 := (hSw.c.blk 1 rfl).cell (i := 1) rfl; have b2 := (hSw.c.blk 1 rfl).cell (i := 2) rfl; have b3 := (hSw.c.blk 1 rfl).cell (i := 3) rfl; have q0 := hSw.m.q.b.cell (i := 0) rfl; have q1 := hSw.m.q.b.cell (i := 1) rfl; have q2 := hSw.m.q.b.cell (i := 2) rfl; have q3 := hSw.m.q.b.cell (i := 3) rfl; clear hSw; go_simp; try with_reducible rfl)
          simp only [List.getElem_toArray, List.getElem_cons_zero, List.getElem_cons_succ, Act.put, List.setIfInBounds_toArray, List.set_cons_zero, List.set_cons_succ]
          refine wpAnyH_take (i := 37) (v := ?v38) rfl (by kernel_rfl) (by kernel_rfl) (by kernel_rfl) (fun _ _ _ h => h) (Or.inl ⟨by rfl, ?y38⟩) hHeld ?r38
          case y38 => (intro w hSw; have a0 := (hSw.c.blk 0 rfl).cell (i := 0) rfl; have a1 := (hSw.c.blk 0 rfl).cell (i := 1) rfl; have a2 := (hSw.c.blk 0 rfl).cell (i := 2) rfl; have a3 := (hSw.c.blk 0 rfl).cell (i := 3) rfl; have b0 := (hSw.c.blk 1 rfl).cell (i := 0) rfl; have b1 := (hSw.c.blk 1 rfl).cell (i := 1) rfl; have b2 := (hSw.c.blk 1 rfl).cell (i := 2) rfl; have b3 := (hSw.c.blk 1 rfl).cell (i := 3) rfl; have q0 := hSw.m.q.b.cell (i := 0) rfl; have q1 := hSw.m.q.b.cell (i := 1) rfl; have q2 := hSw.m.q.b.cell (i := 2) rfl; have q3 := hSw.m.q.b.cell (i := 3) rfl; clear hSw; go_simp; try with_reducible rfl)
          simp only [List.getElem_toArray, List.getElem_cons_zero, List.getElem_cons_succ, Act.put, List.setIfInBounds_toArray, List.set_cons_zero, List.set_cons_succ]
          refine wpAnyH_take (i := 38) (v := ?v39) rfl (by kernel_rfl) (by kernel_rfl) (by kernel_rfl) (fun _ _ _ h => h) (Or.inl ⟨by rfl, ?y39⟩) hHeld ?r39
          case y39 => (intro w hSw; have a0 := (hSw.c.blk 0 rfl).cell (i := 0) rfl; have a1 := (hSw.c.blk 0 rfl).cell (i := 1) rfl; have a2 := (hSw.c.blk 0 rfl).cell (i := 2) rfl; have a3 := (hSw.c.blk 0 rfl).cell (i := 3) rfl; have b0 := (hSw.c.blk 1 rfl).cell (i := 0) rfl; have b1 := (hSw.c.blk 1 rfl).cell (i := 1) rfl; have b2 := (hSw.c.blk 1 rfl).cell (i := 2) rfl; have b3 := (hSw.c.blk 1 rfl).cell (i := 3) rfl; have q0 := hSw.m.q.b.cell (i := 0) rfl; have q1 := hSw.m.q.b.cell (i := 1) rfl; have q2 := hSw.m.q.b.cell (i := 2) rfl; have q3 := hSw.m.q.b.cell (i := 3) rfl; clear hSw; go_simp; try with_reducible rfl)
          simp only [List.getElem_toArray, List.getElem_cons_zero, List.getElem_cons_succ, Act.put, List.setIfInBounds_toArray, List.set_cons_zero, List.set_cons_succ]
          refine wpAnyH_take (i := 39) (v := undef) rfl (by kernel_rfl) (by kernel_rfl) (by kernel_rfl) (fun _ _ _ h => h) (Or.inr ⟨by rfl, rfl⟩) hHeld ?_
          simp only [List.getElem_toArray, List.getElem_cons_zero, List.getElem_cons_succ, Act.put, List.setIfInBounds_toArray, List.set_cons_zero, List.set_cons_succ]
          refine wpAnyH_take (i := 40) (v := undef) rfl (by kernel_rfl) (by kernel_rfl) (by kernel_rfl) (fun _ _ _ h => h) (Or.inr ⟨by rfl, rfl⟩) hHeld ?_
          simp only [List.getElem_toArray, List.getElem_cons_zero, List.getElem_cons_succ, Act.put, List.setIfInBounds_toArray, List.set_cons_zero, List.set_cons_succ]
          refine wpAnyH_take (i := 41) (v := undef) rfl (by kernel_rfl) (by kernel_rfl) (by kernel_rfl) (fun _ _ _ h => h) (Or.inr ⟨by rfl, rfl⟩) hHeld ?_
          simp only [List.getElem_toArray, List.getElem_cons_zero, List.getElem_cons_succ, Act.put, List.setIfInBounds_toArray, List.set_cons_zero, List.set_cons_succ]
          refine wpAnyH_take (i := 42) (v := undef) rfl (by kernel_rfl) (by kernel_rfl) (by kernel_rfl) (fun _ _ _ h => h) (Or.inr ⟨by rfl, rfl⟩) hHeld ?_
          simp only [List.getElem_toArray, List.getElem_cons_zero, List.getElem_cons_succ, Act.put, List.setIfInBounds_toArray, List.set_cons_zero, List.set_cons_succ]
          refine wpAnyH_take (i := 43) (v := undef) rfl (by kernel_rfl) (by kernel_rfl) (by kernel_rfl) (fun _ _ _ h => h) (Or.inr ⟨by rfl, rfl⟩) hHeld ?_
          simp only [List.getElem_toArray, List.getElem_cons_zero, List.getElem_cons_succ, Act.put, List.setIfInBounds_toArray, List.set_cons_zero, List.set_cons_succ]
          refine wpAnyH_take (i := 44) (v := undef) rfl (by kernel_rfl) (by kernel_rfl) (by kernel_rfl) (fun _ _ _ h => h) (Or.inr ⟨by rfl, rfl⟩) hHeld ?_
          simp only [List.getElem_toArray, List.getElem_cons_zero, List.getElem_cons_succ, Act.put, List.setIfInBounds_toArray, List.set_cons_zero, List.set_cons_succ]
          refine wpAnyH_take (i := 45) (v := undef) rfl (by kernel_rfl) (by kernel_rfl) (by kernel_rfl) (fun _ _ _ h => h) (Or.inr ⟨by rfl, rfl⟩) hHeld ?_
          simp only [List.getElem_toArray, List.getElem_cons_zero, List.getElem_cons_succ, Act.put, List.setIfInBounds_toArray, List.set_cons_zero, List.set_cons_succ]
          refine wpAnyH_take (i := 46) (v := undef) rfl (by kernel_rfl) (by kernel_rfl) (by kernel_rfl) (fun _ _ _ h => h) (Or.inr ⟨by rfl, rfl⟩) hHeld ?_
          simp only [List.getElem_toArray, List.getElem_cons_zero, List.getElem_cons_succ, Act.put, List.setIfInBounds_toArray, List.set_cons_zero, List.set_cons_succ]
          refine wpAnyH_take (i := 47) (v := undef) rfl (by kernel_rfl) (by kernel_rfl) (by kernel_rfl) (fun _ _ _ h => h) (Or.inr ⟨by rfl, rfl⟩) hHeld ?_
          simp only [List.getElem_toArray, List.getElem_cons_zero, List.getElem_cons_succ, Act.put, List.setIfInBounds_toArray, List.set_cons_zero, List.set_cons_succ]
          refine wpAnyH_take (i := 48) (v := ?v49) rfl (by kernel_rfl) (by kernel_rfl) (by kernel_rfl) (fun _ _ _ h => h) (Or.inl ⟨by rfl, ?y49⟩) hHeld ?r49
          case y49 => (intro w hSw; have a0 := (hSw.c.blk 0 rfl).cell (i := 0) rfl; have a1 := (hSw.c.blk 0 rfl).cell (i := 1) rfl; have a2 := (hSw.c.blk 0 rfl).cell (i := 2) rfl; have a3 := (hSw.c.blk 0 rfl).cell (i := 3) rfl; have b0 := (hSw.c.blk 1 rfl).cell (i := 0) rfl; have b1 := (hSw.c.blk 1 rfl).cell (i := 1) rfl; have b2 := (hSw.c.blk 1 rfl).cell (i := 2) rfl; have b3 := (hSw.c.blk 1 rfl).cell (i := 3) rfl; have q0 := hSw.m.q.b.cell (i := 0) rfl; have q1 := hSw.m.q.b.cell (i := 1) rfl; have q2 := hSw.m.q.b.cell (i := 2) rfl; have q3 := hSw.m.q.b.cell (i := 3) rfl; clear hSw; go_simp; try with_reducible rfl)
          simp only [List.getElem_toArray, List.getElem_cons_zero, List.getElem_cons_succ, Act.put, List.setIfInBounds_toArray, List.set_cons_zero, List.set_cons_succ]
          refine wpAnyH_take (i := 49) (v := ?v50) rfl (by kernel_rfl) (by kernel_rfl) (by kernel_rfl) (fun _ _ _ h => h) (Or.inl ⟨by rfl, ?y50⟩) hHeld ?r50
          case y50 => (intro w hSw; have a0 := (hSw.c.blk 0 rfl).cell (i := 0) rfl; have a1 := (hSw.c.blk 0 rfl).cell (i := 1) rfl; have a2 := (hSw.c.blk 0 rfl).cell (i := 2) rfl; have a3 := (hSw.c.blk 0 rfl).cell (i := 3) rfl; have b0 := (hSw.c.blk 1 rfl).cell (i := 0) rfl; have b1 := (hSw.c.blk 1 rfl).cell (i := 1) rfl; have b2 := (hSw.c.blk 1 rfl).cell (i := 2) rfl; have b3 := (hSw.c.blk 1 rfl).cell (i := 3) rfl; have q0 := hSw.m.q.b.cell (i := 0) rfl; have q1 := hSw.m.q.b.cell (i := 1) rfl; have q2 := hSw.m.q.b.cell (i := 2) rfl; have q3 := hSw.m.q.b.cell (i := 3) rfl; clear hSw; go_simp; try with_reducible rfl)
          simp only [List.getElem_toArray, List.getElem_cons_zero, List.getElem_cons_succ, Act.put, List.setIfInBounds_toArray, List.set_cons_zero, List.set_cons_succ]
          refine wpAnyH_take (i := 50) (v := ?v51) rfl (by kernel_rfl) (by kernel_rfl) (by kernel_rfl) (fun _ _ _ h => h) (Or.inl ⟨by rfl, ?y51⟩) hHeld ?r51
          case y51 => (intro w hSw; have a0 := (hSw.c.blk 0 rfl).cell (i := 0) rfl; have a1 := (hSw.c.blk 0 rfl).cell (i := 1) rfl; have a2 := (hSw.c.blk 0 rfl).cell (i := 2) rfl; have a3 := (hSw.c.blk 0 rfl).cell (i := 3) rfl; have b0 := (hSw.c.blk 1 rfl).cell (i := 0) rfl; have b1 := (hSw.c.blk 1 rfl).cell (i := 1) rfl; have b2 := (hSw.c.blk 1 rfl).cell (i := 2) rfl; have b3 := (hSw.c.blk 1 rfl).cell (i := 3) rfl; have q0 := hSw.m.q.b.cell (i := 0) rfl; have q1 := hSw.m.q.b.cell (i := 1) rfl; have q2 := hSw.m.q.b.cell (i := 2) rfl; have q3 := hSw.m.q.b.cell (i := 3) rfl; clear hSw; go_simp; try with_reducible rfl)
          simp only [List.getElem_toArray, List.getElem_cons_zero, List.getElem_cons_succ, Act.put, List.setIfInBounds_toArray, List.set_cons_zero, List.set_cons_succ]
          refine wpAnyH_take (i := 51) (v := ?v52) rfl (by kernel_rfl) (by kernel_rfl) (by kernel_rfl) (fun _ _ _ h => h) (Or.inl ⟨by rfl, ?y52⟩) hHeld ?r52
          case y52 => (intro w hSw; have a0 := (hSw.c.blk 0 rfl).cell (i := 0) rfl; have a1 := (hSw.c.blk 0 rfl).cell (i := 1) rfl; have a2 := (hSw.c.blk 0 rfl).cell (i := 2) rfl; have a3 := (hSw.c.blk 0 rfl).cell (i := 3) rfl; have b0 := (hSw.c.blk 1 rfl).cell (i := 0) rfl; have b1 := (hSw.c.blk 1 rfl).cell (i := 1) rfl; have b2 := (hSw.c.blk 1 rfl).cell (i := 2) rfl; have b3 := (hSw.c.blk 1 rfl).cell (i := 3) rfl; have q0 := hSw.m.q.b.cell (i := 0) rfl; have q1 := hSw.m.q.b.cell (i := 1) rfl; have q2 := hSw.m.q.b.cell (i := 2) rfl; have q3 := hSw.m.q.b.cell (i := 3) rfl; clear hSw; go_simp; try with_reducible rfl)
          simp only [List.getElem_toArray, List.getElem_cons_zero, List.getElem_cons_succ, Act.put, List.setIfInBounds_toArray, List.set_cons_zero, List.set_cons_succ]
          refine wpAnyH_take (i := 52) (v := ?v53) rfl (by kernel_rfl) (by kernel_rfl) (by kernel_rfl) (fun _ _ _ h => h) (Or.inl ⟨by rfl, ?y53⟩) hHeld ?r53
          case y53 => (intro w hSw; have a0 := (hSw.c.blk 0 rfl).cell (i := 0) rfl; have a1 := (hSw.c.blk 0 rfl).cell (i := 1) rfl; have a2 := (hSw.c.blk 0 rfl).cell (i := 2) rfl; have a3 := (hSw.c.blk 0 rfl).cell (i := 3) rfl; have b0 := (hSw.c.blk 1 rfl).cell (i := 0) rfl; have b1 := (hSw.c.blk 1 rfl).cell (i := 1) rfl; have b2 := (hSw.c.blk 1 rfl).cell (i := 2) rfl; have b3 := (hSw.c.blk 1 rfl).cell (i := 3) rfl; have q0 := hSw.m.q.b.cell (i := 0) rfl; have q1 := hSw.m.q.b.cell (i := 1) rfl; have q2 := hSw.m.q.b.cell (i := 2) rfl; have q3 := hSw.m.q.b.cell (i := 3) rfl; clear hSw; go_simp; try with_reducible rfl)
          simp only [List.getElem_toArray, List.getElem_cons_zero, List.getElem_cons_succ, Act.put, List.setIfInBounds_toArray, List.set_cons_zero, List.set_cons_succ]
          refine wpAnyH_take (i := 53) (v := ?v54) rfl (by kernel_rfl) (by kernel_rfl) (by kernel_rfl) (fun _ _ _ h => h) (Or.inl ⟨by rfl, ?y54⟩) hHeld ?r54
          case y54 => (intro w hSw; have a0 := (hSw.c.blk 0 rfl).cell (i := 0) rfl; have a1 := (hSw.c.blk 0 rfl).cell (i := 1) rfl; have a2 := (hSw.c.blk 0 rfl).cell (i := 2) rfl; have a3 := (hSw.c.blk 0 rfl).cell (i := 3) rfl; have b0 := (hSw.c.blk 1 rfl).cell (i := 0) rfl; have b1 := (hSw.c.blk 1 rfl).cell (i := 1) rfl; have b2 := (hSw.c.blk 1 rfl).cell (i := 2) rfl; have b3 := (hSw.c.blk 1 rfl).cell (i := 3) rfl; have q0 := hSw.m.q.b.cell (i := 0) rfl; have q1 := hSw.m.q.b.cell (i := 1) rfl; have q2 := hSw.m.q.b.cell (i := 2) rfl; have q3 := hSw.m.q.b.cell (i := 3) rfl; clear hSw; go_simp; try with_reducible rfl)
          simp only [List.getElem_toArray, List.getElem_cons_zero, List.getElem_cons_succ, Act.put, List.setIfInBounds_toArray, List.set_cons_zero, List.set_cons_succ]
          refine wpAnyH_take (i := 54) (v := ?v55) rfl (by kernel_rfl) (by kernel_rfl) (by kernel_rfl) (fun _ _ _ h => h) (Or.inl ⟨by rfl, ?y55⟩) hHeld ?r55
          case y55 => (intro w hSw; have a0 := (hSw.c.blk 0 rfl).cell (i := 0) rfl; have a1 := (hSw.c.blk 0 rfl).cell (i := 1) rfl; have a2 := (hSw.c.blk 0 rfl).cell (i := 2) rfl; have a3 := (hSw.c.blk 0 rfl).cell (i := 3) rfl; have b0 := (hSw.c.blk 1 rfl).cell (i := 0) rfl; have b1 := (hSw.c.blk 1 rfl).cell (i := 1) rfl; have b2 := (hSw.c.blk 1 rfl).cell (i := 2) rfl; have b3 := (hSw.c.blk 1 rfl).cell (i := 3) rfl; have q0 := hSw.m.q.b.cell (i := 0) rfl; have q1 := hSw.m.q.b.cell (i := 1) rfl; have q2 := hSw.m.q.b.cell (i := 2) rfl; have q3 := hSw.m.q.b.cell (i := 3) rfl; clear hSw; go_simp; try with_reducible rfl)
          simp only [List.getElem_toArray, List.getElem_cons_zero, List.getElem_cons_succ, Act.put, List.setIfInBounds_toArray, List.set_cons_zero, List.set_cons_succ]
          refine wpAnyH_take (i := 55) (v := ?v56) rfl (by kernel_rfl) (by kernel_rfl) (by kernel_rfl) (fun _ _ _ h => h) (Or.inl ⟨by rfl, ?y56⟩) hHeld ?r56
          case y56 => (intro w hSw; have a0 := (hSw.c.blk 0 rfl).cell (i := 0) rfl; have a1 := (hSw.c.blk 0 rfl).cell (i := 1) rfl; have a2 := (hSw.c.blk 0 rfl).cell (i := 2) rfl; have a3 := (hSw.c.blk 0 rfl).cell (i := 3) rfl; have b0 := (hSw.c.blk 1 rfl).cell (i := 0) rfl; have b1 := (hSw.c.blk 1 rfl).cell (i := 1) rfl; have b2 := (hSw.c.blk 1 rfl).cell (i := 2) rfl; have b3 := (hSw.c.blk 1 rfl).cell (i := 3) rfl; have q0 := hSw.m.q.b.cell (i := 0) rfl; have q1 := hSw.m.q.b.cell (i := 1) rfl; have q2 := hSw.m.q.b.cell (i := 2) rfl; have q3 := hSw.m.q.b.cell (i := 3) rfl; clear hSw; go_simp; try with_reducible rfl)
          simp only [List.getElem_toArray, List.getElem_cons_zero, List.getElem_cons_succ, Act.put, List.setIfInBounds_toArray, List.set_cons_zero, List.set_cons_succ]
          refine wpAnyH_done (by kernel_rfl) ?_ _
          clear hHeld
          go_wp2_with fail
          go_roundw
          case rel => exact HR.out _ X6.out.m
          case measure => simp [intOf]; omega
        | succ j =>
          as_aux_lemma =>
          obtain ⟨vb, vc, rfl, _⟩ := HM5.out.m.q.shape
          rw [seg_cons] at HM5 HR
          have hj : (j : Int) ≤ 15 := by have := Hc16.out; omega
          have hCe : (((j + 1 : Nat) : Int)) = (j : Int) + 1 := by push_cast; rfl
          rw [hCe] at HC
          clear hCe
          have kk : (((j : Int) + 1) != ((j : Int) + 1)) = false := by simp
          have kz : decide ((0 : Int) < (j : Int) + 1) = true := decide_eq_true (by omega)
          refine wp_region_held_drew (S := S29 w cb w5.heap.size qb r n2 g2 l2 N D (j + 1) (N :: seg (N + 1) j) (.slice (some ⟨vb, 0, none⟩) (j + 1) vc)) (by kernel_rfl) (HM5.out.drew) (fun hHeld => ?_)
          refine wpAnyH_take (i := 0) (v := ?v57) rfl (by kernel_rfl) (by kernel_rfl) (by kernel_rfl) (fun _ _ _ h => h) (Or.inl ⟨by rfl, ?y57⟩) hHeld ?r57
          case y57 => (intro w hSw; have a0 := (hSw.c.blk 0 rfl).cell (i := 0) rfl; have a1 := (hSw.c.blk 0 rfl).cell (i := 1) rfl; have a2 := (hSw.c.blk 0 rfl).cell (i := 2) rfl; have a3 := (hSw.c.blk 0 rfl).cell (i := 3) rfl; have b0 := (hSw.c.blk 1 rfl).cell (i := 0) rfl; have b1 := (hSw.c.blk 1 rfl).cell (i := 1) rfl; have b2 := (hSw.c.blk 1 rfl).cell (i := 2) rfl; have b3 := (hSw.c.blk 1 rfl).cell (i := 3) rfl; have q0 := hSw.m.q.b.cell (i := 0) rfl; have q1 := hSw.m.q.b.cell (i := 1) rfl; have q2 := hSw.m.q.b.cell (i := 2) rfl; have q3 := hSw.m.q.b.cell (i := 3) rfl; have z0 := hSw.m.q.first; clear hSw; go_simp; try with_reducible rfl)
          simp only [List.getElem_toArray, List.getElem_cons_zero, Act.put, List.setIfInBounds_toArray, List.set_cons_zero, List.set_cons_succ]
          refine wpAnyH_take (i := 1) (v := ?v58) rfl (by kernel_rfl) (by kernel_rfl) (by kernel_rfl) (fun _ _ _ h => h) (Or.inl ⟨by rfl, ?y58⟩) hHeld ?r58
          case y58 => (intro w hSw; have a0 := (hSw.c.blk 0 rfl).cell (i := 0) rfl; have a1 := (hSw.c.blk 0 rfl).cell (i := 1) rfl; have a2 := (hSw.c.blk 0 rfl).cell (i := 2) rfl; have a3 := (hSw.c.blk 0 rfl).cell (i := 3) rfl; have b0 := (hSw.c.blk 1 rfl).cell (i := 0) rfl; have b1 := (hSw.c.blk 1 rfl).cell (i := 1) rfl; have b2 := (hSw.c.blk 1 rfl).cell (i := 2) rfl; have b3 := (hSw.c.blk 1 rfl).cell (i := 3) rfl; have q0 := hSw.m.q.b.cell (i := 0) rfl; have q1 := hSw.m.q.b.cell (i := 1) rfl; have q2 := hSw.m.q.b.cell (i := 2) rfl; have q3 := hSw.m.q.b.cell (i := 3) rfl; have z0 := hSw.m.q.first; clear hSw; go_simp; try with_reducible rfl)
          simp only [List.getElem_toArray, List.getElem_cons_zero, List.getElem_cons_succ, Act.put, List.setIfInBounds_toArray, List.set_cons_zero, List.set_cons_succ]
          refine wpAnyH_take (i := 2) (v := ?v59) rfl (by kernel_rfl) (by kernel_rfl) (by kernel_rfl) (fun _ _ _ h => h) (Or.inl ⟨by rfl, ?y59⟩) hHeld ?r59
          case y59 => (intro w hSw; have a0 := (hSw.c.blk 0 rfl).cell (i := 0) rfl; have a1 := (hSw.c.blk 0 rfl).cell (i := 1) rfl; have a2 := (hSw.c.blk 0 rfl).cell (i := 2) rfl; have a3 := (hSw.c.blk 0 rfl).cell (i := 3) rfl; have b0 := (hSw.c.blk 1 rfl).cell (i := 0) rfl; have b1 := (hSw.c.blk 1 rfl).cell (i := 1) rfl; have b2 := (hSw.c.blk 1 rfl).cell (i := 2) rfl; have b3 := (hSw.c.blk 1 rfl).cell (i := 3) rfl; have q0 := hSw.m.q.b.cell (i := 0) rfl; have q1 := hSw.m.q.b.cell (i := 1) rfl; have q2 := hSw.m.q.b.cell (i := 2) rfl; have q3 := hSw.m.q.b.cell (i := 3) rfl; have z0 := hSw.m.q.first; clear hSw; go_simp; try with_reducible rfl)
          simp only [List.getElem_toArray, List.getElem_cons_zero, List.getElem_cons_succ, Act.put, List.setIfInBounds_toArray, List.set_cons_zero, List.set_cons_succ]
          refine wpAnyH_take (i := 3) (v := ?v60) rfl (by kernel_rfl) (by kernel_rfl) (by kernel_rfl) (fun _ _ _ h => h) (Or.inl ⟨by rfl, ?y60⟩) hHeld ?r60
          case y60 => (intro w hSw; have a0 := (hSw.c.blk 0 rfl).cell (i := 0) rfl; have a1 := (hSw.c.blk 0 rfl).cell (i := 1) rfl; have a2 := (hSw.c.blk 0 rfl).cell (i := 2) rfl; have a3 := (hSw.c.blk 0 rfl).cell (i := 3) rfl; have b0 := (hSw.c.blk 1 rfl).cell (i := 0) rfl; have b1 := (hSw.c.blk 1 rfl).cell (i := 1) rfl; have b2 := (hSw.c.blk 1 rfl).cell (i := 2) rfl; have b3 := (hSw.c.blk 1 rfl).cell (i := 3) rfl; have q0 := hSw.m.q.b.cell (i := 0) rfl; have q1 := hSw.m.q.b.cell (i := 1) rfl; have q2 := hSw.m.q.b.cell (i := 2) rfl; have q3 := hSw.m.q.b.cell (i := 3) rfl; have z0 := hSw.m.q.first; clear hSw; go_simp; try with_reducible rfl)
          simp only [List.getElem_toArray, List.getElem_cons_zero, List.getElem_cons_succ, Act.put, List.setIfInBounds_toArray, List.set_cons_zero, List.set_cons_succ]
          refine wpAnyH_take (i := 4) (v := ?v61) rfl (by kernel_rfl) (by kernel_rfl) (by kernel_rfl) (fun _ _ _ h => h) (Or.inl ⟨by rfl, ?y61⟩) hHeld ?r61
          case y61 => (intro w hSw; have a0 := (hSw.c.blk 0 rfl).cell (i := 0) rfl; have a1 := (hSw.c.blk 0 rfl).cell (i := 1) rfl; have a2 := (hSw.c.blk 0 rfl).cell (i := 2) rfl; have a3 := (hSw.c.blk 0 rfl).cell (i := 3) rfl; have b0 := (hSw.c.blk 1 rfl).cell (i := 0) rfl; have b1 := (hSw.c.blk 1 rfl).cell (i := 1) rfl; have b2 := (hSw.c.blk 1 rfl).cell (i := 2) rfl; have b3 := (hSw.c.blk 1 rfl).cell (i := 3) rfl; have q0 := hSw.m.q.b.cell (i := 0) rfl; have q1 := hSw.m.q.b.cell (i := 1) rfl; have q2 := hSw.m.q.b.cell (i := 2) rfl; have q3 := hSw.m.q.b.cell (i := 3) rfl; have z0 := hSw.m.q.first; clear hSw; go_simp; try with_reducible rfl)
          simp only [List.getElem_toArray, List.getElem_cons_zero, List.getElem_cons_succ, Act.put, List.setIfInBounds_toArray, List.set_cons_zero, List.set_cons_succ]
          refine wpAnyH_take (i := 6) (v := ?v62) rfl (by kernel_rfl) (by kernel_rfl) (by kernel_rfl) (fun _ _ _ h => h) (Or.inl ⟨by rfl, ?y62⟩) hHeld ?r62
          case y62 => (intro w hSw; have a0 := (hSw.c.blk 0 rfl).cell (i := 0) rfl; have a1 := (hSw.c.blk 0 rfl).cell (i := 1) rfl; have a2 := (hSw.c.blk 0 rfl).cell (i := 2) rfl; have a3 := (hSw.c.blk 0 rfl).cell (i := 3) rfl; have b0 := (hSw.c.blk 1 rfl).cell (i := 0) rfl; have b1 := (hSw.c.blk 1 rfl).cell (i := 1) rfl; have b2 := (hSw.c.blk 1 rfl).cell (i := 2) rfl; have b3 := (hSw.c.blk 1 rfl).cell (i := 3) rfl; have q0 := hSw.m.q.b.cell (i := 0) rfl; have q1 := hSw.m.q.b.cell (i := 1) rfl; have q2 := hSw.m.q.b.cell (i := 2) rfl; have q3 := hSw.m.q.b.cell (i := 3) rfl; have z0 := hSw.m.q.first; clear hSw; go_simp; try with_reducible rfl)
          simp only [List.getElem_toArray, List.getElem_cons_zero, List.getElem_cons_succ, Act.put, List.setIfInBounds_toArray, List.set_cons_zero, List.set_cons_succ]
          refine wpAnyH_take (i := 7) (v := ?v63) rfl (by kernel_rfl) (by kernel_rfl) (by kernel_rfl) (fun _ _ _ h => h) (Or.inl ⟨by rfl, ?y63⟩) hHeld ?r63
          case y63 => (intro w hSw; have a0 := (hSw.c.blk 0 rfl).cell (i := 0) rfl; have a1 := (hSw.c.blk 0 rfl).cell (i := 1) rfl; have a2 := (hSw.c.blk 0 rfl).cell (i := 2) rfl; have a3 := (hSw.c.blk 0 rfl).cell (i := 3) rfl; have b0 := (hSw.c.blk 1 rfl).cell (i := 0) rfl; have b1 := (hSw.c.blk 1 rfl).cell (i := 1) rfl; have b2 := (hSw.c.blk 1 rfl).cell (i := 2) rfl; have b3 := (hSw.c.blk 1 rfl).cell (i := 3) rfl; have q0 := hSw.m.q.b.cell (i := 0) rfl; have q1 := hSw.m.q.b.cell (i := 1) rfl; have q2 := hSw.m.q.b.cell (i := 2) rfl; have q3 := hSw.m.q.b.cell (i := 3) rfl; have z0 := hSw.m.q.first; clear hSw; go_simp; try with_reducible rfl)
          simp only [List.getElem_toArray, List.getElem_cons_zero, List.getElem_cons_succ, Act.put, List.setIfInBounds_toArray, List.set_cons_zero, List.set_cons_succ]
          refine wpAnyH_take (i := 8) (v := ?v64) rfl (by kernel_rfl) (by kernel_rfl) (by kernel_rfl) (fun _ _ _ h => h) (Or.inl ⟨by rfl, ?y64⟩) hHeld ?r64
          case y64 => (intro w hSw; have a0 := (hSw.c.blk 0 rfl).cell (i := 0) rfl; have a1 := (hSw.c.blk 0 rfl).cell (i := 1) rfl; have a2 := (hSw.c.blk 0 rfl).cell (i := 2) rfl; have a3 := (hSw.c.blk 0 rfl).cell (i := 3) rfl; have b0 := (hSw.c.blk 1 rfl).cell (i := 0) rfl; have b1 := (hSw.c.blk 1 rfl).cell (i := 1) rfl; have b2 := (hSw.c.blk 1 rfl).cell (i := 2) rfl; have b3 := (hSw.c.blk 1 rfl).cell (i := 3) rfl; have q0 := hSw.m.q.b.cell (i := 0) rfl; have q1 := hSw.m.q.b.cell (i := 1) rfl; have q2 := hSw.m.q.b.cell (i := 2) rfl; have q3 := hSw.m.q.b.cell (i := 3) rfl; have z0 := hSw.m.q.first; clear hSw; go_simp; try with_reducible rfl)
          simp only [List.getElem_toArray, List.getElem_cons_zero, List.getElem_cons_succ, Act.put, List.setIfInBounds_toArray, List.set_cons_zero, List.set_cons_succ]
          refine wpAnyH_take (i := 9) (v := ?v65) rfl (by kernel_rfl) (by kernel_rfl) (by kernel_rfl) (fun _ _ _ h => h) (Or.inl ⟨by rfl, ?y65⟩) hHeld ?r65
          case y65 => (intro w hSw; have a0 := (hSw.c.blk 0 rfl).cell (i := 0) rfl; have a1 := (hSw.c.blk 0 rfl).cell (i := 1) rfl; have a2 := (hSw.c.blk 0 rfl).cell (i := 2) rfl; have a3 := (hSw.c.blk 0 rfl).cell (i := 3) rfl; have b0 := (hSw.c.blk 1 rfl).cell (i := 0) rfl; have b1 := (hSw.c.blk 1 rfl).cell (i := 1) rfl; have b2 := (hSw.c.blk 1 rfl).cell (i := 2) rfl; have b3 := (hSw.c.blk 1 rfl).cell (i := 3) rfl; have q0 := hSw.m.q.b.cell (i := 0) rfl; have q1 := hSw.m.q.b.cell (i := 1) rfl; have q2 := hSw.m.q.b.cell (i := 2) rfl; have q3 := hSw.m.q.b.cell (i := 3) rfl; have z0 := hSw.m.q.first; clear hSw; go_simp; try with_reducible rfl)
          simp only [List.getElem_toArray, List.getElem_cons_zero, List.getElem_cons_succ, Act.put, List.setIfInBounds_toArray, List.set_cons_zero, List.set_cons_succ]
          refine wpAnyH_take (i := 10) (v := ?v66) rfl (by kernel_rfl) (by kernel_rfl) (by kernel_rfl) (fun _ _ _ h => h) (Or.inl ⟨by rfl, ?y66⟩) hHeld ?r66
          case y66 => (intro w hSw; have a0 := (hSw.c.blk 0 rfl).cell (i := 0) rfl; have a1 := (hSw.c.blk 0 rfl).cell (i := 1) rfl; have a2 := (hSw.c.blk 0 rfl).cell (i := 2) rfl; have a3 := (hSw.c.blk 0 rfl).cell (i := 3) rfl; have b0 := (hSw.c.blk 1 rfl).cell (i := 0) rfl; have b1 := (hSw.c.blk 1 rfl).cell (i := 1) rfl; have b2 := (hSw.c.blk 1 rfl).cell (i := 2) rfl; have b3 := (hSw.c.blk 1 rfl).cell (i := 3) rfl; have q0 := hSw.m.q.b.cell (i := 0) rfl; have q1 := hSw.m.q.b.cell (i := 1) rfl; have q2 := hSw.m.q.b.cell (i := 2) rfl; have q3 := hSw.m.q.b.cell (i := 3) rfl; have z0 := hSw.m.q.first; clear hSw; go_simp; try with_reducible rfl)
          simp only [List.getElem_toArray, List.getElem_cons_zero, List.getElem_cons_succ, Act.put, List.setIfInBounds_toArray, List.set_cons_zero, List.set_cons_succ]
          refine wpAnyH_ready (rs := [5]) (by kernel_rfl) (by simp) (AllReadyH.cons rfl (fun K hK => ?_) AllReadyH.nil)
          go_simp
          refine (HC.out _).mono ?_
          rintro e w6 ⟨rfl, hb⟩
          have X6 := Lib.hid (S29.next hHeld hb)
          clear hb
          go_wp2_with fail
          refine hK.out _ _ (X6.out) (fun hHeld => ?_)
          clear hK K
          refine wpAnyH_take (i := 11) (v := ?v68) rfl (by kernel_rfl) (by kernel_rfl) (by kernel_rfl) (fun _ _ _ h => h) (Or.inl ⟨by rfl, ?y68⟩) hHeld ?r68
          case y68 => (intro w hSw; have a0 := (hSw.c.blk 0 rfl).cell (i := 0) rfl; have a1 := (hSw.c.blk 0 rfl).cell (i := 1) rfl; have a2 := (hSw.c.blk 0 rfl).cell (i := 2) rfl; have a3 := (hSw.c.blk 0 rfl).cell (i := 3) rfl; have b0 := (hSw.c.blk 1 rfl).cell (i := 0) rfl; have b1 := (hSw.c.blk 1 rfl).cell (i := 1) rfl; have b2 := (hSw.c.blk 1 rfl).cell (i := 2) rfl; have b3 := (hSw.c.blk 1 rfl).cell (i := 3) rfl; have q0 := hSw.m.q.b.cell (i := 0) rfl; have q1 := hSw.m.q.b.cell (i := 1) rfl; have q2 := hSw.m.q.b.cell (i := 2) rfl; have q3 := hSw.m.q.b.cell (i := 3) rfl; have z0 := hSw.m.q.first; clear hSw; go_simp; try with_reducible rfl)
          simp only [List.getElem_toArray, List.getElem_cons_zero, List.getElem_cons_succ, Act.put, List.setIfInBounds_toArray, List.set_cons_zero, List.set_cons_succ]
          refine wpAnyH_take (i := 12) (v := ?v69) rfl (by kernel_rfl) (by kernel_rfl) (by kernel_rfl) (fun _ _ _ h => h) (Or.inl ⟨by rfl, ?y69⟩) hHeld ?r69
          case y69 => (intro w hSw; have a0 := (hSw.c.blk 0 rfl).cell (i := 0) rfl; have a1 := (hSw.c.blk 0 rfl).cell (i := 1) rfl; have a2 := (hSw.c.blk 0 rfl).cell (i := 2) rfl; have a3 := (hSw.c.blk 0 rfl).cell (i := 3) rfl; have b0 := (hSw.c.blk 1 rfl).cell (i := 0) rfl; have b1 := (hSw.c.blk 1 rfl).cell (i := 1) rfl; have b2 := (hSw.c.blk 1 rfl).cell (i := 2) rfl; have b3 := (hSw.c.blk 1 rfl).cell (i := 3) rfl; have q0 := hSw.m.q.b.cell (i := 0) rfl; have q1 := hSw.m.q.b.cell (i := 1) rfl; have q2 := hSw.m.q.b.cell (i := 2) rfl; have q3 := hSw.m.q.b.cell (i := 3) rfl; have z0 := hSw.m.q.first; clear hSw; go_simp; try with_reducible rfl)
          simp only [List.getElem_toArray, List.getElem_cons_zero, List.getElem_cons_succ, Act.put, List.setIfInBounds_toArray, List.set_cons_zero, List.set_cons_succ]
          refine wpAnyH_take (i := 13) (v := ?v70) rfl (by kernel_rfl) (by kernel_rfl) (by kernel_rfl) (fun _ _ _ h => h) (Or.inl ⟨by rfl, ?y70⟩) hHeld ?r70
          case y70 => (intro w hSw; have a0 := (hSw.c.blk 0 rfl).cell (i := 0) rfl; have a1 := (hSw.c.blk 0 rfl).cell (i := 1) rfl; have a2 := (hSw.c.blk 0 rfl).cell (i := 2) rfl; have a3 := (hSw.c.blk 0 rfl).cell (i := 3) rfl; have b0 := (hSw.c.blk 1 rfl).cell (i := 0) rfl; have b1 := (hSw.c.blk 1 rfl).cell (i := 1) rfl; have b2 := (hSw.c.blk 1 rfl).cell (i := 2) rfl; have b3 := (hSw.c.blk 1 rfl).cell (i := 3) rfl; have q0 := hSw.m.q.b.cell (i := 0) rfl; have q1 := hSw.m.q.b.cell (i := 1) rfl; have q2 := hSw.m.q.b.cell (i := 2) rfl; have q3 := hSw.m.q.b.cell (i := 3) rfl; have z0 := hSw.m.q.first; clear hSw; go_simp; try with_reducible rfl)
          simp only [List.getElem_toArray, List.getElem_cons_zero, List.getElem_cons_succ, Act.put, List.setIfInBounds_toArray, List.set_cons_zero, List.set_cons_succ]
          refine wpAnyH_take (i := 14) (v := ?v71) rfl (by kernel_rfl) (by kernel_rfl) (by kernel_rfl) (fun _ _ _ h => h) (Or.inl ⟨by rfl, ?y71⟩) hHeld ?r71
          case y71 => (intro w hSw; have a0 := (hSw.c.blk 0 rfl).cell (i := 0) rfl; have a1 := (hSw.c.blk 0 rfl).cell (i := 1) rfl; have a2 := (hSw.c.blk 0 rfl).cell (i := 2) rfl; have a3 := (hSw.c.blk 0 rfl).cell (i := 3) rfl; have b0 := (hSw.c.blk 1 rfl).cell (i := 0) rfl; have b1 := (hSw.c.blk 1 rfl).cell (i := 1) rfl; have b2 := (hSw.c.blk 1 rfl).cell (i := 2) rfl; have b3 := (hSw.c.blk 1 rfl).cell (i := 3) rfl; have q0 := hSw.m.q.b.cell (i := 0) rfl; have q1 := hSw.m.q.b.cell (i := 1) rfl; have q2 := hSw.m.q.b.cell (i := 2) rfl; have q3 := hSw.m.q.b.cell (i := 3) rfl; have z0 := hSw.m.q.first; clear hSw; go_simp; try with_reducible rfl)
          simp only [List.getElem_toArray, List.getElem_cons_zero, List.getElem_cons_succ, Act.put, List.setIfInBounds_toArray, List.set_cons_zero, List.set_cons_succ]
          refine wpAnyH_take (i := 15) (v := ?v72) rfl (by kernel_rfl) (by kernel_rfl) (by kernel_rfl) (fun _ _ _ h => h) (Or.inl ⟨by rfl, ?y72⟩) hHeld ?r72
          case y72 => (intro w hSw; have a0 := (hSw.c.blk 0 rfl).cell (i := 0) rfl; have a1 := (hSw.c.blk 0 rfl).cell (i := 1) rfl; have a2 := (hSw.c.blk 0 rfl).cell (i := 2) rfl; have a3 := (hSw.c.blk 0 rfl).cell (i := 3) rfl; have b0 := (hSw.c.blk 1 rfl).cell (i := 0) rfl; have b1 := (hSw.c.blk 1 rfl).cell (i := 1) rfl; have b2 := (hSw.c.blk 1 rfl).cell (i := 2) rfl; have b3 := (hSw.c.blk 1 rfl).cell (i := 3) rfl; have q0 := hSw.m.q.b.cell (i := 0) rfl; have q1 := hSw.m.q.b.cell (i := 1) rfl; have q2 := hSw.m.q.b.cell (i := 2) rfl; have q3 := hSw.m.q.b.cell (i := 3) rfl; have z0 := hSw.m.q.first; clear hSw; go_simp; try with_reducible rfl)
          simp only [List.getElem_toArray, List.getElem_cons_zero, List.getElem_cons_succ, Act.put, List.setIfInBounds_toArray, List.set_cons_zero, List.set_cons_succ]
          refine wpAnyH_take (i := 16) (v := ?v73) rfl (by kernel_rfl) (by kernel_rfl) (by kernel_rfl) (fun _ _ _ h => h) (Or.inl ⟨by rfl, ?y73⟩) hHeld ?r73
          case y73 => (intro w hSw; have a0 := (hSw.c.blk 0 rfl).cell (i := 0) rfl; have a1 := (hSw.c.blk 0 rfl).cell (i := 1) rfl; have a2 := (hSw.c.blk 0 rfl).cell (i := 2) rfl; have a3 := (hSw.c.blk 0 rfl).cell (i := 3) rfl; have b0 := (hSw.c.blk 1 rfl).cell (i := 0) rfl; have b1 := (hSw.c.blk 1 rfl).cell (i := 1) rfl; have b2 := (hSw.c.blk 1 rfl).cell (i := 2) rfl; have b3 := (hSw.c.blk 1 rfl).cell (i := 3) rfl; have q0 := hSw.m.q.b.cell (i := 0) rfl; have q1 := hSw.m.q.b.cell (i := 1) rfl; have q2 := hSw.m.q.b.cell (i := 2) rfl; have q3 := hSw.m.q.b.cell (i := 3) rfl; have z0 := hSw.m.q.first; clear hSw; go_simp; try with_reducible rfl)
          simp only [List.getElem_toArray, List.getElem_cons_zero, List.getElem_cons_succ, Act.put, List.setIfInBounds_toArray, List.set_cons_zero, List.set_cons_succ]
          refine wpAnyH_take (i := 17) (v := ?v74) rfl (by kernel_rfl) (by kernel_rfl) (by kernel_rfl) (fun _ _ _ h => h) (Or.inl ⟨by rfl, ?y74⟩) hHeld ?r74
          case y74 => (intro w hSw; have a0 := (hSw.c.blk 0 rfl).cell (i := 0) rfl; have a1 := (hSw.c.blk 0 rfl).cell (i := 1) rfl; have a2 := (hSw.c.blk 0 rfl).cell (i := 2) rfl; have a3 := (hSw.c.blk 0 rfl).cell (i := 3) rfl; have b0 := (hSw.c.blk 1 rfl).cell (i := 0) rfl; have b1 := (hSw.c.blk 1 rfl).cell (i := 1) rfl; have b2 := (hSw.c.blk 1 rfl).cell (i := 2) rfl; have b3 := (hSw.c.blk 1 rfl).cell (i := 3) rfl; have q0 := hSw.m.q.b.cell (i := 0) rfl; have q1 := hSw.m.q.b.cell (i := 1) rfl; have q2 := hSw.m.q.b.cell (i := 2) rfl; have q3 := hSw.m.q.b.cell (i := 3) rfl; have z0 := hSw.m.q.first; clear hSw; go_simp; try with_reducible rfl)
          simp only [List.getElem_toArray, List.getElem_cons_zero, List.getElem_cons_succ, Act.put, List.setIfInBounds_toArray, List.set_cons_zero, List.set_cons_succ]
          refine wpAnyH_take (i := 18) (v := ?v75) rfl (by kernel_rfl) (by kernel_rfl) (by kernel_rfl) (fun _ _ _ h => h) (Or.inl ⟨by rfl, ?y75⟩) hHeld ?r75
          case y75 => (intro w hSw; have a0 := (hSw.c.blk 0 rfl).cell (i := 0) rfl; have a1 := (hSw.c.blk 0 rfl).cell (i := 1) rfl; have a2 := (hSw.c.blk 0 rfl).cell (i := 2) rfl; have a3 := (hSw.c.blk 0 rfl).cell (i := 3) rfl; have b0 := (hSw.c.blk 1 rfl).cell (i := 0) rfl; have b1 := (hSw.c.blk 1 rfl).cell (i := 1) rfl; have b2 := (hSw.c.blk 1 rfl).cell (i := 2) rfl; have b3 := (hSw.c.blk 1 rfl).cell (i := 3) rfl; have q0 := hSw.m.q.b.cell (i := 0) rfl; have q1 := hSw.m.q.b.cell (i := 1) rfl; have q2 := hSw.m.q.b.cell (i := 2) rfl; have q3 := hSw.m.q.b.cell (i := 3) rfl; have z0 := hSw.m.q.first; clear hSw; go_simp; try with_reducible rfl)
          simp only [List.getElem_toArray, List.getElem_cons_zero, List.getElem_cons_succ, Act.put, List.setIfInBounds_toArray, List.set_cons_zero, List.set_cons_succ]
          refine wpAnyH_take (i := 19) (v := ?v76) rfl (by kernel_rfl) (by kernel_rfl) (by kernel_rfl) (fun _ _ _ h => h) (Or.inl ⟨by rfl, ?y76⟩) hHeld ?r76
          case y76 => (intro w hSw; have a0 := (hSw.c.blk 0 rfl).cell (i := 0) rfl; have a1 := (hSw.c.blk 0 rfl).cell (i := 1) rfl; have a2 := (hSw.c.blk 0 rfl).cell (i := 2) rfl; have a3 := (hSw.c.blk 0 rfl).cell (i := 3) rfl; have b0 := (hSw.c.blk 1 rfl).cell (i := 0) rfl; have b1 := (hSw.c.blk 1 rfl).cell (i := 1) rfl; have b2 := (hSw.c.blk 1 rfl).cell (i := 2) rfl; have b3 := (hSw.c.blk 1 rfl).cell (i := 3) rfl; have q0 := hSw.m.q.b.cell (i := 0) rfl; have q1 := hSw.m.q.b.cell (i := 1) rfl; have q2 := hSw.m.q.b.cell (i := 2) rfl; have q3 := hSw.m.q.b.cell (i := 3) rfl; have z0 := hSw.m.q.first; clear hSw; go_simp; try with_reducible rfl)
          simp only [List.getElem_toArray, List.getElem_cons_zero, List.getElem_cons_succ, Act.put, List.setIfInBounds_toArray, List.set_cons_zero, List.set_cons_succ]
          refine wpAnyH_take (i := 20) (v := ?v77) rfl (by kernel_rfl) (by kernel_rfl) (by kernel_rfl) (fun _ _ _ h => h) (Or.inl ⟨by rfl, ?y77⟩) hHeld ?r77
          case y77 => (intro w hSw; have a0 := (hSw.c.blk 0 rfl).cell (i := 0) rfl; have a1 := (hSw.c.blk 0 rfl).cell (i := 1) rfl; have a2 := (hSw.c.blk 0 rfl).cell (i := 2) rfl; have a3 := (hSw.c.blk 0 rfl).cell (i := 3) rfl; have b0 := (hSw.c.blk 1 rfl).cell (i := 0) rfl; have b1 := (hSw.c.blk 1 rfl).cell (i := 1) rfl; have b2 := (hSw.c.blk 1 rfl).cell (i := 2) rfl; have b3 := (hSw.c.blk 1 rfl).cell (i := 3) rfl; have q0 := hSw.m.q.b.cell (i := 0) rfl; have q1 := hSw.m.q.b.cell (i := 1) rfl; have q2 := hSw.m.q.b.cell (i := 2) rfl; have q3 := hSw.m.q.b.cell (i := 3) rfl; have z0 := hSw.m.q.first; clear hSw; go_simp; try with_reducible rfl)
          simp only [List.getElem_toArray, List.getElem_cons_zero, List.getElem_cons_succ, Act.put, List.setIfInBounds_toArray, List.set_cons_zero, List.set_cons_succ]
          refine wpAnyH_take (i := 21) (v := ?v78) rfl (by kernel_rfl) (by kernel_rfl) (by kernel_rfl) (fun _ _ _ h => h) (Or.inl ⟨by rfl, ?y78⟩) hHeld ?r78
          case y78 => (intro w hSw; have a0 := (hSw.c.blk 0 rfl).cell (i := 0) rfl; have a1 := (hSw.c.blk 0 rfl).cell (i := 1) rfl; have a2 := (hSw.c.blk 0 rfl).cell (i := 2) rfl; have a3 := (hSw.c.blk 0 rfl).cell (i := 3) rfl; have b0 := (hSw.c.blk 1 rfl).cell (i := 0) rfl; have b1 := (hSw.c.blk 1 rfl).cell (i := 1) rfl; have b2 := (hSw.c.blk 1 rfl).cell (i := 2) rfl; have b3 := (hSw.c.blk 1 rfl).cell (i := 3) rfl; have q0 := hSw.m.q.b.cell (i := 0) rfl; have q1 := hSw.m.q.b.cell (i := 1) rfl; have q2 := hSw.m.q.b.cell (i := 2) rfl; have q3 := hSw.m.q.b.cell (i := 3) rfl; have z0 := hSw.m.q.first; clear hSw; go_simp; try with_reducible rfl)
          simp only [List.getElem_toArray, List.getElem_cons_zero, List.getElem_cons_succ, Act.put, List.setIfInBounds_toArray, List.set_cons_zero, List.set_cons_succ]
          refine wpAnyH_take (i := 22) (v := ?v79) rfl (by kernel_rfl) (by kernel_rfl) (by kernel_rfl) (fun _ _ _ h => h) (Or.inl ⟨by rfl, ?y79⟩) hHeld ?r79
          case y79 => (intro w hSw; have a0 := (hSw.c.blk 0 rfl).cell (i := 0) rfl; have a1 := (hSw.c.blk 0 rfl).cell (i := 1) rfl; have a2 := (hSw.c.blk 0 rfl).cell (i := 2) rfl; have a3 := (hSw.c.blk 0 rfl).cell (i := 3) rfl; have b0 := (hSw.c.blk 1 rfl).cell (i := 0) rfl; have b1 := (hSw.c.blk 1 rfl).cell (i := 1) rfl; have b2 := (hSw.c.blk 1 rfl).cell (i := 2) rfl; have b3 := (hSw.c.blk 1 rfl).cell (i := 3) rfl; have q0 := hSw.m.q.b.cell (i := 0) rfl; have q1 := hSw.m.q.b.cell (i := 1) rfl; have q2 := hSw.m.q.b.cell (i := 2) rfl; have q3 := hSw.m.q.b.cell (i := 3) rfl; have z0 := hSw.m.q.first; clear hSw; go_simp; try with_reducible rfl)
          simp only [List.getElem_toArray, List.getElem_cons_zero, List.getElem_cons_succ, Act.put, List.setIfInBounds_toArray, List.set_cons_zero, List.set_cons_succ]
          refine wpAnyH_take (i := 23) (v := ?v80) rfl (by kernel_rfl) (by kernel_rfl) (by kernel_rfl) (fun _ _ _ h => h) (Or.inl ⟨by rfl, ?y80⟩) hHeld ?r80
          case y80 => (intro w hSw; have a0 := (hSw.c.blk 0 rfl).cell (i := 0) rfl; have a1 := (hSw.c.blk 0 rfl).cell (i := 1) rfl; have a2 := (hSw.c.blk 0 rfl).cell (i := 2) rfl; have a3 := (hSw.c.blk 0 rfl).cell (i := 3) rfl; have b0 := (hSw.c.blk 1 rfl).cell (i := 0) rfl; have b1 := (hSw.c.blk 1 rfl).cell (i := 1) rfl; have b2 := (hSw.c.blk 1 rfl).cell (i := 2) rfl; have b3 := (hSw.c.blk 1 rfl).cell (i := 3) rfl; have q0 := hSw.m.q.b.cell (i := 0) rfl; have q1 := hSw.m.q.b.cell (i := 1) rfl; have q2 := hSw.m.q.b.cell (i := 2) rfl; have q3 := hSw.m.q.b.cell (i := 3) rfl; have z0 := hSw.m.q.first; clear hSw; go_simp; try with_reducible rfl)
          simp only [List.getElem_toArray, List.getElem_cons_zero, List.getElem_cons_succ, Act.put, List.setIfInBounds_toArray, List.set_cons_zero, List.set_cons_succ]
          refine wpAnyH_take (i := 24) (v := ?v81) rfl (by kernel_rfl) (by kernel_rfl) (by kernel_rfl) (fun _ _ _ h => h) (Or.inl ⟨by rfl, ?y81⟩) hHeld ?r81
          case y81 => (intro w hSw; have a0 := (hSw.c.blk 0 rfl).cell (i := 0) rfl; have a1 := (hSw.c.blk 0 rfl).cell (i := 1) rfl; have a2 := (hSw.c.blk 0 rfl).cell (i := 2) rfl; have a3 := (hSw.c.blk 0 rfl).cell (i := 3) rfl; have b0 := (hSw.c.blk 1 rfl).cell (i := 0) rfl; have b1 := (hSw.c.blk 1 rfl).cell (i := 1) rfl; have b2 := (hSw.c.blk 1 rfl).cell (i := 2) rfl; have b3 := (hSw.c.blk 1 rfl).cell (i := 3) rfl; have q0 := hSw.m.q.b.cell (i := 0) rfl; have q1 := hSw.m.q.b.cell (i := 1) rfl; have q2 := hSw.m.q.b.cell (i := 2) rfl; have q3 := hSw.m.q.b.cell (i := 3) rfl; have z0 := hSw.m.q.first; clear hSw; go_simp; try with_reducible rfl)
          simp only [List.getElem_toArray, List.getElem_cons_zero, List.getElem_cons_succ, Act.put, List.setIfInBounds_toArray, List.set_cons_zero, List.set_cons_succ]
          refine wpAnyH_take (i := 25) (v := ?v82) rfl (by kernel_rfl) (by kernel_rfl) (by kernel_rfl) (fun _ _ _ h => h) (Or.inl ⟨by rfl, ?y82⟩) hHeld ?r82
          case y82 => (intro w hSw; have a0 := (hSw.c.blk 0 rfl).cell (i := 0) rfl; have a1 := (hSw.c.blk 0 rfl).cell (i := 1) rfl; have a2 := (hSw.c.blk 0 rfl).cell (i := 2) rfl; have a3 := (hSw.c.blk 0 rfl).cell (i := 3) rfl; have b0 := (hSw.c.blk 1 rfl).cell (i := 0) rfl; have b1 := (hSw.c.blk 1 rfl).cell (i := 1) rfl; have b2 := (hSw.c.blk 1 rfl).cell (i := 2) rfl; have b3 := (hSw.c.blk 1 rfl).cell (i := 3) rfl; have q0 := hSw.m.q.b.cell (i := 0) rfl; have q1 := hSw.m.q.b.cell (i := 1) rfl; have q2 := hSw.m.q.b.cell (i := 2) rfl; have q3 := hSw.m.q.b.cell (i := 3) rfl; have z0 := hSw.m.q.first; clear hSw; go_simp; try with_reducible rfl)
          simp only [List.getElem_toArray, List.getElem_cons_zero, List.getElem_cons_succ, Act.put, List.setIfInBounds_toArray, List.set_cons_zero, List.set_cons_succ]
          refine wpAnyH_take (i := 26) (v := ?v83) rfl (by kernel_rfl) (by kernel_rfl) (by kernel_rfl) (fun _ _ _ h => h) (Or.inl ⟨by rfl, ?y83⟩) hHeld ?r83
          case y83 => (intro w hSw; have a0 := (hSw.c.blk 0 rfl).cell (i := 0) rfl; have a1 := (hSw.c.blk 0 rfl).cell (i := 1) rfl; have a2 := (hSw.c.blk 0 rfl).cell (i := 2) rfl; have a3 := (hSw.c.blk 0 rfl).cell (i := 3) rfl; have b0 := (hSw.c.blk 1 rfl).cell (i := 0) rfl; have b1 := (hSw.c.blk 1 rfl).cell (i := 1) rfl; have b2 := (hSw.c.blk 1 rfl).cell (i := 2) rfl; have b3 := (hSw.c.blk 1 rfl).cell (i := 3) rfl; have q0 := hSw.m.q.b.cell (i := 0) rfl; have q1 := hSw.m.q.b.cell (i := 1) rfl; have q2 := hSw.m.q.b.cell (i := 2) rfl; have q3 := hSw.m.q.b.cell (i := 3) rfl; have z0 := hSw.m.q.first; clear hSw; go_simp; try with_reducible rfl)
          simp only [List.getElem_toArray, List.getElem_cons_zero, List.getElem_cons_succ, Act.put, List.setIfInBounds_toArray, List.set_cons_zero, List.set_cons_succ]
          refine wpAnyH_take (i := 27) (v := ?v84) rfl (by kernel_rfl) (by kernel_rfl) (by kernel_rfl) (fun _ _ _ h => h) (Or.inl ⟨by rfl, ?y84⟩) hHeld ?r84
          case y84 => (intro w hSw; have a0 := (hSw.c.blk 0 rfl).cell (i := 0) rfl; have a1 := (hSw.c.blk 0 rfl).cell (i := 1) rfl; have a2 := (hSw.c.blk 0 rfl).cell (i := 2) rfl; have a3 := (hSw.c.blk 0 rfl).cell (i := 3) rfl; have b0 := (hSw.c.blk 1 rfl).cell (i := 0) rfl; have b1 := (hSw.c.blk 1 rfl).cell (i := 1) rfl; have b2 := (hSw.c.blk 1 rfl).cell (i := 2) rfl; have b3 := (hSw.c.blk 1 rfl).cell (i := 3) rfl; have q0 := hSw.m.q.b.cell (i := 0) rfl; have q1 := hSw.m.q.b.cell (i := 1) rfl; have q2 := hSw.m.q.b.cell (i := 2) rfl; have q3 := hSw.m.q.b.cell (i := 3) rfl; have z0 := hSw.m.q.first; clear hSw; go_simp; try with_reducible rfl)
          simp only [List.getElem_toArray, List.getElem_cons_zero, List.getElem_cons_succ, Act.put, List.setIfInBounds_toArray, List.set_cons_zero, List.set_cons_succ]
          refine wpAnyH_take (i := 28) (v := ?v85) rfl (by kernel_rfl) (by kernel_rfl) (by kernel_rfl) (fun _ _ _ h => h) (Or.inl ⟨by rfl, ?y85⟩) hHeld ?r85
          case y85 => (intro w hSw; have a0 := (hSw.c.blk 0 rfl).cell (i := 0) rfl; have a1 := (hSw.c.blk 0 rfl).cell (i := 1) rfl; have a2 := (hSw.c.blk 0 rfl).cell (i := 2) rfl; have a3 := (hSw.c.blk 0 rfl).cell (i := 3) rfl; have b0 := (hSw.c.blk 1 rfl).cell (i := 0) rfl; have b1 := (hSw.c.blk 1 rfl).cell (i := 1) rfl; have b2 := (hSw.c.blk 1 rfl).cell (i := 2) rfl; have b3 := (hSw.c.blk 1 rfl).cell (i := 3) rfl; have q0 := hSw.m.q.b.cell (i := 0) rfl; have q1 := hSw.m.q.b.cell (i := 1) rfl; have q2 := hSw.m.q.b.cell (i := 2) rfl; have q3 := hSw.m.q.b.cell (i := 3) rfl; have z0 := hSw.m.q.first; clear hSw; go_simp; try with_reducible rfl)
          simp only [List.getElem_toArray, List.getElem_cons_zero, List.getElem_cons_succ, Act.put, List.setIfInBounds_toArray, List.set_cons_zero, List.set_cons_succ]
          refine wpAnyH_take (i := 29) (v := ?v86) rfl (by kernel_rfl) (by kernel_rfl) (by kernel_rfl) (fun _ _ _ h => h) (Or.inl ⟨by rfl, ?y86⟩) hHeld ?r86
          case y86 => (intro w hSw; have a0 := (hSw.c.blk 0 rfl).cell (i := 0) rfl; have a1 := (hSw.c.blk 0 rfl).cell (i := 1) rfl; have a2 := (hSw.c.blk 0 rfl).cell (i := 2) rfl; have a3 := (hSw.c.blk 0 rfl).cell (i := 3) rfl; have b0 := (hSw.c.blk 1 rfl).cell (i := 0) rfl; have b1 := (hSw.c.blk 1 rfl).cell (i := 1) rfl; have b2 := (hSw.c.blk 1 rfl).cell (i := 2) rfl; have b3 := (hSw.c.blk 1 rfl).cell (i := 3) rfl; have q0 := hSw.m.q.b.cell (i := 0) rfl; have q1 := hSw.m.q.b.cell (i := 1) rfl; have q2 := hSw.m.q.b.cell (i := 2) rfl; have q3 := hSw.m.q.b.cell (i := 3) rfl; have z0 := hSw.m.q.first; clear hSw; go_simp; try with_reducible rfl)
          simp only [List.getElem_toArray, List.getElem_cons_zero, List.getElem_cons_succ, Act.put, List.setIfInBounds_toArray, List.set_cons_zero, List.set_cons_succ]
          refine wpAnyH_take (i := 30) (v := ?v87) rfl (by kernel_rfl) (by kernel_rfl) (by kernel_rfl) (fun _ _ _ h => h) (Or.inl ⟨by rfl, ?y87⟩) hHeld ?r87
          case y87 => (intro w hSw; have a0 := (hSw.c.blk 0 rfl).cell (i := 0) rfl; have a1 := (hSw.c.blk 0 rfl).cell (i := 1) rfl; have a2 := (hSw.c.blk 0 rfl).cell (i := 2) rfl; have a3 := (hSw.c.blk 0 rfl).cell (i := 3) rfl; have b0 := (hSw.c.blk 1 rfl).cell (i := 0) rfl; have b1 := (hSw.c.blk 1 rfl).cell (i := 1) rfl; have b2 := (hSw.c.blk 1 rfl).cell (i := 2) rfl; have b3 := (hSw.c.blk 1 rfl).cell (i := 3) rfl; have q0 := hSw.m.q.b.cell (i := 0) rfl; have q1 := hSw.m.q.b.cell (i := 1) rfl; have q2 := hSw.m.q.b.cell (i := 2) rfl; have q3 := hSw.m.q.b.cell (i := 3) rfl; have z0 := hSw.m.q.first; clear hSw; go_simp; try with_reducible rfl)
          simp only [List.getElem_toArray, List.getElem_cons_zero, List.getElem_cons_succ, Act.put, List.setIfInBounds_toArray, List.set_cons_zero, List.set_cons_succ]
          refine wpAnyH_take (i := 31) (v := ?v88) rfl (by kernel_rfl) (by kernel_rfl) (by kernel_rfl) (fun _ _ _ h => h) (Or.inl ⟨by rfl, ?y88⟩) hHeld ?r88
          case y88 => (intro w hSw; have a0 := (hSw.c.blk 0 rfl).cell (i := 0) rfl; have a1 := (hSw.c.blk 0 rfl).cell (i := 1) rfl; have a2 := (hSw.c.blk 0 rfl).cell (i := 2) rfl; have a3 := (hSw.c.blk 0 rfl).cell (i := 3) rfl; have b0 := (hSw.c.blk 1 rfl).cell (i := 0) rfl; have b1 := (hSw.c.blk 1 rfl).cell (i := 1) rfl; have b2 := (hSw.c.blk 1 rfl).cell (i := 2) rfl; have b3 := (hSw.c.blk 1 rfl).cell (i := 3) rfl; have q0 := hSw.m.q.b.cell (i := 0) rfl; have q1 := hSw.m.q.b.cell (i := 1) rfl; have q2 := hSw.m.q.b.cell (i := 2) rfl; have q3 := hSw.m.q.b.cell (i := 3) rfl; have z0 := hSw.m.q.first; clear hSw; go_simp; try with_reducible rfl)
          simp only [List.getElem_toArray, List.getElem_cons_zero, List.getElem_cons_succ, Act.put, List.setIfInBounds_toArray, List.set_cons_zero, List.set_cons_succ]
          refine wpAnyH_take (i := 32) (v := ?v89) rfl (by kernel_rfl) (by kernel_rfl) (by kernel_rfl) (fun _ _ _ h => h) (Or.inl ⟨by rfl, ?y89⟩) hHeld ?r89
          case y89 => (intro w hSw; have a0 := (hSw.c.blk 0 rfl).cell (i := 0) rfl; have a1 := (hSw.c.blk 0 rfl).cell (i := 1) rfl; have a2 := (hSw.c.blk 0 rfl).cell (i := 2) rfl; have a3 := (hSw.c.blk 0 rfl).cell (i := 3) rfl; have b0 := (hSw.c.blk 1 rfl).cell (i := 0) rfl; have b1 := (hSw.c.blk 1 rfl).cell (i := 1) rfl; have b2 := (hSw.c.blk 1 rfl).cell (i := 2) rfl; have b3 := (hSw.c.blk 1 rfl).cell (i := 3) rfl; have q0 := hSw.m.q.b.cell (i := 0) rfl; have q1 := hSw.m.q.b.cell (i := 1) rfl; have q2 := hSw.m.q.b.cell (i := 2) rfl; have q3 := hSw.m.q.b.cell (i := 3) rfl; have z0 := hSw.m.q.first; clear hSw; go_simp; try with_reducible rfl)
          simp only [List.getElem_toArray, List.getElem_cons_zero, List.getElem_cons_succ, Act.put, List.setIfInBounds_toArray, List.set_cons_zero, List.set_cons_succ]
          refine wpAnyH_take (i := 33) (v := ?v90) rfl (by kernel_rfl) (by kernel_rfl) (by kernel_rfl) (fun _ _ _ h => h) (Or.inl ⟨by rfl, ?y90⟩) hHeld ?r90
          case y90 => (intro w hSw; have a0 := (hSw.c.blk 0 rfl).cell (i := 0) rfl; have a1 := (hSw.c.blk 0 rfl).cell (i := 1) rfl; have a2 := (hSw.c.blk 0 rfl).cell (i := 2) rfl; have a3 := (hSw.c.blk 0 rfl).cell (i := 3) rfl; have b0 := (hSw.c.blk 1 rfl).cell (i := 0) rfl; have b1 := (hSw.c.blk 1 rfl).cell (i := 1) rfl; have b2 := (hSw.c.blk 1 rfl).cell (i := 2) rfl; have b3 := (hSw.c.blk 1 rfl).cell (i := 3) rfl; have q0 := hSw.m.q.b.cell (i := 0) rfl; have q1 := hSw.m.q.b.cell (i := 1) rfl; have q2 := hSw.m.q.b.cell (i := 2) rfl; have q3 := hSw.m.q.b.cell (i := 3) rfl; have z0 := hSw.m.q.first; clear hSw; go_simp; try with_reducible rfl)
          simp only [List.getElem_toArray, List.getElem_cons_zero, List.getElem_cons_succ, Act.put, List.setIfInBounds_toArray, List.set_cons_zero, List.set_cons_succ]
          refine wpAnyH_take (i := 34) (v := ?v91) rfl (by kernel_rfl) (by kernel_rfl) (by kernel_rfl) (fun _ _ _ h => h) (Or.inl ⟨by rfl, ?y91⟩) hHeld ?r91
          case y91 => (intro w hSw; have a0 := (hSw.c.blk 0 rfl).cell (i := 0) rfl; have a1 := (hSw.c.blk 0 rfl).cell (i := 1) rfl; have a2 := (hSw.c.blk 0 rfl).cell (i := 2) rfl; have a3 := (hSw.c.blk 0 rfl).cell (i := 3) rfl; have b0 := (hSw.c.blk 1 rfl).cell (i := 0) rfl; have b1 := (hSw.c.blk 1 rfl).cell (i := 1) rfl; have b2 := (hSw.c.blk 1 rfl).cell (i := 2) rfl; have b3 := (hSw.c.blk 1 rfl).cell (i := 3) rfl; have q0 := hSw.m.q.b.cell (i := 0) rfl; have q1 := hSw.m.q.b.cell (i := 1) rfl; have q2 := hSw.m.q.b.cell (i := 2) rfl; have q3 := hSw.m.q.b.cell (i := 3) rfl; have z0 := hSw.m.q.first; clear hSw; go_simp; try with_reducible rfl)
          simp only [List.getElem_toArray, List.getElem_cons_zero, List.getElem_cons_succ, Act.put, List.setIfInBounds_toArray, List.set_cons_zero, List.set_cons_succ]
          refine wpAnyH_take (i := 35) (v := ?v92) rfl (by kernel_rfl) (by kernel_rfl) (by kernel_rfl) (fun _ _ _ h => h) (Or.inl ⟨by rfl, ?y92⟩) hHeld ?r92
          case y92 => (intro w hSw; have a0 := (hSw.c.blk 0 rfl).cell (i := 0) rfl; have a1 := (hSw.c.blk 0 rfl).cell (i := 1) rfl; have a2 := (hSw.c.blk 0 rfl).cell (i := 2) rfl; have a3 := (hSw.c.blk 0 rfl).cell (i := 3) rfl; have b0 := (hSw.c.blk 1 rfl).cell (i := 0) rfl; have b1 := (hSw.c.blk 1 rfl).cell (i := 1) rfl; have b2 := (hSw.c.blk 1 rfl).cell (i := 2) rfl; have b3 := (hSw.c.blk 1 rfl).cell (i := 3) rfl; have q0 := hSw.m.q.b.cell (i := 0) rfl; have q1 := hSw.m.q.b.cell (i := 1) rfl; have q2 := hSw.m.q.b.cell (i := 2) rfl; have q3 := hSw.m.q.b.cell (i := 3) rfl; have z0 := hSw.m.q.first; clear hSw; go_simp; try with_reducible rfl)
          simp only [List.getElem_toArray, List.getElem_cons_zero, List.getElem_cons_succ, Act.put, List.setIfInBounds_toArray, List.set_cons_zero, List.set_cons_succ]
          refine wpAnyH_take (i := 36) (v := ?v93) rfl (by kernel_rfl) (by kernel_rfl) (by kernel_rfl) (fun _ _ _ h => h) (Or.inl ⟨by rfl, ?y93⟩) hHeld ?r93
          case y93 => (intro w hSw; have a0 := (hSw.c.blk 0 rfl).cell (i := 0) rfl; have a1 := (hSw.c.blk 0 rfl).cell (i := 1) rfl; have a2 := (hSw.c.blk 0 rfl).cell (i := 2) rfl; have a3 := (hSw.c.blk 0 rfl).cell (i := 3) rfl; have b0 := (hSw.c.blk 1 rfl).cell (i := 0) rfl; have b1 := (hSw.c.blk 1 rfl).cell (i := 1) rfl; have b2 := (hSw.c.blk 1 rfl).cell (i := 2) rfl; have b3 := (hSw.c.blk 1 rfl).cell (i := 3) rfl; have q0 := hSw.m.q.b.cell (i := 0) rfl; have q1 := hSw.m.q.b.cell (i := 1) rfl; have q2 := hSw.m.q.b.cell (i := 2) rfl; have q3 := hSw.m.q.b.cell (i := 3) rfl; have z0 := hSw.m.q.first; clear hSw; go_simp; try with_reducible rfl)
          simp only [List.getElem_toArray, List.getElem_cons_zero, List.getElem_cons_succ, Act.put, List.setIfInBounds_toArray, List.set_cons_zero, List.set_cons_succ]
          refine wpAnyH_take (i := 37) (v := ?v94) rfl (by kernel_rfl) (by kernel_rfl) (by kernel_rfl) (fun _ _ _ h => h) (Or.inl ⟨by rfl, ?y94⟩) hHeld ?r94
          case y94 => (intro w hSw; have a0 := (hSw.c.blk 0 rfl).cell (i := 0) rfl; have a1 := (hSw.c.blk 0 rfl).cell (i := 1) rfl; have a2 := (hSw.c.blk 0 rfl).cell (i := 2) rfl; have a3 := (hSw.c.blk 0 rfl).cell (i := 3) rfl; have b0 := (hSw.c.blk 1 rfl).cell (i := 0) rfl; have b1 := (hSw.c.blk 1 rfl).cell (i := 1) rfl; have b2 := (hSw.c.blk 1 rfl).cell (i := 2) rfl; have b3 := (hSw.c.blk 1 rfl).cell (i := 3) rfl; have q0 := hSw.m.q.b.cell (i := 0) rfl; have q1 := hSw.m.q.b.cell (i := 1) rfl; have q2 := hSw.m.q.b.cell (i := 2) rfl; have q3 := hSw.m.q.b.cell (i := 3) rfl; have z0 := hSw.m.q.first; clear hSw; go_simp; try with_reducible rfl)
          simp only [List.getElem_toArray, List.getElem_cons_zero, List.getElem_cons_succ, Act.put, List.setIfInBounds_toArray, List.set_cons_zero, List.set_cons_succ]
          refine wpAnyH_take (i := 38) (v := ?v95) rfl (by kernel_rfl) (by kernel_rfl) (by kernel_rfl) (fun _ _ _ h => h) (Or.inl ⟨by rfl, ?y95⟩) hHeld ?r95
          case y95 => (intro w hSw; have a0 := (hSw.c.blk 0 rfl).cell (i := 0) rfl; have a1 := (hSw.c.blk 0 rfl).cell (i := 1) rfl; have a2 := (hSw.c.blk 0 rfl).cell (i := 2) rfl; have a3 := (hSw.c.blk 0 rfl).cell (i := 3) rfl; have b0 := (hSw.c.blk 1 rfl).cell (i := 0) rfl; have b1 := (hSw.c.blk 1 rfl).cell (i := 1) rfl; have b2 := (hSw.c.blk 1 rfl).cell (i := 2) rfl; have b3 := (hSw.c.blk 1 rfl).cell (i := 3) rfl; have q0 := hSw.m.q.b.cell (i := 0) rfl; have q1 := hSw.m.q.b.cell (i := 1) rfl; have q2 := hSw.m.q.b.cell (i := 2) rfl; have q3 := hSw.m.q.b.cell (i := 3) rfl; have z0 := hSw.m.q.first; clear hSw; go_simp; try with_reducible rfl)
          simp only [List.getElem_toArray, List.getElem_cons_zero, List.getElem_cons_succ, Act.put, List.setIfInBounds_toArray, List.set_cons_zero, List.set_cons_succ]
          refine wpAnyH_take (i := 39) (v := ?v96) rfl (by kernel_rfl) (by kernel_rfl) (by kernel_rfl) (fun _ _ _ h => h) (Or.inl ⟨by rfl, ?y96⟩) hHeld ?r96
          case y96 => (intro w hSw; have a0 := (hSw.c.blk 0 rfl).cell (i := 0) rfl; have a1 := (hSw.c.blk 0 rfl).cell (i := 1) rfl; have a2 := (hSw.c.blk 0 rfl).cell (i := 2) rfl; have a3 := (hSw.c.blk 0 rfl).cell (i := 3) rfl; have b0 := (hSw.c.blk 1 rfl).cell (i := 0) rfl; have b1 := (hSw.c.blk 1 rfl).cell (i := 1) rfl; have b2 := (hSw.c.blk 1 rfl).cell (i := 2) rfl; have b3 := (hSw.c.blk 1 rfl).cell (i := 3) rfl; have q0 := hSw.m.q.b.cell (i := 0) rfl; have q1 := hSw.m.q.b.cell (i := 1) rfl; have q2 := hSw.m.q.b.cell (i := 2) rfl; have q3 := hSw.m.q.b.cell (i := 3) rfl; have z0 := hSw.m.q.first; clear hSw; go_simp; try with_reducible rfl)
          simp only [List.getElem_toArray, List.getElem_cons_zero, List.getElem_cons_succ, Act.put, List.setIfInBounds_toArray, List.set_cons_zero, List.set_cons_succ]
          refine wpAnyH_take (i := 40) (v := ?v97) rfl (by kernel_rfl) (by kernel_rfl) (by kernel_rfl) (fun _ _ _ h => h) (Or.inl ⟨by rfl, ?y97⟩) hHeld ?r97
          case y97 => (intro w hSw; have a0 := (hSw.c.blk 0 rfl).cell (i := 0) rfl; have a1 := (hSw.c.blk 0 rfl).cell (i := 1) rfl; have a2 := (hSw.c.blk 0 rfl).cell (i := 2) rfl; have a3 := (hSw.c.blk 0 rfl).cell (i := 3) rfl; have b0 := (hSw.c.blk 1 rfl).cell (i := 0) rfl; have b1 := (hSw.c.blk 1 rfl).cell (i := 1) rfl; have b2 := (hSw.c.blk 1 rfl).cell (i := 2) rfl; have b3 := (hSw.c.blk 1 rfl).cell (i := 3) rfl; have q0 := hSw.m.q.b.cell (i := 0) rfl; have q1 := hSw.m.q.b.cell (i := 1) rfl; have q2 := hSw.m.q.b.cell (i := 2) rfl; have q3 := hSw.m.q.b.cell (i := 3) rfl; have z0 := hSw.m.q.first; clear hSw; go_simp; try with_reducible rfl)
          simp only [List.getElem_toArray, List.getElem_cons_zero, List.getElem_cons_succ, Act.put, List.setIfInBounds_toArray, List.set_cons_zero, List.set_cons_succ]
          refine wpAnyH_take (i := 41) (v := ?v98) rfl (by kernel_rfl) (by kernel_rfl) (by kernel_rfl) (fun _ _ _ h => h) (Or.inl ⟨by rfl, ?y98⟩) hHeld ?r98
          case y98 => (intro w hSw; have a0 := (hSw.c.blk 0 rfl).cell (i := 0) rfl; have a1 := (hSw.c.blk 0 rfl).cell (i := 1) rfl; have a2 := (hSw.c.blk 0 rfl).cell (i := 2) rfl; have a3 := (hSw.c.blk 0 rfl).cell (i := 3) rfl; have b0 := (hSw.c.blk 1 rfl).cell (i := 0) rfl; have b1 := (hSw.c.blk 1 rfl).cell (i := 1) rfl; have b2 := (hSw.c.blk 1 rfl).cell (i := 2) rfl; have b3 := (hSw.c.blk 1 rfl).cell (i := 3) rfl; have q0 := hSw.m.q.b.cell (i := 0) rfl; have q1 := hSw.m.q.b.cell (i := 1) rfl; have q2 := hSw.m.q.b.cell (i := 2) rfl; have q3 := hSw.m.q.b.cell (i := 3) rfl; have z0 := hSw.m.q.first; clear hSw; go_simp; try with_reducible rfl)
          simp only [List.getElem_toArray, List.getElem_cons_zero, List.getElem_cons_succ, Act.put, List.setIfInBounds_toArray, List.set_cons_zero, List.set_cons_succ]
          refine wpAnyH_take (i := 42) (v := ?v99) rfl (by kernel_rfl) (by kernel_rfl) (by kernel_rfl) (fun _ _ _ h => h) (Or.inl ⟨by rfl, ?y99⟩) hHeld ?r99
          case y99 => (intro w hSw; have a0 := (hSw.c.blk 0 rfl).cell (i := 0) rfl; have a1 := (hSw.c.blk 0 rfl).cell (i := 1) rfl; have a2 := (hSw.c.blk 0 rfl).cell (i := 2) rfl; have a3 := (hSw.c.blk 0 rfl).cell (i := 3) rfl; have b0 := (hSw.c.blk 1 rfl).cell (i := 0) rfl; have b1 := (hSw.c.blk 1 rfl).cell (i := 1) rfl; have b2 := (hSw.c.blk 1 rfl).cell (i := 2) rfl; have b3 := (hSw.c.blk 1 rfl).cell (i := 3) rfl; have q0 := hSw.m.q.b.cell (i := 0) rfl; have q1 := hSw.m.q.b.cell (i := 1) rfl; have q2 := hSw.m.q.b.cell (i := 2) rfl; have q3 := hSw.m.q.b.cell (i := 3) rfl; have z0 := hSw.m.q.first; clear hSw; go_simp; try with_reducible rfl)
          simp only [List.getElem_toArray, List.getElem_cons_zero, List.getElem_cons_succ, Act.put, List.setIfInBounds_toArray, List.set_cons_zero, List.set_cons_succ]
          refine wpAnyH_take (i := 43) (v := ?v100) rfl (by kernel_rfl) (by kernel_rfl) (by kernel_rfl) (fun _ _ _ h => h) (Or.inl ⟨by rfl, ?y100⟩) hHeld ?r100
          case y100 => (intro w hSw; have a0 := (hSw.c.blk 0 rfl).cell (i := 0) rfl; have a1 := (hSw.c.blk 0 rfl).cell (i := 1) rfl; have a2 := (hSw.c.blk 0 rfl).cell (i := 2) rfl; have a3 := (hSw.c.blk 0 rfl).cell (i := 3) rfl; have b0 := (hSw.c.blk 1 rfl).cell (i := 0) rfl; have b1 := (hSw.c.blk 1 rfl).cell (i := 1) rfl; have b2 := (hSw.c.blk 1 rfl).cell (i := 2) rfl; have b3 := (hSw.c.blk 1 rfl).cell (i := 3) rfl; have q0 := hSw.m.q.b.cell (i := 0) rfl; have q1 := hSw.m.q.b.cell (i := 1) rfl; have q2 := hSw.m.q.b.cell (i := 2) rfl; have q3 := hSw.m.q.b.cell (i := 3) rfl; have z0 := hSw.m.q.first; clear hSw; go_simp; try with_reducible rfl)
          simp only [List.getElem_toArray, List.getElem_cons_zero, List.getElem_cons_succ, Act.put, List.setIfInBounds_toArray, List.set_cons_zero, List.set_cons_succ]
          refine wpAnyH_take (i := 44) (v := ?v101) rfl (by kernel_rfl) (by kernel_rfl) (by kernel_rfl) (fun _ _ _ h => h) (Or.inl ⟨by rfl, ?y101⟩) hHeld ?r101
          case y101 => (intro w hSw; have a0 := (hSw.c.blk 0 rfl).cell (i := 0) rfl; have a1 := (hSw.c.blk 0 rfl).cell (i := 1) rfl; have a2 := (hSw.c.blk 0 rfl).cell (i := 2) rfl; have a3 := (hSw.c.blk 0 rfl).cell (i := 3) rfl; have b0 := (hSw.c.blk 1 rfl).cell (i := 0) rfl; have b1 := (hSw.c.blk 1 rfl).cell (i := 1) rfl; have b2 := (hSw.c.blk 1 rfl).cell (i := 2) rfl; have b3 := (hSw.c.blk 1 rfl).cell (i := 3) rfl; have q0 := hSw.m.q.b.cell (i := 0) rfl; have q1 := hSw.m.q.b.cell (i := 1) rfl; have q2 := hSw.m.q.b.cell (i := 2) rfl; have q3 := hSw.m.q.b.cell (i := 3) rfl; have z0 := hSw.m.q.first; clear hSw; go_simp; try with_reducible rfl)
          simp only [List.getElem_toArray, List.getElem_cons_zero, List.getElem_cons_succ, Act.put, List.setIfInBounds_toArray, List.set_cons_zero, List.set_cons_succ]
          refine wpAnyH_take (i := 45) (v := ?v102) rfl (by kernel_rfl) (by kernel_rfl) (by kernel_rfl) (fun _ _ _ h => h) (Or.inl ⟨by rfl, ?y102⟩) hHeld ?r102
          case y102 => (intro w hSw; have a0 := (hSw.c.blk 0 rfl).cell (i := 0) rfl; have a1 := (hSw.c.blk 0 rfl).cell (i := 1) rfl; have a2 := (hSw.c.blk 0 rfl).cell (i := 2) rfl; have a3 := (hSw.c.blk 0 rfl).cell (i := 3) rfl; have b0 := (hSw.c.blk 1 rfl).cell (i := 0) rfl; have b1 := (hSw.c.blk 1 rfl).cell (i := 1) rfl; have b2 := (hSw.c.blk 1 rfl).cell (i := 2) rfl; have b3 := (hSw.c.blk 1 rfl).cell (i := 3) rfl; have q0 := hSw.m.q.b.cell (i := 0) rfl; have q1 := hSw.m.q.b.cell (i := 1) rfl; have q2 := hSw.m.q.b.cell (i := 2) rfl; have q3 := hSw.m.q.b.cell (i := 3) rfl; have z0 := hSw.m.q.first; clear hSw; go_simp; try with_reducible rfl)
          simp only [List.getElem_toArray, List.getElem_cons_zero, List.getElem_cons_succ, Act.put, List.setIfInBounds_toArray, List.set_cons_zero, List.set_cons_succ]
          refine wpAnyH_take (i := 46) (v := ?v103) rfl (by kernel_rfl) (by kernel_rfl) (by kernel_rfl) (fun _ _ _ h => h) (Or.inl ⟨by rfl, ?y103⟩) hHeld ?r103
          case y103 => (intro w hSw; have a0 := (hSw.c.blk 0 rfl).cell (i := 0) rfl; have a1 := (hSw.c.blk 0 rfl).cell (i := 1) rfl; have a2 := (hSw.c.blk 0 rfl).cell (i := 2) rfl; have a3 := (hSw.c.blk 0 rfl).cell (i := 3) rfl; have b0 := (hSw.c.blk 1 rfl).cell (i := 0) rfl; have b1 := (hSw.c.blk 1 rfl).cell (i := 1) rfl; have b2 := (hSw.c.blk 1 rfl).cell (i := 2) rfl; have b3 := (hSw.c.blk 1 rfl).cell (i := 3) rfl; have q0 := hSw.m.q.b.cell (i := 0) rfl; have q1 := hSw.m.q.b.cell (i := 1) rfl; have q2 := hSw.m.q.b.cell (i := 2) rfl; have q3 := hSw.m.q.b.cell (i := 3) rfl; have z0 := hSw.m.q.first; clear hSw; go_simp; try with_reducible rfl)
          simp only [List.getElem_toArray, List.getElem_cons_zero, List.getElem_cons_succ, Act.put, List.setIfInBounds_toArray, List.set_cons_zero, List.set_cons_succ]
          refine wpAnyH_take (i := 47) (v := ?v104) rfl (by kernel_rfl) (by kernel_rfl) (by kernel_rfl) (fun _ _ _ h => h) (Or.inl ⟨by rfl, ?y104⟩) hHeld ?r104
          case y104 => (intro w hSw; have a0 := (hSw.c.blk 0 rfl).cell (i := 0) rfl; have a1 := (hSw.c.blk 0 rfl).cell (i := 1) rfl; have a2 := (hSw.c.blk 0 rfl).cell (i := 2) rfl; have a3 := (hSw.c.blk 0 rfl).cell (i := 3) rfl; have b0 := (hSw.c.blk 1 rfl).cell (i := 0) rfl; have b1 := (hSw.c.blk 1 rfl).cell (i := 1) rfl; have b2 := (hSw.c.blk 1 rfl).cell (i := 2) rfl; have b3 := (hSw.c.blk 1 rfl).cell (i := 3) rfl; have q0 := hSw.m.q.b.cell (i := 0) rfl; have q1 := hSw.m.q.b.cell (i := 1) rfl; have q2 := hSw.m.q.b.cell (i := 2) rfl; have q3 := hSw.m.q.b.cell (i := 3) rfl; have z0 := hSw.m.q.first; clear hSw; go_simp; try with_reducible rfl)
          simp only [List.getElem_toArray, List.getElem_cons_zero, List.getElem_cons_succ, Act.put, List.setIfInBounds_toArray, List.set_cons_zero, List.set_cons_succ]
          refine wpAnyH_take (i := 48) (v := ?v105) rfl (by kernel_rfl) (by kernel_rfl) (by kernel_rfl) (fun _ _ _ h => h) (Or.inl ⟨by rfl, ?y105⟩) hHeld ?r105
          case y105 => (intro w hSw; have a0 := (hSw.c.blk 0 rfl).cell (i := 0) rfl; have a1 := (hSw.c.blk 0 rfl).cell (i := 1) rfl; have a2 := (hSw.c.blk 0 rfl).cell (i := 2) rfl; have a3 := (hSw.c.blk 0 rfl).cell (i := 3) rfl; have b0 := (hSw.c.blk 1 rfl).cell (i := 0) rfl; have b1 := (hSw.c.blk 1 rfl).cell (i := 1) rfl; have b2 := (hSw.c.blk 1 rfl).cell (i := 2) rfl; have b3 := (hSw.c.blk 1 rfl).cell (i := 3) rfl; have q0 := hSw.m.q.b.cell (i := 0) rfl; have q1 := hSw.m.q.b.cell (i := 1) rfl; have q2 := hSw.m.q.b.cell (i := 2) rfl; have q3 := hSw.m.q.b.cell (i := 3) rfl; have z0 := hSw.m.q.first; clear hSw; go_simp; try with_reducible rfl)
          simp only [List.getElem_toArray, List.getElem_cons_zero, List.getElem_cons_succ, Act.put, List.setIfInBounds_toArray, List.set_cons_zero, List.set_cons_succ]
          refine wpAnyH_take (i := 49) (v := ?v106) rfl (by kernel_rfl) (by kernel_rfl) (by kernel_rfl) (fun _ _ _ h => h) (Or.inl ⟨by rfl, ?y106⟩) hHeld ?r106
          case y106 => (intro w hSw; have a0 := (hSw.c.blk 0 rfl).cell (i := 0) rfl; have a1 := (hSw.c.blk 0 rfl).cell (i := 1) rfl; have a2 := (hSw.c.blk 0 rfl).cell (i := 2) rfl; have a3 := (hSw.c.blk 0 rfl).cell (i := 3) rfl; have b0 := (hSw.c.blk 1 rfl).cell (i := 0) rfl; have b1 := (hSw.c.blk 1 rfl).cell (i := 1) rfl; have b2 := (hSw.c.blk 1 rfl).cell (i := 2) rfl; have b3 := (hSw.c.blk 1 rfl).cell (i := 3) rfl; have q0 := hSw.m.q.b.cell (i := 0) rfl; have q1 := hSw.m.q.b.cell (i := 1) rfl; have q2 := hSw.m.q.b.cell (i := 2) rfl; have q3 := hSw.m.q.b.cell (i := 3) rfl; have z0 := hSw.m.q.first; clear hSw; go_simp; try with_reducible rfl)
          simp only [List.getElem_toArray, List.getElem_cons_zero, List.getElem_cons_succ, Act.put, List.setIfInBounds_toArray, List.set_cons_zero, List.set_cons_succ]
          refine wpAnyH_take (i := 50) (v := ?v107) rfl (by kernel_rfl) (by kernel_rfl) (by kernel_rfl) (fun _ _ _ h => h) (Or.inl ⟨by rfl, ?y107⟩) hHeld ?r107
          case y107 => (intro w hSw; have a0 := (hSw.c.blk 0 rfl).cell (i := 0) rfl; have a1 := (hSw.c.blk 0 rfl).cell (i := 1) rfl; have a2 := (hSw.c.blk 0 rfl).cell (i := 2) rfl; have a3 := (hSw.c.blk 0 rfl).cell (i := 3) rfl; have b0 := (hSw.c.blk 1 rfl).cell (i := 0) rfl; have b1 := (hSw.c.blk 1 rfl).cell (i := 1) rfl; have b2 := (hSw.c.blk 1 rfl).cell (i := 2) rfl; have b3 := (hSw.c.blk 1 rfl).cell (i := 3) rfl; have q0 := hSw.m.q.b.cell (i := 0) rfl; have q1 := hSw.m.q.b.cell (i := 1) rfl; have q2 := hSw.m.q.b.cell (i := 2) rfl; have q3 := hSw.m.q.b.cell (i := 3) rfl; have z0 := hSw.m.q.first; clear hSw; go_simp; try with_reducible rfl)
          simp only [List.getElem_toArray, List.getElem_cons_zero, List.getElem_cons_succ, Act.put, List.setIfInBounds_toArray, List.set_cons_zero, List.set_cons_succ]
          refine wpAnyH_take (i := 51) (v := ?v108) rfl (by kernel_rfl) (by kernel_rfl) (by kernel_rfl) (fun _ _ _ h => h) (Or.inl ⟨by rfl, ?y108⟩) hHeld ?r108
          case y108 => (intro w hSw; have a0 := (hSw.c.blk 0 rfl).cell (i := 0) rfl; have a1 := (hSw.c.blk 0 rfl).cell (i := 1) rfl; have a2 := (hSw.c.blk 0 rfl).cell (i := 2) rfl; have a3 := (hSw.c.blk 0 rfl).cell (i := 3) rfl; have b0 := (hSw.c.blk 1 rfl).cell (i := 0) rfl; have b1 := (hSw.c.blk 1 rfl).cell (i := 1) rfl; have b2 := (hSw.c.blk 1 rfl).cell (i := 2) rfl; have b3 := (hSw.c.blk 1 rfl).cell (i := 3) rfl; have q0 := hSw.m.q.b.cell (i := 0) rfl; have q1 := hSw.m.q.b.cell (i := 1) rfl; have q2 := hSw.m.q.b.cell (i := 2) rfl; have q3 := hSw.m.q.b.cell (i := 3) rfl; have z0 := hSw.m.q.first; clear hSw; go_simp; try with_reducible rfl)
          simp only [List.getElem_toArray, List.getElem_cons_zero, List.getElem_cons_succ, Act.put, List.setIfInBounds_toArray, List.set_cons_zero, List.set_cons_succ]
          refine wpAnyH_take (i := 52) (v := ?v109) rfl (by kernel_rfl) (by kernel_rfl) (by kernel_rfl) (fun _ _ _ h => h) (Or.inl ⟨by rfl, ?y109⟩) hHeld ?r109
          case y109 => (intro w hSw; have a0 := (hSw.c.blk 0 rfl).cell (i := 0) rfl; have a1 := (hSw.c.blk 0 rfl).cell (i := 1) rfl; have a2 := (hSw.c.blk 0 rfl).cell (i := 2) rfl; have a3 := (hSw.c.blk 0 rfl).cell (i := 3) rfl; have b0 := (hSw.c.blk 1 rfl).cell (i := 0) rfl; have b1 := (hSw.c.blk 1 rfl).cell (i := 1) rfl; have b2 := (hSw.c.blk 1 rfl).cell (i := 2) rfl; have b3 := (hSw.c.blk 1 rfl).cell (i := 3) rfl; have q0 := hSw.m.q.b.cell (i := 0) rfl; have q1 := hSw.m.q.b.cell (i := 1) rfl; have q2 := hSw.m.q.b.cell (i := 2) rfl; have q3 := hSw.m.q.b.cell (i := 3) rfl; have z0 := hSw.m.q.first; clear hSw; go_simp; try with_reducible rfl)
          simp only [List.getElem_toArray, List.getElem_cons_zero, List.getElem_cons_succ, Act.put, List.setIfInBounds_toArray, List.set_cons_zero, List.set_cons_succ]
          refine wpAnyH_take (i := 53) (v := ?v110) rfl (by kernel_rfl) (by kernel_rfl) (by kernel_rfl) (fun _ _ _ h => h) (Or.inl ⟨by rfl, ?y110⟩) hHeld ?r110
          case y110 => (intro w hSw; have a0 := (hSw.c.blk 0 rfl).cell (i := 0) rfl; have a1 := (hSw.c.blk 0 rfl).cell (i := 1) rfl; have a2 := (hSw.c.blk 0 rfl).cell (i := 2) rfl; have a3 := (hSw.c.blk 0 rfl).cell (i := 3) rfl; have b0 := (hSw.c.blk 1 rfl).cell (i := 0) rfl; have b1 := (hSw.c.blk 1 rfl).cell (i := 1) rfl; have b2 := (hSw.c.blk 1 rfl).cell (i := 2) rfl; have b3 := (hSw.c.blk 1 rfl).cell (i := 3) rfl; have q0 := hSw.m.q.b.cell (i := 0) rfl; have q1 := hSw.m.q.b.cell (i := 1) rfl; have q2 := hSw.m.q.b.cell (i := 2) rfl; have q3 := hSw.m.q.b.cell (i := 3) rfl; have z0 := hSw.m.q.first; clear hSw; go_simp; try with_reducible rfl)
          simp only [List.getElem_toArray, List.getElem_cons_zero, List.getElem_cons_succ, Act.put, List.setIfInBounds_toArray, List.set_cons_zero, List.set_cons_succ]
          refine wpAnyH_take (i := 54) (v := ?v111) rfl (by kernel_rfl) (by kernel_rfl) (by kernel_rfl) (fun _ _ _ h => h) (Or.inl ⟨by rfl, ?y111⟩) hHeld ?r111
          case y111 => (intro w hSw; have a0 := (hSw.c.blk 0 rfl).cell (i := 0) rfl; have a1 := (hSw.c.blk 0 rfl).cell (i := 1) rfl; have a2 := (hSw.c.blk 0 rfl).cell (i := 2) rfl; have a3 := (hSw.c.blk 0 rfl).cell (i := 3) rfl; have b0 := (hSw.c.blk 1 rfl).cell (i := 0) rfl; have b1 := (hSw.c.blk 1 rfl).cell (i := 1) rfl; have b2 := (hSw.c.blk 1 rfl).cell (i := 2) rfl; have b3 := (hSw.c.blk 1 rfl).cell (i := 3) rfl; have q0 := hSw.m.q.b.cell (i := 0) rfl; have q1 := hSw.m.q.b.cell (i := 1) rfl; have q2 := hSw.m.q.b.cell (i := 2) rfl; have q3 := hSw.m.q.b.cell (i := 3) rfl; have z0 := hSw.m.q.first; clear hSw; go_simp; try with_reducible rfl)
          simp only [List.getElem_toArray, List.getElem_cons_zero, List.getElem_cons_succ, Act.put, List.setIfInBounds_toArray, List.set_cons_zero, List.set_cons_succ]
          refine wpAnyH_take (i := 55) (v := ?v112) rfl (by kernel_rfl) (by kernel_rfl) (by kernel_rfl) (fun _ _ _ h => h) (Or.inl ⟨by rfl, ?y112⟩) hHeld ?r112
          case y112 => (intro w hSw; have a0 := (hSw.c.blk 0 rfl).cell (i := 0) rfl; have a1 := (hSw.c.blk 0 rfl).cell (i := 1) rfl; have a2 := (hSw.c.blk 0 rfl).cell (i := 2) rfl; have a3 := (hSw.c.blk 0 rfl).cell (i := 3) rfl; have b0 := (hSw.c.blk 1 rfl).cell (i := 0) rfl; have b1 := (hSw.c.blk 1 rfl).cell (i := 1) rfl; have b2 := (hSw.c.blk 1 rfl).cell (i := 2) rfl; have b3 := (hSw.c.blk 1 rfl).cell (i := 3) rfl; have q0 := hSw.m.q.b.cell (i := 0) rfl; have q1 := hSw.m.q.b.cell (i := 1) rfl; have q2 := hSw.m.q.b.cell (i := 2) rfl; have q3 := hSw.m.q.b.cell (i := 3) rfl; have z0 := hSw.m.q.first; clear hSw; go_simp; try with_reducible rfl)
          simp only [List.getElem_toArray, List.getElem_cons_zero, List.getElem_cons_succ, Act.put, List.setIfInBounds_toArray, List.set_cons_zero, List.set_cons_succ]
          refine wpAnyH_done (by kernel_rfl) ?_ _
          clear hHeld
          go_wp2_with fail
          go_roundw
          case rel => exact HR.out _ X6.out.m
          case measure => simp [intOf]; omega
    · obtain rfl : k = m := by omega
      go_wp2_with fail
      refine (awake_any _).mono ?_
      rintro e w9 ⟨rfl, hb⟩
      have H9 := Lib.hid (HM.out.next hb)
      clear hb
      go_wp2
      go_ret
      exact ⟨rfl, H9.out.c.1⟩
end Go.Proofs.Ytkkkicinlghikaa
