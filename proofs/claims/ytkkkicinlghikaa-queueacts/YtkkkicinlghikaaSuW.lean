/- The walk of the law QueueSums. -/
import Derived.Test.YtkkkicinlghikaaSuM
import Derived.Deep.CutBlock
import Derived.Deep.DeepCutAuto
namespace Go.Proofs.Ytkkkicinlghikaa
open Go.RowKit

theorem Cs.put0 {w0 W : World} {b : Nat} {n c g l : Int} {L : List (Nat × Int × Int × Int × Int)} (h : Cs w0 ((b, n, c, g, l) :: L) W) (hb : w0.heap.size ≤ b) (hL : ∀ x ∈ L, x.1 ≠ b) (n' c' g' l' : Int) :
    Cs w0 ((b, n', c', g', l') :: L) ((((W.setCell ⟨b, 0, none⟩ (.int .u64 n')).setCell ⟨b, 1, none⟩ (.int .i64 c')).setCell ⟨b, 2, none⟩ (.int .u64 g')).setCell ⟨b, 3, none⟩ (.int .u64 l')) := by
  refine ⟨low4 h.1 hb _ _ _ _, fun j b2 n2 c2 g2 l2 k => ?_⟩
  cases j with
  | zero =>
    simp only [List.getElem?_cons_zero, Option.some.injEq, Prod.mk.injEq] at k
    obtain ⟨rfl, rfl, rfl, rfl, rfl⟩ := k
    exact put4 (h.blk 0 rfl) _ _ _ _
  | succ j =>
    rw [List.getElem?_cons_succ] at k
    have hne : b2 ≠ b := hL _ (List.mem_of_getElem? k)
    exact ((((h.blk (j + 1) (by rw [List.getElem?_cons_succ]; exact k)).setFar hne _).setFar hne _).setFar hne _).setFar hne _
/-- Only the first blocks. -/
theorem Cs.sub {w0 W : World} {L M : List (Nat × Int × Int × Int × Int)} (h : Cs w0 (L ++ M) W) : Cs w0 L W :=
  ⟨h.1, fun j b n c g l k => h.2 j b n c g l (by rw [List.getElem?_append_left (List.getElem?_eq_some_iff.1 k).1]; exact k)⟩
def SuRel (w : World) (cb : Nat) (r beg : Int) (m : Nat) (x la i : Value) (wr : World) : Prop :=
  ∃ (k : Nat) (x' la' n g ls : Int), i = .int .i64 k ∧ x = .int .u64 x' ∧ la = .int .u64 la' ∧ k ≤ m ∧ SuI r beg x' la' n g ls k ∧ Cs w [(cb, n, r, g, ls)] wr
def SuMid (w : World) (cb wb : Nat) (r beg n g ls : Int) (k : Nat) (d : Int) (x la : Value) (wx : World) : Prop :=
  ∃ (x2 la2 n2 g2 l2 : Int), x = .int .u64 x2 ∧ la = .int .u64 la2 ∧ SuI r beg x2 la2 n2 g2 l2 (k + 1) ∧ Cs w [(cb, n2, r, g2, l2), (wb, n, r, g, ls)] wx ∧ (l2 + lo n2 r x2 = ls ∨ d = 1 ∨ qd n2 r x2 = r)
attribute [local go_sem] eql27 neq27
set_option maxRecDepth 100000 in
set_option maxHeartbeats 4000000 in
theorem sums_ok (beg r : Int) (a : Option Addr) (cap : Nat) (l : List (Int × Int)) (w : World) (hA : Ats w.heap.size w a l) (hb0 : 0 ≤ beg) (hW : Whl beg l) (hr : 1 ≤ r) (hr2 : r ≤ 15) :
    Calls Try.prog 4 #[.int .u64 beg, .int .i64 r, .slice a l.length cap] w (Ret (.bool true) w) := by
  have HA := Lib.hid hA
  have HW := Lib.hid hW
  have hw := fun w (h : Ats w.heap.size w a l) => whole_any beg a cap l w h
  rw [whl_t hW] at hw
  have Hw := Lib.hid (hw w hA)
  have HN := Lib.hid (fun w => new_ok beg r ⟨hb0, by have := hW.1; omega⟩ ⟨hr, by omega⟩ w)
  have HI := Lib.hid (SuI.start (r := r) hb0 hW.1 hr (by omega))
  obtain ⟨m, hm⟩ : ∃ m, l.length = m := ⟨_, rfl⟩
  have Hm := Lib.hid hm
  have hm2 : (m : Int) ≤ 200 := by have := hW.2.1; omega
  have q0 : same4 0 0 0 0 0 0 0 0 = true := rfl
  rw [hm] at Hw ⊢
  have hbb : beg ≤ 9223372036854767806 := hW.1
  clear hw hA hW hm
  go_enter Try.func4, Try.ntmps4
  go_wp2_with fail
  refine Hw.out.mono ?_
  rintro e w' ⟨rfl, rfl⟩
  go_wp2_with fail
  refine (HN.out _).mono ?_
  rintro e w1 ⟨rfl, hb⟩
  have HC := Lib.hid (((Cs.nil w).next hb).new (beg + 1) r 0 0)
  have Hcb := Lib.hid (show w.heap.size ≤ w1.heap.size from hb.size)
  clear hb Hw HN
  go_wp2_with fail
  generalize w1.alloc (cuO (beg + 1) r 0 0) = W1 at HC ⊢
  generalize w1.heap.size = cb at *
  go_loopw [0, 10, 11] (fun x la i wr => SuRel w cb r beg m x la i wr) (fun _ _ i _ => m - (intOf i).toNat)
  case atStart => exact ⟨0, beg, beg, beg + 1, 0, 0, rfl, rfl, rfl, by omega, HI.out, HC.out⟩
  case round =>
    obtain ⟨k, x, la, n, g, ls, rfl, rfl, rfl, hk, hI, hM⟩ := hrel
    have HK := Lib.hid hI
    have HM := Lib.hid hM
    clear hI hM HI HC
    by_cases hlt : (k : Int) < m
    · obtain ⟨⟨d, y⟩, hak⟩ : ∃ a, l[k]? = some a := ⟨_, List.getElem?_eq_getElem (by have := Hm.out; omega)⟩
      have Hy := Lib.hid (show 0 ≤ y ∧ y ≤ 40 from HW.out.2.2 _ (List.mem_of_getElem? hak))
      have Hk := Lib.hid (show k < 200 by omega)
      obtain ⟨b, off, rfl, hbl, c0, c1⟩ := (HA.out.below HM.out.1) k _ hak
      have Hac := Lib.hid (show ∀ W, Below w.heap.size w W → W.cell? ⟨b, off + k * 2, none⟩ = some (.int .i64 d) ∧ W.cell? ⟨b, off + k * 2 + 1, none⟩ = some (.int .i64 y) from fun W u => by
        obtain ⟨b2, o2, e, _, z0, z1⟩ := (HA.out.below u) k _ hak
        simp only [Option.some.injEq, Addr.mk.injEq, and_true] at e
        obtain ⟨rfl, rfl⟩ := e
        exact ⟨z0, z1⟩)
      clear c0 c1 hak hbl
      have a0 := (HM.out.blk 0 rfl).cell (i := 0) rfl
      have a1 := (HM.out.blk 0 rfl).cell (i := 1) rfl
      have a2 := (HM.out.blk 0 rfl).cell (i := 2) rfl
      have a3 := (HM.out.blk 0 rfl).cell (i := 3) rfl
      have HM1 := Lib.hid (show Cs w [(cb, n, r, g, ls), (wr.heap.size, n, r, g, ls)] _ from HM.out.new n r g ls)
      obtain ⟨e0, e1⟩ := Hac.out _ HM1.out.1
      have Hne := Lib.hid (show cb < wr.heap.size from (HM.out.blk 0 rfl).lt)
      go_upto_block 2 with fail
      clear HM a0 a1 a2 a3
      go_cut [0, 10, 13, 14, 15, 16, 17, 18] (fun x' la' _ _ _ _ _ _ wx => SuMid w cb wr.heap.size r beg n g ls k d x' la' wx)
      case first =>
        by_cases hd0 : d = 0
        · as_aux_lemma =>
          have m0 : (d == 0) = true := by simpa using hd0
          have hy0 := Hy.out.1
          have hy1 := Hy.out.2
          have hx := HK.out.xb
          have hx0 := hx.1
          have hx1 := hx.2
          have hyw : IntKind.u64.wrap y = y := wrap_u6 hy0 (by omega)
          have Hp := Lib.hid (HK.out.publ Hk.out hy0 hy1)
          clear hd0 hx
          go_wp2
          go_meet
          exact ⟨x + y, la, n, g, ls, rfl, rfl, Hp.out, HM1.out, by rcases Hp.out.lq with h | h; exact .inl (by omega); exact .inr (.inr h.2.2)⟩
        · have m0 : (d == 0) = false := by simpa using hd0
          by_cases hd1 : d = 1
          · as_aux_lemma =>
            have m1 : (d == 1) = true := by simpa using hd1
            have Hd := Lib.hid hd1
            have hC := fun w => count_ok n r g ls x HK.out.rgt HK.out.gen w
            have hls := HK.out.w64.1
            clear hd0 hd1
            by_cases hq : qd n r x = 0
            · rw [hq] at hC
              have HC := Lib.hid hC
              have HT := Lib.hid (fun w => take_none n r g ls x HK.out.rgt hls HK.out.gen hq w)
              clear hC hq hls
              have a0 := (HM1.out.blk 0 rfl).cell (i := 0) rfl
              have a1 := (HM1.out.blk 0 rfl).cell (i := 1) rfl
              have a2 := (HM1.out.blk 0 rfl).cell (i := 2) rfl
              have a3 := (HM1.out.blk 0 rfl).cell (i := 3) rfl
              go_wp2_with fail
              refine (HC.out _).mono ?_
              rintro e w2 ⟨rfl, hb⟩
              have HM2 := Lib.hid (HM1.out.next hb)
              clear hb a0 a1 a2 a3
              have a0 := (HM2.out.blk 0 rfl).cell (i := 0) rfl
              have a1 := (HM2.out.blk 0 rfl).cell (i := 1) rfl
              have a2 := (HM2.out.blk 0 rfl).cell (i := 2) rfl
              have a3 := (HM2.out.blk 0 rfl).cell (i := 3) rfl
              go_wp2_with fail
              refine (HT.out _).mono ?_
              rintro e w3 ⟨rfl, hb⟩
              have HM3 := Lib.hid ((HM2.out.next hb).new 0 0 0 0)
              clear hb HM2 a0 a1 a2 a3
              have a0 := (HM3.out.blk 2 rfl).cell (i := 0) rfl
              have a1 := (HM3.out.blk 2 rfl).cell (i := 1) rfl
              have a2 := (HM3.out.blk 2 rfl).cell (i := 2) rfl
              have a3 := (HM3.out.blk 2 rfl).cell (i := 3) rfl
              go_wp2
              go_meet
              exact ⟨x, la, n, g, ls, rfl, rfl, HK.out.same Hk.out, HM3.out.sub, .inr (.inl Hd.out)⟩
            · have HT := Lib.hid (fun w => take_ok n r g ls x HK.out.rgt hls HK.out.gen hq w)
              have Ht := Lib.hid (HK.out.take Hk.out hq)
              have hQ := HK.out.qtake Hk.out hq
              have hC2 := fun w => count_ok (n + lo n r x + 1) r (Go.Proofs.Ytkkkicinlghikaa.u6 (g + 1)) (Go.Proofs.Ytkkkicinlghikaa.u6 (ls + lo n r x)) x Ht.out.rgt HK.out.gen w
              rw [hQ] at hC2
              have HC := Lib.hid hC
              have HC2 := Lib.hid hC2
              have hqs := HK.out.lsum
              have hxx := HK.out.xb
              have hx0 := hxx.1
              have hx1 := hxx.2
              have hr2' := HK.out.r2
              have hq0 : 0 < qd n r x := by omega
              have hq1 : qd n r x < 16 := by omega
              have hF0 : decide (n + lo n r x ≤ la) = false := decide_eq_false (by have := HK.out.a1; omega)
              have hF1 : decide (x < n + lo n r x) = false := decide_eq_false (by omega)
              have hF2 : 0 ≤ x - (n + lo n r x) := by omega
              have hF4 : IntKind.u64.wrap (x - (n + lo n r x)) = x - (n + lo n r x) := wrap_u6 (by omega) (by have := HK.out.n0; have := HK.out.b0; omega)
              have hF3 : ((x - (n + lo n r x)) != (qd n r x - 1)) = false := by simp; omega
              have hqz : (qd n r x == 0) = false := by simpa using hq
              have hwq : IntKind.u64.wrap (qd n r x) = qd n r x := wrap_u6 (by omega) (by omega)
              have HL6 := Lib.hid HK.out.l6
              have HG6 := Lib.hid HK.out.g6
              clear hC hC2 hq hls hQ hqs hxx
              obtain ⟨N, hN⟩ : ∃ N, N = n + lo n r x := ⟨_, rfl⟩
              obtain ⟨Q, hQ⟩ : ∃ Q, Q = qd n r x := ⟨_, rfl⟩
              obtain ⟨L, hL⟩ : ∃ L, L = Go.Proofs.Ytkkkicinlghikaa.u6 (ls + lo n r x) := ⟨_, rfl⟩
              obtain ⟨G, hG⟩ : ∃ G, G = Go.Proofs.Ytkkkicinlghikaa.u6 (g + 1) := ⟨_, rfl⟩
              rw [← hL, ← hN, ← hG] at HT
              rw [← hG, ← hN, ← hL] at HC2
              rw [← hQ] at HC hq0 hq1 hqz hwq hF3 HC2
              rw [← hN] at hF0 hF1 hF2 hF3 hF4
              have HH := Lib.hid (And.intro hN (And.intro hL hG))
              clear hN hQ hL hG
              have a0 := (HM1.out.blk 0 rfl).cell (i := 0) rfl
              have a1 := (HM1.out.blk 0 rfl).cell (i := 1) rfl
              have a2 := (HM1.out.blk 0 rfl).cell (i := 2) rfl
              have a3 := (HM1.out.blk 0 rfl).cell (i := 3) rfl
              go_wp2_with fail
              refine (HC.out _).mono ?_
              rintro e w2 ⟨rfl, hb⟩
              have HM2 := Lib.hid (HM1.out.next hb)
              clear hb a0 a1 a2 a3
              have a0 := (HM2.out.blk 0 rfl).cell (i := 0) rfl
              have a1 := (HM2.out.blk 0 rfl).cell (i := 1) rfl
              have a2 := (HM2.out.blk 0 rfl).cell (i := 2) rfl
              have a3 := (HM2.out.blk 0 rfl).cell (i := 3) rfl
              go_wp2_with fail
              refine (HT.out _).mono ?_
              rintro e w3 ⟨rfl, hb⟩
              have HM3 := Lib.hid ((HM2.out.next hb).new (N + 1) r G L)
              clear hb HM2 a0 a1 a2 a3
              have a0 := (HM3.out.blk 2 rfl).cell (i := 0) rfl
              have a1 := (HM3.out.blk 2 rfl).cell (i := 1) rfl
              have a2 := (HM3.out.blk 2 rfl).cell (i := 2) rfl
              have a3 := (HM3.out.blk 2 rfl).cell (i := 3) rfl
              go_wp2_with fail
              refine (HC2.out _).mono ?_
              rintro e w4 ⟨rfl, hb⟩
              have HM4 := Lib.hid (HM3.out.next hb)
              clear hb HM3 a0 a1 a2 a3
              have a0 := (HM4.out.blk 2 rfl).cell (i := 0) rfl
              have a1 := (HM4.out.blk 2 rfl).cell (i := 1) rfl
              have a2 := (HM4.out.blk 2 rfl).cell (i := 2) rfl
              have a3 := (HM4.out.blk 2 rfl).cell (i := 3) rfl
              have b0 := (HM4.out.blk 0 rfl).cell (i := 0) rfl
              have b1 := (HM4.out.blk 0 rfl).cell (i := 1) rfl
              have b2 := (HM4.out.blk 0 rfl).cell (i := 2) rfl
              have b3 := (HM4.out.blk 0 rfl).cell (i := 3) rfl
              have bf0 := (HM4.out.blk 0 rfl).frozen 0
              have bf1 := (HM4.out.blk 0 rfl).frozen 1
              have bf2 := (HM4.out.blk 0 rfl).frozen 2
              have bf3 := (HM4.out.blk 0 rfl).frozen 3
              go_wp2
              go_meet
              have h4 := (HM4.out.sub.put0 Hcb.out (fun z hz => by
                simp only [List.mem_singleton] at hz
                rw [hz]
                exact Nat.ne_of_gt Hne.out) (N + 1) r G L)
              have ht := Ht.out
              have h5 := HL6.out
              have h6 := HG6.out
              have h7 := HH.out
              rw [← h7.2.1] at h5
              rw [← h7.2.2] at h6
              rw [← h5, ← h6, ← h7.1] at ht
              exact ⟨x, N, N + 1, G, L, rfl, rfl, ht, h4, .inr (.inl Hd.out)⟩
          · as_aux_lemma =>
            have m1 : (d == 1) = false := by simpa using hd1
            have hls := HK.out.w64.1
            have HS := Lib.hid (fun w => see_ok n r g ls x HK.out.rgt hls HK.out.gen w)
            have Hs := Lib.hid (HK.out.seen Hk.out)
            have H0 := Lib.hid (And.intro HK.out.seen0 (And.intro HK.out.seenq HK.out.lq))
            have HL6 := Lib.hid HK.out.l6
            clear hd0 hd1 hls
            obtain ⟨N, hN⟩ : ∃ N, N = n + lo n r x := ⟨_, rfl⟩
            obtain ⟨L, hL⟩ : ∃ L, L = Go.Proofs.Ytkkkicinlghikaa.u6 (ls + lo n r x) := ⟨_, rfl⟩
            rw [← hL, ← hN] at HS
            have HH := Lib.hid (And.intro hN hL)
            clear hN hL
            have a0 := (HM1.out.blk 0 rfl).cell (i := 0) rfl
            have a1 := (HM1.out.blk 0 rfl).cell (i := 1) rfl
            have a2 := (HM1.out.blk 0 rfl).cell (i := 2) rfl
            have a3 := (HM1.out.blk 0 rfl).cell (i := 3) rfl
            go_wp2_with fail
            refine (HS.out _).mono ?_
            rintro e w2 ⟨rfl, hb⟩
            have HM2 := Lib.hid ((HM1.out.next hb).new N r g L)
            clear hb a0 a1 a2 a3
            have a0 := (HM2.out.blk 2 rfl).cell (i := 0) rfl
            have a1 := (HM2.out.blk 2 rfl).cell (i := 1) rfl
            have a2 := (HM2.out.blk 2 rfl).cell (i := 2) rfl
            have a3 := (HM2.out.blk 2 rfl).cell (i := 3) rfl
            have b0 := (HM2.out.blk 0 rfl).cell (i := 0) rfl
            have b1 := (HM2.out.blk 0 rfl).cell (i := 1) rfl
            have b2 := (HM2.out.blk 0 rfl).cell (i := 2) rfl
            have b3 := (HM2.out.blk 0 rfl).cell (i := 3) rfl
            have bf0 := (HM2.out.blk 0 rfl).frozen 0
            have bf1 := (HM2.out.blk 0 rfl).frozen 1
            have bf2 := (HM2.out.blk 0 rfl).frozen 2
            have bf3 := (HM2.out.blk 0 rfl).frozen 3
            go_wp2
            go_meet
            have h4 := (HM2.out.sub.put0 Hcb.out (fun z hz => by
              simp only [List.mem_singleton] at hz
              rw [hz]
              exact Nat.ne_of_gt Hne.out) N r g L)
            have hs := Hs.out
            have h5 := HL6.out
            have h0 := H0.out
            have h7 := HH.out
            rw [← h7.2] at h5
            rw [← h5, ← h7.1] at hs
            rw [← h7.1] at h0
            refine ⟨x, la, N, g, L, rfl, rfl, hs, h4, ?_⟩
            rcases h0.2.2 with h | h
            · exact .inl (by omega)
            · exact .inr (.inr (by rw [h0.2.1]; exact h.2.2))
      case rest =>
        obtain ⟨x2, la2, n2, g2, l2, rfl, rfl, hI2, hM2, hor⟩ := hcut
        have HI2 := Lib.hid hI2
        have HM2 := Lib.hid hM2
        have HO := Lib.hid hor
        have hls := hI2.w64.1
        have HS := Lib.hid (fun w => see_ok n2 r g2 l2 x2 hI2.rgt hls hI2.gen w)
        have HC := Lib.hid (fun w => count_ok n2 r g2 l2 x2 hI2.rgt hI2.gen w)
        have hC2 := fun w => count_ok (n2 + lo n2 r x2) r g2 (Go.Proofs.Ytkkkicinlghikaa.u6 (l2 + lo n2 r x2)) x2 (rgt_lo hI2.rgt hI2.gen) hI2.gen w
        rw [hI2.seenq] at hC2
        have HC2 := Lib.hid hC2
        have hsm := hI2.lsum
        have hxx := hI2.xb
        have hx0 := hxx.1
        have hx1 := hxx.2
        have hg0 := hI2.g0
        have hl0 := hI2.l0
        have hx2 := hI2.x0
        have hr16 := hI2.r2
        obtain ⟨e0, e1⟩ := Hac.out _ hM2.1
        clear hC2 hls hI2 hM2 hor HM1 hxx
        rw [HI2.out.l6] at HS HC2
        obtain ⟨D, hD⟩ : ∃ D, D = l2 + lo n2 r x2 := ⟨_, rfl⟩
        obtain ⟨N, hN⟩ : ∃ N, N = n2 + lo n2 r x2 := ⟨_, rfl⟩
        obtain ⟨Q, hQ⟩ : ∃ Q, Q = qd n2 r x2 := ⟨_, rfl⟩
        rw [← hD] at HS HC2 hsm HO
        rw [← hN] at HS HC2 hsm
        rw [← hQ] at HC HC2 hsm HO
        have hs1 : ((g2 + D + Q) != (x2 - beg)) = false := by simp; omega
        have hs2 : decide (Q < 0) = false := decide_eq_false (by omega)
        have hs3 : decide (r < Q) = false := decide_eq_false (by omega)
        have hs4 : 0 ≤ x2 - beg := by omega
        have hs5 : g2 + D < 18446744073709551616 := by omega
        have hs6 : g2 + D + Q < 18446744073709551616 := by omega
        have hs7 : 0 ≤ D := by omega
        have hs8 : 0 ≤ Q := by omega
        have hs9 : IntKind.u64.wrap Q = Q := wrap_u6 (by omega) (by omega)
        have hs10 : (Q != Q) = false := by simp
        clear hsm hD hN hQ
        have a0 := (HM2.out.blk 0 rfl).cell (i := 0) rfl
        have a1 := (HM2.out.blk 0 rfl).cell (i := 1) rfl
        have a2 := (HM2.out.blk 0 rfl).cell (i := 2) rfl
        have a3 := (HM2.out.blk 0 rfl).cell (i := 3) rfl
        go_wp2_with fail
        refine (HS.out _).mono ?_
        rintro e w5 ⟨rfl, hb⟩
        have HM5 := Lib.hid ((HM2.out.next hb).new N r g2 D)
        clear hb HM2 a0 a1 a2 a3 e0 e1
        have a0 := (HM5.out.blk 0 rfl).cell (i := 0) rfl
        have a1 := (HM5.out.blk 0 rfl).cell (i := 1) rfl
        have a2 := (HM5.out.blk 0 rfl).cell (i := 2) rfl
        have a3 := (HM5.out.blk 0 rfl).cell (i := 3) rfl
        go_wp2_with fail
        refine (HC.out _).mono ?_
        rintro e w6 ⟨rfl, hb⟩
        have HM6 := Lib.hid (HM5.out.next hb)
        clear hb HM5 a0 a1 a2 a3
        have a0 := (HM6.out.blk 2 rfl).cell (i := 0) rfl
        have a1 := (HM6.out.blk 2 rfl).cell (i := 1) rfl
        have a2 := (HM6.out.blk 2 rfl).cell (i := 2) rfl
        have a3 := (HM6.out.blk 2 rfl).cell (i := 3) rfl
        go_wp2_with fail
        refine (HC2.out _).mono ?_
        rintro e w7 ⟨rfl, hb⟩
        have HM7 := Lib.hid (HM6.out.next hb)
        clear hb HM6 a0 a1 a2 a3
        obtain ⟨e0, e1⟩ := Hac.out _ HM7.out.1
        have a0 := (HM7.out.blk 2 rfl).cell (i := 0) rfl
        have a1 := (HM7.out.blk 2 rfl).cell (i := 1) rfl
        have a2 := (HM7.out.blk 2 rfl).cell (i := 2) rfl
        have a3 := (HM7.out.blk 2 rfl).cell (i := 3) rfl
        have b0 := (HM7.out.blk 1 rfl).cell (i := 0) rfl
        have b1 := (HM7.out.blk 1 rfl).cell (i := 1) rfl
        have b2 := (HM7.out.blk 1 rfl).cell (i := 2) rfl
        have b3 := (HM7.out.blk 1 rfl).cell (i := 3) rfl
        have HR := Lib.hid (show SuRel w cb r beg m (.int .u64 x2) (.int .u64 la2) (.int .i64 (k + 1 : Nat)) w7 from ⟨k + 1, x2, la2, n2, g2, l2, rfl, rfl, rfl, by omega, HI2.out, Cs.sub (M := [_, _]) HM7.out⟩)
        by_cases hE : D = ls
        · as_aux_lemma =>
          have t1 : (D != ls) = false := by simpa using hE
          clear hE
          go_wp2_with fail
          go_roundw
          case rel => exact HR.out
          case measure => simp [intOf]; omega
        · have t1 : (D != ls) = true := by simpa using hE
          by_cases hd1 : d = 1
          · as_aux_lemma =>
            have t2 : (d != 1) = false := by simpa using hd1
            clear hE hd1
            go_wp2_with fail
            go_roundw
            case rel => exact HR.out
            case measure => simp [intOf]; omega
          · as_aux_lemma =>
            have t2 : (d != 1) = true := by simpa using hd1
            have t3 : (Q != r) = false := by rcases HO.out with h | h | h; exact absurd h hE; exact absurd h hd1; simpa using h
            clear hE hd1
            go_wp2_with fail
            go_roundw
            case rel => exact HR.out
            case measure => simp [intOf]; omega
    · obtain rfl : k = m := by omega
      go_wp2_with fail
      refine (awake_any _).mono ?_
      rintro e w9 ⟨rfl, hb⟩
      have H9 := Lib.hid (HM.out.next hb)
      clear hb
      go_wp2
      go_ret
      exact ⟨rfl, H9.out.1⟩
end Go.Proofs.Ytkkkicinlghikaa
