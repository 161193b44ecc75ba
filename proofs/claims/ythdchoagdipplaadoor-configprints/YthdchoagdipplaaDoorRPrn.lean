/- The document's Print: its contract. -/
import Derived.Test.YthdchoagdipplaaDoorRNum
import Derived.Test.YthdchoagdipplaaDoorRChk
import Derived.Test.YthdchoagdipplaaDoorPrn
namespace Go.Proofs.YthdchoagdipplaaDoor
open Go.RowKit

/-- At the head of its loop. -/
def RelRp (w : World) (T R L : Int) (a : Option Addr) (cap : Nat) (l : List Tp) (s5 i : Value) (wr : World) : Prop :=
  ∃ k : Nat, k ≤ l.length ∧ i = .int .i64 k ∧ s5 = .string (str (hdT T R L ++ txT (l.take k))) ∧ Bx w w.heap.size T R L a cap l wr
set_option maxRecDepth 100000 in
set_option maxHeartbeats 4000000 in
theorem rprint_any (T R L : Int) (a : Option Addr) (cap : Nat) (l : List Tp) (w : World) (hT : Tps w.heap.size w a l) (hM : ML w) (hs : ∀ t ∈ l, t.1.size ≤ 100000) :
    Calls Tryd.prog 21 #[cfg T a l.length cap R L] w (Ret (.tuple #[.string (str (prT T l R L)), .int .i64 (chk T l R L).2]) w) := by
  have X0 := Lib.hid (Bx.new w T R L a cap l hT hM)
  have c0 := X0.out.1.cell (i := 0) rfl
  have c1 := X0.out.1.cell (i := 1) rfl
  have c2 := X0.out.1.cell (i := 2) rfl
  have c3 := X0.out.1.cell (i := 3) rfl
  have HT0 := Lib.hid hT
  clear hT hM
  go_enter Tryd.func21, Tryd.ntmps21
  go_wp2_with fail
  generalize w.alloc (.cells #[.int .i64 T, .slice a l.length cap, .int .i64 R, .int .i64 L] 24) = W0 at *
  refine (rcheck_any T R L a cap l W0 X0.out.2.1 hs).mono ?_
  rintro e W1 ⟨rfl, hb1⟩
  by_cases hy : (chk T l R L).2 = 0
  · have hz := chk_zero hy
    obtain ⟨hh, htp⟩ := chk_ok hy
    obtain ⟨t1, t2, n1, n2, r1, r2, g1, g2⟩ := hd_ok hh
    have hpr : prT T l R L = txt T l R L := by unfold prT; rw [if_pos hy]
    rw [hz]
    have Hz := Lib.hid hz
    have HP := Lib.hid (And.intro hpr htp)
    have X1 := Lib.hid ((X0.out.next hb1).alloc (.cells #[.int .i64 0, .int .i64 0] 31))
    have hF := Blk.new W1 #[.int .i64 0, .int .i64 0] 31
    have f0 := hF.cell (i := 0) rfl
    have f1 := hF.cell (i := 1) rfl
    clear hz hh htp hpr hy hb1 X0 hF c0 c1 c2 c3
    have c0 := X1.out.1.cell (i := 0) rfl
    have c1 := X1.out.1.cell (i := 1) rfl
    have c2 := X1.out.1.cell (i := 2) rfl
    have c3 := X1.out.1.cell (i := 3) rfl
    obtain ⟨tn, rfl⟩ : ∃ n : Nat, T = n := ⟨T.toNat, by omega⟩
    obtain ⟨rn, rfl⟩ : ∃ n : Nat, R = n := ⟨R.toNat, by omega⟩
    obtain ⟨gn, rfl⟩ : ∃ n : Nat, L = n := ⟨L.toNat, by omega⟩
    have i1 := Lib.hid (fun w => rnum_any tn (by omega) w)
    have i2 := Lib.hid (fun w => rnum_any rn (by omega) w)
    have i3 := Lib.hid (fun w => rnum_any gn (by omega) w)
    have hdE : hdT (tn : Int) (rn : Int) (gn : Int) = lin kTasks (dd2 tn) kTries (dd2 rn) kLog (dd2 gn) := rfl
    have l1 := dd_len tn
    have l2 := dd_len rn
    have l3 := dd_len gn
    generalize dd2 tn = d1 at *
    generalize dd2 rn = d2 at *
    generalize dd2 gn = d3 at *
    obtain ⟨p1, ep1⟩ : ∃ z : List UInt8, [116, 97, 115, 107, 115, 32] ++ d1 = z := ⟨_, rfl⟩
    have hp1 : (⟨#[116, 97, 115, 107, 115, 32]⟩ : ByteArray) ++ str d1 = str p1 := by rw [← ep1]; exact str_cat _ _
    have kp1 : p1.length = 6 + (d1).length := by rw [← ep1, List.length_append]; try rfl
    have sp1 : ¬ (9223372036854775807 < 6 + (str d1).size) := by simp only [str_size]; omega
    obtain ⟨p2, ep2⟩ : ∃ z : List UInt8, p1 ++ [32, 116, 114, 105, 101, 115, 32] = z := ⟨_, rfl⟩
    have hp2 : str p1 ++ (⟨#[32, 116, 114, 105, 101, 115, 32]⟩ : ByteArray) = str p2 := by rw [← ep2]; exact str_cat _ _
    have kp2 : p2.length = (p1).length + 7 := by rw [← ep2, List.length_append]; try rfl
    have sp2 : ¬ (9223372036854775807 < (str p1).size + 7) := by simp only [str_size]; omega
    obtain ⟨p3, ep3⟩ : ∃ z : List UInt8, p2 ++ d2 = z := ⟨_, rfl⟩
    have hp3 : str p2 ++ str d2 = str p3 := by rw [← ep3]; exact str_cat _ _
    have kp3 : p3.length = (p2).length + (d2).length := by rw [← ep3, List.length_append]; try rfl
    have sp3 : ¬ (9223372036854775807 < (str p2).size + (str d2).size) := by simp only [str_size]; omega
    obtain ⟨p4, ep4⟩ : ∃ z : List UInt8, p3 ++ [32, 108, 111, 103, 32] = z := ⟨_, rfl⟩
    have hp4 : str p3 ++ (⟨#[32, 108, 111, 103, 32]⟩ : ByteArray) = str p4 := by rw [← ep4]; exact str_cat _ _
    have kp4 : p4.length = (p3).length + 5 := by rw [← ep4, List.length_append]; try rfl
    have sp4 : ¬ (9223372036854775807 < (str p3).size + 5) := by simp only [str_size]; omega
    obtain ⟨p5, ep5⟩ : ∃ z : List UInt8, p4 ++ d3 = z := ⟨_, rfl⟩
    have hp5 : str p4 ++ str d3 = str p5 := by rw [← ep5]; exact str_cat _ _
    have kp5 : p5.length = (p4).length + (d3).length := by rw [← ep5, List.length_append]; try rfl
    have sp5 : ¬ (9223372036854775807 < (str p4).size + (str d3).size) := by simp only [str_size]; omega
    obtain ⟨p6, ep6⟩ : ∃ z : List UInt8, p5 ++ [10] = z := ⟨_, rfl⟩
    have hp6 : str p5 ++ (⟨#[10]⟩ : ByteArray) = str p6 := by rw [← ep6]; exact str_cat _ _
    have kp6 : p6.length = (p5).length + 1 := by rw [← ep6, List.length_append]; try rfl
    have sp6 : ¬ (9223372036854775807 < (str p5).size + 1) := by simp only [str_size]; omega
    have hend : p6 = hdT (tn : Int) (rn : Int) (gn : Int) := by
      rw [hdE, ← ep6, ← ep5, ← ep4, ← ep3, ← ep2, ← ep1]
      simp [lin]
    have Hend := Lib.hid hend
    clear hend hdE l1 l2 l3 ep1 kp1 ep2 kp2 ep3 kp3 ep4 kp4 ep5 kp5 ep6 kp6
    go_wp2_with fail
    generalize W1.alloc (.cells #[.int .i64 0, .int .i64 0] 31) = W2 at *
    go_quiet ((first | (go_at_call 38; with_reducible exact Calls.quiet_of (i1.out _)) | (go_at_call 38; with_reducible exact Calls.quiet_of (i2.out _)) | (go_at_call 38; with_reducible exact Calls.quiet_of (i3.out _))))
    rw [Hend.out]
    have X2 : Hid (Bx w w.heap.size tn rn gn a cap l (W2.drewN nq)) := Lib.hid ⟨X1.out.1, X1.out.2.1, X1.out.2.2.1, belN X1.out.2.2.2 nq⟩
    clear X1 f0 f1 c0 c1 c2 c3 i1 i2 i3 hp1 sp1 hp2 sp2 hp3 sp3 hp4 sp4 hp5 sp5 hp6 sp6
    generalize W2.drewN nq = W3 at *
    go_wp2_with fail
    go_loopw [5, 6] (RelRp w tn rn gn a cap l) (fun _ i _ => l.length - (intOf i).toNat)
    case atStart => exact ⟨0, by omega, rfl, by simp [txT], X2.out⟩
    case round =>
      obtain ⟨k, hk, rfl, rfl, hX⟩ := hrel
      have c1 := hX.1.cell (i := 1) rfl
      by_cases hkl : k < l.length
      · have k0 : (k : Int) < l.length := by omega
        obtain ⟨t, ht⟩ : ∃ t, l[k]? = some t := ⟨l[k], List.getElem?_eq_getElem hkl⟩
        have hok := HP.out.2 k t ht
        obtain ⟨o1, _, o3, o4, o5, o6⟩ := tp_ok hok
        have o2 := (nmB_len o1).2
        have hyl : (hdT (tn : Int) (rn : Int) (gn : Int) ++ txT (l.take k)).length ≤ 3000 := by
          have q1 := hdT_len (tn : Int) (rn : Int) (gn : Int)
          have q2 := txT_len (l.take k) (fun x hx => by
            obtain ⟨j, hj, e⟩ := List.mem_take_iff_getElem.1 hx
            exact tpT_len (HP.out.2 j x (by rw [← e]; exact List.getElem?_eq_getElem _)))
          rw [List.length_append]
          rw [List.length_take] at q2
          omega
        have hst : hdT (tn : Int) (rn : Int) (gn : Int) ++ txT (l.take (k + 1)) = (hdT (tn : Int) (rn : Int) (gn : Int) ++ txT (l.take k)) ++ tpT t := by rw [(drop_at ht).2, txT_snoc, List.append_assoc]
        obtain ⟨b, off, rfl, hbl, u0, u1, u2⟩ := hX.2.1 k t ht
        have hD := Blk.new wr #[.string t.1, .int .i64 t.2.1, .int .i64 t.2.2] 45
        have hX1 := hX.alloc (.cells #[.string t.1, .int .i64 t.2.1, .int .i64 t.2.2] 45)
        obtain ⟨nm, wd, dp⟩ := t
        simp only at o1 o2 o3 o4 o5 o6 hD hX1 u0 u1 u2
        obtain ⟨wn, rfl⟩ : ∃ n : Nat, wd = n := ⟨wd.toNat, by omega⟩
        obtain ⟨dn, rfl⟩ : ∃ n : Nat, dp = n := ⟨dp.toNat, by omega⟩
        have i1 := Lib.hid (fun w => rnum_any wn (by omega) w)
        have i2 := Lib.hid (fun w => rnum_any dn (by omega) w)
        have hlx : tpT (nm, (wn : Int), (dn : Int)) = lin kTopic (bs nm) kWords (dd2 wn) kDepth (dd2 dn) := rfl
        rw [hlx] at hst
        have l1 := dd_len wn
        have l2 := dd_len dn
        have hnl := bs_len nm
        have d0 := hD.cell (i := 0) rfl
        have e1 := hD.cell (i := 1) rfl
        have e2 := hD.cell (i := 2) rfl
        have HX := Lib.hid hX1
        clear hok ht hX hX1 hD hlx
        generalize dd2 wn = d1 at *
        generalize dd2 dn = d2 at *
        generalize hdT (tn : Int) (rn : Int) (gn : Int) ++ txT (l.take k) = y at *
        obtain ⟨p1, ep1⟩ : ∃ z : List UInt8, y ++ [116, 111, 112, 105, 99, 32] = z := ⟨_, rfl⟩
        have hp1 : str y ++ (⟨#[116, 111, 112, 105, 99, 32]⟩ : ByteArray) = str p1 := by rw [← ep1]; exact str_cat _ _
        have kp1 : p1.length = (y).length + 6 := by rw [← ep1, List.length_append]; try rfl
        have sp1 : ¬ (9223372036854775807 < (str y).size + 6) := by simp only [str_size]; omega
        obtain ⟨p2, ep2⟩ : ∃ z : List UInt8, p1 ++ (bs nm) = z := ⟨_, rfl⟩
        have hp2 : str p1 ++ nm = str p2 := by rw [← ep2]; exact str_cat _ _
        have kp2 : p2.length = (p1).length + ((bs nm)).length := by rw [← ep2, List.length_append]; try rfl
        have sp2 : ¬ (9223372036854775807 < (str p1).size + (nm).size) := by simp only [str_size]; omega
        obtain ⟨p3, ep3⟩ : ∃ z : List UInt8, p2 ++ [32, 119, 111, 114, 100, 115, 32] = z := ⟨_, rfl⟩
        have hp3 : str p2 ++ (⟨#[32, 119, 111, 114, 100, 115, 32]⟩ : ByteArray) = str p3 := by rw [← ep3]; exact str_cat _ _
        have kp3 : p3.length = (p2).length + 7 := by rw [← ep3, List.length_append]; try rfl
        have sp3 : ¬ (9223372036854775807 < (str p2).size + 7) := by simp only [str_size]; omega
        obtain ⟨p4, ep4⟩ : ∃ z : List UInt8, p3 ++ d1 = z := ⟨_, rfl⟩
        have hp4 : str p3 ++ str d1 = str p4 := by rw [← ep4]; exact str_cat _ _
        have kp4 : p4.length = (p3).length + (d1).length := by rw [← ep4, List.length_append]; try rfl
        have sp4 : ¬ (9223372036854775807 < (str p3).size + (str d1).size) := by simp only [str_size]; omega
        obtain ⟨p5, ep5⟩ : ∃ z : List UInt8, p4 ++ [32, 100, 101, 112, 116, 104, 32] = z := ⟨_, rfl⟩
        have hp5 : str p4 ++ (⟨#[32, 100, 101, 112, 116, 104, 32]⟩ : ByteArray) = str p5 := by rw [← ep5]; exact str_cat _ _
        have kp5 : p5.length = (p4).length + 7 := by rw [← ep5, List.length_append]; try rfl
        have sp5 : ¬ (9223372036854775807 < (str p4).size + 7) := by simp only [str_size]; omega
        obtain ⟨p6, ep6⟩ : ∃ z : List UInt8, p5 ++ d2 = z := ⟨_, rfl⟩
        have hp6 : str p5 ++ str d2 = str p6 := by rw [← ep6]; exact str_cat _ _
        have kp6 : p6.length = (p5).length + (d2).length := by rw [← ep6, List.length_append]; try rfl
        have sp6 : ¬ (9223372036854775807 < (str p5).size + (str d2).size) := by simp only [str_size]; omega
        obtain ⟨p7, ep7⟩ : ∃ z : List UInt8, p6 ++ [10] = z := ⟨_, rfl⟩
        have hp7 : str p6 ++ (⟨#[10]⟩ : ByteArray) = str p7 := by rw [← ep7]; exact str_cat _ _
        have kp7 : p7.length = (p6).length + 1 := by rw [← ep7, List.length_append]; try rfl
        have sp7 : ¬ (9223372036854775807 < (str p6).size + 1) := by simp only [str_size]; omega
        have hend : p7 = hdT (tn : Int) (rn : Int) (gn : Int) ++ txT (l.take (k + 1)) := by
          rw [hst, ← ep7, ← ep6, ← ep5, ← ep4, ← ep3, ← ep2, ← ep1]
          simp [lin]
        have Hend := Lib.hid hend
        clear hend hst l1 l2 hnl hyl ep1 kp1 ep2 kp2 ep3 kp3 ep4 kp4 ep5 kp5 ep6 kp6 ep7 kp7
        go_wp2_with fail
        clear c1 u0 u1 u2
        generalize wr.alloc (.cells #[.string nm, .int .i64 wn, .int .i64 dn] 45) = W at *
        go_quiet ((first | (go_at_call 38; with_reducible exact Calls.quiet_of (i1.out _)) | (go_at_call 38; with_reducible exact Calls.quiet_of (i2.out _))))
        rw [Hend.out]
        go_wp2
        go_roundw
        case rel => exact ⟨k + 1, by omega, by go_num, rfl, ⟨HX.out.1, HX.out.2.1, HX.out.2.2.1, belN HX.out.2.2.2 nq⟩⟩
        case measure => simp [intOf]; omega
      · have k0 : decide ((k : Int) < (l.length : Int)) = false := decide_eq_false (by omega)
        have hfin : hdT (tn : Int) (rn : Int) (gn : Int) ++ txT (l.take k) = prT tn l rn gn := by rw [HP.out.1, List.take_of_length_le (by omega)]; rfl
        rw [hfin]
        have Hf := Lib.hid hX.2.2.2
        clear hfin hX
        go_wp2
        go_ret2
        exact ⟨by rw [Hz.out]; rfl, Hf.out⟩
  · have hpr : prT T l R L = [] := by unfold prT; rw [if_neg hy]
    have Hpr := Lib.hid hpr
    clear hpr
    obtain ⟨⟨x, y⟩, hxy⟩ : ∃ xy, chk T l R L = xy := ⟨_, rfl⟩
    rw [hxy] at hy
    simp only at hy
    rw [hxy]
    have Hxy := Lib.hid hxy
    have hy' : (y != 0) = true := by simpa using hy
    clear hxy
    have X1 := Lib.hid ((X0.out.next hb1).alloc (.cells #[.int .i64 x, .int .i64 y] 31))
    have hF := Blk.new W1 #[.int .i64 x, .int .i64 y] 31
    have f0 := hF.cell (i := 0) rfl
    have f1 := hF.cell (i := 1) rfl
    clear hb1 X0 hF c0 c1 c2 c3 hy HT0
    go_wp2_with fail
    generalize W1.alloc (.cells #[.int .i64 x, .int .i64 y] 31) = W2 at *
    go_quiet (fail)
    go_wp2
    go_ret2
    exact ⟨by rw [Hpr.out, Hxy.out]; rfl, belN X1.out.2.2.2 _⟩
end Go.Proofs.YthdchoagdipplaaDoor
