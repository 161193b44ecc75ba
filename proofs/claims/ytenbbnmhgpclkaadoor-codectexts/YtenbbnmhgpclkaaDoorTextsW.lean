/- The walk of the law CodecTexts. -/
import Derived.Test.YtenbbnmhgpclkaaDoorReadsW
import Derived.Test.YtenbbnmhgpclkaaDoorRPrn2
import Derived.Test.YtenbbnmhgpclkaaDoorRPar
namespace Go.Proofs.YtenbbnmhgpclkaaDoor
open Go.RowKit

theorem paL_len (S : List UInt8) : (paL S).length ≤ 256 := by
  by_cases h : paE S = 0
  · rw [paL_ok h]
    have h1 : wsE (spl S) = 0 := by
      by_cases h2 : wsE (spl S) = 0
      · exact h2
      · rw [paE_ws h2] at h
        exact absurd h h2
    rw [paE_pl h1] at h
    exact (plErr_all h).2.1
  · rw [paL_err h]
    simp

set_option maxRecDepth 100000 in
set_option maxHeartbeats 1000000 in
theorem texts_big (a : Option Addr) (cap : Nat) (l : List (Int × Int)) (s : ByteArray) (w : World) (hK : KD w) (h : 300 < l.length) : Calls Tryd.prog 6 #[.slice a l.length cap, .string s] w (Ret (.bool true) w) := by
  have hnot := hnot
  have hd : decide ((l.length : Int) ≤ 300) = false := decide_eq_false (by omega)
  go_enter Tryd.func6, Tryd.ntmps6
  go_wp2_with fail
  refine (few_any a l.length cap w).mono ?_
  rintro e w0 ⟨rfl, hb0⟩
  rw [hd]
  go_wp2_with fail
  refine (awake_any w0 (hK.next hb0)).mono ?_
  rintro e w1 ⟨rfl, hb1⟩
  have hfin := hb0.trans (hb1.mono hb0.size)
  go_wp2
  go_ret
  exact ⟨rfl, hfin⟩
set_option maxRecDepth 100000 in
set_option maxHeartbeats 1000000 in
theorem texts_long (a : Option Addr) (cap : Nat) (l : List (Int × Int)) (s : ByteArray) (w : World) (hK : KD w) (h : l.length ≤ 300) (h2 : 3000 < s.size) : Calls Tryd.prog 6 #[.slice a l.length cap, .string s] w (Ret (.bool true) w) := by
  have hnot := hnot
  have hd : decide ((l.length : Int) ≤ 300) = true := decide_eq_true (by omega)
  have hd2 : decide ((3000 : Int) < (s.size : Int)) = true := decide_eq_true (by omega)
  go_enter Tryd.func6, Tryd.ntmps6
  go_wp2_with fail
  refine (few_any a l.length cap w).mono ?_
  rintro e w0 ⟨rfl, hb0⟩
  rw [hd]
  go_wp2_with fail
  refine (awake_any w0 (hK.next hb0)).mono ?_
  rintro e w1 ⟨rfl, hb1⟩
  have hfin := hb0.trans (hb1.mono hb0.size)
  go_wp2
  go_ret
  exact ⟨rfl, hfin⟩

set_option maxRecDepth 100000 in
set_option maxHeartbeats 4000000 in
theorem texts_few (a : Option Addr) (cap : Nat) (l : List (Int × Int)) (s : ByteArray) (w : World) (hP : Prs w.heap.size w a l) (hK : KD w) (h : l.length ≤ 300) (h2 : s.size ≤ 3000) : Calls Tryd.prog 6 #[.slice a l.length cap, .string s] w (Ret (.bool true) w) := by
  have hnot := hnot
  have hs : s.size ≤ 100000 := by omega
  have hd : decide ((l.length : Int) ≤ 300) = true := decide_eq_true (by omega)
  have hd2 : decide ((3000 : Int) < (s.size : Int)) = false := decide_eq_false (by omega)
  go_enter Tryd.func6, Tryd.ntmps6
  go_wp2_with fail
  refine (few_any a l.length cap w).mono ?_
  rintro e w0 ⟨rfl, hb0⟩
  rw [hd]
  have hP0 := hP.next hb0
  have hK0 := hK.next hb0
  clear hP hK
  go_wp2_with fail
  refine (print_any a _ cap l w0 rfl hP0 hK0).mono ?_
  rintro e w1 ⟨rfl, hb1⟩
  have hP1 := hP0.next hb1
  have hK1 := hK0.next hb1
  have hB1 := hb0.trans (hb1.mono hb0.size)
  clear hP0 hK0 hb0 hb1 hd hd2
  go_wp2_with fail
  refine (plain_any a _ cap l w1 rfl h hP1).mono ?_
  rintro e w2 ⟨a2, c2, rfl, hb2, hA2⟩
  have hK2 := hK1.next hb2
  have hB2 := hB1.trans (hb2.mono hB1.size)
  clear hP1 hK1 hB1 hb2
  go_wp2_with fail
  refine (rprint_any a2 _ c2 l w2 rfl hA2).mono ?_
  rintro e w3 ⟨rfl, hb3⟩
  have hK3 := hK2.next hb3
  have hB3 := hB2.trans (hb3.mono hB2.size)
  clear hK2 hB2 hb3 hA2
  generalize prT l = tx at *
  generalize plErr l = er0 at *
  go_wp2_with fail
  refine (parse_any s w3 hK3 hs).mono ?_
  rintro e w4 ⟨a4, c4, rfl, hb4, hA4⟩
  have hK4 := hK3.next hb4
  have hB4 := hB3.trans (hb4.mono hB3.size)
  clear hK3 hB3 hb4
  go_wp2_with fail
  refine (rparse_any s w4 h2).mono ?_
  rintro e w5 ⟨a5, c5, rfl, hb5, hA5⟩
  have hK5 := hK4.next hb5
  have hA45 := hA4.next hb5
  have hB5 := hB4.trans (hb5.mono hB4.size)
  clear hK4 hB4 hb5 hA4
  have hql := paL_len (bs s)
  generalize paL (bs s) = q at *
  generalize paE (bs s) = er at *
  have HK := Lib.hid (And.intro hK5 hB5)
  clear hK5 hB5
  go_wp2_with fail
  go_loopw [13] (RelW w5 q.length) (fun i _ => q.length - (intOf i).toNat)
  case atStart => exact ⟨0, by omega, rfl, 0, rfl⟩
  case round =>
    obtain ⟨k, hk, rfl, m, rfl⟩ := hrel
    by_cases hlt : k < q.length
    · obtain ⟨⟨x, y⟩, hx⟩ : ∃ x, q[k]? = some x := ⟨q[k], List.getElem?_eq_getElem hlt⟩
      obtain ⟨b1, o1, rfl, _, u0, u1⟩ := hA45 k _ hx
      obtain ⟨b2, o2, rfl, _, v0, v1⟩ := hA5 k _ hx
      have u0' : (w5.drewN m).cell? ⟨b1, o1 + k * 2, none⟩ = some (.int .i64 x) := u0
      have u1' : (w5.drewN m).cell? ⟨b1, o1 + k * 2 + 1, none⟩ = some (.int .i64 y) := u1
      have v0' : (w5.drewN m).cell? ⟨b2, o2 + k * 2, none⟩ = some (.int .i64 x) := v0
      have v1' : (w5.drewN m).cell? ⟨b2, o2 + k * 2 + 1, none⟩ = some (.int .i64 y) := v1
      clear hx u0 u1 v0 v1
      have hkl : (k : Int) < q.length := by omega
      generalize hW : w5.drewN m = W at *
      have HW := Lib.hid hW
      clear hW
      go_wp2_with fail
      go_quiet (fail)
      go_wp2
      go_roundw
      case rel => exact ⟨k + 1, by omega, by go_num, m + nq, by rw [← HW.out, World.drewN_drewN]⟩
      case measure => simp [intOf]; omega
    · obtain rfl : k = q.length := by omega
      have hKm : KD (w5.drewN m) := HK.out.1
      have hBm : Below w.heap.size w (w5.drewN m) := belN HK.out.2 m
      clear hA45 hA5 HK
      generalize w5.drewN m = W3 at *
      go_wp2_with fail
      refine (awake_any W3 hKm).mono ?_
      rintro e x3 ⟨rfl, hx3⟩
      have hfin := Below.trans hBm (hx3.mono hBm.size)
      go_wp2
      go_ret
      exact ⟨rfl, hfin⟩
theorem texts_law (a : Option Addr) (len cap : Nat) (l : List (Int × Int)) (s : ByteArray) (w : World) (hl : len = l.length) (hP : Prs w.heap.size w a l) (hK : KD w) : Calls Tryd.prog 6 #[.slice a len cap, .string s] w (Ret (.bool true) w) := by
  subst hl
  by_cases h : l.length ≤ 300
  · by_cases h2 : s.size ≤ 3000
    · exact texts_few a cap l s w hP hK h h2
    · exact texts_long a cap l s w hK h (by omega)
  · exact texts_big a cap l s w hK (by omega)
end Go.Proofs.YtenbbnmhgpclkaaDoor
