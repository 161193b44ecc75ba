/- The walk of the law CodecPlaces. -/
import Derived.Test.YtenbbnmhgpclkaaDoorAwk
namespace Go.Proofs.YtenbbnmhgpclkaaDoor
open Go.RowKit


theorem places_law_big (a : Option Addr) (cap : Nat) (l : List (Int × Int)) (w : World) (hK : KD w) (h : 300 < l.length) : Calls Tryd.prog 3 #[.slice a l.length cap] w (Ret (.bool true) w) := by
  have hnot := hnot
  have hd : decide ((l.length : Int) ≤ 300) = false := decide_eq_false (by omega)
  go_enter Tryd.func3, Tryd.ntmps3
  go_wp2_with fail
  refine (few_any a l.length cap w).mono ?_
  rintro e w0 ⟨rfl, hb0⟩
  rw [hd]
  go_wp2_with fail
  refine (awake_any w0 (hK.next hb0)).mono ?_
  rintro e w1 ⟨rfl, hb1⟩
  have hfin := hb0.trans (hb1.mono hb0.size)
  go_wp2
  go_ret
  exact ⟨rfl, hfin⟩

/-- At the head of the law's loop. -/
def RelL (w : World) (n : Nat) (s9 : Value) (wr : World) : Prop := ∃ k : Nat, k ≤ n ∧ s9 = .int .i64 k ∧ ∃ m, wr = w.drewN m

set_option maxRecDepth 100000 in
set_option maxHeartbeats 4000000 in
theorem places_law_few (a : Option Addr) (cap : Nat) (l : List (Int × Int)) (w : World) (hP : Prs w.heap.size w a l) (hK : KD w) (h : l.length ≤ 300) : Calls Tryd.prog 3 #[.slice a l.length cap] w (Ret (.bool true) w) := by
  have hnot := hnot
  have hd : decide ((l.length : Int) ≤ 300) = true := decide_eq_true (by omega)
  go_enter Tryd.func3, Tryd.ntmps3
  go_wp2_with fail
  refine (few_any a l.length cap w).mono ?_
  rintro e w0 ⟨rfl, hb0⟩
  rw [hd]
  have hP0 := hP.next hb0
  have hK0 := hK.next hb0
  clear hP hK
  go_wp2_with fail
  refine (places_any a _ cap l w0 rfl hP0 hK0).mono ?_
  rintro e w1 ⟨a1, c1, rfl, hb1, hA1⟩
  have hP1 := hP0.next hb1
  have hK1 := hK0.next hb1
  have hB1 := hb0.trans (hb1.mono hb0.size)
  clear hP0 hK0 hb0 hb1
  go_wp2_with fail
  refine (plain_any a _ cap l w1 rfl h hP1).mono ?_
  rintro e w2 ⟨a2, c2, rfl, hb2, hA2⟩
  have hP2 := hP1.next hb2
  have hK2 := hK1.next hb2
  have hA12 := hA1.next hb2
  have hB2 := hB1.trans (hb2.mono hB1.size)
  clear hP1 hK1 hA1 hB1 hb2
  go_wp2_with fail
  refine (rplaces_any a2 _ c2 l w2 rfl hA2).mono ?_
  rintro e w3 ⟨a3, c3, rfl, hb3, hA3⟩
  have hP3 := hP2.next hb3
  have hK3 := hK2.next hb3
  have hA13 := hA12.next hb3
  have hB3 := hB2.trans (hb3.mono hB2.size)
  clear hP2 hK2 hA12 hB2 hb3 hA2
  go_wp2_with fail
  refine (check_any a _ cap l w3 rfl hP3 hK3).mono ?_
  rintro e w4 ⟨rfl, hb4⟩
  have hK4 := hK3.next hb4
  have hA14 := hA13.next hb4
  have hA34 := hA3.next hb4
  have hB4 := hB3.trans (hb4.mono hB3.size)
  clear hP3 hK3 hA13 hA3 hB3 hb4 hd
  generalize plErr l = er at *
  generalize plN l = nn at *
  have hpl : (plP l).length ≤ 256 := plP_len l
  generalize plP l = pp at *
  have HK := Lib.hid (And.intro hK4 hB4)
  clear hK4 hB4
  go_wp2_with fail
  go_loopw [9] (RelL w4 pp.length) (fun i _ => pp.length - (intOf i).toNat)
  case atStart => exact ⟨0, by omega, rfl, 0, rfl⟩
  case round =>
    obtain ⟨k, hk, rfl, m, rfl⟩ := hrel
    by_cases hlt : k < pp.length
    · obtain ⟨⟨x, y⟩, hx⟩ : ∃ x, pp[k]? = some x := ⟨pp[k], List.getElem?_eq_getElem hlt⟩
      obtain ⟨b1, o1, rfl, _, u0, u1⟩ := hA14 k _ hx
      obtain ⟨b2, o2, rfl, _, v0, v1⟩ := hA34 k _ hx
      have u0' : (w4.drewN m).cell? ⟨b1, o1 + k * 2, none⟩ = some (.int .i64 x) := u0
      have u1' : (w4.drewN m).cell? ⟨b1, o1 + k * 2 + 1, none⟩ = some (.int .i64 y) := u1
      have v0' : (w4.drewN m).cell? ⟨b2, o2 + k * 2, none⟩ = some (.int .i64 x) := v0
      have v1' : (w4.drewN m).cell? ⟨b2, o2 + k * 2 + 1, none⟩ = some (.int .i64 y) := v1
      clear hx u0 u1 v0 v1
      have hkl : (k : Int) < pp.length := by omega
      have heq := eq33_same x y
      generalize hW : w4.drewN m = W at *
      have HW := Lib.hid hW
      clear hW
      go_wp2_with fail
      go_quiet (fail)
      go_wp2
      go_roundw
      case rel => exact ⟨k + 1, by omega, by go_num, m + nq, by rw [← HW.out, World.drewN_drewN]⟩
      case measure => simp [intOf]; omega
    · obtain rfl : k = pp.length := by omega
      go_wp2_with fail
      have hBm := belN HK.out.2 m
      have hKm : KD (w4.drewN m) := HK.out.1
      refine (awake_any _ hKm).mono ?_
      rintro e w5 ⟨rfl, hb5⟩
      have hfin := hBm.trans (hb5.mono hBm.size)
      go_wp2
      go_ret
      exact ⟨rfl, hfin⟩
theorem places_law (a : Option Addr) (len cap : Nat) (l : List (Int × Int)) (w : World) (hl : len = l.length) (hP : Prs w.heap.size w a l) (hK : KD w) : Calls Tryd.prog 3 #[.slice a len cap] w (Ret (.bool true) w) := by
  subst hl
  by_cases h : l.length ≤ 300
  · exact places_law_few a cap l w hP hK h
  · exact places_law_big a cap l w hK (by omega)
end Go.Proofs.YtenbbnmhgpclkaaDoor
