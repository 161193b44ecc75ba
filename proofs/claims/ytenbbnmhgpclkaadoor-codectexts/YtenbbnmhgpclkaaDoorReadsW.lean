/- The walk of the law CodecReads. -/
import Derived.Test.YtenbbnmhgpclkaaDoorRt
namespace Go.Proofs.YtenbbnmhgpclkaaDoor
open Go.RowKit

theorem eq47 (a b c d : Int) (w : World) : (Op.equalIn 10000 47 (.agg #[.int .i64 a, .int .i64 b]) (.agg #[.int .i64 c, .int .i64 d])).run Tryd.prog w = .ok (a == c && b == d) w := by
  have u3 := Tryd.underlying3
  have a3 := Tryd.isAgg3
  have z3 := Tryd.sizeOf3
  have hS : Tryd.prog.underlying 47 = some (.struct (Tryd.prog.fieldsOf 47)) := by kernel_rfl
  rw [show (10000 : Nat) = 9999 + 1 from rfl, run_equalIn_agg w 9999 47 _ _ hS (by kernel_rfl)]
  simp only [Program.fieldsOf, Tryd.underlying47]
  go_simp
  by_cases h1 : a = c <;> by_cases h2 : b = d <;> simp [h1, h2]
theorem eq47_same (a b : Int) (w : World) : (Op.equalIn 10000 47 (.agg #[.int .i64 a, .int .i64 b]) (.agg #[.int .i64 a, .int .i64 b])).run Tryd.prog w = .ok true w := by
  rw [eq47]
  simp

set_option maxRecDepth 100000 in
set_option maxHeartbeats 1000000 in
theorem reads_big (a : Option Addr) (cap : Nat) (l : List (Int × Int)) (s : ByteArray) (w : World) (hK : KD w) (h : 300 < l.length) : Calls Tryd.prog 7 #[.slice a l.length cap, .string s] w (Ret (.bool true) w) := by
  have hnot := hnot
  have hd : decide ((l.length : Int) ≤ 300) = false := decide_eq_false (by omega)
  go_enter Tryd.func7, Tryd.ntmps7
  go_wp2_with fail
  refine (few_any a l.length cap w).mono ?_
  rintro e w0 ⟨rfl, hb0⟩
  rw [hd]
  go_wp2_with fail
  refine (awake_any w0 (hK.next hb0)).mono ?_
  rintro e w1 ⟨rfl, hb1⟩
  have hfin := hb0.trans (hb1.mono hb0.size)
  go_wp2
  go_ret
  exact ⟨rfl, hfin⟩
set_option maxRecDepth 100000 in
set_option maxHeartbeats 1000000 in
theorem reads_long (a : Option Addr) (cap : Nat) (l : List (Int × Int)) (s : ByteArray) (w : World) (hK : KD w) (h : l.length ≤ 300) (h2 : 3000 < s.size) : Calls Tryd.prog 7 #[.slice a l.length cap, .string s] w (Ret (.bool true) w) := by
  have hnot := hnot
  have hd : decide ((l.length : Int) ≤ 300) = true := decide_eq_true (by omega)
  have hd2 : decide ((3000 : Int) < (s.size : Int)) = true := decide_eq_true (by omega)
  go_enter Tryd.func7, Tryd.ntmps7
  go_wp2_with fail
  refine (few_any a l.length cap w).mono ?_
  rintro e w0 ⟨rfl, hb0⟩
  rw [hd]
  go_wp2_with fail
  refine (awake_any w0 (hK.next hb0)).mono ?_
  rintro e w1 ⟨rfl, hb1⟩
  have hfin := hb0.trans (hb1.mono hb0.size)
  go_wp2
  go_ret
  exact ⟨rfl, hfin⟩

set_option maxRecDepth 100000 in
set_option maxHeartbeats 4000000 in
theorem reads_few (a : Option Addr) (cap : Nat) (l : List (Int × Int)) (s : ByteArray) (w : World) (hP : Prs w.heap.size w a l) (hK : KD w) (h : l.length ≤ 300) (h2 : s.size ≤ 3000) : Calls Tryd.prog 7 #[.slice a l.length cap, .string s] w (Ret (.bool true) w) := by
  have hnot := hnot
  have hs : s.size ≤ 100000 := by omega
  have hd : decide ((l.length : Int) ≤ 300) = true := decide_eq_true (by omega)
  have hd2 : decide ((3000 : Int) < (s.size : Int)) = false := decide_eq_false (by omega)
  go_enter Tryd.func7, Tryd.ntmps7
  go_wp2_with fail
  refine (few_any a l.length cap w).mono ?_
  rintro e w0 ⟨rfl, hb0⟩
  rw [hd]
  have hP0 := hP.next hb0
  have hK0 := hK.next hb0
  clear hP hK
  go_wp2_with fail
  refine (print_any a _ cap l w0 rfl hP0 hK0).mono ?_
  rintro e w1 ⟨rfl, hb1⟩
  have hP1 := hP0.next hb1
  have hK1 := hK0.next hb1
  have hB1 := hb0.trans (hb1.mono hb0.size)
  clear hP0 hK0 hb0 hb1 hd hd2
  by_cases he : plErr l = 0
  · have hpt : prT l = txt l := by
      unfold prT
      rw [if_pos he]
    obtain ⟨hl0, hl256, hall⟩ := plErr_all he
    have htl : (str (txt l)).size ≤ 100000 := by
      have h1 := txt_len l hall
      have h3 : (str (txt l)).size = (txt l).length := rfl
      omega
    obtain ⟨f1, f2⟩ := parse_txt he
    rw [he, hpt]
    clear hall hpt
    go_wp2_with fail
    refine (parse_any (str (txt l)) w1 hK1 htl).mono ?_
    rintro e w2 ⟨a2, c2, rfl, hb2, hA2⟩
    rw [bs_str, f2] at hA2
    rw [bs_str, f1, f2]
    have hP2 := hP1.next hb2
    have hK2 := hK1.next hb2
    have hB2 := hB1.trans (hb2.mono hB1.size)
    clear hP1 hK1 hB1 hb2 f1 f2 htl he
    have HK := Lib.hid (And.intro hK2 hB2)
    clear hK2 hB2
    go_wp2_with fail
    go_loopw [9] (RelW w2 l.length) (fun i _ => l.length - (intOf i).toNat)
    case atStart => exact ⟨0, by omega, rfl, 0, rfl⟩
    case round =>
      obtain ⟨k, hk, rfl, m, rfl⟩ := hrel
      by_cases hlt : k < l.length
      · obtain ⟨⟨x, y⟩, hx⟩ : ∃ x, l[k]? = some x := ⟨l[k], List.getElem?_eq_getElem hlt⟩
        obtain ⟨b1, o1, rfl, _, u0, u1⟩ := hA2 k _ hx
        obtain ⟨b2, o2, rfl, _, v0, v1⟩ := hP2 k _ hx
        have u0' : (w2.drewN m).cell? ⟨b1, o1 + k * 2, none⟩ = some (.int .i64 x) := u0
        have u1' : (w2.drewN m).cell? ⟨b1, o1 + k * 2 + 1, none⟩ = some (.int .i64 y) := u1
        have v0' : (w2.drewN m).cell? ⟨b2, o2 + k * 2, none⟩ = some (.int .i64 x) := v0
        have v1' : (w2.drewN m).cell? ⟨b2, o2 + k * 2 + 1, none⟩ = some (.int .i64 y) := v1
        clear hx u0 u1 v0 v1
        have hkl : (k : Int) < l.length := by omega
        have heq := eq47_same x y
        generalize hW : w2.drewN m = W at *
        have HW := Lib.hid hW
        clear hW
        go_wp2_with fail
        go_quiet (fail)
        go_wp2
        go_roundw
        case rel => exact ⟨k + 1, by omega, by go_num, m + nq, by rw [← HW.out, World.drewN_drewN]⟩
        case measure => simp [intOf]; omega
      · obtain rfl : k = l.length := by omega
        have hKm : KD (w2.drewN m) := HK.out.1
        have hBm : Below w.heap.size w (w2.drewN m) := belN HK.out.2 m
        clear hA2 hP2 HK
        generalize w2.drewN m = W3 at *
        go_wp2_with fail
        refine (parse_any s W3 hKm hs).mono ?_
        rintro e x1 ⟨p1, pc1, rfl, hx1, hA1⟩
        have hKx := KD.next hKm hx1
        have hBx := Below.trans hBm (hx1.mono hBm.size)
        by_cases hpe : paE (bs s) = 0
        · obtain ⟨y1, y2⟩ := txt_parse hpe
          rw [hpe]
          go_wp2_with fail
          refine (print_any p1 _ pc1 (paL (bs s)) x1 rfl hA1 hKx).mono ?_
          rintro e x2 ⟨rfl, hx2⟩
          have hpt : prT (paL (bs s)) = bs s := by
            unfold prT
            rw [if_pos y1, y2]
          rw [y1, hpt, str_bs]
          have hKy := hKx.next hx2
          have hBy := hBx.trans (hx2.mono hBx.size)
          clear hpt y1 y2 hx1 hx2 hA1 hKx hBx hpe
          go_wp2_with fail
          refine (awake_any x2 hKy).mono ?_
          rintro e x3 ⟨rfl, hx3⟩
          have hfin := hBy.trans (hx3.mono hBy.size)
          go_wp2
          go_ret
          exact ⟨rfl, hfin⟩
        · have hpl := paL_err hpe
          have hpe' : (paE (bs s) != 0) = true := by simpa using hpe
          rw [hpl]
          clear hpl hpe hA1
          generalize paE (bs s) = er at *
          go_wp2_with fail
          refine (awake_any x1 hKx).mono ?_
          rintro e x3 ⟨rfl, hx3⟩
          have hfin := hBx.trans (hx3.mono hBx.size)
          go_wp2
          go_ret
          exact ⟨rfl, hfin⟩
  · have hpt : prT l = [] := by
      unfold prT
      rw [if_neg he]
    have he' : (plErr l == 0) = false := by rw [beq_eq_false_iff_ne]; exact he
    go_wp2_with fail
    refine (check_any a _ cap l w1 rfl hP1 hK1).mono ?_
    rintro e w2 ⟨rfl, hb2⟩
    have hK2 := hK1.next hb2
    have hB2 := hB1.trans (hb2.mono hB1.size)
    clear hP1 hK1 hB1 hb2 he hpt
    generalize plErr l = er0 at *
    go_wp2_with fail
    refine (parse_any s w2 hK2 hs).mono ?_
    rintro e x1 ⟨p1, pc1, rfl, hx1, hA1⟩
    have hKx := KD.next hK2 hx1
    have hBx := Below.trans hB2 (hx1.mono hB2.size)
    by_cases hpe : paE (bs s) = 0
    · obtain ⟨y1, y2⟩ := txt_parse hpe
      rw [hpe]
      go_wp2_with fail
      refine (print_any p1 _ pc1 (paL (bs s)) x1 rfl hA1 hKx).mono ?_
      rintro e x2 ⟨rfl, hx2⟩
      have hpt : prT (paL (bs s)) = bs s := by
        unfold prT
        rw [if_pos y1, y2]
      rw [y1, hpt, str_bs]
      have hKy := hKx.next hx2
      have hBy := hBx.trans (hx2.mono hBx.size)
      clear hpt y1 y2 hx1 hx2 hA1 hKx hBx hpe
      go_wp2_with fail
      refine (awake_any x2 hKy).mono ?_
      rintro e x3 ⟨rfl, hx3⟩
      have hfin := hBy.trans (hx3.mono hBy.size)
      go_wp2
      go_ret
      exact ⟨rfl, hfin⟩
    · have hpl := paL_err hpe
      have hpe' : (paE (bs s) != 0) = true := by simpa using hpe
      rw [hpl]
      clear hpl hpe hA1
      generalize paE (bs s) = er at *
      go_wp2_with fail
      refine (awake_any x1 hKx).mono ?_
      rintro e x3 ⟨rfl, hx3⟩
      have hfin := hBx.trans (hx3.mono hBx.size)
      go_wp2
      go_ret
      exact ⟨rfl, hfin⟩
theorem reads_law (a : Option Addr) (len cap : Nat) (l : List (Int × Int)) (s : ByteArray) (w : World) (hl : len = l.length) (hP : Prs w.heap.size w a l) (hK : KD w) : Calls Tryd.prog 7 #[.slice a len cap, .string s] w (Ret (.bool true) w) := by
  subst hl
  by_cases h : l.length ≤ 300
  · by_cases h2 : s.size ≤ 3000
    · exact reads_few a cap l s w hP hK h h2
    · exact reads_long a cap l s w hK h (by omega)
  · exact reads_big a cap l s w hK (by omega)
end Go.Proofs.YtenbbnmhgpclkaaDoor
