/- The walk of the law CodecBegins. -/
import Derived.Test.YtenbbnmhgpclkaaDoorAwk
import Derived.Test.YtenbbnmhgpclkaaDoorPlcB
namespace Go.Proofs.YtenbbnmhgpclkaaDoor
open Go.RowKit

set_option maxRecDepth 100000 in
set_option maxHeartbeats 1000000 in
theorem begins_big (a : Option Addr) (cap : Nat) (l : List (Int × Int)) (k : Int) (w : World) (hK : KD w) (h : 300 < l.length) : Calls Tryd.prog 5 #[.slice a l.length cap, .int .i64 k] w (Ret (.bool true) w) := by
  have hnot := hnot
  have hd : decide ((l.length : Int) ≤ 300) = false := decide_eq_false (by omega)
  go_enter Tryd.func5, Tryd.ntmps5
  go_wp2_with fail
  refine (few_any a l.length cap w).mono ?_
  rintro e w0 ⟨rfl, hb0⟩
  rw [hd]
  go_wp2_with fail
  refine (awake_any w0 (hK.next hb0)).mono ?_
  rintro e w1 ⟨rfl, hb1⟩
  have hfin := hb0.trans (hb1.mono hb0.size)
  go_wp2
  go_ret
  exact ⟨rfl, hfin⟩

set_option maxRecDepth 100000 in
set_option maxHeartbeats 1000000 in
theorem begins_out (a : Option Addr) (cap : Nat) (l : List (Int × Int)) (k : Int) (w : World) (hP : Prs w.heap.size w a l) (hK : KD w) (h : l.length ≤ 300) (ho : plErr l ≠ 0 ∨ k < 1 ∨ (l.length : Int) < k) : Calls Tryd.prog 5 #[.slice a l.length cap, .int .i64 k] w (Ret (.bool true) w) := by
  have hnot := hnot
  have hd : decide ((l.length : Int) ≤ 300) = true := decide_eq_true (by omega)
  go_enter Tryd.func5, Tryd.ntmps5
  go_wp2_with fail
  refine (few_any a l.length cap w).mono ?_
  rintro e w0 ⟨rfl, hb0⟩
  rw [hd]
  go_wp2_with fail
  refine (check_any a _ cap l w0 rfl (hP.next hb0) (hK.next hb0)).mono ?_
  rintro e w1 ⟨rfl, hb1⟩
  have hK1 := (hK.next hb0).next hb1
  have hB1 := hb0.trans (hb1.mono hb0.size)
  clear hP hK hb0 hb1 hd
  generalize plErr l = er at *
  generalize l.length = n at *
  by_cases h0 : er = 0
  · subst h0
    by_cases h1 : k < 1
    · have hd1 : decide (k < 1) = true := decide_eq_true h1
      clear ho
      go_wp2_with fail
      refine (awake_any w1 hK1).mono ?_
      rintro e w2 ⟨rfl, hb2⟩
      have hfin := hB1.trans (hb2.mono hB1.size)
      go_wp2
      go_ret
      exact ⟨rfl, hfin⟩
    · have h2 : (n : Int) < k := by
        rcases ho with ho | ho | ho
        · exact absurd rfl ho
        · exact absurd ho h1
        · exact ho
      have hd1 : decide (k < 1) = false := decide_eq_false h1
      have hd2 : decide ((n : Int) < k) = true := decide_eq_true h2
      clear ho
      go_wp2_with fail
      refine (awake_any w1 hK1).mono ?_
      rintro e w2 ⟨rfl, hb2⟩
      have hfin := hB1.trans (hb2.mono hB1.size)
      go_wp2
      go_ret
      exact ⟨rfl, hfin⟩
  · have hd1 : (er != 0) = true := by simpa using h0
    clear ho h0
    go_wp2_with fail
    refine (awake_any w1 hK1).mono ?_
    rintro e w2 ⟨rfl, hb2⟩
    have hfin := hB1.trans (hb2.mono hB1.size)
    go_wp2
    go_ret
    exact ⟨rfl, hfin⟩

/-- What is true of place i. -/
structure BegAt (l pp : List (Int × Int)) (m : Int) (i : Nat) (x y n : Int) : Prop where
  p : pp[i]? = some (x, y)
  l : ∃ kd, l[i]? = some (kd, n)
  y0 : 0 ≤ y
  y64 : y + n ≤ 64
  n1 : 1 ≤ n
  x0 : 0 ≤ x
  xm : x < m

set_option maxRecDepth 100000 in
set_option maxHeartbeats 8000000 in
theorem begins_in (a : Option Addr) (cap : Nat) (l : List (Int × Int)) (k : Nat) (w : World) (hP : Prs w.heap.size w a l) (hK : KD w) (hcap : l.length ≤ cap) (he : plErr l = 0) (h1 : 1 ≤ k) (h2 : k ≤ l.length) : Calls Tryd.prog 5 #[.slice a l.length cap, .int .i64 k] w (Ret (.bool true) w) := by
  obtain ⟨hn1, hl0, hl256⟩ := plN_pos he
  obtain ⟨t1, t2, t3, t4, t5⟩ := plErr_take he h1 h2
  obtain ⟨hm1, _, _⟩ := plN_pos t1
  have hat : ∀ i, i < k → ∃ x y n, BegAt l (plP l) (plN (l.take k)) i x y n := fun i hi => by
    obtain ⟨⟨x, y⟩, hq⟩ : ∃ q, (plP l)[i]? = some q := ⟨(plP l)[i]'(by omega), List.getElem?_eq_getElem _⟩
    obtain ⟨⟨kd, n⟩, hp⟩ : ∃ p, l[i]? = some p := ⟨l[i]'(by omega), List.getElem?_eq_getElem _⟩
    have g := plP_in t1 i (x, y) (kd, n) (by rw [t2, List.getElem?_take, if_pos hi]; exact hq) (by rw [List.getElem?_take, if_pos hi]; exact hp)
    obtain ⟨_, _, _, _, b1, b2⟩ := ok_bad g.2.2.2.2
    exact ⟨x, y, n, hq, ⟨kd, hp⟩, g.2.2.1, g.2.2.2.1, b1, g.1, g.2.1⟩
  have hnx := plP_next he
  have HA := Lib.hid (And.intro hat hnx)
  clear hat hnx
  have hnot := hnot
  have hd : decide ((l.length : Int) ≤ 300) = true := decide_eq_true (by omega)
  have hd1 : decide ((k : Int) < 1) = false := decide_eq_false (by omega)
  have hd2 : decide ((l.length : Int) < (k : Int)) = false := decide_eq_false (by omega)
  have hlk : (l.take k).length = k := by simp; omega
  have hpk : (plP (l.take k)).length = k := by rw [t2]; simp; omega
  have Ht := Lib.hid (And.intro he (And.intro t1 (And.intro t2 (And.intro t5 (And.intro hlk hpk)))))
  clear he t1 t2 t5 hlk hpk
  go_enter Tryd.func5, Tryd.ntmps5
  go_wp2_with fail
  refine (few_any a l.length cap w).mono ?_
  rintro e w0 ⟨rfl, hb0⟩
  rw [hd]
  have hP0 := hP.next hb0
  have hK0 := hK.next hb0
  clear hP hK
  go_wp2_with fail
  refine (check_any a _ cap l w0 rfl hP0 hK0).mono ?_
  rintro e w1 ⟨rfl, hb1⟩
  rw [Ht.out.1]
  have hP1 := hP0.next hb1
  have hK1 := hK0.next hb1
  have hB1 := hb0.trans (hb1.mono hb0.size)
  clear hP0 hK0 hb0 hb1 hd
  go_wp2_with fail
  refine (places_any a _ cap l w1 rfl hP1 hK1).mono ?_
  rintro e w2 ⟨a2, c2, rfl, hb2, hA2⟩
  rw [Ht.out.1, Ht.out.2.2.2.1]
  have hP2 := hP1.next hb2
  have hK2 := hK1.next hb2
  have hB2 := hB1.trans (hb2.mono hB1.size)
  clear hP1 hK1 hB1 hb2
  have hkc : (k : Int) ≤ cap := by omega
  go_wp2_with fail
  refine (places_any a k cap (l.take k) w2 Ht.out.2.2.2.2.1.symm (hP2.take k) hK2).mono ?_
  rintro e w3 ⟨a3, c3, rfl, hb3, hA3⟩
  rw [Ht.out.2.1, Ht.out.2.2.2.2.2]
  have hP3 := hP2.next hb3
  have hK3 := hK2.next hb3
  have hA23 := hA2.next hb3
  have hB3 := hB2.trans (hb3.mono hB2.size)
  clear hP2 hK2 hA2 hB2 hb3 hd1 hd2
  have HK := Lib.hid (And.intro hK3 hB3)
  clear hK3 hB3
  rw [Ht.out.2.2.1] at hA3
  have hm0 : decide (plN l < plN (l.take k)) = false := decide_eq_false (by omega)
  have hm2 : decide (plN (l.take k) < 1) = false := decide_eq_false (by omega)
  have hm3 : decide (64 < plN l) = false := decide_eq_false (by omega)
  generalize plN l = nn at *
  generalize plN (l.take k) = mm at *
  generalize plP l = pp at *
  go_wp2_with fail
  clear hm0 hm2 hm3
  go_loopw [11] (RelW w3 k) (fun i _ => k - (intOf i).toNat)
  case atStart => exact ⟨0, by omega, rfl, 0, rfl⟩
  case round =>
    obtain ⟨i, hi, rfl, nd, rfl⟩ := hrel
    by_cases hlt : i < k
    · obtain ⟨x, y, n, B⟩ := HA.out.1 i hlt
      obtain ⟨kd, hln⟩ := B.l
      obtain ⟨b1, o1, rfl, _, u0, u1⟩ := hA23 i _ B.p
      obtain ⟨b2, o2, rfl, _, v0, v1⟩ := hA3 i (x, y) (by rw [List.getElem?_take, if_pos hlt]; exact B.p)
      obtain ⟨b3, o3, rfl, _, p0, p1⟩ := hP3 i _ hln
      have u0' : (w3.drewN nd).cell? ⟨b1, o1 + i * 2, none⟩ = some (.int .i64 x) := u0
      have u1' : (w3.drewN nd).cell? ⟨b1, o1 + i * 2 + 1, none⟩ = some (.int .i64 y) := u1
      have v0' : (w3.drewN nd).cell? ⟨b2, o2 + i * 2, none⟩ = some (.int .i64 x) := v0
      have v1' : (w3.drewN nd).cell? ⟨b2, o2 + i * 2 + 1, none⟩ = some (.int .i64 y) := v1
      have p1' : (w3.drewN nd).cell? ⟨b3, o3 + i * 2 + 1, none⟩ = some (.int .i64 n) := p1
      have hy0 : decide (y < 0) = false := decide_eq_false (by have := B.y0; omega)
      have hyw : IntKind.i64.wrap (y + n) = y + n := IntWalk.i64_in _ (by have := B.y0; have := B.y64; have := B.n1; omega)
      have hyw2 : wrap64 (y + n) = y + n := by unfold wrap64; have := B.y0; have := B.y64; have := B.n1; omega
      have hy64 : decide (64 < y + n) = false := decide_eq_false (by have := B.y64; omega)
      have hxm : decide (mm ≤ x) = false := decide_eq_false (by have := B.xm; omega)
      have heq := eq33_same x y
      have hik : (i : Int) < k := by omega
      have hil : (i : Int) < l.length := by omega
      have HB := Lib.hid (And.intro B (And.intro u0 (And.intro u1 (And.intro hyw hyw2))))
      clear u0 u1 v0 v1 p0 p1 B hln
      generalize hW : w3.drewN nd = W at *
      have HW := Lib.hid hW
      clear hW hyw2
      go_wp2_with fail
      go_quiet (fail)
      go_wp2_with fail
      clear hy0 hyw hy64 hxm heq v0' v1' p1'
      obtain ⟨n1, hn1⟩ : ∃ n1, n1 = nq := ⟨_, rfl⟩
      subst hn1
      cases i with
      | zero =>
        have hz : decide ((0 : Int) < ((0 : Nat) : Int)) = false := rfl
        go_quiet (fail)
        go_wp2
        go_roundw
        case rel => exact ⟨1, by omega, by go_num, nd + (n1 + nq), by rw [← HW.out, World.drewN_drewN]⟩
        case measure => simp [intOf]; omega
      | succ j =>
        obtain ⟨x', y', n', B'⟩ := HA.out.1 j (by omega)
        obtain ⟨kd', hln'⟩ := B'.l
        obtain ⟨b1', o1', hb1', _, w0', w1'⟩ := hA23 j _ B'.p
        cases hb1'
        obtain ⟨b3', o3', hb3', _, _, q1'⟩ := hP3 j _ hln'
        cases hb3'
        have hnx := HA.out.2 j (x', y') (x, y) (kd', n') B'.p HB.out.1.p hln'
        have c0 : W.cell? ⟨b1, o1 + j * 2, none⟩ = some (.int .i64 x') := by rw [← HW.out]; exact w0'
        have c1 : W.cell? ⟨b1, o1 + j * 2 + 1, none⟩ = some (.int .i64 y') := by rw [← HW.out]; exact w1'
        have c2 : W.cell? ⟨b3, o3 + j * 2 + 1, none⟩ = some (.int .i64 n') := by rw [← HW.out]; exact q1'
        have hj1 : IntKind.i64.wrap ((j : Int) + 1 - 1) = j := by rw [show (j : Int) + 1 - 1 = j by omega]; exact IntWalk.i64_in _ (by omega)
        have hpos : decide ((0 : Int) < ((j + 1 : Nat) : Int)) = true := decide_eq_true (by omega)
        have hpos' : decide ((0 : Int) < (j : Int) + 1) = true := decide_eq_true (by omega)
        have hjl : (j : Int) < l.length := by omega
        have hj0 : (0 : Int) ≤ j := by omega
        by_cases hsame : x = x'
        · have hyy : y = y' + n' := hnx.2 hsame
          subst hsame hyy
          have hyw : IntKind.i64.wrap (y' + n') = y' + n' := IntWalk.i64_in _ (by have := B'.y0; have := B'.y64; have := B'.n1; omega)
          clear hnx w0' w1' q1' B' hln'
          go_quiet (fail)
          go_wp2
          go_roundw
          case rel => exact ⟨j + 1 + 1, by omega, by go_num, nd + (n1 + nq), by rw [← HW.out, World.drewN_drewN]⟩
          case measure => simp [intOf]; omega
        · have hlt2 : decide (x < x') = false := decide_eq_false (by have := hnx.1; simp at this; omega)
          have hne : (x == x') = false := by rw [beq_eq_false_iff_ne]; exact hsame
          clear hnx w0' w1' q1' B' hln'
          go_quiet (fail)
          go_wp2
          go_roundw
          case rel => exact ⟨j + 1 + 1, by omega, by go_num, nd + (n1 + nq), by rw [← HW.out, World.drewN_drewN]⟩
          case measure => simp [intOf]; omega
    · obtain rfl : i = k := by omega
      go_wp2_with fail
      have hBm := belN HK.out.2 nd
      have hKm : KD (w3.drewN nd) := HK.out.1
      refine (awake_any _ hKm).mono ?_
      rintro e w5 ⟨rfl, hb5⟩
      have hfin := hBm.trans (hb5.mono hBm.size)
      go_wp2
      go_ret
      exact ⟨rfl, hfin⟩
theorem begins_law (a : Option Addr) (len cap : Nat) (l : List (Int × Int)) (k : Int) (w : World) (hl : len = l.length) (hc : len ≤ cap) (hP : Prs w.heap.size w a l) (hK : KD w) : Calls Tryd.prog 5 #[.slice a len cap, .int .i64 k] w (Ret (.bool true) w) := by
  subst hl
  by_cases h : l.length ≤ 300
  · by_cases ho : plErr l ≠ 0 ∨ k < 1 ∨ (l.length : Int) < k
    · exact begins_out a cap l k w hP hK h ho
    · have he : plErr l = 0 := by
        by_cases he : plErr l = 0
        · exact he
        · exact absurd (Or.inl he) ho
      have h1 : 1 ≤ k := by
        have : ¬ k < 1 := fun h => ho (Or.inr (Or.inl h))
        omega
      have h2 : k ≤ l.length := by
        have : ¬ (l.length : Int) < k := fun h => ho (Or.inr (Or.inr h))
        omega
      obtain ⟨m, rfl⟩ : ∃ m : Nat, k = m := ⟨k.toNat, by omega⟩
      exact begins_in a cap l m w hP hK hc he (by omega) (by omega)
  · exact begins_big a cap l k w hK (by omega)
end Go.Proofs.YtenbbnmhgpclkaaDoor
