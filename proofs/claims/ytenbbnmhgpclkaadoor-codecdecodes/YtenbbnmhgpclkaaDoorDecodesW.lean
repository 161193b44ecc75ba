/- The walk of the law CodecDecodes. -/
import Derived.Test.YtenbbnmhgpclkaaDoorDec
import Derived.Test.YtenbbnmhgpclkaaDoorRDec
import Derived.Test.YtenbbnmhgpclkaaDoorPlain
namespace Go.Proofs.YtenbbnmhgpclkaaDoor
open Go.RowKit

theorem word_rung (neg : Bool) (r : Nat) (h : r ≤ Ieee.double.infRung) : Ieee.double.word neg r % Ieee.double.signWeight = r := by
  have h1 : Ieee.double.infRung < Ieee.double.signWeight := by decide +kernel
  unfold Ieee.Format.word
  cases neg
  · simp only [Bool.false_eq_true, if_false]
    exact Nat.mod_eq_of_lt (by omega)
  · simp only [if_true]
    rw [Nat.add_mod_left]
    exact Nat.mod_eq_of_lt (by omega)
theorem datum_self (d : Ieee.Datum) (h : d.isNaN = false) : d.order d = some .eq := by
  cases d with
  | number s m i => simp [Ieee.Datum.order]
  | infinity s => simp [Ieee.Datum.order]
  | nan s t => simp [Ieee.Datum.isNaN] at h
theorem read_num (x : Nat) (h : x % Ieee.double.signWeight ≤ Ieee.double.infRung) : (Ieee.double.read x).isNaN = false := by
  unfold Ieee.Format.read
  dsimp only
  split
  · rfl
  · split
    · rfl
    · split
      · rfl
      · exact absurd h (by omega)
theorem nearest_rung (neg : Bool) (m : Nat) (p : Int) : Ieee.double.nearest neg m p % Ieee.double.signWeight ≤ Ieee.double.infRung := by
  unfold Ieee.Format.nearest
  split
  · rw [word_rung neg 0 (Nat.zero_le _)]
    exact Nat.zero_le _
  · dsimp only
    rw [word_rung neg _ (Nat.min_le_right _ _)]
    exact Nat.min_le_right _ _
/-- A float that came of a number is itself. -/
theorem fl_self (n : Int) : FloatKind.f64.format.order (floatOfInt .f64 n) (floatOfInt .f64 n) = some .eq :=
  datum_self _ (read_num _ (nearest_rung _ _ _))
theorem dvZ_self (kd x : Nat) : ∃ a b, dvZ kd x = .complex .f64 a b ∧ FloatKind.f64.format.order a a = some .eq ∧ FloatKind.f64.format.order b b = some .eq := by
  unfold dvZ
  split
  · exact ⟨_, _, rfl, fl_self _, fl_self _⟩
  · exact ⟨0, 0, rfl, c0_eq, c0_eq⟩
theorem dV_self {ws : List Nat} {l pp : List (Int × Int)} {k : Nat} {N : Int} {Z : Value} (h : (dV ws l pp)[k]? = some (N, Z)) : ∃ a b, Z = .complex .f64 a b ∧ FloatKind.f64.format.order a a = some .eq ∧ FloatKind.f64.format.order b b = some .eq := by
  unfold dV at h
  rw [List.getElem?_zipWith] at h
  split at h
  · simp only [Option.some.injEq, dv1, Prod.mk.injEq] at h
    rw [← h.2]
    exact dvZ_self _ _
  · cases h
theorem dVals_self {l : List (Int × Int)} {ws : List Nat} {k : Nat} {N : Int} {Z : Value} (h : (dVals l ws)[k]? = some (N, Z)) : ∃ a b, Z = .complex .f64 a b ∧ FloatKind.f64.format.order a a = some .eq ∧ FloatKind.f64.format.order b b = some .eq := by
  unfold dVals at h
  split at h
  · exact dV_self h
  · simp at h
theorem dVals_len (l : List (Int × Int)) (ws : List Nat) : (dVals l ws).length ≤ 256 := by
  unfold dVals
  split
  · rename_i h
    by_cases he : plErr l = 0
    · have := plN_pos he
      unfold dV
      rw [List.length_zipWith]
      omega
    · rw [dErr_pl he] at h
      exact absurd h he
  · simp

set_option maxRecDepth 100000 in
set_option maxHeartbeats 1000000 in
theorem decodes_big (a : Option Addr) (cap : Nat) (l : List (Int × Int)) (a2 : Option Addr) (cap2 : Nat) (ws : List Nat) (w : World) (hK : KD w) (h : 300 < l.length) : Calls Tryd.prog 4 #[.slice a l.length cap, .slice a2 ws.length cap2] w (Ret (.bool true) w) := by
  have hnot := hnot
  have hd : decide ((l.length : Int) ≤ 300) = false := decide_eq_false (by omega)
  go_enter Tryd.func4, Tryd.ntmps4
  go_wp2_with fail
  refine (few_any a l.length cap w).mono ?_
  rintro e w0 ⟨rfl, hb0⟩
  rw [hd]
  go_wp2_with fail
  refine (awake_any w0 (hK.next hb0)).mono ?_
  rintro e w1 ⟨rfl, hb1⟩
  have hfin := hb0.trans (hb1.mono hb0.size)
  go_wp2
  go_ret
  exact ⟨rfl, hfin⟩
set_option maxRecDepth 100000 in
set_option maxHeartbeats 1000000 in
theorem decodes_long (a : Option Addr) (cap : Nat) (l : List (Int × Int)) (a2 : Option Addr) (cap2 : Nat) (ws : List Nat) (w : World) (hK : KD w) (h : l.length ≤ 300) (h2 : 300 < ws.length) : Calls Tryd.prog 4 #[.slice a l.length cap, .slice a2 ws.length cap2] w (Ret (.bool true) w) := by
  have hnot := hnot
  have hd : decide ((l.length : Int) ≤ 300) = true := decide_eq_true (by omega)
  have hd2 : decide ((300 : Int) < (ws.length : Int)) = true := decide_eq_true (by omega)
  go_enter Tryd.func4, Tryd.ntmps4
  go_wp2_with fail
  refine (few_any a l.length cap w).mono ?_
  rintro e w0 ⟨rfl, hb0⟩
  rw [hd]
  go_wp2_with fail
  refine (awake_any w0 (hK.next hb0)).mono ?_
  rintro e w1 ⟨rfl, hb1⟩
  have hfin := hb0.trans (hb1.mono hb0.size)
  go_wp2
  go_ret
  exact ⟨rfl, hfin⟩

set_option maxRecDepth 100000 in
set_option maxHeartbeats 4000000 in
theorem decodes_few (a : Option Addr) (cap : Nat) (l : List (Int × Int)) (a2 : Option Addr) (cap2 : Nat) (ws : List Nat) (w : World) (hP : Prs w.heap.size w a l) (hW : Words w.heap.size w a2 ws) (hK : KD w) (h : l.length ≤ 300) (h2 : ws.length ≤ 300) : Calls Tryd.prog 4 #[.slice a l.length cap, .slice a2 ws.length cap2] w (Ret (.bool true) w) := by
  have hnot := hnot
  have hd : decide ((l.length : Int) ≤ 300) = true := decide_eq_true (by omega)
  have hd2 : decide ((300 : Int) < (ws.length : Int)) = false := decide_eq_false (by omega)
  go_enter Tryd.func4, Tryd.ntmps4
  go_wp2_with fail
  refine (few_any a l.length cap w).mono ?_
  rintro e w0 ⟨rfl, hb0⟩
  rw [hd]
  have hP0 := hP.next hb0
  have hK0 := hK.next hb0
  have hW0 := hW.next hb0
  clear hP hK hW
  go_wp2_with fail
  refine (decode_any a _ cap l a2 _ cap2 ws w0 rfl rfl hP0 hW0 hK0).mono ?_
  rintro e w1 ⟨a1, c1, rfl, hb1, hA1⟩
  have hP1 := hP0.next hb1
  have hK1 := hK0.next hb1
  have hW1 := hW0.next hb1
  have hB1 := hb0.trans (hb1.mono hb0.size)
  clear hP0 hK0 hb0 hb1 hW0 hd hd2
  go_wp2_with fail
  refine (plain_any a _ cap l w1 rfl h hP1).mono ?_
  rintro e w2 ⟨a2', c2, rfl, hb2, hA2⟩
  have hK2 := hK1.next hb2
  have hW2 := hW1.next hb2
  have hA12 := hA1.next hb2
  have hB2 := hB1.trans (hb2.mono hB1.size)
  clear hP1 hK1 hA1 hB1 hb2 hW1
  go_wp2_with fail
  refine (rdecode_any a2' _ c2 l a2 _ cap2 ws w2 rfl rfl hA2 hW2).mono ?_
  rintro e w3 ⟨a3, c3, rfl, hb3, hA3⟩
  have hK3 := hK2.next hb3
  have hA13 := hA12.next hb3
  have hB3 := hB2.trans (hb3.mono hB2.size)
  clear hK2 hA12 hB2 hb3 hA2 hW2
  have hsf := fun k N Z => dVals_self (l := l) (ws := ws) (k := k) (N := N) (Z := Z)
  have hln := dVals_len l ws
  have HS := Lib.hid hsf
  clear hsf
  generalize dErr l ws = er at *
  generalize dVals l ws = vv at *
  have HK := Lib.hid (And.intro hK3 hB3)
  clear hK3 hB3
  go_wp2_with fail
  go_loopw [9] (RelW w3 vv.length) (fun i _ => vv.length - (intOf i).toNat)
  case atStart => exact ⟨0, by omega, rfl, 0, rfl⟩
  case round =>
    obtain ⟨k, hk, rfl, m, rfl⟩ := hrel
    by_cases hlt : k < vv.length
    · obtain ⟨⟨N, Z⟩, hx⟩ : ∃ x, vv[k]? = some x := ⟨vv[k], List.getElem?_eq_getElem hlt⟩
      obtain ⟨za, zb, rfl, oa, ob⟩ := HS.out k N Z hx
      obtain ⟨b1, o1, rfl, _, u0, u1⟩ := hA13 k _ hx
      obtain ⟨b2, o2, rfl, _, v0, v1⟩ := hA3 k _ hx
      have u0' : (w3.drewN m).cell? ⟨b1, o1 + k * 2, none⟩ = some (.int .i64 N) := u0
      have u1' : (w3.drewN m).cell? ⟨b1, o1 + k * 2 + 1, none⟩ = some (.complex .f64 za zb) := u1
      have v0' : (w3.drewN m).cell? ⟨b2, o2 + k * 2, none⟩ = some (.int .i64 N) := v0
      have v1' : (w3.drewN m).cell? ⟨b2, o2 + k * 2 + 1, none⟩ = some (.complex .f64 za zb) := v1
      clear hx u0 u1 v0 v1
      have hkl : (k : Int) < vv.length := by omega
      have hne : (N != N) = false := by simp
      generalize hW : w3.drewN m = W at *
      have HW := Lib.hid hW
      clear hW
      go_wp2_with fail
      go_quiet (fail)
      go_wp2
      go_roundw
      case rel => exact ⟨k + 1, by omega, by go_num, m + nq, by rw [← HW.out, World.drewN_drewN]⟩
      case measure => simp [intOf]; omega
    · obtain rfl : k = vv.length := by omega
      go_wp2_with fail
      have hBm := belN HK.out.2 m
      have hKm : KD (w3.drewN m) := HK.out.1
      refine (awake_any _ hKm).mono ?_
      rintro e w5 ⟨rfl, hb5⟩
      have hfin := hBm.trans (hb5.mono hBm.size)
      go_wp2
      go_ret
      exact ⟨rfl, hfin⟩
theorem decodes_law (a : Option Addr) (len cap : Nat) (l : List (Int × Int)) (a2 : Option Addr) (len2 cap2 : Nat) (ws : List Nat) (w : World) (hl : len = l.length) (hl2 : len2 = ws.length) (hP : Prs w.heap.size w a l) (hW : Words w.heap.size w a2 ws) (hK : KD w) : Calls Tryd.prog 4 #[.slice a len cap, .slice a2 len2 cap2] w (Ret (.bool true) w) := by
  subst hl hl2
  by_cases h : l.length ≤ 300
  · by_cases h2 : ws.length ≤ 300
    · exact decodes_few a cap l a2 cap2 ws w hP hW hK h h2
    · exact decodes_long a cap l a2 cap2 ws w hK h (by omega)
  · exact decodes_big a cap l a2 cap2 ws w hK (by omega)
end Go.Proofs.YtenbbnmhgpclkaaDoor
