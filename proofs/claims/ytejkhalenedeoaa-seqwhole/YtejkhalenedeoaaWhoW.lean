/- The walk of the law SeqWhole. -/
import Derived.Test.YtejkhalenedeoaaWhoM
import Derived.Test.YtejkhalenedeoaaAwk
import Derived.Laws.MakeOwn
namespace Go.Proofs.Ytejkhalenedeoaa
open Go.RowKit

theorem info3 : (Try.prog.info? 3).map (fun i => (i.zero, i.size, i.bytes)) = some (some (.int .i64 0), 1, 8) := by kernel_rfl
theorem made_ints (n : Nat) : madeCells #[.int .i64 0] n = ((List.range n).map (fun j => Value.int .i64 (ini 1 j))).toArray := by
  apply Array.ext
  · simp [madeCells]
  · intro i h1 h2
    have e : ini 1 i = 0 := by unfold ini; split <;> (try split) <;> omega
    simp [madeCells, Nat.mod_one, e]
theorem make_ints (n : Nat) (h : n ≤ 1048576) (w : World) :
    (Instr.makeSlice 33 (.int .i64 n) (.int .i64 n)).run Try.prog w = .ok (.slice (some ⟨w.heap.size, 0, none⟩) n n) (w.alloc (.cells ((List.range n).map (fun j => Value.int .i64 (ini 1 j))).toArray 3)) := by
  obtain ⟨i, hi, he⟩ := Option.map_eq_some_iff.1 info3
  simp only [Prod.mk.injEq] at he
  obtain ⟨hz, hs, hb⟩ := he
  have hr := run_make (P := Try.prog) w 33 3 i _ Try.underlying33 hi hz .i64 .i64 n n (by omega) (by omega) (by rw [hb]; omega) (by omega)
  rw [hs] at hr
  simp only [Int.toNat_natCast, Nat.mul_one] at hr
  rw [show (Value.int .i64 0).cells = #[Value.int .i64 0] from rfl, made_ints] at hr
  exact hr
theorem QS.new (w : World) (n : Nat) : QS w n (ini 1) (w.alloc (.cells ((List.range n).map (fun j => Value.int .i64 (ini 1 j))).toArray 3)) := by
  refine ⟨?_, (Below.refl w.heap.size w).alloc (Nat.le_refl _) _⟩
  have := Blk.new w ((List.range n).map (fun j => Value.int .i64 (ini 1 j))).toArray 3
  simpa [Pl] using this

def Rel1 (w : World) (n : Nat) (v : Value) (W : World) : Prop := ∃ k : Nat, 1 ≤ k ∧ k ≤ n ∧ v = .int .i64 k ∧ QS w n (ini k) W
def Rel2 (w : World) (n st : Nat) (s v : Value) (W : World) : Prop := ∃ k : Nat, k ≤ st ∧ s = .int .u64 k ∧ v = .int .i64 k ∧ QS w n (fun j => pv n k j) W
def Rel3 (w : World) (n st : Nat) (F : Int) (l v : Value) (W : World) : Prop := ∃ k : Nat, k ≤ st + 2 ∧ l = .int .i64 (ls F k) ∧ v = .int .i64 k ∧ QS w n (fun j => pv n st j) W

set_option maxRecDepth 100000 in
set_option maxHeartbeats 4000000 in
theorem whole_ok (n st : Nat) (g : Int) (hg : W64 g) (hn : 2 ≤ n) (hn2 : n ≤ 16) (hst : st ≤ 200) (w : World) : Calls Try.prog 6 #[.int .i64 n, .int .i64 st, .int .u64 g] w (Ret (.bool true) w) := by
  have hmk := make_ints n (by omega)
  have HQ := Lib.hid (QS.new w n)
  have m0 : decide ((n : Int) < 2) = false := decide_eq_false (by omega)
  have m1 : decide ((16 : Int) < (n : Int)) = false := decide_eq_false (by omega)
  have m2 : decide ((st : Int) < 0) = false := decide_eq_false (by omega)
  have m3 : decide ((200 : Int) < (st : Int)) = false := decide_eq_false (by omega)
  have Hg := Lib.hid hg
  clear hg
  go_enter Try.func6, Try.ntmps6
  go_wp2
  go_loopw [8] (Rel1 w n) (fun i _ => n - (intOf i).toNat)
  case atStart => exact ⟨1, by omega, by omega, rfl, HQ.out⟩
  case round =>
    clear HQ hmk m0 m1 m2 m3
    obtain ⟨k, hk1, hk, rfl, hQ⟩ := hrel
    by_cases hlt : k < n
    · have md : decide ((k : Int) < (n : Int)) = true := decide_eq_true (by omega)
      have c0 := hQ.1.cell hlt
      have c0' : wr.cell? ⟨w.heap.size, 0 + k, none⟩ = some (.int .i64 (ini k k)) := by rw [Nat.zero_add]; exact c0
      have f0 := Blk.frozen hQ.1 k
      have f0' : wr.frozen? ⟨w.heap.size, 0 + k, none⟩ = false := by rw [Nat.zero_add]; exact f0
      have HQ := Lib.hid hQ
      have hkl : (k : Int) < n := by omega
      clear hQ
      go_wp2
      go_roundw
      case rel =>
        refine ⟨k + 1, by omega, by omega, by go_num, HQ.out.put k (-1) (fun i hi => ?_)⟩
        unfold ini
        by_cases q : i = k
        · rw [if_pos q, if_neg (by omega), if_pos (by omega)]
        · rw [if_neg q]
          by_cases q0 : i = 0
          · rw [if_pos q0, if_pos q0]
          · rw [if_neg q0, if_neg q0]
            by_cases q1 : i < k
            · rw [if_pos q1, if_pos (by omega)]
            · rw [if_neg q1, if_neg (by omega)]
      case measure => simp [intOf]; omega
    · obtain rfl : k = n := by omega
      have md : decide ((k : Int) < (k : Int)) = false := decide_eq_false (by omega)
      have HQ := Lib.hid (hQ.congr (g := fun j => pv k 0 j) (fun j hj => by
        rw [pv_0 (by omega) (by omega)]
        unfold ini
        by_cases q : j = 0
        · simp [q]
        · rw [if_neg q, if_pos hj, if_neg (by omega)]))
      clear hQ
      go_wp2_with fail
      clear md hlt hk hk1
      go_loopw [9, 10] (Rel2 w k st) (fun _ i _ => st - (intOf i).toNat)
      case atStart => exact ⟨0, by omega, rfl, rfl, HQ.out⟩
      case round =>
        clear HQ
        obtain ⟨i, hi, rfl, rfl, hQ⟩ := hrel
        by_cases hlt : i < st
        · have md : decide ((i : Int) < (st : Int)) = true := decide_eq_true (by omega)
          obtain ⟨h, hh⟩ : ∃ h : Nat, h = i / 2 := ⟨_, rfl⟩
          have hI : W64 (i : Int) := by unfold W64; omega
          have a1 := gen_any i hI
          rw [show (i : Int) / 2 = (h : Int) by omega] at a1
          have A1 := Lib.hid a1
          have hh1 : h ≤ 100 := by omega
          have n1 : decide ((h : Int) + 1 < 1) = false := decide_eq_false (by omega)
          have n2 : decide (200 < (h : Int) + 1) = false := decide_eq_false (by omega)
          obtain ⟨r, hr⟩ : ∃ r : Nat, r = (h + 1) % k := ⟨_, rfl⟩
          have hrk : r < k := by rw [hr]; exact Nat.mod_lt _ (by omega)
          have er : ((h : Int) + 1) % (k : Int) = (r : Int) := by rw [hr]; simp
          have hrk' : (r : Int) < (k : Int) := by omega
          have Hr := Lib.hid (And.intro er hh)
          have c0 := hQ.1.cell hrk
          have c0' : wr.cell? ⟨w.heap.size, 0 + r, none⟩ = some (.int .i64 (pv k i r)) := by rw [Nat.zero_add]; exact c0
          have f0 := Blk.frozen hQ.1 r
          have f0' : wr.frozen? ⟨w.heap.size, 0 + r, none⟩ = false := by rw [Nat.zero_add]; exact f0
          have HQ := Lib.hid hQ
          have kz : ((k : Int) == 0) = false := by rw [beq_eq_false_iff_ne]; omega
          have i1 : (i : Int) + 1 < 18446744073709551616 := by omega
          have i2 : (i : Int) + 1 ≤ 201 := by omega
          clear hQ a1 hr hh
          rcases (show (i : Int) % 2 = 0 ∨ (i : Int) % 2 = 1 by omega) with h2 | h2
          · have a2 := held_any i hI
            rw [hl_f h2] at a2
            have A2 := Lib.hid a2
            have T := Lib.hid (take_even i hI h2)
            have H2 := Lib.hid h2
            clear a2 h2 hI
            go_wp2_with fail
            refine (A1.out _).mono ?_
            rintro e w' ⟨rfl, rfl⟩
            go_wp2_with fail
            refine (A2.out _).mono ?_
            rintro e w' ⟨rfl, rfl⟩
            go_wp2_with fail
            refine (T.out _).mono ?_
            rintro e w' ⟨rfl, rfl⟩
            go_wp2
            go_roundw
            case rel =>
              refine ⟨i + 1, by omega, by go_num, by go_num, HQ.out.put r (-1) (fun j hj => ?_)⟩
              obtain ⟨er, eh⟩ := Hr.out
              have e2 : (i : Int) / 2 = (h : Int) := by omega
              show _ = pv k ((i + 1 : Nat) : Int) j
              rw [show ((i + 1 : Nat) : Int) = (i : Int) + 1 by omega, pv_take (by omega) (by omega) H2.out, e2, er]
              by_cases q : j = r
              · rw [if_pos q, if_pos (by omega)]
              · rw [if_neg q, if_neg (by omega)]
            case measure => simp [intOf]; omega
          · have a2 := held_any i hI
            rw [hl_t h2] at a2
            have A2 := Lib.hid a2
            have T := Lib.hid (give_odd i hI h2 (by omega))
            have H2 := Lib.hid h2
            clear a2 h2 hI
            go_wp2_with fail
            refine (A1.out _).mono ?_
            rintro e w' ⟨rfl, rfl⟩
            go_wp2_with fail
            refine (A2.out _).mono ?_
            rintro e w' ⟨rfl, rfl⟩
            go_wp2_with fail
            refine (T.out _).mono ?_
            rintro e w' ⟨rfl, rfl⟩
            go_wp2
            go_roundw
            case rel =>
              refine ⟨i + 1, by omega, by go_num, by go_num, HQ.out.put r ((h : Int) + 1) (fun j hj => ?_)⟩
              obtain ⟨er, eh⟩ := Hr.out
              have e2 : (i : Int) / 2 = (h : Int) := by omega
              show _ = pv k ((i + 1 : Nat) : Int) j
              rw [show ((i + 1 : Nat) : Int) = (i : Int) + 1 by omega, pv_give (by omega) (by omega) H2.out (by omega), e2, er]
              by_cases q : j = r
              · rw [if_pos q, if_pos (by omega)]
              · rw [if_neg q, if_neg (by omega)]
            case measure => simp [intOf]; omega
        · obtain rfl : i = st := by omega
          have md : decide ((i : Int) < (i : Int)) = false := decide_eq_false (by omega)
          have hI : W64 (i : Int) := by unfold W64; omega
          obtain ⟨F0, F1⟩ := fi_in (d := k) hI
          have HK := Lib.hid (fun (j : Int) (h1 : 0 ≤ j) (h2 : j ≤ (i : Int) / 2) => kp_fi (s := i) (d := k) (by omega) (by omega) h1 h2)
          have HF := Lib.hid (first_any i k hI)
          have HQ := Lib.hid hQ
          have HI := Lib.hid hI
          generalize fi i k = F at *
          clear hQ hI hi hlt
          go_wp2_with fail
          clear md
          go_loopw [16, 17] (Rel3 w k i F) (fun _ j _ => i + 2 - (intOf j).toNat)
          case atStart => exact ⟨0, by omega, by rw [ls_off (by omega)], rfl, HQ.out⟩
          case round =>
            clear HQ
            obtain ⟨j, hj, rfl, rfl, hQ⟩ := hrel
            by_cases hlt : j < i + 2
            · have md : decide ((j : Int) ≤ (i : Int) + 1) = true := decide_eq_true (by omega)
              obtain ⟨r, hr⟩ : ∃ r : Nat, r = j % k := ⟨_, rfl⟩
              have hrk : r < k := by rw [hr]; exact Nat.mod_lt _ (by omega)
              have er : (j : Int) % (k : Int) = (r : Int) := by rw [hr]; simp
              have hrk' : (r : Int) < (k : Int) := by omega
              have c0 := hQ.1.cell hrk
              have hpv : (pv k i r == (j : Int)) = kp i j k := by rw [← er]; exact pv_kp (by omega) (by omega) (by omega)
              have hJ : W64 (j : Int) := by unfold W64; omega
              have kz : ((k : Int) == 0) = false := by rw [beq_eq_false_iff_ne]; omega
              have i1 : (i : Int) + 1 ≤ 201 := by omega
              have j1 : (j : Int) + 1 ≤ 202 := by omega
              have hkp := kept_any i j k HI.out hJ
              generalize pv k i r = P at *
              have c0' : wr.cell? ⟨w.heap.size, 0 + r, none⟩ = some (.int .i64 P) := by rw [Nat.zero_add]; exact c0
              have HQ := Lib.hid hQ
              clear hQ hr hJ
              by_cases hk : F ≤ j ∧ (j : Int) ≤ (i : Int) / 2
              · have e1 : kp i j k = true := by rw [HK.out j (by omega) hk.2]; exact decide_eq_true hk.1
                rw [e1] at hpv hkp
                have HP := Lib.hid hkp
                clear e1 hkp
                by_cases hF : F = j
                · have hl := ls_off (F := F) (j := j) (by omega)
                  rw [hl]
                  clear hl
                  go_wp2_with fail
                  refine (HP.out _).mono ?_
                  rintro e w1 ⟨rfl, hb⟩
                  have HQ1 := Lib.hid (HQ.out.next hb)
                  clear hb HQ c0 c0'
                  go_wp2
                  go_roundw
                  case rel => exact ⟨j + 1, by omega, by rw [ls_on (by omega), hF], by go_num, HQ1.out⟩
                  case measure => simp [intOf]; omega
                · have hl := ls_on (F := F) (j := j) (by omega)
                  rw [hl]
                  clear hl
                  have mF : decide (F < 0) = false := decide_eq_false (by omega)
                  go_wp2_with fail
                  refine (HP.out _).mono ?_
                  rintro e w1 ⟨rfl, hb⟩
                  have HQ1 := Lib.hid (HQ.out.next hb)
                  clear hb HQ c0 c0'
                  go_wp2
                  go_roundw
                  case rel => exact ⟨j + 1, by omega, by rw [ls_on (by omega)], by go_num, HQ1.out⟩
                  case measure => simp [intOf]; omega
              · have e1 : kp i j k = false := by
                  by_cases q : (j : Int) ≤ (i : Int) / 2
                  · rw [HK.out j (by omega) q]; exact decide_eq_false (by omega)
                  · exact kp_f (by omega)
                rw [e1] at hpv hkp
                have HP := Lib.hid hkp
                have HL := Lib.hid (ls_same (F := F) (j := (j : Int)) (show F ≠ j by omega))
                clear e1 hkp
                generalize ls F j = L at *
                go_wp2_with fail
                refine (HP.out _).mono ?_
                rintro e w1 ⟨rfl, hb⟩
                have HQ1 := Lib.hid (HQ.out.next hb)
                clear hb HQ c0 c0'
                go_wp2
                go_roundw
                case rel => exact ⟨j + 1, by omega, by rw [show ((j + 1 : Nat) : Int) = (j : Int) + 1 by omega, HL.out], by go_num, HQ1.out⟩
                case measure => simp [intOf]; omega
            · obtain rfl : j = i + 2 := by omega
              have md : decide (((i + 2 : Nat) : Int) ≤ (i : Int) + 1) = false := decide_eq_false (by omega)
              have HQ := Lib.hid hQ
              have hl := ls_on (F := F) (j := ((i + 2 : Nat) : Int)) (by omega)
              rw [hl]
              clear hl hQ
              have i1 : (i : Int) + 1 ≤ 201 := by omega
              have mF : decide (0 ≤ F) = true := decide_eq_true F0
              have F2 : F < 18446744073709551616 := by omega
              by_cases hgi : (i : Int) + 1 < g
              · have mg : decide ((i : Int) + 1 < g) = true := decide_eq_true hgi
                have hkp := kept_any i g k HI.out Hg.out
                rw [kp_f (by omega)] at hkp
                have HP := Lib.hid hkp
                clear hkp
                go_wp2_with fail
                refine (HP.out _).mono ?_
                rintro e w1 ⟨rfl, hb⟩
                have HQ1 := Lib.hid (HQ.out.next hb)
                clear hb HQ
                go_wp2_with fail
                refine (HF.out _).mono ?_
                rintro e w2 ⟨rfl, hb⟩
                have HQ2 := Lib.hid (HQ1.out.next hb)
                clear hb HQ1
                go_wp2_with fail
                refine (awake_any _).mono ?_
                rintro e w3 ⟨rfl, hb⟩
                have HQ3 := Lib.hid (HQ2.out.next hb)
                clear hb HQ2
                go_wp2
                go_ret
                exact ⟨rfl, HQ3.out.2⟩
              · have mg : decide ((i : Int) + 1 < g) = false := decide_eq_false hgi
                go_wp2_with fail
                refine (HF.out _).mono ?_
                rintro e w2 ⟨rfl, hb⟩
                have HQ2 := Lib.hid (HQ.out.next hb)
                clear hb HQ
                go_wp2_with fail
                refine (awake_any _).mono ?_
                rintro e w3 ⟨rfl, hb⟩
                have HQ3 := Lib.hid (HQ2.out.next hb)
                clear hb HQ2
                go_wp2
                go_ret
                exact ⟨rfl, HQ3.out.2⟩

set_option maxRecDepth 100000 in
set_option maxHeartbeats 1000000 in
theorem whole_a (d t g : Int) (h : d < 2) (w : World) : Calls Try.prog 6 #[.int .i64 d, .int .i64 t, .int .u64 g] w (Ret (.bool true) w) := by
  have m0 : decide (d < 2) = true := decide_eq_true h
  clear h
  go_enter Try.func6, Try.ntmps6
  go_wp2_with fail
  refine (awake_any _).mono ?_
  rintro e w3 ⟨rfl, hb⟩
  go_wp2
  go_ret
  exact ⟨rfl, hb⟩
set_option maxRecDepth 100000 in
set_option maxHeartbeats 1000000 in
theorem whole_b (d t g : Int) (h : 16 < d) (w : World) : Calls Try.prog 6 #[.int .i64 d, .int .i64 t, .int .u64 g] w (Ret (.bool true) w) := by
  have m0 : decide (d < 2) = false := decide_eq_false (by omega)
  have m1 : decide (16 < d) = true := decide_eq_true h
  clear h
  go_enter Try.func6, Try.ntmps6
  go_wp2_with fail
  refine (awake_any _).mono ?_
  rintro e w3 ⟨rfl, hb⟩
  go_wp2
  go_ret
  exact ⟨rfl, hb⟩
set_option maxRecDepth 100000 in
set_option maxHeartbeats 1000000 in
theorem whole_c (d t g : Int) (h1 : 2 ≤ d) (h2 : d ≤ 16) (h : t < 0) (w : World) : Calls Try.prog 6 #[.int .i64 d, .int .i64 t, .int .u64 g] w (Ret (.bool true) w) := by
  have m0 : decide (d < 2) = false := decide_eq_false (by omega)
  have m1 : decide (16 < d) = false := decide_eq_false (by omega)
  have m2 : decide (t < 0) = true := decide_eq_true h
  clear h1 h2
  clear h
  go_enter Try.func6, Try.ntmps6
  go_wp2_with fail
  refine (awake_any _).mono ?_
  rintro e w3 ⟨rfl, hb⟩
  go_wp2
  go_ret
  exact ⟨rfl, hb⟩
set_option maxRecDepth 100000 in
set_option maxHeartbeats 1000000 in
theorem whole_d (d t g : Int) (h1 : 2 ≤ d) (h2 : d ≤ 16) (h : 200 < t) (w : World) : Calls Try.prog 6 #[.int .i64 d, .int .i64 t, .int .u64 g] w (Ret (.bool true) w) := by
  have m0 : decide (d < 2) = false := decide_eq_false (by omega)
  have m1 : decide (16 < d) = false := decide_eq_false (by omega)
  have m2 : decide (t < 0) = false := decide_eq_false (by omega)
  have m3 : decide (200 < t) = true := decide_eq_true h
  clear h1 h2
  clear h
  go_enter Try.func6, Try.ntmps6
  go_wp2_with fail
  refine (awake_any _).mono ?_
  rintro e w3 ⟨rfl, hb⟩
  go_wp2
  go_ret
  exact ⟨rfl, hb⟩
theorem whole_law (d t g : Int) (hg : W64 g) (w : World) : Calls Try.prog 6 #[.int .i64 d, .int .i64 t, .int .u64 g] w (Ret (.bool true) w) := by
  by_cases h1 : d < 2
  · exact whole_a d t g h1 w
  by_cases h2 : 16 < d
  · exact whole_b d t g h2 w
  by_cases h3 : t < 0
  · exact whole_c d t g (by omega) (by omega) h3 w
  by_cases h4 : 200 < t
  · exact whole_d d t g (by omega) (by omega) h4 w
  obtain ⟨n, rfl⟩ : ∃ n : Nat, d = n := ⟨d.toNat, by omega⟩
  obtain ⟨st, rfl⟩ : ∃ n : Nat, t = n := ⟨t.toNat, by omega⟩
  exact whole_ok n st g hg (by omega) (by omega) (by omega) w
end Go.Proofs.Ytejkhalenedeoaa
