/- The document's Print: its contract. -/
import Derived.Test.YtenbbnmhgpclkaaDoorRPrn
namespace Go.Proofs.YtenbbnmhgpclkaaDoor
open Go.RowKit

theorem rprint_bad (a : Option Addr) (cap : Nat) (l : List (Int × Int)) (w : World) (hP : Prs w.heap.size w a l) (h : plErr l ≠ 0) :
    Calls Tryd.prog 17 #[.slice a l.length cap] w (Ret (.tuple #[.string (str (prT l)), .int .i64 (plErr l)]) w) := by
  have hp : prT l = [] := by unfold prT; rw [if_neg h]
  rw [hp]
  have h' : (plErr l != 0) = true := by simpa using h
  go_enter Tryd.func17, Tryd.ntmps17
  go_wp2_with fail
  refine (rplaces_any a _ cap l w rfl hP).mono ?_
  rintro e w1 ⟨a1, c1, rfl, hb, hA⟩
  generalize plErr l = e at *
  clear h
  go_wp2
  go_ret2
  exact ⟨rfl, hb⟩

theorem txt_snoc (l : List (Int × Int)) (p : Int × Int) (h : l ≠ []) : txt (l ++ [p]) = txt l ++ [32] ++ wrd p := by
  unfold txt
  cases l with
  | nil => exact absurd rfl h
  | cons q r =>
    rw [List.map_append, List.map_cons, List.map_cons, List.map_nil, List.cons_append, Lib.join_cons, Lib.join_cons]
    simp [Lib.joinTail]
theorem txt_one (p : Int × Int) : txt [p] = wrd p := by
  unfold txt
  rw [List.map_cons, List.map_nil, Lib.join_cons]
  simp [Lib.joinTail]

/-- At the head of the loop. -/
def RelT (w1 : World) (l : List (Int × Int)) (s7 s8 : Value) (wr : World) : Prop :=
  ∃ k : Nat, k ≤ l.length ∧ s8 = .int .i64 k ∧ s7 = .string (str (txt (l.take k))) ∧ Below w1.heap.size w1 wr

set_option maxRecDepth 100000 in
set_option maxHeartbeats 4000000 in
theorem rprint_ok (a : Option Addr) (cap : Nat) (l : List (Int × Int)) (w : World) (hP : Prs w.heap.size w a l) (h : plErr l = 0) :
    Calls Tryd.prog 17 #[.slice a l.length cap] w (Ret (.tuple #[.string (str (prT l)), .int .i64 (plErr l)]) w) := by
  have hp : prT l = txt l := by unfold prT; rw [if_pos h]
  obtain ⟨hl0, hl256, hall⟩ := plErr_all h
  have Hall := Lib.hid hall
  rw [hp, h]
  go_enter Tryd.func17, Tryd.ntmps17
  go_wp2_with fail
  refine (rplaces_any a _ cap l w rfl hP).mono ?_
  rintro e w1 ⟨a1, c1, rfl, hb1, hA⟩
  rw [h]
  have hP1 := hP.next hb1
  clear h hp hall hP hA
  go_wp2
  go_loopw [7, 8] (RelT w1 l) (fun _ i _ => l.length - (intOf i).toNat)
  case atStart => exact ⟨0, by omega, rfl, rfl, Below.refl _ _⟩
  case round =>
    obtain ⟨k, hk, rfl, rfl, hb⟩ := hrel
    by_cases hlt : k < l.length
    · obtain ⟨⟨kd, n⟩, hz⟩ : ∃ z, l[k]? = some z := ⟨l[k], List.getElem?_eq_getElem hlt⟩
      obtain ⟨b, off, rfl, hbl, hc0, hc1⟩ := hP1 k _ hz
      have d0 : wr.cell? ⟨b, off + k * 2, none⟩ = some (.int .i64 kd) := (hb.cell (p := ⟨b, off + k * 2, none⟩) hbl).trans hc0
      have d1 : wr.cell? ⟨b, off + k * 2 + 1, none⟩ = some (.int .i64 n) := (hb.cell (p := ⟨b, off + k * 2 + 1, none⟩) hbl).trans hc1
      have hs := hb.size
      have hbr : b < wr.heap.size := by omega
      obtain ⟨q0, q1, q2, q3, hn1, hn64⟩ := ok_bad (Hall.out _ (List.mem_of_getElem? hz))
      obtain ⟨q, rfl⟩ : ∃ q : Nat, kd = q := ⟨kd.toNat, by omega⟩
      obtain ⟨m, rfl⟩ : ∃ m : Nat, n = m := ⟨n.toNat, by omega⟩
      have hq : q < 4 := by omega
      have htk : l.take (k + 1) = l.take k ++ [((q : Int), (m : Int))] := by rw [List.take_add_one, hz]; rfl
      have hxl := txt_len (l.take k) (fun p hp => Hall.out p (List.mem_of_mem_take hp))
      have hlk : (l.take k).length = k := by simp; omega
      rw [hlk] at hxl
      have hm64 : m ≤ 64 := by omega
      have hkl : (k : Int) < l.length := by omega
      by_cases hk0 : k = 0
      · subst hk0
        replace htk : txt (l.take (0 + 1)) = txt (l.take 0) ++ wrd ((q : Int), (m : Int)) := by rw [htk, List.take_zero, List.nil_append, txt_one]; rfl
        have hyl : (txt (l.take 0)).length ≤ 4000 := by omega
        generalize txt (l.take 0) = y at *
        have d0' : wr.cell? ⟨b, off, none⟩ = some (.int .i64 (q : Int)) := by simpa using d0
        have d1' : wr.cell? ⟨b, off + 1, none⟩ = some (.int .i64 (m : Int)) := by simpa using d1
        clear d0 d1
        clear hxl hlk hz hc0 hc1 q0 q1 q2 q3
        match q, hq with
        | 0, _ =>
          have hwd : wrd (((0 : Nat) : Int), (m : Int)) = [102, 108, 97, 103] := by
            unfold wrd; simp [tld, kName]
          rw [hwd] at htk
          clear hwd
          have hc2 := str_cat y [102, 108, 97, 103]
          have hs2 : ¬ (9223372036854775807 < (str y).size + 4) := by have h3 : (str y).size = y.length := rfl; omega
          generalize y ++ [102, 108, 97, 103] = u at *
          have Ht := Lib.hid htk
          clear htk hyl
          go_wp2
          go_roundw
          case rel => exact ⟨0 + 1, by omega, by go_num, by rw [Ht.out], hb⟩
          case measure => simp [intOf]; omega
        | 1, _ =>
          have hwd : wrd (((1 : Nat) : Int), (m : Int)) = [99, 111, 117, 110, 116] ++ dd2 m := by
            unfold wrd; rw [← dd_eq (n := m) (by omega)]; rfl
          rw [hwd] at htk
          clear hwd
          have hc2 := str_cat y [99, 111, 117, 110, 116]
          have hs2 : ¬ (9223372036854775807 < (str y).size + 5) := by have h3 : (str y).size = y.length := rfl; omega
          have hdl : (dd2 m).length ≤ 2 := by unfold dd2; split <;> simp
          have hs3 : ¬ (9223372036854775807 < (str (y ++ [99, 111, 117, 110, 116])).size + (str (dd2 m)).size) := by have h3 : (str (y ++ [99, 111, 117, 110, 116])).size = (y ++ [99, 111, 117, 110, 116]).length := rfl; have h4 : (str (dd2 m)).size = (dd2 m).length := rfl; rw [List.length_append] at h3; simp only [List.length_cons, List.length_nil] at h3; omega
          have hc3 : str (y ++ [99, 111, 117, 110, 116]) ++ str (dd2 m) = str ((y ++ [99, 111, 117, 110, 116]) ++ dd2 m) := str_cat _ _
          have hnum := numeral_any m (by omega)
          rw [← List.append_assoc] at htk
          generalize dd2 m = dg at *
          have Hnum := Lib.hid hnum
          clear hnum hdl
          generalize y ++ [99, 111, 117, 110, 116] = z at *
          generalize hu : z ++ dg = u at *
          have Ht := Lib.hid htk
          clear htk hyl
          go_wp2_with fail
          refine (Hnum.out _).mono ?_
          rintro e w2 ⟨rfl, nd, rfl⟩
          clear Hnum
          have hb' := belN hb nd
          clear hb
          have hb := hb'
          clear hb'
          go_wp2
          go_roundw
          case rel => exact ⟨0 + 1, by omega, by go_num, by rw [Ht.out], hb⟩
          case measure => simp [intOf]; omega
        | 2, _ =>
          have hwd : wrd (((2 : Nat) : Int), (m : Int)) = [119, 104, 111, 108, 101] ++ dd2 m := by
            unfold wrd; rw [← dd_eq (n := m) (by omega)]; rfl
          rw [hwd] at htk
          clear hwd
          have hc2 := str_cat y [119, 104, 111, 108, 101]
          have hs2 : ¬ (9223372036854775807 < (str y).size + 5) := by have h3 : (str y).size = y.length := rfl; omega
          have hdl : (dd2 m).length ≤ 2 := by unfold dd2; split <;> simp
          have hs3 : ¬ (9223372036854775807 < (str (y ++ [119, 104, 111, 108, 101])).size + (str (dd2 m)).size) := by have h3 : (str (y ++ [119, 104, 111, 108, 101])).size = (y ++ [119, 104, 111, 108, 101]).length := rfl; have h4 : (str (dd2 m)).size = (dd2 m).length := rfl; rw [List.length_append] at h3; simp only [List.length_cons, List.length_nil] at h3; omega
          have hc3 : str (y ++ [119, 104, 111, 108, 101]) ++ str (dd2 m) = str ((y ++ [119, 104, 111, 108, 101]) ++ dd2 m) := str_cat _ _
          have hnum := numeral_any m (by omega)
          rw [← List.append_assoc] at htk
          generalize dd2 m = dg at *
          have Hnum := Lib.hid hnum
          clear hnum hdl
          generalize y ++ [119, 104, 111, 108, 101] = z at *
          generalize hu : z ++ dg = u at *
          have Ht := Lib.hid htk
          clear htk hyl
          go_wp2_with fail
          refine (Hnum.out _).mono ?_
          rintro e w2 ⟨rfl, nd, rfl⟩
          clear Hnum
          have hb' := belN hb nd
          clear hb
          have hb := hb'
          clear hb'
          go_wp2
          go_roundw
          case rel => exact ⟨0 + 1, by omega, by go_num, by rw [Ht.out], hb⟩
          case measure => simp [intOf]; omega
        | 3, _ =>
          have hwd : wrd (((3 : Nat) : Int), (m : Int)) = [112, 111, 105, 110, 116] := by
            unfold wrd; simp [tld, kName]
          rw [hwd] at htk
          clear hwd
          have hc2 := str_cat y [112, 111, 105, 110, 116]
          have hs2 : ¬ (9223372036854775807 < (str y).size + 5) := by have h3 : (str y).size = y.length := rfl; omega
          generalize y ++ [112, 111, 105, 110, 116] = u at *
          have Ht := Lib.hid htk
          clear htk hyl
          go_wp2
          go_roundw
          case rel => exact ⟨0 + 1, by omega, by go_num, by rw [Ht.out], hb⟩
          case measure => simp [intOf]; omega
      · have hne : l.take k ≠ [] := fun hh => by rw [hh] at hlk; simp at hlk; omega
        replace htk : txt (l.take (k + 1)) = (txt (l.take k) ++ [32]) ++ wrd ((q : Int), (m : Int)) := by rw [htk, txt_snoc _ _ hne]
        generalize txt (l.take k) = x at *
        have hs1 : ¬ (9223372036854775807 < (str x).size + 1) := by have h3 : (str x).size = x.length := rfl; omega
        have hx1 := str_cat x [32]
        have hyl : (x ++ [32]).length ≤ 4000 := by rw [List.length_append]; simp only [List.length_cons, List.length_nil]; omega
        have hkp : (0 : Int) < (k : Int) := by omega
        generalize x ++ [32] = y at *
        clear hxl hlk hz hc0 hc1 q0 q1 q2 q3 hne
        match q, hq with
        | 0, _ =>
          have hwd : wrd (((0 : Nat) : Int), (m : Int)) = [102, 108, 97, 103] := by
            unfold wrd; simp [tld, kName]
          rw [hwd] at htk
          clear hwd
          have hc2 := str_cat y [102, 108, 97, 103]
          have hs2 : ¬ (9223372036854775807 < (str y).size + 4) := by have h3 : (str y).size = y.length := rfl; omega
          generalize y ++ [102, 108, 97, 103] = u at *
          have Ht := Lib.hid htk
          clear htk hyl
          go_wp2
          go_roundw
          case rel => exact ⟨k + 1, by omega, by go_num, by rw [Ht.out], hb⟩
          case measure => simp [intOf]; omega
        | 1, _ =>
          have hwd : wrd (((1 : Nat) : Int), (m : Int)) = [99, 111, 117, 110, 116] ++ dd2 m := by
            unfold wrd; rw [← dd_eq (n := m) (by omega)]; rfl
          rw [hwd] at htk
          clear hwd
          have hc2 := str_cat y [99, 111, 117, 110, 116]
          have hs2 : ¬ (9223372036854775807 < (str y).size + 5) := by have h3 : (str y).size = y.length := rfl; omega
          have hdl : (dd2 m).length ≤ 2 := by unfold dd2; split <;> simp
          have hs3 : ¬ (9223372036854775807 < (str (y ++ [99, 111, 117, 110, 116])).size + (str (dd2 m)).size) := by have h3 : (str (y ++ [99, 111, 117, 110, 116])).size = (y ++ [99, 111, 117, 110, 116]).length := rfl; have h4 : (str (dd2 m)).size = (dd2 m).length := rfl; rw [List.length_append] at h3; simp only [List.length_cons, List.length_nil] at h3; omega
          have hc3 : str (y ++ [99, 111, 117, 110, 116]) ++ str (dd2 m) = str ((y ++ [99, 111, 117, 110, 116]) ++ dd2 m) := str_cat _ _
          have hnum := numeral_any m (by omega)
          rw [← List.append_assoc] at htk
          generalize dd2 m = dg at *
          have Hnum := Lib.hid hnum
          clear hnum hdl
          generalize y ++ [99, 111, 117, 110, 116] = z at *
          generalize hu : z ++ dg = u at *
          have Ht := Lib.hid htk
          clear htk hyl
          go_wp2_with fail
          refine (Hnum.out _).mono ?_
          rintro e w2 ⟨rfl, nd, rfl⟩
          clear Hnum
          have hb' := belN hb nd
          clear hb
          have hb := hb'
          clear hb'
          go_wp2
          go_roundw
          case rel => exact ⟨k + 1, by omega, by go_num, by rw [Ht.out], hb⟩
          case measure => simp [intOf]; omega
        | 2, _ =>
          have hwd : wrd (((2 : Nat) : Int), (m : Int)) = [119, 104, 111, 108, 101] ++ dd2 m := by
            unfold wrd; rw [← dd_eq (n := m) (by omega)]; rfl
          rw [hwd] at htk
          clear hwd
          have hc2 := str_cat y [119, 104, 111, 108, 101]
          have hs2 : ¬ (9223372036854775807 < (str y).size + 5) := by have h3 : (str y).size = y.length := rfl; omega
          have hdl : (dd2 m).length ≤ 2 := by unfold dd2; split <;> simp
          have hs3 : ¬ (9223372036854775807 < (str (y ++ [119, 104, 111, 108, 101])).size + (str (dd2 m)).size) := by have h3 : (str (y ++ [119, 104, 111, 108, 101])).size = (y ++ [119, 104, 111, 108, 101]).length := rfl; have h4 : (str (dd2 m)).size = (dd2 m).length := rfl; rw [List.length_append] at h3; simp only [List.length_cons, List.length_nil] at h3; omega
          have hc3 : str (y ++ [119, 104, 111, 108, 101]) ++ str (dd2 m) = str ((y ++ [119, 104, 111, 108, 101]) ++ dd2 m) := str_cat _ _
          have hnum := numeral_any m (by omega)
          rw [← List.append_assoc] at htk
          generalize dd2 m = dg at *
          have Hnum := Lib.hid hnum
          clear hnum hdl
          generalize y ++ [119, 104, 111, 108, 101] = z at *
          generalize hu : z ++ dg = u at *
          have Ht := Lib.hid htk
          clear htk hyl
          go_wp2_with fail
          refine (Hnum.out _).mono ?_
          rintro e w2 ⟨rfl, nd, rfl⟩
          clear Hnum
          have hb' := belN hb nd
          clear hb
          have hb := hb'
          clear hb'
          go_wp2
          go_roundw
          case rel => exact ⟨k + 1, by omega, by go_num, by rw [Ht.out], hb⟩
          case measure => simp [intOf]; omega
        | 3, _ =>
          have hwd : wrd (((3 : Nat) : Int), (m : Int)) = [112, 111, 105, 110, 116] := by
            unfold wrd; simp [tld, kName]
          rw [hwd] at htk
          clear hwd
          have hc2 := str_cat y [112, 111, 105, 110, 116]
          have hs2 : ¬ (9223372036854775807 < (str y).size + 5) := by have h3 : (str y).size = y.length := rfl; omega
          generalize y ++ [112, 111, 105, 110, 116] = u at *
          have Ht := Lib.hid htk
          clear htk hyl
          go_wp2
          go_roundw
          case rel => exact ⟨k + 1, by omega, by go_num, by rw [Ht.out], hb⟩
          case measure => simp [intOf]; omega
    · obtain rfl : k = l.length := by omega
      rw [List.take_length]
      have hfin := hb1.trans (hb.mono hb1.size)
      generalize txt l = x at *
      clear hb hb1 hP1
      go_wp2
      go_ret2
      exact ⟨rfl, hfin⟩

theorem rprint_any (a : Option Addr) (len cap : Nat) (l : List (Int × Int)) (w : World) (hl : len = l.length) (hP : Prs w.heap.size w a l) :
    Calls Tryd.prog 17 #[.slice a len cap] w (Ret (.tuple #[.string (str (prT l)), .int .i64 (plErr l)]) w) := by
  subst hl
  by_cases h : plErr l = 0
  · exact rprint_ok a cap l w hP h
  · exact rprint_bad a cap l w hP h
end Go.Proofs.YtenbbnmhgpclkaaDoor
