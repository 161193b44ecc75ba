/- The document's Places, and the copy of parts for it: their contracts. -/
import Derived.Test.YtenbbnmhgpclkaaDoorChk
import Derived.RangeFuncBox
import Derived.Laws.AppendOwn
namespace Go.Proofs.YtenbbnmhgpclkaaDoor
open Go.RowKit

theorem info_parts {P : Program} {t : TypeId} {z : Value} {n m : Nat} (h : (P.info? t).map (fun i => (i.zero, i.size, i.bytes)) = some (some z, n, m)) :
    ∃ i, P.info? t = some i ∧ i.zero = some z ∧ i.size = n ∧ i.bytes = m := by
  obtain ⟨i, hi, he⟩ := Option.map_eq_some_iff.1 h
  simp only [Prod.mk.injEq] at he
  exact ⟨i, hi, he.1, he.2.1, he.2.2⟩

theorem span_any (k : Nat) (hk : k < 4) (w : World) : Calls Tryd.prog 22 #[.int .i64 k] w (fun e w' => e = .returned (.tuple #[.int .i64 (kLo k), .int .i64 (kHi k)]) ∧ w = w') := by
  match k, hk with
  | 0, _ | 1, _ | 2, _ | 3, _ =>
    go_enter Tryd.func22, Tryd.ntmps22
    go_wp2
    go_ret2
    exact ⟨rfl, rfl⟩

/-- At the head of the document's loop. -/
def RelR (w : World) (l : List (Int × Int)) (s5 s6 s7 s8 : Value) (wr : World) : Prop :=
  ∃ (k wd bt : Nat) (pre : List (Int × Int)), k ≤ l.length ∧ s8 = .int .i64 k ∧ s6 = .int .i64 wd ∧ s7 = .int .i64 bt ∧ wd ≤ 63 ∧ bt ≤ 64 ∧ PlSt l k (wd + 1) (64 - bt) pre ∧
    wr.ownsRow w.heap.size 33 2 s5 k (fcl pre) ∧ (∃ a l c, s5 = .slice a l c) ∧ Below w.heap.size w wr

set_option maxRecDepth 100000 in
set_option maxHeartbeats 1000000 in
theorem rplaces_long (a : Option Addr) (cap : Nat) (l : List (Int × Int)) (w : World) (h : l.length = 0 ∨ 256 < l.length) :
    Calls Tryd.prog 11 #[.slice a l.length cap] w (PlPost l w) := by
  have hE := plErr_long h
  have HE := Lib.hid hE
  clear hE
  have hb := Below.refl w.heap.size w
  rcases h with h | h
  · rw [h]
    go_enter Tryd.func11, Tryd.ntmps11
    go_wp2
    go_ret3
    exact PlPost.bad HE.out (by decide) hb
  · have h2 : (256 : Int) < l.length := by omega
    have h3 : ((l.length : Int) == 0) = false := by rw [beq_eq_false_iff_ne]; omega
    go_enter Tryd.func11, Tryd.ntmps11
    go_wp2
    go_ret3
    exact PlPost.bad HE.out (by decide) hb

set_option maxRecDepth 100000 in
set_option maxHeartbeats 4000000 in
theorem rplaces_in (a : Option Addr) (cap : Nat) (l : List (Int × Int)) (w : World) (h1 : l.length ≠ 0) (h2 : l.length ≤ 256) (hP : Prs w.heap.size w a l) :
    Calls Tryd.prog 11 #[.slice a l.length cap] w (PlPost l w) := by
  obtain ⟨i0, hi, hz0, hz1, hz2⟩ := info_parts info33
  have hE := plErr_in h1 h2
  have HE := Lib.hid hE
  clear hE
  have h3 : ((l.length : Int) == 0) = false := by rw [beq_eq_false_iff_ne]; omega
  have h4 : decide ((256 : Int) < (l.length : Int)) = false := decide_eq_false (by omega)
  go_enter Tryd.func11, Tryd.ntmps11
  go_wp2
  go_loopw [5, 6, 7, 8] (RelR w l) (fun _ _ _ i _ => l.length - (intOf i).toNat)
  case atStart => exact ⟨0, 0, 0, [], by omega, rfl, rfl, rfl, by omega, by omega, PlSt.start1 h1, World.ownsRow_nil _ _ _ _, ⟨_, _, _, rfl⟩, Below.refl _ _⟩
  case round =>
    obtain ⟨k, wd, bt, pre, hk, rfl, rfl, rfl, hwd, hbt, hst, ho, ⟨av, lv, cv, rfl⟩, hb⟩ := hrel
    have HS := Lib.hid (And.intro hst ho)
    clear hst ho
    by_cases hlt : k < l.length
    · obtain ⟨⟨kd, n⟩, hz⟩ : ∃ z, l[k]? = some z := ⟨l[k], List.getElem?_eq_getElem hlt⟩
      obtain ⟨b, off, rfl, hbl, hc0, hc1⟩ := hP k _ hz
      have d0 : wr.cell? ⟨b, off + k * 2, none⟩ = some (.int .i64 kd) := (hb.cell (p := ⟨b, off + k * 2, none⟩) hbl).trans hc0
      have d1 : wr.cell? ⟨b, off + k * 2 + 1, none⟩ = some (.int .i64 n) := (hb.cell (p := ⟨b, off + k * 2 + 1, none⟩) hbl).trans hc1
      have Hz := Lib.hid (And.intro hz (And.intro hc0 hc1))
      clear hz hc0 hc1
      have hs := hb.size
      have hw2 : wrap64 ((k : Int) + 1) = (k : Int) + 1 := by unfold wrap64; omega
      have hkl : (k : Int) < l.length := by omega
      by_cases hneg : kd < 0
      · have hfin : plErr l = 1 := by rw [HE.out, HS.out.1.bad Hz.out.1 (by rw [bad_kind (Or.inl hneg)]; decide), bad_kind (Or.inl hneg)]
        have Hf := Lib.hid hfin
        clear hfin
        go_wp2
        go_ret3
        exact PlPost.bad Hf.out (by decide) hb
      by_cases hbig : 4 ≤ kd
      · have hfin : plErr l = 1 := by rw [HE.out, HS.out.1.bad Hz.out.1 (by rw [bad_kind (Or.inr hbig)]; decide), bad_kind (Or.inr hbig)]
        have Hf := Lib.hid hfin
        clear hfin
        have h33 : decide (3 < kd) = true := decide_eq_true (by omega)
        go_wp2
        go_ret3
        exact PlPost.bad Hf.out (by decide) hb
      obtain ⟨q, rfl⟩ : ∃ q : Nat, kd = q := ⟨kd.toNat, by omega⟩
      have hq : q < 4 := by omega
      clear hneg hbig
      have hq0 : decide ((q : Int) < 0) = false := decide_eq_false (by omega)
      have hq1 : decide ((3 : Int) < (q : Int)) = false := decide_eq_false (by omega)
      go_wp2_with fail
      refine (span_any q hq wr).mono ?_
      rintro e w' ⟨rfl, rfl⟩
      obtain ⟨lo, hlo⟩ : ∃ lo, kLo q = lo := ⟨_, rfl⟩
      obtain ⟨hi', hhi⟩ : ∃ hi, kHi q = hi := ⟨_, rfl⟩
      rw [hlo, hhi]
      have HL := Lib.hid (And.intro hlo hhi)
      clear hlo hhi
      by_cases hl1 : n < lo
      · have hfin : plErr l = 10 := by
          have e := bad_len (n := n) hq (Or.inl (by rw [HL.out.1]; exact hl1))
          rw [HE.out, HS.out.1.bad Hz.out.1 (by rw [e]; decide), e]
        have Hf := Lib.hid hfin
        clear hfin
        have hd : decide (n < lo) = true := decide_eq_true hl1
        go_wp2
        go_ret3
        exact PlPost.bad Hf.out (by decide) hb
      by_cases hl2 : hi' < n
      · have hfin : plErr l = 10 := by
          have e := bad_len (n := n) hq (Or.inr (by rw [HL.out.2]; exact hl2))
          rw [HE.out, HS.out.1.bad Hz.out.1 (by rw [e]; decide), e]
        have Hf := Lib.hid hfin
        clear hfin
        have hd : decide (n < lo) = false := decide_eq_false hl1
        have hd2 : decide (hi' < n) = true := decide_eq_true hl2
        go_wp2
        go_ret3
        exact PlPost.bad Hf.out (by decide) hb
      have hd : decide (n < lo) = false := decide_eq_false hl1
      have hd2 : decide (hi' < n) = false := decide_eq_false hl2
      have hok : bad (q : Int) n = 0 := bad_ok hq (by rw [HL.out.1]; omega) (by rw [HL.out.2]; omega)
      obtain ⟨_, _, _, _, hn1, hn64⟩ := ok_bad hok
      have Hok := Lib.hid hok
      obtain ⟨m, rfl⟩ : ∃ m : Nat, n = m := ⟨n.toNat, by omega⟩
      clear hok hl1 hl2 HL
      clear hq0 hq1 h3 h4
      have hml : k + 1 ≤ maxLen := by
        have : 300 ≤ maxLen := by decide
        omega
      by_cases hnf : 64 < bt + m
      · have hn1' : decide ((64 : Int) < (bt : Int) + (m : Int)) = true := decide_eq_true (by omega)
        by_cases hful : wd = 63
        · have hfin : plErr l = 12 := by rw [HE.out, HS.out.1.full Hz.out.1 Hok.out (by show ((64 - bt : Nat) : Int) < (m : Int); omega) (by omega)]
          have Hf := Lib.hid hfin
          clear hfin
          subst hful
          go_wp2
          go_ret3
          exact PlPost.bad Hf.out (by decide) hb
        · have hfu : decide ((63 : Int) < (wd : Int) + 1) = false := decide_eq_false (by omega)
          have hsn := HS.out.1.next Hz.out.1 Hok.out (by show ((64 - bt : Nat) : Int) < (m : Int); omega) (by omega)
          have HSn := Lib.hid hsn
          clear hsn
          go_wp2_with (first | (refine wpList_append_own _ rfl _ _ 25 rfl w.heap.size 33 i0 (.agg #[.int .i64 0, .int .i64 0]) 2 16 Tryd.underlying25 hi hz0 hz1 hz2 rfl (by decide) _ _ _ rfl (HS.out.2.alloc _) ⟨wr.heap.size, 0, none⟩ 1 1 (fcells ((wd : Int) + 1) 0) rfl rfl (cell_two_new _ _ _ _) (by simp [Value.oneCell']) hml (by omega) (by simp; omega) ?_; intro v' w1 hown' hgrow _; obtain ⟨g', cap', rfl⟩ := ownsRow_succ hown'; have hb1 : Below w.heap.size w w1 := (hb.alloc hb.size _).grown hgrow (by simp; omega) (fun q e => (HS.out.2.lt q e).1); have c1 : w1.cell? ⟨b, off + k * 2 + 1, none⟩ = some (.int .i64 m) := (hb1.cell (p := ⟨b, off + k * 2 + 1, none⟩) hbl).trans Hz.out.2.2; clear hgrow))
          go_roundw
          case rel =>
            refine ⟨k + 1, wd + 1, m, pre ++ [(((wd + 1 : Nat) : Int), 0)], by omega, by go_num, by go_num, by simp, by omega, by omega, ?_, ?_, ⟨_, _, _, rfl⟩, hb1⟩
            · have := HSn.out
              simpa using this
            · rw [fcl_snoc]
              simpa using hown'
          case measure => simp [intOf]; omega
      · have hn1' : decide ((64 : Int) < (bt : Int) + (m : Int)) = false := decide_eq_false (by omega)
        have hfu : decide ((63 : Int) < (wd : Int)) = false := decide_eq_false (by omega)
        have hsn := HS.out.1.same Hz.out.1 Hok.out (by show (m : Int) ≤ ((64 - bt : Nat) : Int); omega)
        have HSn := Lib.hid hsn
        clear hsn
        go_wp2_with (first | (refine wpList_append_own _ rfl _ _ 25 rfl w.heap.size 33 i0 (.agg #[.int .i64 0, .int .i64 0]) 2 16 Tryd.underlying25 hi hz0 hz1 hz2 rfl (by decide) _ _ _ rfl (HS.out.2.alloc _) ⟨wr.heap.size, 0, none⟩ 1 1 (fcells (wd : Int) (bt : Int)) rfl rfl (cell_two_new _ _ _ _) (by simp [Value.oneCell']) hml (by omega) (by simp; omega) ?_; intro v' w1 hown' hgrow _; obtain ⟨g', cap', rfl⟩ := ownsRow_succ hown'; have hb1 : Below w.heap.size w w1 := (hb.alloc hb.size _).grown hgrow (by simp; omega) (fun q e => (HS.out.2.lt q e).1); have c1 : w1.cell? ⟨b, off + k * 2 + 1, none⟩ = some (.int .i64 m) := (hb1.cell (p := ⟨b, off + k * 2 + 1, none⟩) hbl).trans Hz.out.2.2; clear hgrow))
        go_roundw
        case rel =>
          have hS2 : PlSt l (k + 1) (wd + 1) (64 - (bt + m)) (pre ++ [((wd : Int), (bt : Int))]) := by
            have := HSn.out
            rw [show ((wd + 1 : Nat) : Int) - 1 = (wd : Int) by omega, show (64 : Int) - ((64 - bt : Nat) : Int) = (bt : Int) by omega, show 64 - bt - ((m : Int)).toNat = 64 - (bt + m) by omega] at this
            exact this
          refine ⟨k + 1, wd, bt + m, pre ++ [((wd : Int), (bt : Int))], by omega, by go_num, rfl, by go_num, by omega, by omega, hS2, ?_, ⟨_, _, _, rfl⟩, hb1⟩
          rw [fcl_snoc]
          exact hown'
        case measure => simp [intOf]; omega
    · obtain rfl : k = l.length := by omega
      obtain ⟨e1, e2, e3⟩ := HS.out.1.done
      have He := Lib.hid (And.intro e1 (And.intro e2 e3))
      clear e1 e2 e3
      go_wp2
      go_ret3
      have hE0 : plErr l = 0 := by rw [HE.out, He.out.1]
      obtain ⟨hp, hn⟩ := plP_ok hE0
      have hl : pre.length = l.length := HS.out.1.len
      have hO := HS.out.2
      rw [← hl] at hO
      obtain ⟨a1, c1, hv, hpr⟩ := owns_prs hO
      refine ⟨a1, c1, ?_, hb, ?_⟩
      · rw [hp, hn, hE0, He.out.2.1, He.out.2.2, ← hv]
        rfl
      · rw [hp, He.out.2.1]
        exact hpr

theorem rplaces_any (a : Option Addr) (len cap : Nat) (l : List (Int × Int)) (w : World) (hl : len = l.length) (hP : Prs w.heap.size w a l) :
    Calls Tryd.prog 11 #[.slice a len cap] w (PlPost l w) := by
  subst hl
  by_cases h : l.length = 0 ∨ 256 < l.length
  · exact rplaces_long a cap l w h
  · exact rplaces_in a cap l w (by omega) (by omega) hP
end Go.Proofs.YtenbbnmhgpclkaaDoor
