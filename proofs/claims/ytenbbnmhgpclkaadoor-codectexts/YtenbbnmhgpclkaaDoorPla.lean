/- codec.Places: its contract. -/
import Derived.Test.YtenbbnmhgpclkaaDoorPlc
import Derived.Test.YtenbbnmhgpclkaaDoorChecked
import Derived.Test.YtenbbnmhgpclkaaDoorRows
import Derived.BigQuiet
import Derived.Deep.RegionWith
import Derived.Deep.RegionHeld3
import Derived.WalkMore
import Derived.OwnWalk
namespace Go.Proofs.YtenbbnmhgpclkaaDoor
open Go.RowKit

theorem belN {B : Nat} {a w : World} (h : Below B a w) (n : Nat) : Below B a (w.drewN n) := ⟨h.os, h.tape, h.output, h.size, h.block⟩
theorem blkN {w : World} {g : Nat} {vs : List Value} (h : Blk w g vs) (n : Nat) : Blk (w.drewN n) g vs := h
theorem info33 : (Tryd.prog.info? 33).map (fun i => (i.zero, i.size, i.bytes)) = some (some (.agg #[.int .i64 0, .int .i64 0]), 2, 16) := by kernel_rfl
theorem made_hlf (n : Nat) : madeCells #[.int .i64 0, .int .i64 0] (n * 2) = (hlf [] n).toArray := by
  apply Array.ext
  · simp [madeCells, hlf, fcl]
  · intro i h1 h2
    have : i % 2 = 0 ∨ i % 2 = 1 := by omega
    rcases this with h | h <;> simp [madeCells, hlf, fcl, h]
theorem make_at (n : Nat) (h : n ≤ 256) (w : World) :
    (Instr.makeSlice 25 (.int .i64 n) (.int .i64 n)).run Tryd.prog w = .ok (.slice (some ⟨w.heap.size, 0, none⟩) n n) (w.alloc (.cells (hlf [] n).toArray 33)) := by
  obtain ⟨i, hi, he⟩ := Option.map_eq_some_iff.1 info33
  simp only [Prod.mk.injEq] at he
  obtain ⟨hz, hs, hb⟩ := he
  have hr := run_make (P := Tryd.prog) w 25 33 i _ Tryd.underlying25 hi hz .i64 .i64 n n (by omega) (by omega) (by rw [hb]; omega) (by omega)
  rw [hs] at hr
  simp only [Int.toNat_natCast] at hr
  rw [show (Value.agg #[Value.int .i64 0, Value.int .i64 0]).cells = #[Value.int .i64 0, Value.int .i64 0] from rfl, made_hlf] at hr
  exact hr

/-- What Places leaves. -/
def PlPost (l : List (Int × Int)) (w : World) (e : Ending) (W' : World) : Prop :=
  ∃ a cap, e = .returned (.tuple #[.slice a (plP l).length cap, .int .i64 (plN l), .int .i64 (plErr l)]) ∧ Below w.heap.size w W' ∧ Prs W'.heap.size W' a (plP l)
theorem PlPost.bad {l : List (Int × Int)} {w W' : World} {x : Int} (h : plErr l = x) (hx : x ≠ 0) (hb : Below w.heap.size w W') : PlPost l w (.returned (.tuple #[.slice none 0 0, .int .i64 0, .int .i64 x])) W' := by
  obtain ⟨h1, h2⟩ := plP_err (l := l) (by rw [h]; exact hx)
  exact ⟨none, 0, by rw [h1, h2, h]; rfl, hb, by rw [h1]; exact Prs.nil _ _ _⟩

/-- At the head of Places' loop. -/
def RelP (w : World) (l : List (Int × Int)) (s6 s7 s8 s24 : Value) (wr : World) : Prop :=
  ∃ (k wd fr : Nat) (pre : List (Int × Int)), k ≤ l.length ∧ s24 = .int .i64 k ∧ s6 = .int .i64 wd ∧ s7 = .int .i64 fr ∧ s8 = .int .i64 0 ∧ wd ≤ 64 ∧ fr ≤ 64 ∧ PlSt l k wd fr pre ∧
    Blk wr w.heap.size (hlf pre (l.length - k)) ∧ Below w.heap.size w wr

set_option maxRecDepth 100000 in
set_option maxHeartbeats 1000000 in
theorem places_long (a : Option Addr) (cap : Nat) (l : List (Int × Int)) (w : World) (h : l.length = 0 ∨ 256 < l.length) :
    Calls Tryd.prog 10 #[.slice a l.length cap] w (PlPost l w) := by
  have hE := plErr_long h
  have HE := Lib.hid hE
  clear hE
  have hb := Below.refl w.heap.size w
  rcases h with h | h
  · rw [h]
    go_enter Tryd.func10, Tryd.ntmps10
    go_wp2
    go_step3
    go_wp2
    try rw [Exit.noGoto_ret]
    go_ret3
    exact PlPost.bad HE.out (by decide) hb
  · have h2 : (256 : Int) < l.length := by omega
    have h3 : ((l.length : Int) == 0) = false := by rw [beq_eq_false_iff_ne]; omega
    go_enter Tryd.func10, Tryd.ntmps10
    go_wp2
    go_step3
    go_wp2
    try rw [Exit.noGoto_ret]
    go_ret3
    exact PlPost.bad HE.out (by decide) hb

set_option maxRecDepth 100000 in
set_option maxHeartbeats 4000000 in
theorem places_in (a : Option Addr) (cap : Nat) (l : List (Int × Int)) (w : World) (h1 : l.length ≠ 0) (h2 : l.length ≤ 256) (hP : Prs w.heap.size w a l) (hK : KD w) :
    Calls Tryd.prog 10 #[.slice a l.length cap] w (PlPost l w) := by
  have hE := plErr_in h1 h2
  have HE := Lib.hid hE
  clear hE
  have hmk := make_at l.length h2
  have h3 : ((l.length : Int) == 0) = false := by rw [beq_eq_false_iff_ne]; omega
  have h4 : decide ((256 : Int) < (l.length : Int)) = false := decide_eq_false (by omega)
  have hN := Blk.new w (hlf [] l.length).toArray 33
  have hB := (Below.refl w.heap.size w).alloc (Nat.le_refl _) (.cells (hlf [] l.length).toArray 33)
  have HN := Lib.hid (And.intro hN hB)
  clear hN hB
  go_enter Tryd.func10, Tryd.ntmps10
  go_wp2
  go_step3
  go_wp2
  go_step3
  go_wp2
  go_loopw [6, 7, 8, 24] (RelP w l) (fun _ _ _ i _ => l.length - (intOf i).toNat)
  case atStart => exact ⟨0, 0, 0, [], by omega, rfl, rfl, rfl, rfl, by omega, by omega, PlSt.start l, HN.out.1, HN.out.2⟩
  case round =>
    obtain ⟨k, wd, fr, pre, hk, rfl, rfl, rfl, rfl, hwd, hfr, hst, hblk, hb⟩ := hrel
    clear HN hmk
    have HS := Lib.hid (And.intro hst hblk)
    clear hst hblk
    by_cases hlt : k < l.length
    · obtain ⟨⟨kd, n⟩, hz⟩ : ∃ z, l[k]? = some z := ⟨l[k], List.getElem?_eq_getElem hlt⟩
      obtain ⟨b, off, rfl, hbl, hc0, hc1⟩ := hP k _ hz
      have d0 : wr.cell? ⟨b, off + k * 2, none⟩ = some (.int .i64 kd) := (hb.cell (p := ⟨b, off + k * 2, none⟩) hbl).trans hc0
      have d1 : wr.cell? ⟨b, off + k * 2 + 1, none⟩ = some (.int .i64 n) := (hb.cell (p := ⟨b, off + k * 2 + 1, none⟩) hbl).trans hc1
      have Hz := Lib.hid hz
      clear hz hc0 hc1
      have hK1 := hK.next hb
      have hs := hb.size
      have hw2 : wrap64 ((k : Int) + 1) = (k : Int) + 1 := by unfold wrap64; omega
      have hkl : (k : Int) < l.length := by omega
      by_cases hneg : kd < 0
      · have hfin : plErr l = 1 := by rw [HE.out, HS.out.1.bad Hz.out (by rw [bad_kind (Or.inl hneg)]; decide), bad_kind (Or.inl hneg)]
        have Hf := Lib.hid hfin
        clear hfin
        go_wp2
        try rw [Exit.noGoto_ret]
        go_ret3
        exact PlPost.bad Hf.out (by decide) (hb.alloc hb.size _)
      by_cases hbig : 4 ≤ kd
      · have hfin : plErr l = 1 := by rw [HE.out, HS.out.1.bad Hz.out (by rw [bad_kind (Or.inr hbig)]; decide), bad_kind (Or.inr hbig)]
        have Hf := Lib.hid hfin
        clear hfin
        go_wp2
        try rw [Exit.noGoto_ret]
        go_ret3
        exact PlPost.bad Hf.out (by decide) (hb.alloc hb.size _)
      obtain ⟨q, rfl⟩ : ∃ q : Nat, kd = q := ⟨kd.toNat, by omega⟩
      have hq : q < 4 := by omega
      clear hneg hbig
      have hq0 : decide ((q : Int) < 0) = false := decide_eq_false (by omega)
      have hq1 : decide ((4 : Int) ≤ (q : Int)) = false := decide_eq_false (by omega)
      go_wp2
      have hb1 := hb.alloc hb.size (.cells #[.int .i64 (q : Int), .int .i64 n] 47)
      have hB1 := HS.out.2.alloc (.cells #[.int .i64 (q : Int), .int .i64 n] 47)
      have hV := Blk.new wr #[.int .i64 (q : Int), .int .i64 n] 47
      have hg : w.heap.size < wr.heap.size := HS.out.2.lt
      have HG := Lib.hid (And.intro hb1 (And.intro hB1 hV))
      have f0 := hV.cell (i := 0) rfl
      have f1 := hV.cell (i := 1) rfl
      have hKw := hK.next hb1
      have t1 := hKw.lo hq
      have t2 := hKw.hi hq
      have hS1 := HS.out.1
      obtain ⟨ha0, ha1⟩ := hlf_at pre (l.length - k) k hS1.len (by omega)
      have g0 := hB1.cell ha0
      have g1 := hB1.cell ha1
      have z0 := hB1.frozen (k * 2)
      have z1 := hB1.frozen (k * 2 + 1)
      clear ha0 ha1
      have HS1 := Lib.hid hS1
      clear HS hS1 hb1 hB1 hV hKw hK1 d0 d1
      generalize wr.alloc (.cells #[.int .i64 (q : Int), .int .i64 n] 47) = W1 at *
      generalize wr.heap.size = v at *
      clear hb hs
      obtain ⟨lo, hlo⟩ : ∃ lo, kLo q = lo := ⟨_, rfl⟩
      obtain ⟨hi, hhi⟩ : ∃ hi, kHi q = hi := ⟨_, rfl⟩
      rw [hlo] at t1
      rw [hhi] at t2
      have HL := Lib.hid (And.intro hlo hhi)
      clear hlo hhi
      by_cases hl1 : n < lo
      · have hfin : plErr l = 10 := by
          have e := bad_len (n := n) hq (Or.inl (by rw [HL.out.1]; exact hl1))
          rw [HE.out, HS1.out.bad Hz.out (by rw [e]; decide), e]
        have Hf := Lib.hid hfin
        clear hfin
        have hd : decide (n < lo) = true := decide_eq_true hl1
        go_quiet (fail)
        go_wp2
        try rw [Exit.noGoto_ret]
        go_ret3
        exact PlPost.bad Hf.out (by decide) (belN HG.out.1 _)
      by_cases hl2 : hi < n
      · have hfin : plErr l = 10 := by
          have e := bad_len (n := n) hq (Or.inr (by rw [HL.out.2]; exact hl2))
          rw [HE.out, HS1.out.bad Hz.out (by rw [e]; decide), e]
        have Hf := Lib.hid hfin
        clear hfin
        have hd : decide (n < lo) = false := decide_eq_false hl1
        have hd2 : decide (hi < n) = true := decide_eq_true hl2
        go_quiet (fail)
        go_wp2
        try rw [Exit.noGoto_ret]
        go_ret3
        exact PlPost.bad Hf.out (by decide) (belN HG.out.1 _)
      have hd : decide (n < lo) = false := decide_eq_false hl1
      have hd2 : decide (hi < n) = false := decide_eq_false hl2
      have hok : bad (q : Int) n = 0 := bad_ok hq (by rw [HL.out.1]; omega) (by rw [HL.out.2]; omega)
      obtain ⟨_, _, _, _, hn1, hn64⟩ := ok_bad hok
      have Hok := Lib.hid hok
      obtain ⟨m, rfl⟩ : ∃ m : Nat, n = m := ⟨n.toNat, by omega⟩
      clear hok hl1 hl2
      go_quiet (fail)
      clear hd hd2 t1 t2 HL
      by_cases hnf : fr < m
      · have hn1' : decide ((fr : Int) < (m : Int)) = true := decide_eq_true (by omega)
        by_cases hful : wd = 64
        · have hfin : plErr l = 12 := by rw [HE.out, HS1.out.full Hz.out Hok.out (by show (fr : Int) < (m : Int); omega) hful]
          have Hf := Lib.hid hfin
          clear hfin
          subst hful
          go_wp2
          try rw [Exit.noGoto_ret]
          go_ret3
          exact PlPost.bad Hf.out (by decide) (belN HG.out.1 _)
        · have hfu : ((wd : Int) == 64) = false := by rw [beq_eq_false_iff_ne]; omega
          have hsn := HS1.out.next Hz.out Hok.out (by show (fr : Int) < (m : Int); omega) hful
          have HSn := Lib.hid hsn
          clear hsn
          go_wp2
          go_roundw
          case rel =>
            have hB := ((blkN HG.out.2.1 nq).put (k * 2) (.int .i64 (wd : Int))).put (k * 2 + 1) (.int .i64 0)
            rw [show l.length - k = (l.length - (k + 1)) + 1 by omega, hlf_put _ _ _ _ _ HS1.out.len] at hB
            have hbel := ((belN HG.out.1 nq).setCell (p := ⟨w.heap.size, k * 2, none⟩) (Nat.le_refl _) (.int .i64 (wd : Int))).setCell (p := ⟨w.heap.size, k * 2 + 1, none⟩) (Nat.le_refl _) (.int .i64 0)
            exact ⟨k + 1, wd + 1, 64 - m, pre ++ [((wd : Int), 0)], by omega, by go_num, by go_num, congrArg (Value.int .i64) (by omega), rfl, by omega, by omega, HSn.out, hB, hbel⟩
          case measure => simp [intOf]; omega
      · have hn1' : decide ((fr : Int) < (m : Int)) = false := decide_eq_false (by omega)
        have hsn := HS1.out.same Hz.out Hok.out (by show (m : Int) ≤ (fr : Int); omega)
        have HSn := Lib.hid hsn
        clear hsn
        go_wp2
        go_roundw
        case rel =>
          have hB := ((blkN HG.out.2.1 nq).put (k * 2) (.int .i64 ((wd : Int) - 1))).put (k * 2 + 1) (.int .i64 (64 - (fr : Int)))
          rw [show l.length - k = (l.length - (k + 1)) + 1 by omega, hlf_put _ _ _ _ _ HS1.out.len] at hB
          have hbel := ((belN HG.out.1 nq).setCell (p := ⟨w.heap.size, k * 2, none⟩) (Nat.le_refl _) (.int .i64 ((wd : Int) - 1))).setCell (p := ⟨w.heap.size, k * 2 + 1, none⟩) (Nat.le_refl _) (.int .i64 (64 - (fr : Int)))
          exact ⟨k + 1, wd, fr - m, pre ++ [((wd : Int) - 1, 64 - (fr : Int))], by omega, by go_num, rfl, congrArg (Value.int .i64) (by omega), rfl, by omega, by omega, HSn.out, hB, hbel⟩
        case measure => simp [intOf]; omega
    · obtain rfl : k = l.length := by omega
      obtain ⟨e1, e2, e3⟩ := HS.out.1.done
      have He := Lib.hid (And.intro e1 (And.intro e2 e3))
      clear e1 e2 e3
      go_wp2
      try rw [Exit.noGoto_ret]
      go_ret3
      have hE0 : plErr l = 0 := by rw [HE.out, He.out.1]
      obtain ⟨hp, hn⟩ := plP_ok hE0
      have hl : pre.length = l.length := HS.out.1.len
      have hB := HS.out.2
      rw [Nat.sub_self, hlf_zero] at hB
      refine ⟨some ⟨w.heap.size, 0, none⟩, l.length, ?_, hb, ?_⟩
      · rw [hp, hn, hE0, He.out.2.1, He.out.2.2, hl]
        rfl
      · rw [hp, He.out.2.1]
        exact Prs.of_blk hB

theorem places_any (a : Option Addr) (len cap : Nat) (l : List (Int × Int)) (w : World) (hl : len = l.length) (hP : Prs w.heap.size w a l) (hK : KD w) :
    Calls Tryd.prog 10 #[.slice a len cap] w (PlPost l w) := by
  subst hl
  by_cases h : l.length = 0 ∨ 256 < l.length
  · exact places_long a cap l w h
  · exact places_in a cap l w (by omega) (by omega) hP hK
set_option maxRecDepth 100000 in
theorem few_any (a : Option Addr) (len cap : Nat) (w : World) : Calls Tryd.prog 8 #[.slice a len cap] w (Ret (.bool (decide ((len : Int) ≤ 300))) w) := by
  go_enter Tryd.func8, Tryd.ntmps8
  go_wp2
  go_ret
  exact ⟨rfl, Below.refl _ _⟩
end Go.Proofs.YtenbbnmhgpclkaaDoor
