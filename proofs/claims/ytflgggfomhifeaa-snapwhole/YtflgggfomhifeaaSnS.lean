/- Small calls ahead of a snapshot: lies, wrong, the look through the spots, width, fault. -/
import Derived.Test.YtflgggfomhifeaaSnM
import Derived.Test.YtflgggfomhifeaaNewO
import Derived.Test.YtflgggfomhifeaaNew
import Derived.Deep.RegionHeld3
import Derived.BigQuiet
namespace Go.Proofs.Ytflgggfomhifeaa
open Go.RowKit

theorem lies_any (n : Int) (w : World) : Calls Try.prog 68 #[.int .i64 n] w (Pur (.bool (inB n 0 1048576)) w) := by
  go_enter Try.func68, Try.ntmps68
  go_wp2
  · go_ret
    exact ⟨by simp_all [inB], rfl⟩
  · go_ret
    exact ⟨by rw [inB_1 (by assumption)]; rfl, rfl⟩
theorem inB_iff {n a b : Int} : inB n a b = true ↔ a ≤ n ∧ n ≤ b := by simp [inB]
/-- Whether a spot is wrong. -/
def wrg (S : Sp) : Bool := !decide (Rt S)
theorem wrg_yes {S : Sp} (h : ¬ Rt S) : wrg S = true := by simp [wrg, h]
theorem wrg_no {S : Sp} (h : Rt S) : wrg S = false := by simp [wrg, h]
set_option maxRecDepth 100000 in
set_option maxHeartbeats 1000000 in
theorem wrong_any (S : Sp) (w : World) : Calls Try.prog 57 #[spV S] w (Ret (.bool (wrg S)) w) := by
  have hC := Blk.new w #[.int .i64 S.ow, .int .i64 S.sq, .int .i64 S.fs, .int .i64 S.wd, .int .i64 S.dp] 69
  have hb0 := (Below.refl w.heap.size w).alloc (Nat.le_refl _) (sb S)
  have HB := Lib.hid (And.intro hC hb0)
  have Hat := Lib.hid (fun w => at_any S.ow S.sq S.fs S.wd S.dp 0 w (by omega) (by omega))
  have Hl0 := Lib.hid (fun w => lies_any S.ow w)
  have Hl1 := Lib.hid (fun w => lies_any S.sq w)
  clear hC hb0
  by_cases k0 : okS S.fs S.wd S.dp
  · have hv : atv S.fs S.wd S.dp 0 = S.fs := by rw [atv_ok k0]; simp
    rw [hv] at Hat
    clear hv
    have K0 := Lib.hid k0
    have f0 : 0 ≤ S.fs := k0.2.2.2.2.1
    clear k0
    by_cases k1 : 2 ≤ S.dp
    · cases q2 : inB S.ow 0 1048576 with
      | false =>
        rw [wrg_yes (fun c => by have h := inB_iff.2 (And.intro c.2.2.2.2.1 c.2.2.2.2.2.1); rw [q2] at h; cases h)]
        rw [q2] at Hl0
        clear q2
        go_enter Try.func57, Try.ntmps57
        go_wp2_with fail
        refine (Hat.out _).mono ?_
        rintro e w1 ⟨rfl, hb1⟩
        have c4 := (HB.out.1.low hb1).cell (i := 4) rfl
        have c0 := (HB.out.1.low hb1).cell (i := 0) rfl
        have c1 := (HB.out.1.low hb1).cell (i := 1) rfl
        have Hb := Lib.hid (HB.out.2.trans (hb1.mono HB.out.2.size))
        clear hb1
        go_wp2_with fail
        refine (Hl0.out _).mono ?_
        rintro e w' ⟨rfl, rfl⟩
        go_wp2
        go_ret
        exact ⟨by first | rfl | (simp; omega), Hb.out⟩
      | true =>
        cases q3 : inB S.sq 0 1048576 with
        | false =>
          rw [wrg_yes (fun c => by have h := inB_iff.2 (And.intro c.2.2.2.2.2.2.1 c.2.2.2.2.2.2.2.1); rw [q3] at h; cases h)]
          rw [q2] at Hl0
          rw [q3] at Hl1
          clear q2 q3
          go_enter Try.func57, Try.ntmps57
          go_wp2_with fail
          refine (Hat.out _).mono ?_
          rintro e w1 ⟨rfl, hb1⟩
          have c4 := (HB.out.1.low hb1).cell (i := 4) rfl
          have c0 := (HB.out.1.low hb1).cell (i := 0) rfl
          have c1 := (HB.out.1.low hb1).cell (i := 1) rfl
          have Hb := Lib.hid (HB.out.2.trans (hb1.mono HB.out.2.size))
          clear hb1
          go_wp2_with fail
          refine (Hl0.out _).mono ?_
          rintro e w' ⟨rfl, rfl⟩
          go_wp2_with fail
          refine (Hl1.out _).mono ?_
          rintro e w' ⟨rfl, rfl⟩
          go_wp2
          go_ret
          exact ⟨by first | rfl | (simp; omega), Hb.out⟩
        | true =>
          have h2 := inB_iff.1 q2
          have h3 := inB_iff.1 q3
          rw [wrg_no (by obtain ⟨a1, a2, a3, a4, a5, a6⟩ := K0.out; unfold Rt; omega)]
          rw [q2] at Hl0
          rw [q3] at Hl1
          clear q2 q3 h2 h3
          go_enter Try.func57, Try.ntmps57
          go_wp2_with fail
          refine (Hat.out _).mono ?_
          rintro e w1 ⟨rfl, hb1⟩
          have c4 := (HB.out.1.low hb1).cell (i := 4) rfl
          have c0 := (HB.out.1.low hb1).cell (i := 0) rfl
          have c1 := (HB.out.1.low hb1).cell (i := 1) rfl
          have Hb := Lib.hid (HB.out.2.trans (hb1.mono HB.out.2.size))
          clear hb1
          go_wp2_with fail
          refine (Hl0.out _).mono ?_
          rintro e w' ⟨rfl, rfl⟩
          go_wp2_with fail
          refine (Hl1.out _).mono ?_
          rintro e w' ⟨rfl, rfl⟩
          go_wp2
          go_ret
          exact ⟨by first | rfl | (simp; omega), Hb.out⟩
    · rw [wrg_yes (fun c => k1 c.2.2.1)]
      go_enter Try.func57, Try.ntmps57
      go_wp2_with fail
      refine (Hat.out _).mono ?_
      rintro e w1 ⟨rfl, hb1⟩
      have c4 := (HB.out.1.low hb1).cell (i := 4) rfl
      have c0 := (HB.out.1.low hb1).cell (i := 0) rfl
      have c1 := (HB.out.1.low hb1).cell (i := 1) rfl
      have Hb := Lib.hid (HB.out.2.trans (hb1.mono HB.out.2.size))
      clear hb1
      go_wp2
      go_ret
      exact ⟨by first | rfl | (simp; omega), Hb.out⟩
  · have hv : atv S.fs S.wd S.dp 0 = -1 := atv_no k0
    rw [wrg_yes (fun c => k0 (by obtain ⟨a1, a2, a3, a4, _, _, _, _, a5, a6⟩ := c; exact ⟨a1, a2, by omega, a4, a5, a6⟩))]
    rw [hv] at Hat
    clear hv k0
    go_enter Try.func57, Try.ntmps57
    go_wp2_with fail
    refine (Hat.out _).mono ?_
    rintro e w1 ⟨rfl, hb1⟩
    have c4 := (HB.out.1.low hb1).cell (i := 4) rfl
    have c0 := (HB.out.1.low hb1).cell (i := 0) rfl
    have c1 := (HB.out.1.low hb1).cell (i := 1) rfl
    have Hb := Lib.hid (HB.out.2.trans (hb1.mono HB.out.2.size))
    clear hb1
    go_wp2
    go_ret
    exact ⟨by first | rfl | (simp; omega), Hb.out⟩

/-- Spots that lie in a slice. -/
def Sps (n₀ : Nat) (W : World) (a : Option Addr) (l : List Sp) : Prop :=
  ∀ j s, l[j]? = some s → ∃ b off, a = some ⟨b, off, none⟩ ∧ b < n₀ ∧ W.cell? ⟨b, off + j * 5, none⟩ = some (.int .i64 s.ow) ∧ W.cell? ⟨b, off + j * 5 + 1, none⟩ = some (.int .i64 s.sq) ∧ W.cell? ⟨b, off + j * 5 + 2, none⟩ = some (.int .i64 s.fs) ∧
    W.cell? ⟨b, off + j * 5 + 3, none⟩ = some (.int .i64 s.wd) ∧ W.cell? ⟨b, off + j * 5 + 4, none⟩ = some (.int .i64 s.dp)
theorem Sps.below {n₀ : Nat} {A B : World} {a : Option Addr} {l : List Sp} (k : Sps n₀ A a l) (h : Below n₀ A B) : Sps n₀ B a l := fun j p hp => by
  obtain ⟨b, off, e, hb, c0, c1, c2, c3, c4⟩ := k j p hp
  exact ⟨b, off, e, hb, by rw [h.cell (p := ⟨b, off + j * 5, none⟩) hb]; exact c0, by rw [h.cell (p := ⟨b, off + j * 5 + 1, none⟩) hb]; exact c1, by rw [h.cell (p := ⟨b, off + j * 5 + 2, none⟩) hb]; exact c2, by rw [h.cell (p := ⟨b, off + j * 5 + 3, none⟩) hb]; exact c3, by rw [h.cell (p := ⟨b, off + j * 5 + 4, none⟩) hb]; exact c4⟩
theorem Sps.mono {n m : Nat} {A : World} {a : Option Addr} {l : List Sp} (k : Sps n A a l) (h : n ≤ m) : Sps m A a l := fun j p hp => by
  obtain ⟨b, off, e, hb, c⟩ := k j p hp
  exact ⟨b, off, e, by omega, c⟩
theorem Sps.next {A B : World} {a : Option Addr} {l : List Sp} (k : Sps A.heap.size A a l) (h : Below A.heap.size A B) : Sps B.heap.size B a l := (k.below h).mono h.size
/-- The first one that is wrong. -/
def IxPost (l : List Sp) (w : World) (e : Ending) (w' : World) : Prop :=
  ∃ r : Int, e = .returned (.int .i64 r) ∧ (0 ≤ r ↔ ∃ S ∈ l, wrg S = true) ∧ Below w.heap.size w w'
def intOf : Value → Int | .int _ q => q | _ => 0
def IxRel (w : World) (l : List Sp) (i : Value) (wr : World) : Prop := ∃ k : Nat, i = .int .i64 k ∧ k ≤ l.length ∧ (∀ j S, j < k → l[j]? = some S → wrg S = false) ∧ Below w.heap.size w wr
set_option maxRecDepth 100000 in
set_option maxHeartbeats 1000000 in
theorem index_any (a : Option Addr) (cap : Nat) (l : List Sp) (w : World) (hS : Sps w.heap.size w a l) (hl : l.length ≤ 1000000) :
    Calls Try.prog 67 #[.slice a l.length cap, .func (.func 57) #[] #[]] w (IxPost l w) := by
  have hl' : (l.length : Int) ≤ 1000000 := by omega
  have HS := Lib.hid hS
  have HW := Lib.hid (fun S w => wrong_any S w)
  clear hS hl
  obtain ⟨n, hn⟩ : ∃ n, l.length = n := ⟨_, rfl⟩
  have Hn := Lib.hid hn
  rw [hn] at hl' ⊢
  clear hn
  go_enter Try.func67, Try.ntmps67
  go_wp2_with fail
  go_loopw [8] (fun i wr => IxRel w l i wr) (fun i _ => n - (intOf i).toNat)
  case atStart => exact ⟨0, rfl, by omega, fun j S hj => absurd hj (by omega), Below.refl _ _⟩
  case round =>
    obtain ⟨k, rfl, hk, hK, hb⟩ := hrel
    rw [Hn.out] at hk
    have HK := Lib.hid (And.intro hK hb)
    clear hK hb
    by_cases hlt : (k : Int) < n
    · obtain ⟨S, hSk⟩ : ∃ S, l[k]? = some S := ⟨_, List.getElem?_eq_getElem (by have := Hn.out; omega)⟩
      obtain ⟨b, off, rfl, hbl, c0, c1, c2, c3, c4⟩ := (HS.out.below HK.out.2) k S hSk
      have HSk := Lib.hid (And.intro hSk hbl)
      clear hSk hbl
      go_wp2_with fail
      refine (HW.out S _).mono ?_
      rintro e w2 ⟨rfl, hb2⟩
      have Hb2 := Lib.hid (HK.out.2.trans (hb2.mono HK.out.2.size))
      clear hb2 c0 c1 c2 c3 c4
      cases q : wrg S with
      | true =>
        have Hq := Lib.hid q
        clear q
        go_wp2_with fail
        go_ret
        exact ⟨k, rfl, ⟨fun _ => ⟨S, List.mem_of_getElem? HSk.out.1, Hq.out⟩, fun _ => by omega⟩, Hb2.out⟩
      | false =>
        have Hq := Lib.hid q
        clear q
        go_wp2_with fail
        go_roundw
        case rel => exact ⟨k + 1, by go_num, by have := Hn.out; omega, fun j S' hj hS' => (by
          by_cases c : j = k
          · subst c
            rw [HSk.out.1] at hS'
            cases hS'
            exact Hq.out
          · exact HK.out.1 j S' (by omega) hS'), Hb2.out⟩
        case measure => simp [intOf]; omega
    · obtain rfl : k = n := by omega
      go_wp2_with fail
      go_ret
      refine ⟨-1, rfl, ⟨fun c => absurd c (by omega), fun ⟨S, hS, hq⟩ => ?_⟩, HK.out.2⟩
      obtain ⟨j, hj, e⟩ := List.getElem_of_mem hS
      have := HK.out.1 j S (by have := Hn.out; omega) (by rw [List.getElem?_eq_getElem hj, e])
      rw [this] at hq
      cases hq
def anyw (l : List Sp) : Bool := l.any wrg
theorem anyw_iff {l : List Sp} : anyw l = true ↔ ∃ S ∈ l, wrg S = true := by simp [anyw]
set_option maxRecDepth 100000 in
theorem contains_any (a : Option Addr) (cap : Nat) (l : List Sp) (w : World) (hS : Sps w.heap.size w a l) (hl : l.length ≤ 1000000) :
    Calls Try.prog 56 #[.slice a l.length cap, .func (.func 57) #[] #[]] w (Ret (.bool (anyw l)) w) := by
  have Hi := Lib.hid (index_any a cap l w hS hl)
  clear hS hl
  generalize l.length = n at *
  go_enter Try.func56, Try.ntmps56
  go_wp2_with fail
  refine Hi.out.mono ?_
  rintro e w2 ⟨r, rfl, hr, hb⟩
  have Hb := Lib.hid (And.intro hr hb)
  clear hr hb
  cases q : anyw l with
  | true =>
    have h0 : 0 ≤ r := Hb.out.1.2 (anyw_iff.1 q)
    have Hq := Lib.hid q
    clear q
    go_wp2
    go_ret
    exact ⟨by simp [h0, Hq.out], Hb.out.2⟩
  | false =>
    have h0 : ¬ 0 ≤ r := fun c => by
      have := anyw_iff.2 (Hb.out.1.1 c)
      rw [q] at this
      cases this
    have Hq := Lib.hid q
    clear q
    go_wp2
    go_ret
    exact ⟨by simp [h0, Hq.out], Hb.out.2⟩
/-- How spots and tries are wrong. -/
def flt (l : List Sp) (tr : Int) : Int :=
  if l.length < 1 ∨ 64 < l.length then 12 else if anyw l = true ∨ tr < 1 ∨ 16 < tr then 10 else 0
theorem flt_ok {l : List Sp} {tr : Int} (h : flt l tr = 0) : 1 ≤ l.length ∧ l.length ≤ 64 ∧ (∀ S ∈ l, Rt S) ∧ 1 ≤ tr ∧ tr ≤ 16 := by
  unfold flt at h
  split at h
  · cases h
  · split at h
    · cases h
    · rename_i h1 h2
      refine ⟨by omega, by omega, fun S hS => ?_, by omega, by omega⟩
      by_cases c : Rt S
      · exact c
      · exact absurd (.inl (anyw_iff.2 ⟨S, hS, wrg_yes c⟩)) h2
theorem flt_mk {l : List Sp} {tr : Int} (h1 : 1 ≤ l.length) (h2 : l.length ≤ 64) (h3 : ∀ S ∈ l, Rt S) (h4 : 1 ≤ tr) (h5 : tr ≤ 16) : flt l tr = 0 := by
  unfold flt
  rw [if_neg (by omega), if_neg]
  rintro (c | c | c)
  · obtain ⟨S, hS, hq⟩ := anyw_iff.1 c
    rw [wrg_no (h3 S hS)] at hq
    cases hq
  · omega
  · omega
set_option maxRecDepth 100000 in
set_option maxHeartbeats 1000000 in
theorem fault_any (a : Option Addr) (cap : Nat) (l : List Sp) (tr : Int) (w : World) (hS : Sps w.heap.size w a l) (hl : l.length ≤ 1000000) :
    Calls Try.prog 32 #[.slice a l.length cap, .int .i64 tr] w (Ret (.int .i64 (flt l tr)) w) := by
  have Hc := Lib.hid (contains_any a cap l w hS hl)
  clear hS
  unfold flt
  obtain ⟨n, hn⟩ : ∃ n, l.length = n := ⟨_, rfl⟩
  rw [hn] at Hc hl ⊢
  have hn6 : (n : Int) ≤ 1000000 := by omega
  clear hn hl
  by_cases h1 : n < 1 ∨ 64 < n
  · rw [if_pos h1]
    rcases h1 with h1 | h1
    · have g1 : (n : Int) < 1 := by omega
      clear h1
      go_enter Try.func32, Try.ntmps32
      go_wp2
      go_ret
      exact ⟨rfl, Below.refl _ _⟩
    · have g1 : ¬ (n : Int) < 1 := by omega
      have g2 : (64 : Int) < n := by omega
      clear h1
      go_enter Try.func32, Try.ntmps32
      go_wp2
      go_ret
      exact ⟨rfl, Below.refl _ _⟩
  · rw [if_neg h1]
    have g1 : ¬ (n : Int) < 1 := by omega
    have g2 : ¬ (64 : Int) < n := by omega
    clear h1
    cases q : anyw l with
    | true =>
      rw [if_pos (.inl rfl)]
      rw [q] at Hc
      clear q
      go_enter Try.func32, Try.ntmps32
      go_wp2_with fail
      refine Hc.out.mono ?_
      rintro e w2 ⟨rfl, hb⟩
      go_wp2
      go_ret
      exact ⟨rfl, hb⟩
    | false =>
      rw [q] at Hc
      clear q
      by_cases k1 : tr < 1
      · rw [if_pos (.inr (.inl k1))]
        go_enter Try.func32, Try.ntmps32
        go_wp2_with fail
        refine Hc.out.mono ?_
        rintro e w2 ⟨rfl, hb⟩
        go_wp2
        go_ret
        exact ⟨rfl, hb⟩
      · by_cases k2 : 16 < tr
        · rw [if_pos (.inr (.inr k2))]
          go_enter Try.func32, Try.ntmps32
          go_wp2_with fail
          refine Hc.out.mono ?_
          rintro e w2 ⟨rfl, hb⟩
          go_wp2
          go_ret
          exact ⟨rfl, hb⟩
        · rw [if_neg (by rintro (c | c | c); cases c; exact k1 c; exact k2 c)]
          go_enter Try.func32, Try.ntmps32
          go_wp2_with fail
          refine Hc.out.mono ?_
          rintro e w2 ⟨rfl, hb⟩
          go_wp2
          go_ret
          exact ⟨rfl, hb⟩
def WdRel (w : World) (l : List Sp) (s i : Value) (wr : World) : Prop := ∃ k : Nat, i = .int .i64 k ∧ k ≤ l.length ∧ s = .int .i64 (wid (l.take k)) ∧ Below w.heap.size w wr
set_option maxRecDepth 100000 in
set_option maxHeartbeats 1000000 in
theorem width_any (a : Option Addr) (cap : Nat) (l : List Sp) (w : World) (hS : Sps w.heap.size w a l) (hl : l.length ≤ 64) (hR : ∀ S ∈ l, Rt S) :
    Calls Try.prog 34 #[.slice a l.length cap] w (Ret (.int .i64 (wid l)) w) := by
  have hl' : (l.length : Int) ≤ 64 := by omega
  have hwb : ∀ k, (wid (l.take k) : Int) ≤ 4096 := fun k => by
    have h1 := wid_le l k
    have h2 := wid_bd l hR
    omega
  have HS := Lib.hid hS
  have HR := Lib.hid (And.intro hR hwb)
  clear hS hl hR hwb
  obtain ⟨n, hn⟩ : ∃ n, l.length = n := ⟨_, rfl⟩
  have Hn := Lib.hid hn
  rw [hn] at hl' ⊢
  clear hn
  go_enter Try.func34, Try.ntmps34
  go_wp2_with fail
  go_loopw [3, 8] (fun s i wr => WdRel w l s i wr) (fun _ i _ => n - (intOf i).toNat)
  case atStart => exact ⟨0, rfl, by omega, by simp [wid], Below.refl _ _⟩
  case round =>
    obtain ⟨k, rfl, hk, rfl, hb⟩ := hrel
    rw [Hn.out] at hk
    have HK := Lib.hid hb
    clear hb
    by_cases hlt : (k : Int) < n
    · obtain ⟨S, hSk⟩ : ∃ S, l[k]? = some S := ⟨_, List.getElem?_eq_getElem (by have := Hn.out; omega)⟩
      obtain ⟨b, off, rfl, hbl, c0, c1, c2, c3, c4⟩ := (HS.out.below HK.out) k S hSk
      have hbd := HR.out.2 k
      have hrt := HR.out.1 S (List.mem_of_getElem? hSk)
      have hw1 : 1 ≤ S.wd := hrt.1
      have hw2 : S.wd ≤ 64 := hrt.2.1
      have Hnx := Lib.hid (wid_take l k S hSk)
      have hC := Blk.new wr #[.int .i64 S.ow, .int .i64 S.sq, .int .i64 S.fs, .int .i64 S.wd, .int .i64 S.dp] 69
      have d3 := hC.cell (i := 3) rfl
      have Hb := Lib.hid (HK.out.alloc HK.out.size (sb S))
      clear hSk hbl hrt hC
      generalize wid (l.take k) = z at *
      go_wp2_with fail
      go_roundw
      case rel => exact ⟨k + 1, by go_num, by have := Hn.out; omega, by rw [Hnx.out]; push_cast; rw [Int.toNat_of_nonneg (by omega)], Hb.out⟩
      case measure => simp [intOf]; omega
    · obtain rfl : k = n := by omega
      go_wp2_with fail
      go_ret
      exact ⟨by rw [List.take_of_length_le (by have := Hn.out; omega)]; rfl, HK.out⟩
end Go.Proofs.Ytflgggfomhifeaa
