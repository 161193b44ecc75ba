/- Subscriptions in memory; which are wrong. -/
import Derived.Test.YtkkkicinlghikaaSee
namespace Go.Proofs.Ytkkkicinlghikaa
open Go.RowKit

/-- A subscription. -/
structure Sb where
  tp : Int
  rk : Int
  n : Int
  c : Int
  g : Int
  l : Int
abbrev sbV (S : Sb) : Value := .agg #[.int .i64 S.tp, .int .i64 S.rk, .int .u64 S.n, .int .i64 S.c, .int .u64 S.g, .int .u64 S.l]
abbrev sbO (S : Sb) : Obj := .cells #[.int .i64 S.tp, .int .i64 S.rk, .int .u64 S.n, .int .i64 S.c, .int .u64 S.g, .int .u64 S.l] 56
abbrev sbL (S : Sb) : List Value := [.int .i64 S.tp, .int .i64 S.rk, .int .u64 S.n, .int .i64 S.c, .int .u64 S.g, .int .u64 S.l]
/-- One that is wrong. -/
def wrg (S : Sb) : Bool := !rt S.n S.c
theorem sbN (w : World) (S : Sb) : Blk (w.alloc (sbO S)) w.heap.size (sbL S) ∧ Below w.heap.size w (w.alloc (sbO S)) :=
  ⟨Blk.new w _ 56, (Below.refl w.heap.size w).alloc (Nat.le_refl _) _⟩
set_option maxHeartbeats 1000000 in
theorem wrong_any (S : Sb) (w : World) : Calls Try.prog 31 #[sbV S] w (Ret (.bool (wrg S)) w) := by
  obtain ⟨tp, rk, n, c, g, l⟩ := S
  have hN := sbN w ⟨tp, rk, n, c, g, l⟩
  have c2 := hN.1.cell (i := 2) rfl
  have c3 := hN.1.cell (i := 3) rfl
  have c4 := hN.1.cell (i := 4) rfl
  have c5 := hN.1.cell (i := 5) rfl
  have HN := Lib.hid hN.2
  clear hN
  have hr := Lib.hid (fun w => right_any n c g l w)
  rw [show wrg ⟨tp, rk, n, c, g, l⟩ = !rt n c from rfl]
  generalize rt n c = q at *
  go_enter Try.func31, Try.ntmps31
  go_wp2_with fail
  refine (hr.out _).mono ?_
  rintro e w1 ⟨rfl, hb⟩
  have Hb := Lib.hid (HN.out.trans (hb.mono HN.out.size))
  clear hb
  go_wp2
  go_ret
  exact ⟨rfl, Hb.out⟩

/-- Subscriptions that lie in a slice. -/
def Sbs (n₀ : Nat) (W : World) (a : Option Addr) (l : List Sb) : Prop :=
  ∀ j s, l[j]? = some s → ∃ b off, a = some ⟨b, off, none⟩ ∧ b < n₀ ∧ W.cell? ⟨b, off + j * 6, none⟩ = some (.int .i64 s.tp) ∧ W.cell? ⟨b, off + j * 6 + 1, none⟩ = some (.int .i64 s.rk) ∧ W.cell? ⟨b, off + j * 6 + 2, none⟩ = some (.int .u64 s.n) ∧
    W.cell? ⟨b, off + j * 6 + 3, none⟩ = some (.int .i64 s.c) ∧ W.cell? ⟨b, off + j * 6 + 4, none⟩ = some (.int .u64 s.g) ∧ W.cell? ⟨b, off + j * 6 + 5, none⟩ = some (.int .u64 s.l)
theorem Sbs.below {n₀ : Nat} {A B : World} {a : Option Addr} {l : List Sb} (k : Sbs n₀ A a l) (h : Below n₀ A B) : Sbs n₀ B a l := fun j p hp => by
  obtain ⟨b, off, e, hb, c0, c1, c2, c3, c4, c5⟩ := k j p hp
  exact ⟨b, off, e, hb, by rw [h.cell (p := ⟨b, off + j * 6, none⟩) hb]; exact c0, by rw [h.cell (p := ⟨b, off + j * 6 + 1, none⟩) hb]; exact c1, by rw [h.cell (p := ⟨b, off + j * 6 + 2, none⟩) hb]; exact c2, by rw [h.cell (p := ⟨b, off + j * 6 + 3, none⟩) hb]; exact c3, by rw [h.cell (p := ⟨b, off + j * 6 + 4, none⟩) hb]; exact c4, by rw [h.cell (p := ⟨b, off + j * 6 + 5, none⟩) hb]; exact c5⟩
theorem Sbs.mono {n m : Nat} {A : World} {a : Option Addr} {l : List Sb} (k : Sbs n A a l) (h : n ≤ m) : Sbs m A a l := fun j p hp => by
  obtain ⟨b, off, e, hb, c⟩ := k j p hp
  exact ⟨b, off, e, by omega, c⟩
/-- Numbers of 64 bits that lie in a slice. -/
def Gns (n₀ : Nat) (W : World) (a : Option Addr) (l : List Int) : Prop :=
  ∀ j x, l[j]? = some x → ∃ b off, a = some ⟨b, off, none⟩ ∧ b < n₀ ∧ W.cell? ⟨b, off + j, none⟩ = some (.int .u64 x)
theorem Gns.below {n₀ : Nat} {A B : World} {a : Option Addr} {l : List Int} (k : Gns n₀ A a l) (h : Below n₀ A B) : Gns n₀ B a l := fun j p hp => by
  obtain ⟨b, off, e, hb, c0⟩ := k j p hp
  exact ⟨b, off, e, hb, by rw [h.cell (p := ⟨b, off + j, none⟩) hb]; exact c0⟩
theorem Gns.mono {n m : Nat} {A : World} {a : Option Addr} {l : List Int} (k : Gns n A a l) (h : n ≤ m) : Gns m A a l := fun j p hp => by
  obtain ⟨b, off, e, hb, c⟩ := k j p hp
  exact ⟨b, off, e, by omega, c⟩

def intOf : Value → Int | .int _ q => q | _ => 0
/-- The first one that is wrong. -/
def IxPost (l : List Sb) (w : World) (e : Ending) (w' : World) : Prop :=
  ∃ r : Int, e = .returned (.int .i64 r) ∧ (0 ≤ r ↔ ∃ S ∈ l, wrg S = true) ∧ Below w.heap.size w w'
def IxRel (w : World) (l : List Sb) (i : Value) (wr : World) : Prop := ∃ k : Nat, i = .int .i64 k ∧ k ≤ l.length ∧ (∀ j S, j < k → l[j]? = some S → wrg S = false) ∧ Below w.heap.size w wr
set_option maxRecDepth 100000 in
set_option maxHeartbeats 1000000 in
theorem index_any (a : Option Addr) (cap : Nat) (l : List Sb) (w : World) (hS : Sbs w.heap.size w a l) (hl : l.length ≤ 1000000) :
    Calls Try.prog 33 #[.slice a l.length cap, .func (.func 31) #[] #[]] w (IxPost l w) := by
  have hl' : (l.length : Int) ≤ 1000000 := by omega
  have HS := Lib.hid hS
  have HW := Lib.hid (fun S w => wrong_any S w)
  clear hS hl
  obtain ⟨n, hn⟩ : ∃ n, l.length = n := ⟨_, rfl⟩
  have Hn := Lib.hid hn
  rw [hn] at hl' ⊢
  clear hn
  go_enter Try.func33, Try.ntmps33
  go_wp2_with fail
  go_loopw [8] (fun i wr => IxRel w l i wr) (fun i _ => n - (intOf i).toNat)
  case atStart => exact ⟨0, rfl, by omega, fun j S hj => absurd hj (by omega), Below.refl _ _⟩
  case round =>
    obtain ⟨k, rfl, hk, hK, hb⟩ := hrel
    rw [Hn.out] at hk
    have HK := Lib.hid (And.intro hK hb)
    clear hK hb
    by_cases hlt : (k : Int) < n
    · obtain ⟨S, hSk⟩ : ∃ S, l[k]? = some S := ⟨_, List.getElem?_eq_getElem (by have := Hn.out; omega)⟩
      obtain ⟨b, off, rfl, hbl, c0, c1, c2, c3, c4, c5⟩ := (HS.out.below HK.out.2) k S hSk
      have HSk := Lib.hid (And.intro hSk hbl)
      clear hSk hbl
      go_wp2_with fail
      refine (HW.out S _).mono ?_
      rintro e w2 ⟨rfl, hb2⟩
      have Hb2 := Lib.hid (HK.out.2.trans (hb2.mono HK.out.2.size))
      clear hb2 c0 c1 c2 c3 c4 c5
      cases q : wrg S with
      | true =>
        have Hq := Lib.hid q
        clear q
        go_wp2_with fail
        go_ret
        exact ⟨k, rfl, ⟨fun _ => ⟨S, List.mem_of_getElem? HSk.out.1, Hq.out⟩, fun _ => by omega⟩, Hb2.out⟩
      | false =>
        have Hq := Lib.hid q
        clear q
        go_wp2_with fail
        go_roundw
        case rel => exact ⟨k + 1, by go_num, by have := Hn.out; omega, fun j S' hj hS' => (by
          by_cases c : j = k
          · subst c
            rw [HSk.out.1] at hS'
            cases hS'
            exact Hq.out
          · exact HK.out.1 j S' (by omega) hS'), Hb2.out⟩
        case measure => simp [intOf]; omega
    · obtain rfl : k = n := by omega
      go_wp2_with fail
      go_ret
      refine ⟨-1, rfl, ⟨fun c => absurd c (by omega), fun ⟨S, hS, hq⟩ => ?_⟩, HK.out.2⟩
      obtain ⟨j, hj, e⟩ := List.getElem_of_mem hS
      have := HK.out.1 j S (by have := Hn.out; omega) (by rw [List.getElem?_eq_getElem hj, e])
      rw [this] at hq
      cases hq
def anyw (l : List Sb) : Bool := l.any wrg
theorem anyw_iff {l : List Sb} : anyw l = true ↔ ∃ S ∈ l, wrg S = true := by simp [anyw]
set_option maxRecDepth 100000 in
theorem contains_any (a : Option Addr) (cap : Nat) (l : List Sb) (w : World) (hS : Sbs w.heap.size w a l) (hl : l.length ≤ 1000000) :
    Calls Try.prog 30 #[.slice a l.length cap, .func (.func 31) #[] #[]] w (Ret (.bool (anyw l)) w) := by
  have Hi := Lib.hid (index_any a cap l w hS hl)
  clear hS hl
  generalize l.length = n at *
  go_enter Try.func30, Try.ntmps30
  go_wp2_with fail
  refine Hi.out.mono ?_
  rintro e w2 ⟨r, rfl, hr, hb⟩
  have Hb := Lib.hid (And.intro hr hb)
  clear hr hb
  cases q : anyw l with
  | true =>
    have h0 : 0 ≤ r := Hb.out.1.2 (anyw_iff.1 q)
    have Hq := Lib.hid q
    clear q
    go_wp2
    go_ret
    exact ⟨by simp [Hq.out], Hb.out.2⟩
  | false =>
    have h0 : ¬ 0 ≤ r := fun c => by
      have := anyw_iff.2 (Hb.out.1.1 c)
      rw [q] at this
      cases this
    have Hq := Lib.hid q
    clear q
    go_wp2
    go_ret
    exact ⟨by simp [h0, Hq.out], Hb.out.2⟩
/-- A number that is no generation. -/
def ng (x : Int) : Bool := decide (9223372036854775807 < x)
def JxPost (l : List Int) (w : World) (e : Ending) (w' : World) : Prop :=
  ∃ r : Int, e = .returned (.int .i64 r) ∧ (0 ≤ r ↔ ∃ x ∈ l, ng x = true) ∧ Below w.heap.size w w'
def JxRel (w : World) (l : List Int) (i : Value) (wr : World) : Prop := ∃ k : Nat, i = .int .i64 k ∧ k ≤ l.length ∧ (∀ j x, j < k → l[j]? = some x → ng x = false) ∧ Below w.heap.size w wr
set_option maxRecDepth 100000 in
set_option maxHeartbeats 1000000 in
theorem gindex_any (a : Option Addr) (cap : Nat) (l : List Int) (w : World) (hS : Gns w.heap.size w a l) (hl : l.length ≤ 1000000) :
    Calls Try.prog 34 #[.slice a l.length cap, .func (.func 24) #[] #[]] w (JxPost l w) := by
  have hl' : (l.length : Int) ≤ 1000000 := by omega
  have HS := Lib.hid hS
  have HW := Lib.hid (fun x w => (show Calls Try.prog 24 #[.int .u64 x] w (Pur (.bool (ng x)) w) from none_any x w))
  clear hS hl
  obtain ⟨n, hn⟩ : ∃ n, l.length = n := ⟨_, rfl⟩
  have Hn := Lib.hid hn
  rw [hn] at hl' ⊢
  clear hn
  go_enter Try.func34, Try.ntmps34
  go_wp2_with fail
  go_loopw [8] (fun i wr => JxRel w l i wr) (fun i _ => n - (intOf i).toNat)
  case atStart => exact ⟨0, rfl, by omega, fun j S hj => absurd hj (by omega), Below.refl _ _⟩
  case round =>
    obtain ⟨k, rfl, hk, hK, hb⟩ := hrel
    rw [Hn.out] at hk
    have HK := Lib.hid (And.intro hK hb)
    clear hK hb
    by_cases hlt : (k : Int) < n
    · obtain ⟨x, hSk⟩ : ∃ x, l[k]? = some x := ⟨_, List.getElem?_eq_getElem (by have := Hn.out; omega)⟩
      obtain ⟨b, off, rfl, hbl, c0⟩ := (HS.out.below HK.out.2) k x hSk
      have HSk := Lib.hid (And.intro hSk hbl)
      clear hSk hbl
      go_wp2_with fail
      refine (HW.out x _).mono ?_
      rintro e w2 ⟨rfl, rfl⟩
      have Hb2 := Lib.hid HK.out.2
      clear c0
      cases q : ng x with
      | true =>
        have Hq := Lib.hid q
        clear q
        go_wp2_with fail
        go_ret
        exact ⟨k, rfl, ⟨fun _ => ⟨x, List.mem_of_getElem? HSk.out.1, Hq.out⟩, fun _ => by omega⟩, Hb2.out⟩
      | false =>
        have Hq := Lib.hid q
        clear q
        go_wp2_with fail
        go_roundw
        case rel => exact ⟨k + 1, by go_num, by have := Hn.out; omega, fun j S' hj hS' => (by
          by_cases c : j = k
          · subst c
            rw [HSk.out.1] at hS'
            cases hS'
            exact Hq.out
          · exact HK.out.1 j S' (by omega) hS'), Hb2.out⟩
        case measure => simp [intOf]; omega
    · obtain rfl : k = n := by omega
      go_wp2_with fail
      go_ret
      refine ⟨-1, rfl, ⟨fun c => absurd c (by omega), fun ⟨S, hS, hq⟩ => ?_⟩, HK.out.2⟩
      obtain ⟨j, hj, e⟩ := List.getElem_of_mem hS
      have := HK.out.1 j S (by have := Hn.out; omega) (by rw [List.getElem?_eq_getElem hj, e])
      rw [this] at hq
      cases hq
def anyg (l : List Int) : Bool := l.any ng
theorem anyg_iff {l : List Int} : anyg l = true ↔ ∃ x ∈ l, ng x = true := by simp [anyg]
set_option maxRecDepth 100000 in
theorem gcontains_any (a : Option Addr) (cap : Nat) (l : List Int) (w : World) (hS : Gns w.heap.size w a l) (hl : l.length ≤ 1000000) :
    Calls Try.prog 32 #[.slice a l.length cap, .func (.func 24) #[] #[]] w (Ret (.bool (anyg l)) w) := by
  have Hi := Lib.hid (gindex_any a cap l w hS hl)
  clear hS hl
  generalize l.length = n at *
  go_enter Try.func32, Try.ntmps32
  go_wp2_with fail
  refine Hi.out.mono ?_
  rintro e w2 ⟨r, rfl, hr, hb⟩
  have Hb := Lib.hid (And.intro hr hb)
  clear hr hb
  cases q : anyg l with
  | true =>
    have h0 : 0 ≤ r := Hb.out.1.2 (anyg_iff.1 q)
    have Hq := Lib.hid q
    clear q
    go_wp2
    go_ret
    exact ⟨by simp [Hq.out], Hb.out.2⟩
  | false =>
    have h0 : ¬ 0 ≤ r := fun c => by
      have := anyg_iff.2 (Hb.out.1.1 c)
      rw [q] at this
      cases this
    have Hq := Lib.hid q
    clear q
    go_wp2
    go_ret
    exact ⟨by simp [h0, Hq.out], Hb.out.2⟩
/-- How subscriptions, and newest generations, are wrong. -/
def flt (l : List Sb) (gs : List Int) : Int :=
  if l.length ≠ gs.length then 1 else if anyw l = true then 1 else if anyg gs = true then 10 else 0
set_option maxRecDepth 100000 in
set_option maxHeartbeats 1000000 in
theorem fault_any (a a' : Option Addr) (cap cap' : Nat) (l : List Sb) (gs : List Int) (w : World) (hS : Sbs w.heap.size w a l) (hG : Gns w.heap.size w a' gs) (hl : l.length ≤ 1000000) (hg : gs.length ≤ 1000000) :
    Calls Try.prog 29 #[.slice a l.length cap, .slice a' gs.length cap'] w (Ret (.int .i64 (flt l gs)) w) := by
  have Hc := Lib.hid (contains_any a cap l w hS hl)
  have Hg := Lib.hid (fun w' (hb : Below w.heap.size w w') => gcontains_any a' cap' gs w' ((hG.below hb).mono hb.size) hg)
  clear hS hG
  unfold flt
  obtain ⟨n, hn⟩ : ∃ n, l.length = n := ⟨_, rfl⟩
  obtain ⟨m, hm⟩ : ∃ m, gs.length = m := ⟨_, rfl⟩
  rw [hn] at Hc hl ⊢
  rw [hm] at Hg hg ⊢
  clear hn hl hm hg
  by_cases h1 : n ≠ m
  · rw [if_pos h1]
    have g1 : ((n : Int) != m) = true := by simp; omega
    clear h1
    go_enter Try.func29, Try.ntmps29
    go_wp2
    go_ret
    exact ⟨rfl, Below.refl _ _⟩
  · rw [if_neg h1]
    have g1 : ((n : Int) != m) = false := by simp; omega
    clear h1
    cases q : anyw l with
    | true =>
      rw [if_pos rfl]
      rw [q] at Hc
      clear q
      go_enter Try.func29, Try.ntmps29
      go_wp2_with fail
      refine Hc.out.mono ?_
      rintro e w2 ⟨rfl, hb⟩
      go_wp2
      go_ret
      exact ⟨rfl, hb⟩
    | false =>
      rw [if_neg (by simp)]
      rw [q] at Hc
      clear q
      cases q2 : anyg gs with
      | true =>
        rw [if_pos rfl]
        rw [q2] at Hg
        clear q2
        go_enter Try.func29, Try.ntmps29
        go_wp2_with fail
        refine Hc.out.mono ?_
        rintro e w2 ⟨rfl, hb⟩
        have Hb := Lib.hid hb
        clear hb
        go_wp2_with fail
        refine (Hg.out _ Hb.out).mono ?_
        rintro e w3 ⟨rfl, hb3⟩
        go_wp2
        go_ret
        exact ⟨rfl, Hb.out.trans (hb3.mono Hb.out.size)⟩
      | false =>
        rw [if_neg (by simp)]
        rw [q2] at Hg
        clear q2
        go_enter Try.func29, Try.ntmps29
        go_wp2_with fail
        refine Hc.out.mono ?_
        rintro e w2 ⟨rfl, hb⟩
        have Hb := Lib.hid hb
        clear hb
        go_wp2_with fail
        refine (Hg.out _ Hb.out).mono ?_
        rintro e w3 ⟨rfl, hb3⟩
        go_wp2
        go_ret
        exact ⟨rfl, Hb.out.trans (hb3.mono Hb.out.size)⟩
end Go.Proofs.Ytkkkicinlghikaa
