/- Pick. -/
import Derived.Test.YtkkkicinlghikaaSub
namespace Go.Proofs.Ytkkkicinlghikaa
open Go.RowKit

/-- The first one, of those of the greatest rank that have something, among the first k. -/
def bst (rk wv : Nat → Int) : Nat → Int
  | 0 => -1
  | k + 1 => if wv k = 0 then bst rk wv k else if 0 ≤ bst rk wv k ∧ rk k ≤ rk (bst rk wv k).toNat then bst rk wv k else k
theorem bst_in (rk wv : Nat → Int) (k : Nat) : -1 ≤ bst rk wv k ∧ bst rk wv k < k := by
  induction k with
  | zero => simp [bst]
  | succ k ih =>
    unfold bst
    split
    · omega
    · split <;> omega
theorem bst_no {rk wv : Nat → Int} {k : Nat} (h : wv k = 0) : bst rk wv (k + 1) = bst rk wv k := if_pos h
theorem bst_keep {rk wv : Nat → Int} {k : Nat} (h0 : 0 ≤ bst rk wv k) (h : rk k ≤ rk (bst rk wv k).toNat) : bst rk wv (k + 1) = bst rk wv k := by
  show (if wv k = 0 then _ else _) = _
  split
  · rfl
  · rw [if_pos ⟨h0, h⟩]
theorem bst_new {rk wv : Nat → Int} {k : Nat} (hw : wv k ≠ 0) (h : ¬ (0 ≤ bst rk wv k ∧ rk k ≤ rk (bst rk wv k).toNat)) : bst rk wv (k + 1) = k := by
  show (if wv k = 0 then _ else _) = _
  rw [if_neg hw, if_neg h]
def rkf (l : List Sb) (j : Nat) : Int := match l[j]? with | some S => S.rk | none => 0
def wvf (l : List Sb) (gs : List Int) (j : Nat) : Int := match l[j]?, gs[j]? with | some S, some x => wt S.n x | _, _ => 0
theorem rkf_at {l : List Sb} {j : Nat} {S : Sb} (h : l[j]? = some S) : rkf l j = S.rk := by simp [rkf, h]
theorem wvf_at {l : List Sb} {gs : List Int} {j : Nat} {S : Sb} {x : Int} (h : l[j]? = some S) (h2 : gs[j]? = some x) : wvf l gs j = wt S.n x := by simp [wvf, h, h2]
/-- Which one is picked. -/
def pk (l : List Sb) (gs : List Int) : Int := bst (rkf l) (wvf l gs) l.length
/-- What Pick tells. -/
def pkV (l : List Sb) (gs : List Int) : Value := if flt l gs = 0 then .tuple #[.int .i64 (pk l gs), .int .i64 0] else .tuple #[.int .i64 0, .int .i64 (flt l gs)]
theorem flt_ok {l : List Sb} {gs : List Int} (h : flt l gs = 0) : l.length = gs.length ∧ (∀ S ∈ l, rt S.n S.c = true) ∧ (∀ x ∈ gs, x ≤ 9223372036854775807) := by
  unfold flt at h
  split at h
  · cases h
  · split at h
    · cases h
    · split at h
      · cases h
      · rename_i h1 h2 h3
        refine ⟨by omega, fun S hS => ?_, fun x hx => ?_⟩
        · cases q : rt S.n S.c with
          | true => rfl
          | false => exact absurd (anyw_iff.2 ⟨S, hS, by simp [wrg, q]⟩) h2
        · by_cases c : x ≤ 9223372036854775807
          · exact c
          · exact absurd (anyg_iff.2 ⟨x, hx, decide_eq_true (by omega)⟩) h3
theorem blk_next {wr W W' : World} {g : Nat} {vs : List Value} (h : Blk W g vs) (u : Below wr.heap.size wr W) (hb : Below W.heap.size W W') : Blk W' g vs ∧ Below wr.heap.size wr W' :=
  ⟨h.low hb, u.trans (hb.mono u.size)⟩
def PkRel (w : World) (B : Nat → Int) (m : Nat) (f i : Value) (wr : World) : Prop := ∃ k : Nat, i = .int .i64 k ∧ k ≤ m ∧ f = .int .i64 (B k) ∧ Below w.heap.size w wr
set_option maxRecDepth 100000 in
set_option maxHeartbeats 1000000 in
theorem pick_bad (a a' : Option Addr) (cap cap' : Nat) (l : List Sb) (gs : List Int) (w : World) (hS : Sbs w.heap.size w a l) (hG : Gns w.heap.size w a' gs) (hl : l.length ≤ 1000000) (hg : gs.length ≤ 1000000) (hf : flt l gs ≠ 0) :
    Calls Try.prog 22 #[.slice a l.length cap, .slice a' gs.length cap'] w (Ret (.tuple #[.int .i64 0, .int .i64 (flt l gs)]) w) := by
  have H := Lib.hid (fault_any a a' cap cap' l gs w hS hG hl hg)
  have h0 : (flt l gs != 0) = true := by simpa using hf
  clear hS hG hf
  generalize flt l gs = F at *
  generalize l.length = n at *
  generalize gs.length = m at *
  go_enter Try.func22, Try.ntmps22
  go_wp2
  go_step3
  go_wp2_with fail
  refine H.out.mono ?_
  rintro e w1 ⟨rfl, hb⟩
  go_wp2
  go_ret2
  exact ⟨rfl, hb⟩
set_option maxRecDepth 100000 in
set_option maxHeartbeats 1000000 in
theorem pick_ok (a a' : Option Addr) (cap cap' : Nat) (l : List Sb) (gs : List Int) (w : World) (hS : Sbs w.heap.size w a l) (hG : Gns w.heap.size w a' gs) (hl : l.length ≤ 1000000) (hW : ∀ S ∈ l, 0 ≤ S.n) (hW2 : ∀ x ∈ gs, 0 ≤ x) (hf : flt l gs = 0) :
    Calls Try.prog 22 #[.slice a l.length cap, .slice a' gs.length cap'] w (Ret (.tuple #[.int .i64 (pk l gs), .int .i64 0]) w) := by
  have hok := flt_ok hf
  have hF := fault_any a a' cap cap' l gs w hS hG hl (by omega)
  rw [hf] at hF
  have H := Lib.hid hF
  have HS := Lib.hid hS
  have HG := Lib.hid hG
  have HN := Lib.hid (fun (S : Sb) (hS : S ∈ l) => hW S hS)
  have HX := Lib.hid (fun (x : Int) (hx : x ∈ gs) => (And.intro (hW2 x hx) (hok.2.2 x hx) : Gen x))
  have HB := Lib.hid (bst_in (rkf l) (wvf l gs))
  have hl' : (l.length : Int) ≤ 1000000 := by omega
  obtain ⟨n, hn⟩ : ∃ n, l.length = n := ⟨_, rfl⟩
  have hm : gs.length = n := by omega
  have Hn := Lib.hid (And.intro hn hm)
  unfold pk
  rw [hn] at hl' H ⊢
  rw [hm] at H ⊢
  clear hn hm hl hS hG hW hW2 hf hok hF
  obtain ⟨B, hBe⟩ : ∃ B, B = bst (rkf l) (wvf l gs) := ⟨_, rfl⟩
  rw [← hBe] at HB ⊢
  have HBe := Lib.hid hBe
  clear hBe
  go_enter Try.func22, Try.ntmps22
  go_wp2
  go_step3
  go_wp2_with fail
  refine H.out.mono ?_
  rintro e w1 ⟨rfl, hb1⟩
  have Hb1 := Lib.hid hb1
  clear hb1 H
  go_wp2
  go_step3
  go_wp2_with fail
  go_loopw [7, 18] (fun f i wr => PkRel w B n f i wr) (fun _ i _ => n - (intOf i).toNat)
  case atStart => exact ⟨0, rfl, by omega, by rw [HBe.out]; rfl, Hb1.out⟩
  case round =>
    obtain ⟨k, rfl, hk, rfl, hb⟩ := hrel
    have HK := Lib.hid hb
    clear hb
    have hB0 := (HB.out k).1
    have hB1 := (HB.out k).2
    by_cases hlt : (k : Int) < n
    · obtain ⟨S, hSk⟩ : ∃ S, l[k]? = some S := ⟨_, List.getElem?_eq_getElem (by have := Hn.out.1; omega)⟩
      obtain ⟨x, hxk⟩ : ∃ x, gs[k]? = some x := ⟨_, List.getElem?_eq_getElem (by have := Hn.out.2; omega)⟩
      obtain ⟨b, off, rfl, hbl, c0, c1, c2, c3, c4, c5⟩ := (HS.out.below HK.out) k S hSk
      obtain ⟨b', off', rfl, hbl', g0⟩ := (HG.out.below HK.out) k x hxk
      have hN := sbN wr S
      obtain ⟨W1, hW1⟩ : ∃ W1, wr.alloc (sbO S) = W1 := ⟨_, rfl⟩
      rw [hW1] at hN
      have Hw := Lib.hid (waiting_any S.n S.c S.g S.l x (HN.out S (List.mem_of_getElem? hSk)) (HX.out x (List.mem_of_getElem? hxk)))
      have d1 := hN.1.cell (i := 1) rfl
      have d2 := hN.1.cell (i := 2) rfl
      have d3 := hN.1.cell (i := 3) rfl
      have d4 := hN.1.cell (i := 4) rfl
      have d5 := hN.1.cell (i := 5) rfl
      have hg1 : W1.cell? ⟨b', off' + k, none⟩ = some (.int .u64 x) := by rw [hN.2.cell (p := ⟨b', off' + k, none⟩) (by show b' < _; have := HK.out.size; omega)]; exact g0
      have HN1 := Lib.hid hN
      have Hlt := Lib.hid (show b' < W1.drew.heap.size by show b' < W1.heap.size; have := HK.out.size; have := hN.2.size; omega)
      obtain ⟨tp, rk, sn, sc, sg, sl⟩ := S
      have HSk := Lib.hid (And.intro hSk hxk)
      have hwv : wvf l gs k = wt sn x := wvf_at hSk hxk
      have hrk : rkf l k = rk := rkf_at hSk
      have HV := Lib.hid (And.intro hwv hrk)
      simp only at *
      clear hSk hxk hwv hrk hN
      generalize wt sn x = q at *
      by_cases hq : q = 0
      · have hq' : (q == 0) = true := by simpa using hq
        clear hq
        go_wp2_with fail
        go_region_held3 (fun w' => w'.cell? ⟨wr.heap.size, 2, none⟩ = some (.int .u64 sn) ∧ w'.cell? ⟨wr.heap.size, 3, none⟩ = some (.int .i64 sc) ∧ w'.cell? ⟨wr.heap.size, 4, none⟩ = some (.int .u64 sg) ∧ w'.cell? ⟨wr.heap.size, 5, none⟩ = some (.int .u64 sl) ∧ w'.cell? ⟨b', off' + k, none⟩ = some (.int .u64 x) ∧ Blk w' wr.heap.size (sbL ⟨tp, rk, sn, sc, sg, sl⟩) ∧ Below wr.heap.size wr w') (first | exact ⟨d2, d3, d4, d5, hg1, HN1.out.1.drew, HN1.out.2.drew⟩ | exact ⟨e2, e3, e4, e5, hg2, H2⟩) (first | (go_at_call 26; refine (Hw.out _).mono ?_; rintro e w2 ⟨rfl, hb⟩; have H2 := blk_next HN1.out.1.drew HN1.out.2.drew hb; have e2 := H2.1.cell (i := 2) rfl; have e3 := H2.1.cell (i := 3) rfl; have e4 := H2.1.cell (i := 4) rfl; have e5 := H2.1.cell (i := 5) rfl; have hg2 := (hb.cell (p := ⟨b', off' + k, none⟩) Hlt.out).trans hg1))
        rename_i hHeld
        have e1 := H2.1.cell (i := 1) rfl
        have H3 := Lib.hid (HK.out.trans (H2.2.mono HK.out.size))
        clear hHeld d2 d3 d4 d5 hg1 e2 e3 e4 e5 hg2 hb
        go_wp2_with fail
        go_roundw
        case rel => exact ⟨k + 1, by go_num, by omega, by rw [HBe.out, bst_no (by rw [HV.out.1]; simpa using hq')], H3.out⟩
        case measure => simp [intOf]; omega
      · have hq' : (q == 0) = false := by simpa using hq
        clear hq
        go_wp2_with fail
        go_region_held3 (fun w' => w'.cell? ⟨wr.heap.size, 2, none⟩ = some (.int .u64 sn) ∧ w'.cell? ⟨wr.heap.size, 3, none⟩ = some (.int .i64 sc) ∧ w'.cell? ⟨wr.heap.size, 4, none⟩ = some (.int .u64 sg) ∧ w'.cell? ⟨wr.heap.size, 5, none⟩ = some (.int .u64 sl) ∧ w'.cell? ⟨b', off' + k, none⟩ = some (.int .u64 x) ∧ Blk w' wr.heap.size (sbL ⟨tp, rk, sn, sc, sg, sl⟩) ∧ Below wr.heap.size wr w') (first | exact ⟨d2, d3, d4, d5, hg1, HN1.out.1.drew, HN1.out.2.drew⟩ | exact ⟨e2, e3, e4, e5, hg2, H2⟩) (first | (go_at_call 26; refine (Hw.out _).mono ?_; rintro e w2 ⟨rfl, hb⟩; have H2 := blk_next HN1.out.1.drew HN1.out.2.drew hb; have e2 := H2.1.cell (i := 2) rfl; have e3 := H2.1.cell (i := 3) rfl; have e4 := H2.1.cell (i := 4) rfl; have e5 := H2.1.cell (i := 5) rfl; have hg2 := (hb.cell (p := ⟨b', off' + k, none⟩) Hlt.out).trans hg1))
        rename_i hHeld
        have e1 := H2.1.cell (i := 1) rfl
        have H3 := Lib.hid (HK.out.trans (H2.2.mono HK.out.size))
        clear hHeld d2 d3 d4 d5 hg1 e2 e3 e4 e5 hg2 hb
        go_wp2_with fail
        have Hq := Lib.hid hq'
        clear HN1 HSk Hw hq' g0 c0 c1 c2 c3 c4 c5 d1 hW1 Hlt
        have H2 := Lib.hid H2
        by_cases hf : 0 ≤ B k
        · obtain ⟨p, hp⟩ : ∃ p : Nat, B k = p := ⟨(B k).toNat, by omega⟩
          obtain ⟨S', hS'⟩ : ∃ S', l[p]? = some S' := ⟨_, List.getElem?_eq_getElem (by have := Hn.out.1; omega)⟩
          obtain ⟨b2, off2, e2, _, r0, r1, _⟩ := (HS.out.below H3.out) p S' hS'
          obtain ⟨rfl, rfl⟩ : b = b2 ∧ off = off2 := by simpa using e2
          have HR := Lib.hid (show rkf l (bst (rkf l) (wvf l gs) k).toNat = S'.rk by rw [← HBe.out, hp]; exact rkf_at hS')
          have HF := Lib.hid (show 0 ≤ bst (rkf l) (wvf l gs) k by rw [← HBe.out]; exact hf)
          have Hp := Lib.hid (show B k = p from hp)
          rw [hp]
          have hpn : (p : Int) < n := by omega
          have m0 : decide ((0 : Int) ≤ p) = true := by simp
          clear hS' e2 r0 hf hB0 hB1 hp
          obtain ⟨tp', rk', sn', sc', sg', sl'⟩ := S'
          simp only at r1 HR
          by_cases hr : rk ≤ rk'
          · have m1 : decide (rk ≤ rk') = true := decide_eq_true hr
            have Hr := Lib.hid hr
            clear hr
            go_quiet (fail)
            go_wp2_with fail
            go_roundw
            case rel => exact ⟨k + 1, by go_num, by omega, by rw [HBe.out, bst_keep HF.out (by rw [HR.out, HV.out.2]; exact Hr.out), ← HBe.out, Hp.out], belN H3.out _⟩
            case measure => simp [intOf]; omega
          · have m1 : decide (rk ≤ rk') = false := decide_eq_false hr
            have Hr := Lib.hid hr
            clear hr
            go_quiet (fail)
            go_wp2_with fail
            go_roundw
            case rel => exact ⟨k + 1, by go_num, by omega, by rw [HBe.out, bst_new (by rw [HV.out.1]; simpa using Hq.out) (by rw [HR.out, HV.out.2]; exact fun c => Hr.out c.2)], belN H3.out _⟩
            case measure => simp [intOf]; omega
        · have m0 : decide (0 ≤ B k) = false := decide_eq_false hf
          have Hf := Lib.hid (show ¬ 0 ≤ bst (rkf l) (wvf l gs) k by rw [← HBe.out]; exact hf)
          clear hf
          go_quiet (fail)
          go_wp2_with fail
          go_roundw
          case rel => exact ⟨k + 1, by go_num, by omega, by rw [HBe.out, bst_new (by rw [HV.out.1]; simpa using Hq.out) (fun c => Hf.out c.1)], belN H3.out _⟩
          case measure => simp [intOf]; omega
    · obtain rfl : k = n := by omega
      go_wp2_with fail
      go_ret2
      exact ⟨rfl, HK.out⟩
theorem pick_any (a a' : Option Addr) (cap cap' : Nat) (l : List Sb) (gs : List Int) (w : World) (hS : Sbs w.heap.size w a l) (hG : Gns w.heap.size w a' gs) (hl : l.length ≤ 1000000) (hg : gs.length ≤ 1000000) (hW : ∀ S ∈ l, 0 ≤ S.n) (hW2 : ∀ x ∈ gs, 0 ≤ x) :
    Calls Try.prog 22 #[.slice a l.length cap, .slice a' gs.length cap'] w (Ret (pkV l gs) w) := by
  unfold pkV
  by_cases hf : flt l gs = 0
  · rw [if_pos hf]
    exact pick_ok a a' cap cap' l gs w hS hG hl hW hW2 hf
  · rw [if_neg hf]
    exact pick_bad a a' cap cap' l gs w hS hG hl hg hf
end Go.Proofs.Ytkkkicinlghikaa
