/- The document's Right, plain, Wrong, New and Most of a snapshot. -/
import Derived.Test.YtflgggfomhifeaaSnN
import Derived.Test.YtflgggfomhifeaaLaP
namespace Go.Proofs.Ytflgggfomhifeaa
open Go.RowKit
def rgB (S : Sp) : Bool := decide (Rt S)
abbrev sb2 (S : Sp) : Obj := .cells #[.int .i64 S.ow, .int .i64 S.sq, .int .i64 S.fs, .int .i64 S.wd, .int .i64 S.dp] 96
set_option maxRecDepth 100000 in
set_option maxHeartbeats 2000000 in
theorem right_any (S : Sp) (w : World) : Calls Try.prog 58 #[spV S] w (Ret (.bool (rgB S)) w) := by
  have Hb := Lib.hid ((Below.refl w.heap.size w).alloc (Nat.le_refl _) (sb2 S))
  have H0 : Hid (Rt S → rgB S = true) := Lib.hid (fun h => decide_eq_true h)
  have H1 : Hid (¬ Rt S → rgB S = false) := Lib.hid (fun h => decide_eq_false h)
  generalize rgB S = R at *
  by_cases q0 : 1 ≤ S.wd
  rotate_left
  · obtain rfl : R = false := H1.out (by unfold Rt; omega)
    have q0' : S.wd < 1 := by omega
    have q0d : decide (1 ≤ S.wd) = false := decide_eq_false q0
    clear q0
    go_enter Try.func58, Try.ntmps58
    go_wp2
    go_ret
    exact ⟨rfl, Hb.out⟩
  by_cases q1 : S.wd ≤ 64
  rotate_left
  · obtain rfl : R = false := H1.out (by unfold Rt; omega)
    have q1' : 64 < S.wd := by omega
    have q1d : decide (S.wd ≤ 64) = false := decide_eq_false q1
    clear q1
    go_enter Try.func58, Try.ntmps58
    go_wp2
    go_ret
    exact ⟨rfl, Hb.out⟩
  by_cases q2 : 2 ≤ S.dp
  rotate_left
  · obtain rfl : R = false := H1.out (by unfold Rt; omega)
    have q2' : S.dp < 2 := by omega
    have q2d : decide (2 ≤ S.dp) = false := decide_eq_false q2
    clear q2
    go_enter Try.func58, Try.ntmps58
    go_wp2
    go_ret
    exact ⟨rfl, Hb.out⟩
  by_cases q3 : S.dp ≤ 16
  rotate_left
  · obtain rfl : R = false := H1.out (by unfold Rt; omega)
    have q3' : 16 < S.dp := by omega
    have q3d : decide (S.dp ≤ 16) = false := decide_eq_false q3
    clear q3
    go_enter Try.func58, Try.ntmps58
    go_wp2
    go_ret
    exact ⟨rfl, Hb.out⟩
  by_cases q4 : 0 ≤ S.ow
  rotate_left
  · obtain rfl : R = false := H1.out (by unfold Rt; omega)
    have q4' : S.ow < 0 := by omega
    have q4d : decide (0 ≤ S.ow) = false := decide_eq_false q4
    clear q4
    go_enter Try.func58, Try.ntmps58
    go_wp2
    go_ret
    exact ⟨rfl, Hb.out⟩
  by_cases q5 : S.ow ≤ 1048576
  rotate_left
  · obtain rfl : R = false := H1.out (by unfold Rt; omega)
    have q5' : 1048576 < S.ow := by omega
    have q5d : decide (S.ow ≤ 1048576) = false := decide_eq_false q5
    clear q5
    go_enter Try.func58, Try.ntmps58
    go_wp2
    go_ret
    exact ⟨rfl, Hb.out⟩
  by_cases q6 : 0 ≤ S.sq
  rotate_left
  · obtain rfl : R = false := H1.out (by unfold Rt; omega)
    have q6' : S.sq < 0 := by omega
    have q6d : decide (0 ≤ S.sq) = false := decide_eq_false q6
    clear q6
    go_enter Try.func58, Try.ntmps58
    go_wp2
    go_ret
    exact ⟨rfl, Hb.out⟩
  by_cases q7 : S.sq ≤ 1048576
  rotate_left
  · obtain rfl : R = false := H1.out (by unfold Rt; omega)
    have q7' : 1048576 < S.sq := by omega
    have q7d : decide (S.sq ≤ 1048576) = false := decide_eq_false q7
    clear q7
    go_enter Try.func58, Try.ntmps58
    go_wp2
    go_ret
    exact ⟨rfl, Hb.out⟩
  by_cases q8 : 0 ≤ S.fs
  rotate_left
  · obtain rfl : R = false := H1.out (by unfold Rt; omega)
    have q8' : S.fs < 0 := by omega
    have q8d : decide (0 ≤ S.fs) = false := decide_eq_false q8
    clear q8
    go_enter Try.func58, Try.ntmps58
    go_wp2
    go_ret
    exact ⟨rfl, Hb.out⟩
  by_cases q9 : S.fs ≤ 1048576
  rotate_left
  · obtain rfl : R = false := H1.out (by unfold Rt; omega)
    have q9' : 1048576 < S.fs := by omega
    have q9d : decide (S.fs ≤ 1048576) = false := decide_eq_false q9
    clear q9
    go_enter Try.func58, Try.ntmps58
    go_wp2
    go_ret
    exact ⟨rfl, Hb.out⟩
  obtain rfl : R = true := H0.out (by unfold Rt; omega)
  have q9d : decide (S.fs ≤ 1048576) = true := decide_eq_true q9
  go_enter Try.func58, Try.ntmps58
  go_wp2
  go_ret
  exact ⟨rfl, Hb.out⟩
theorem rg_t {S : Sp} (h : Rt S) : rgB S = true := decide_eq_true h
theorem rg_f {S : Sp} (h : ¬ Rt S) : rgB S = false := decide_eq_false h

theorem info96 : (Try.prog.info? 96).map (fun i => (i.zero, i.size, i.bytes)) = some (some (spv 0 0 0 0 0), 5, 40) := by kernel_rfl
theorem wrg_rg (S : Sp) : wrg S = !rgB S := rfl
/-- Spots of the document's answer. -/
def PlPost (n : Nat) (l : List Sp) (w : World) (e : Ending) (w' : World) : Prop :=
  ∃ a c, e = .returned (.slice a n c) ∧ Sps w'.heap.size w' a l ∧ Below w.heap.size w w' ∧ ∀ q off, a = some ⟨q, off, none⟩ → w.heap.size ≤ q
theorem pl_append {W : World} {base : Nat} {v : Value} {k : Nat} {xs : List Value} (h : W.ownsRow base 96 5 v k xs) (hb : base ≤ W.heap.size) (hk : k ≤ 100) (S : Sp) :
    ∃ v' w', (Builtin.append_ #[37, 37] 37 #[v, .slice (some ⟨W.heap.size, 0, none⟩) 1 1]).run Try.prog (W.alloc (sb2 S)) = .ok v' w' ∧ w'.ownsRow base 96 5 v' (k + 1) (xs ++ spc5 S) ∧ Below base W w' := by
  obtain ⟨i, hi, he⟩ := Option.map_eq_some_iff.1 info96
  simp only [Prod.mk.injEq] at he
  obtain ⟨hz, hs, hbb⟩ := he
  have hA : (W.alloc (sb2 S)).ownsRow base 96 5 v k xs := owns_blocks h (fun g hg => Below.heap_alloc _ _ _ (h.lt g hg).2)
  have hB := Blk.new W #[.int .i64 S.ow, .int .i64 S.sq, .int .i64 S.fs, .int .i64 S.wd, .int .i64 S.dp] 96
  obtain ⟨v', w', hr, ho, hg, _⟩ := run_append_own (P := Try.prog) (W.alloc (sb2 S)) base 37 37 96 i _ 5 40 Try.underlying37 hi hz hs hbb rfl (by omega) v k xs hA ⟨W.heap.size, 0, none⟩ 1 1 (spc5 S) rfl (fun j u hu => by
    have e : (⟨W.heap.size, 0, none⟩ : Addr).add j = ⟨W.heap.size, j, none⟩ := by unfold Addr.add; split <;> simp_all
    rw [e]
    exact hB.cell hu) (fun u hu => by
    simp only [spc5, List.mem_cons, List.not_mem_nil, or_false] at hu
    rcases hu with rfl | rfl | rfl | rfl | rfl <;> rfl) (by simp only [maxLen]; omega) (by omega) (by simp; omega)
  refine ⟨v', w', hr, ho, ?_⟩
  have h2 : Below base (W.alloc (sb2 S)) w' := ⟨hg.os, hg.tape, hg.output, hg.size, fun q hq => hg.block q (by simp; omega) (fun c => by have := (h.lt q c.symm).1; omega)⟩
  exact ((Below.refl base W).alloc hb (sb2 S)).trans h2
theorem owns_sl5 {W : World} {base : Nat} {v : Value} {k : Nat} {xs : List Value} (h : W.ownsRow base 96 5 v k xs) : ∃ a c, v = .slice a k c := by
  rcases h.2 with ⟨rfl, rfl⟩ | ⟨g, cap, cur, rfl, _⟩
  · exact ⟨none, 0, rfl⟩
  · exact ⟨_, cap, rfl⟩
theorem scl_snoc' (l : List Sp) (t : Sp) : scl (l ++ [t]) = scl l ++ spc5 t := by simp [scl]
theorem owns_sps {W : World} {base : Nat} {a : Option Addr} {k n c : Nat} {l : List Sp} (h : W.ownsRow base 96 5 (.slice a n c) k (scl l)) : Sps W.heap.size W a l := fun j S hS => by
  have hc : ∀ (i : Nat) (v : Value), (spc5 S)[i]? = some v → (scl l)[j * 5 + i]? = some v := fun i v e => scl_get l j i S v hS e
  obtain ⟨hl, ⟨e, rfl⟩ | ⟨g, cap, cur, e, hb, hg, hr⟩⟩ := h
  · have : scl l = [] := List.eq_nil_of_length_eq_zero (by simpa using hl)
    have := hc 0 _ rfl
    simp_all
  · cases e
    have hcell : ∀ (i : Nat) (v : Value), (spc5 S)[i]? = some v → W.cell? ⟨g, 0 + j * 5 + i, none⟩ = some v := fun i v e => by
      have h1 := World.ownsRow.cells (w := W) (base := base) (e := 96) (size := 5) (n := k) (xs := scl l) (v := .slice (some ⟨g, 0, none⟩) k c) ⟨hl, .inr ⟨g, c, cur, rfl, hb, hg, hr⟩⟩ rfl (j * 5 + i) v (hc i v e)
      have e2 : (⟨g, 0, none⟩ : Addr).add (j * 5 + i) = ⟨g, j * 5 + i, none⟩ := by unfold Addr.add; split <;> simp_all
      rw [e2] at h1
      rw [Nat.zero_add]
      exact h1
    exact ⟨g, 0, rfl, (Array.getElem?_eq_some_iff.1 hg).1, hcell 0 _ rfl, hcell 1 _ rfl, hcell 2 _ rfl, hcell 3 _ rfl, hcell 4 _ rfl⟩
theorem owns_base {W : World} {base k n c : Nat} {a : Option Addr} {xs : List Value} (h : W.ownsRow base 96 5 (.slice a n c) k xs) (q off : Nat) (e : a = some ⟨q, off, none⟩) : base ≤ q := by
  subst e
  rcases h.2 with ⟨c, _⟩ | ⟨g, cap, cur, c, hb, _⟩
  · cases c
  · cases c
    exact hb
def PlRel (w : World) (l : List Sp) (v i : Value) (wr : World) : Prop :=
  ∃ k : Nat, k ≤ l.length ∧ i = .int .i64 k ∧ wr.ownsRow w.heap.size 96 5 v k (scl (l.take k)) ∧ Below w.heap.size w wr
theorem take_snoc' {α : Type} {l : List α} {k : Nat} {t : α} (h : l[k]? = some t) : l.take (k + 1) = l.take k ++ [t] := by
  obtain ⟨hk, rfl⟩ := List.getElem?_eq_some_iff.1 h
  rw [List.take_add_one, List.getElem?_eq_getElem hk]
  rfl
set_option maxRecDepth 100000 in
set_option maxHeartbeats 1000000 in
theorem plain_any (a : Option Addr) (cap : Nat) (l : List Sp) (w : World) (hS : Sps w.heap.size w a l) (hl : l.length ≤ 70) :
    Calls Try.prog 12 #[.slice a l.length cap] w (PlPost l.length l w) := by
  have hl' : (l.length : Int) ≤ 70 := by omega
  have HS := Lib.hid hS
  clear hS
  obtain ⟨n, hn⟩ : ∃ n, l.length = n := ⟨_, rfl⟩
  have Hn := Lib.hid hn
  rw [hn] at hl' hl ⊢
  clear hn
  go_enter Try.func12, Try.ntmps12
  go_wp2_with fail
  go_loopw [3, 4] (fun v i wr => PlRel w l v i wr) (fun _ i _ => n - (intOf i).toNat)
  case atStart => exact ⟨0, by omega, rfl, World.ownsRow_nil _ _ _ _, Below.refl _ _⟩
  case round =>
    obtain ⟨k, hk, rfl, hO, hb⟩ := hrel
    rw [Hn.out] at hk
    obtain ⟨va, vc, rfl⟩ := owns_sl5 hO
    have HK := Lib.hid (And.intro hO hb)
    clear hO hb
    by_cases hlt : (k : Int) < n
    · obtain ⟨S, hSk⟩ : ∃ S, l[k]? = some S := ⟨_, List.getElem?_eq_getElem (by have := Hn.out; omega)⟩
      obtain ⟨b, off, rfl, hbl, c0, c1, c2, c3, c4⟩ := (HS.out.below HK.out.2) k S hSk
      have hC := Blk.new wr #[.int .i64 S.ow, .int .i64 S.sq, .int .i64 S.fs, .int .i64 S.wd, .int .i64 S.dp] 69
      have d0 := hC.cell (i := 0) rfl
      have d1 := hC.cell (i := 1) rfl
      have d2 := hC.cell (i := 2) rfl
      have d3 := hC.cell (i := 3) rfl
      have d4 := hC.cell (i := 4) rfl
      have hbA := HK.out.2.alloc HK.out.2.size (sb S)
      obtain ⟨v2, w2, hr2, ho2, hb2⟩ := pl_append (W := wr.alloc (sb S)) (base := w.heap.size) (owns_blocks HK.out.1 (fun g hg => Below.heap_alloc _ _ _ (HK.out.1.lt g hg).2)) hbA.size (by omega) S
      have Hap := Lib.hid hr2
      have HO2 := Lib.hid (And.intro ho2 (And.intro (hbA.trans hb2) hSk))
      obtain ⟨va2, vc2, rfl⟩ := owns_sl5 ho2
      have hsz : (wr.alloc (sb S)).heap.size = wr.heap.size + 1 := by simp
      rw [hsz] at Hap
      clear hC hbA hr2 ho2 hb2 hSk hbl hsz
      go_wp2_with (at_builtin; refine wpList_append_run _ rfl _ _ 37 37 rfl _ _ rfl rfl Hap.out ?_)
      go_roundw
      case rel =>
        obtain ⟨ho2, hb2, hSk⟩ := HO2.out
        exact ⟨k + 1, by have := Hn.out; omega, by go_num, by rw [take_snoc' hSk, scl_snoc']; exact ho2, hb2⟩
      case measure => simp [intOf]; omega
    · obtain rfl : k = n := by omega
      go_wp2_with fail
      go_ret
      have e5 : l.take k = l := List.take_of_length_le (by rw [Hn.out]; exact Nat.le_refl _)
      have hO := HK.out.1
      rw [e5] at hO
      exact ⟨va, vc, rfl, owns_sps hO, HK.out.2, owns_base hO⟩
def RwRel (w : World) (l : List Sp) (i : Value) (wr : World) : Prop := ∃ k : Nat, i = .int .i64 k ∧ k ≤ l.length ∧ (∀ j S, j < k → l[j]? = some S → Rt S) ∧ Below w.heap.size w wr
set_option maxRecDepth 100000 in
set_option maxHeartbeats 1000000 in
theorem rwrong_any (a : Option Addr) (cap : Nat) (l : List Sp) (tr : Int) (w : World) (hS : Sps w.heap.size w a l) (hl : l.length ≤ 1000) :
    Calls Try.prog 35 #[.slice a l.length cap, .int .i64 tr] w (Ret (.int .i64 (flt l tr)) w) := by
  have Hf := Lib.hid (show (l.length < 1 ∨ 64 < l.length → flt l tr = 12) ∧ (¬ (l.length < 1 ∨ 64 < l.length) → (∃ S ∈ l, ¬ Rt S) → flt l tr = 10) ∧ (¬ (l.length < 1 ∨ 64 < l.length) → (∀ S ∈ l, Rt S) → (tr < 1 ∨ 16 < tr) → flt l tr = 10) ∧ (¬ (l.length < 1 ∨ 64 < l.length) → (∀ S ∈ l, Rt S) → ¬ (tr < 1 ∨ 16 < tr) → flt l tr = 0) from by
    refine ⟨fun h => if_pos h, fun h ⟨S, hS, hr⟩ => ?_, fun h _ ht => ?_, fun h hr ht => flt_mk (by omega) (by omega) hr (by omega) (by omega)⟩
    · unfold flt
      rw [if_neg h, if_pos (.inl (anyw_iff.2 ⟨S, hS, wrg_yes hr⟩))]
    · unfold flt
      rw [if_neg h, if_pos (.inr ht)])
  have hl' : (l.length : Int) ≤ 1000 := by omega
  have HS := Lib.hid hS
  clear hS hl
  generalize flt l tr = f at *
  obtain ⟨n, hn⟩ : ∃ n, l.length = n := ⟨_, rfl⟩
  have Hn := Lib.hid hn
  rw [hn] at hl' Hf ⊢
  clear hn
  by_cases h1 : (n : Int) < 1
  · obtain rfl : f = 12 := Hf.out.1 (by omega)
    go_enter Try.func35, Try.ntmps35
    go_wp2
    go_ret
    exact ⟨rfl, Below.refl _ _⟩
  by_cases h2 : (64 : Int) < n
  · obtain rfl : f = 12 := Hf.out.1 (by omega)
    go_enter Try.func35, Try.ntmps35
    go_wp2
    go_ret
    exact ⟨rfl, Below.refl _ _⟩
  have Hg := Lib.hid (show ¬ (n < 1 ∨ 64 < n) by omega)
  go_enter Try.func35, Try.ntmps35
  go_wp2_with fail
  go_loopw [5] (fun i wr => RwRel w l i wr) (fun i _ => n - (intOf i).toNat)
  case atStart => exact ⟨0, rfl, by omega, fun j S hj => absurd hj (by omega), Below.refl _ _⟩
  case round =>
    obtain ⟨k, rfl, hk, hK, hb⟩ := hrel
    rw [Hn.out] at hk
    have HK := Lib.hid (And.intro hK hb)
    clear hK hb
    by_cases hlt : (k : Int) < n
    · obtain ⟨S, hSk⟩ : ∃ S, l[k]? = some S := ⟨_, List.getElem?_eq_getElem (by have := Hn.out; omega)⟩
      obtain ⟨b, off, rfl, hbl, c0, c1, c2, c3, c4⟩ := (HS.out.below HK.out.2) k S hSk
      have HSk := Lib.hid hSk
      have Hr := Lib.hid (right_any S wr)
      clear hSk hbl
      by_cases hrt : Rt S
      · rw [rg_t hrt] at Hr
        have Hrt := Lib.hid hrt
        clear hrt
        go_wp2_with fail
        refine Hr.out.mono ?_
        rintro e w2 ⟨rfl, hb2⟩
        have Hb2 := Lib.hid (HK.out.2.trans (hb2.mono HK.out.2.size))
        clear hb2 c0 c1 c2 c3 c4
        go_wp2_with fail
        go_roundw
        case rel => exact ⟨k + 1, by go_num, by have := Hn.out; omega, fun j S' hj hS' => (by
          by_cases c : j = k
          · subst c
            rw [HSk.out] at hS'
            cases hS'
            exact Hrt.out
          · exact HK.out.1 j S' (by omega) hS'), Hb2.out⟩
        case measure => simp [intOf]; omega
      · rw [rg_f hrt] at Hr
        obtain rfl : f = 10 := Hf.out.2.1 Hg.out ⟨S, List.mem_of_getElem? HSk.out, hrt⟩
        clear hrt
        go_wp2_with fail
        refine Hr.out.mono ?_
        rintro e w2 ⟨rfl, hb2⟩
        have Hb2 := Lib.hid (HK.out.2.trans (hb2.mono HK.out.2.size))
        clear hb2 c0 c1 c2 c3 c4
        go_wp2_with fail
        go_ret
        exact ⟨rfl, Hb2.out⟩
    · obtain rfl : k = n := by omega
      have hall : ∀ S ∈ l, Rt S := fun S hS => by
        obtain ⟨j, hj, e⟩ := List.getElem_of_mem hS
        exact HK.out.1 j S (by have := Hn.out; omega) (by rw [List.getElem?_eq_getElem hj, e])
      have Hall := Lib.hid hall
      clear hall
      by_cases t1 : tr < 1
      · obtain rfl : f = 10 := Hf.out.2.2.1 Hg.out Hall.out (.inl t1)
        go_wp2_with fail
        go_ret
        exact ⟨rfl, HK.out.2⟩
      · by_cases t2 : 16 < tr
        · obtain rfl : f = 10 := Hf.out.2.2.1 Hg.out Hall.out (.inr t2)
          go_wp2_with fail
          go_ret
          exact ⟨rfl, HK.out.2⟩
        · obtain rfl : f = 0 := Hf.out.2.2.2 Hg.out Hall.out (by omega)
          go_wp2_with fail
          go_ret
          exact ⟨rfl, HK.out.2⟩
end Go.Proofs.Ytflgggfomhifeaa
/- The document's New and Most of a snapshot. -/
namespace Go.Proofs.Ytflgggfomhifeaa
open Go.RowKit

/-- The cells of the document's snapshot: its spots at a slice, the two rows V and U that it keeps. -/
def rfc (L V U : Value) (tr : Int) (x : NSt) : List Value :=
  [L, .int .i64 tr, .int .i64 (x.line + 1), .int .i64 x.k, .int .i64 x.n, .int .i64 (tr - x.left), V, U, .int .i64 x.bgn, .int .i64 x.how, .int .i64 x.steps]
/-- The document's snapshot at block o, that stands as x does. -/
structure RnAt (w : World) (o : Nat) (a : Option Addr) (n c : Nat) (V U : Value) (SS : List Sp) (tr : Int) (x : NSt) : Prop where
  cells : Blk w o (rfc (.slice a n c) V U tr x)
  len : SS.length = n
  spots : Sps w.heap.size w a SS
  rows : ∃ gl wl : List Int, w.ownsRow 0 42 1 V gl.length (gl.map (Value.int .u64)) ∧ w.ownsRow 0 42 1 U wl.length (wl.map (Value.int .u64)) ∧ (¬ (x.line = 0 ∧ x.k = 0) → gl = x.tl.take SS.length ∧ wl = x.tl.drop SS.length)
  apart : V.ownBlock ≠ some o ∧ U.ownBlock ≠ some o ∧ (∀ q, V.ownBlock = some q → U.ownBlock ≠ some q)
  away : ∀ b off, a = some ⟨b, off, none⟩ → b ≠ o ∧ V.ownBlock ≠ some b ∧ U.ownBlock ≠ some b
set_option maxRecDepth 100000 in
theorem rfnew_bad (a : Option Addr) (cap : Nat) (l : List Sp) (tr : Int) (w : World) (hS : Sps w.heap.size w a l) (hl : l.length ≤ 1000) (h : ¬ flt l tr = 0) :
    Calls Try.prog 11 #[.slice a l.length cap, .int .i64 tr] w (Ret (.tuple #[.pointer none, .int .i64 (flt l tr)]) w) := by
  have Hf := Lib.hid (rwrong_any a cap l tr w hS hl)
  have m0 : (flt l tr != 0) = true := by simpa using h
  clear hS hl h
  generalize flt l tr = f at *
  generalize l.length = n at *
  go_enter Try.func11, Try.ntmps11
  go_wp2_with fail
  refine Hf.out.mono ?_
  rintro e w1 ⟨rfl, hb1⟩
  have Hb := Lib.hid hb1
  clear hb1
  go_wp2
  go_ret2
  exact ⟨rfl, Hb.out⟩
def RNewPost (a : Option Addr) (n c : Nat) (l : List Sp) (tr : Int) (w : World) (e : Ending) (w' : World) : Prop :=
  ∃ o : Nat, w.heap.size ≤ o ∧ e = .returned (.tuple #[.pointer (some ⟨o, 0, none⟩), .int .i64 0]) ∧ RnAt w' o a n c (.slice none 0 0) (.slice none 0 0) l tr (nst0 tr) ∧ Below w.heap.size w w'
set_option maxRecDepth 100000 in
set_option maxHeartbeats 1000000 in
theorem rfnew_ok (a : Option Addr) (cap : Nat) (l : List Sp) (tr : Int) (w : World) (hS : Sps w.heap.size w a l) (h : flt l tr = 0) :
    Calls Try.prog 11 #[.slice a l.length cap, .int .i64 tr] w (RNewPost a l.length cap l tr w) := by
  have hf := rwrong_any a cap l tr w hS (by have := (flt_ok h).2.1; omega)
  rw [h] at hf
  have Hf := Lib.hid hf
  have HS := Lib.hid hS
  obtain ⟨n, hn⟩ : ∃ n, l.length = n := ⟨_, rfl⟩
  have Hn := Lib.hid hn
  have Hl1 := Lib.hid (flt_ok h).1
  rw [hn] at Hf ⊢
  clear hf hS h hn
  go_enter Try.func11, Try.ntmps11
  go_wp2_with fail
  refine Hf.out.mono ?_
  rintro e w1 ⟨rfl, hb1⟩
  have Hb := Lib.hid hb1
  clear hb1
  go_wp2
  go_ret2
  have hb := Hb.out
  refine ⟨w1.heap.size, hb.size, rfl, ⟨?_, Hn.out, ((HS.out.next hb).next ((Below.refl _ w1).alloc (Nat.le_refl _) _)), ⟨[], [], World.ownsRow_nil _ _ _ _, World.ownsRow_nil _ _ _ _, fun c => absurd ⟨rfl, rfl⟩ c⟩, ⟨by simp [Value.ownBlock], by simp [Value.ownBlock], fun q hq => by simp [Value.ownBlock] at hq⟩, fun b off e => ⟨?_, by simp [Value.ownBlock], by simp [Value.ownBlock]⟩⟩, hb.alloc hb.size _⟩
  · have := Blk.new w1 (rfc (.slice a n cap) (.slice none 0 0) (.slice none 0 0) tr (nst0 tr)).toArray 49
    simpa [rfc, nst0] using this
  · obtain ⟨b', off', e', hlt, _⟩ := (HS.out.next hb) 0 _ (List.getElem?_eq_getElem (show 0 < l.length from Hl1.out))
    rw [e] at e'
    cases e'
    omega
def RmRel (w : World) (l : List Sp) (s i : Value) (wr : World) : Prop := ∃ k : Nat, i = .int .i64 k ∧ k ≤ l.length ∧ s = .int .i64 (2 * (k : Int) + wid (l.take k)) ∧ Below w.heap.size w wr
set_option maxRecDepth 100000 in
set_option maxHeartbeats 1000000 in
theorem rfmost_any (a : Option Addr) (cap : Nat) (l : List Sp) (tr : Int) (w : World) (hS : Sps w.heap.size w a l) (hl : l.length ≤ 1000) :
    Calls Try.prog 14 #[.slice a l.length cap, .int .i64 tr] w (Ret (.int .i64 (nmst l tr)) w) := by
  have Hf := Lib.hid (rwrong_any a cap l tr w hS hl)
  unfold nmst
  by_cases h : flt l tr = 0
  · rw [if_pos h]
    rw [h] at Hf
    obtain ⟨h1, h2, h3, h4, h5⟩ := flt_ok h
    have hl' : (l.length : Int) ≤ 64 := by omega
    have hwb : ∀ k, (wid (l.take k) : Int) ≤ 4096 := fun k => by
      have h1 := wid_le l k
      have h2 := wid_bd l h3
      omega
    have hwl := wid_bd l h3
    obtain ⟨m1, m2⟩ := mul_bd (m := 16) (n := 5000) (by omega : 0 ≤ tr) h5 (by omega : 0 ≤ 2 * (l.length : Int) + wid l) (by omega)
    have hcm : (2 * (l.length : Int) + wid l) * tr = tr * (2 * (l.length : Int) + wid l) := Int.mul_comm _ _
    rw [← hcm] at m1 m2
    have HC := Lib.hid hcm
    have HS := Lib.hid hS
    have HR := Lib.hid (And.intro h3 hwb)
    clear hS hl h h1 h2 h3 hwb hwl hcm
    obtain ⟨n, hn⟩ : ∃ n, l.length = n := ⟨_, rfl⟩
    have Hn := Lib.hid hn
    rw [hn] at Hf hl' m1 m2 HC ⊢
    clear hn
    go_enter Try.func14, Try.ntmps14
    go_wp2_with fail
    refine Hf.out.mono ?_
    rintro e w1 ⟨rfl, hb1⟩
    have Hb1 := Lib.hid hb1
    clear hb1
    go_wp2_with fail
    go_loopw [5, 6] (fun s i wr => RmRel w l s i wr) (fun _ i _ => n - (intOf i).toNat)
    case atStart => exact ⟨0, rfl, by omega, by simp [wid], Hb1.out⟩
    case round =>
      obtain ⟨k, rfl, hk, rfl, hb⟩ := hrel
      rw [Hn.out] at hk
      have HK := Lib.hid hb
      clear hb
      by_cases hlt : (k : Int) < n
      · obtain ⟨S, hSk⟩ : ∃ S, l[k]? = some S := ⟨_, List.getElem?_eq_getElem (by have := Hn.out; omega)⟩
        obtain ⟨b, off, rfl, hbl, c0, c1, c2, c3, c4⟩ := (HS.out.below HK.out) k S hSk
        have hbd := HR.out.2 k
        have hrt := HR.out.1 S (List.mem_of_getElem? hSk)
        have hw1 : 1 ≤ S.wd := hrt.1
        have hw2 : S.wd ≤ 64 := hrt.2.1
        have Hnx := Lib.hid (wid_take l k S hSk)
        clear hSk hbl hrt
        generalize wid (l.take k) = z at *
        go_wp2_with fail
        go_roundw
        case rel => exact ⟨k + 1, by go_num, by have := Hn.out; omega, by rw [Hnx.out]; push_cast; rw [Int.toNat_of_nonneg (by omega)]; go_num, HK.out⟩
        case measure => simp [intOf]; omega
      · obtain rfl : k = n := by omega
        have e5 : l.take k = l := List.take_of_length_le (by rw [Hn.out]; exact Nat.le_refl _)
        rw [e5]
        go_wp2_with fail
        go_ret
        exact ⟨by rw [← HC.out]; rfl, HK.out⟩
  · rw [if_neg h]
    have m0 : (flt l tr != 0) = true := by simpa using h
    clear hS hl h
    generalize flt l tr = f at *
    generalize l.length = n at *
    go_enter Try.func14, Try.ntmps14
    go_wp2_with fail
    refine Hf.out.mono ?_
    rintro e w1 ⟨rfl, hb1⟩
    have Hb := Lib.hid hb1
    clear hb1
    go_wp2
    go_ret
    exact ⟨rfl, Hb.out⟩
end Go.Proofs.Ytflgggfomhifeaa
