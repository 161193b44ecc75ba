/- within, mayBe, Most, New: a publishing that has not begun. -/
import Derived.Test.YtflgggfomhifeaaStp
import Derived.Test.YtflgggfomhifeaaShelf
import Derived.Deep.RegionHeld3
namespace Go.Proofs.Ytflgggfomhifeaa
open Go.RowKit

def inB (n a b : Int) : Bool := decide (a ≤ n) && decide (n ≤ b)
theorem inB_1 {n a b : Int} (h1 : n < a) : inB n a b = false := by
  have : ¬ a ≤ n := by omega
  simp [inB, this]
theorem within_any (n a b : Int) (w : World) : Calls Try.prog 62 #[.int .i64 n, .int .i64 a, .int .i64 b] w (Pur (.bool (inB n a b)) w) := by
  go_enter Try.func62, Try.ntmps62
  go_wp2
  · go_ret
    exact ⟨by simp_all [inB], rfl⟩
  · go_ret
    exact ⟨by rw [inB_1 (by assumption)]; rfl, rfl⟩
/-- mayBe. -/
def mb (S : Sp) (tr : Int) : Bool := inB S.wd 1 64 && inB S.dp 2 16 && inB S.ow 0 1048576 && inB S.sq 0 1048576 && inB S.fs 0 1048576 && inB tr 1 16
theorem mb_iff (S : Sp) (tr : Int) : mb S tr = true ↔ Rt S ∧ 1 ≤ tr ∧ tr ≤ 16 := by
  unfold mb inB Rt
  simp only [Bool.and_eq_true, decide_eq_true_eq]
  omega
abbrev spV (S : Sp) : Value := spv S.ow S.sq S.fs S.wd S.dp
set_option maxRecDepth 100000 in
set_option maxHeartbeats 1000000 in
theorem maybe_any (S : Sp) (tr : Int) (w : World) : Calls Try.prog 46 #[spV S, .int .i64 tr] w (Ret (.bool (mb S tr)) w) := by
  have hB := Lib.hid ((Below.refl w.heap.size w).alloc (Nat.le_refl _) (.cells #[.int .i64 S.ow, .int .i64 S.sq, .int .i64 S.fs, .int .i64 S.wd, .int .i64 S.dp] 69))
  have H0 := Lib.hid (fun w => within_any S.wd 1 64 w)
  have H1 := Lib.hid (fun w => within_any S.dp 2 16 w)
  have H2 := Lib.hid (fun w => within_any S.ow 0 1048576 w)
  have H3 := Lib.hid (fun w => within_any S.sq 0 1048576 w)
  have H4 := Lib.hid (fun w => within_any S.fs 0 1048576 w)
  have H5 := Lib.hid (fun w => within_any tr 1 16 w)
  unfold mb
  go_enter Try.func46, Try.ntmps46
  go_wp2_with fail
  refine (H0.out _).mono ?_
  rintro e w' ⟨rfl, rfl⟩
  cases q0 : inB S.wd 1 64 with
  | false =>
    go_wp2
    go_ret
    exact ⟨by simp only [q0, Bool.true_and, Bool.false_and]; rfl, hB.out⟩
  | true =>
    go_wp2_with fail
    refine (H1.out _).mono ?_
    rintro e w' ⟨rfl, rfl⟩
    cases q1 : inB S.dp 2 16 with
    | false =>
      go_wp2
      go_ret
      exact ⟨by simp only [q0, q1, Bool.true_and, Bool.false_and]; rfl, hB.out⟩
    | true =>
      go_wp2_with fail
      refine (H2.out _).mono ?_
      rintro e w' ⟨rfl, rfl⟩
      cases q2 : inB S.ow 0 1048576 with
      | false =>
        go_wp2
        go_ret
        exact ⟨by simp only [q0, q1, q2, Bool.true_and, Bool.false_and]; rfl, hB.out⟩
      | true =>
        go_wp2_with fail
        refine (H3.out _).mono ?_
        rintro e w' ⟨rfl, rfl⟩
        cases q3 : inB S.sq 0 1048576 with
        | false =>
          go_wp2
          go_ret
          exact ⟨by simp only [q0, q1, q2, q3, Bool.true_and, Bool.false_and]; rfl, hB.out⟩
        | true =>
          go_wp2_with fail
          refine (H4.out _).mono ?_
          rintro e w' ⟨rfl, rfl⟩
          cases q4 : inB S.fs 0 1048576 with
          | false =>
            go_wp2
            go_ret
            exact ⟨by simp only [q0, q1, q2, q3, q4, Bool.true_and, Bool.false_and]; rfl, hB.out⟩
          | true =>
            go_wp2_with fail
            refine (H5.out _).mono ?_
            rintro e w' ⟨rfl, rfl⟩
            cases q5 : inB tr 1 16 with
            | false =>
              go_wp2
              go_ret
              exact ⟨by simp only [q0, q1, q2, q3, q4, q5, Bool.true_and, Bool.false_and]; rfl, hB.out⟩
            | true =>
              go_wp2
              go_ret
              exact ⟨by simp only [q0, q1, q2, q3, q4, q5, Bool.true_and, Bool.false_and]; rfl, hB.out⟩

/-- Words of a slice. -/
def Wds (n₀ : Nat) (W : World) (a : Option Addr) (xs : List Int) : Prop :=
  ∀ (j : Nat) (x : Int), xs[j]? = some x → U64 x ∧ ∃ b off, a = some ⟨b, off, none⟩ ∧ b < n₀ ∧ W.cell? ⟨b, off + j, none⟩ = some (.int .u64 x)
theorem Wds.keep {A B : World} {n₀ : Nat} {a : Option Addr} {xs : List Int} (k : Wds n₀ A a xs) (h : Below n₀ A B) : Wds n₀ B a xs := fun j x hx => by
  obtain ⟨hw, b, off, e, hb, hc⟩ := k j x hx
  exact ⟨hw, b, off, e, hb, (h.cell (p := ⟨b, off + j, none⟩) hb).trans hc⟩
theorem Wds.us {A : World} {n₀ : Nat} {a : Option Addr} {xs : List Int} (k : Wds n₀ A a xs) : ∀ v ∈ xs, U64 v := fun v hv => by
  obtain ⟨j, hj⟩ := List.getElem?_of_mem hv
  exact (k j v hj).1
/-- One that has not begun. -/
def st0 (tr : Int) : St := ⟨0, 0, tr, 0, 0, 0⟩
/-- What New tells. -/
def nwE (S : Sp) (n : Nat) (tr : Int) : Int := if mb S tr = true then (if (n : Int) = S.wd then 0 else 17) else 10
def NewOp (S : Sp) (ws : List Int) (tr : Int) (w : World) (e : Ending) (w' : World) : Prop :=
  ∃ o g : Nat, w.heap.size ≤ o ∧ w.heap.size ≤ g ∧ e = .returned (.tuple #[.pointer (some ⟨o, 0, none⟩), .int .i64 0]) ∧ OpAt w' o g S ws (st0 tr) ∧ Below w.heap.size w w'
theorem wf0 {S : Sp} {ws : List Int} {tr : Int} (h : nwE S ws.length tr = 0) (hu : ∀ v ∈ ws, U64 v) : Wf S ws (st0 tr) := by
  unfold nwE at h
  split at h
  · rename_i hm
    split at h
    · rename_i hl
      obtain ⟨h1, h2, h3⟩ := (mb_iff S tr).1 hm
      exact ⟨h1, hl, hu, u64_zero, by show (0 : Int) ≤ 0; omega, by show (0 : Int) ≤ 64; omega, fun c => absurd (show (0 : Int) = 2 from c) (by omega), by show (0 : Int) ≤ 0; omega, by show (0 : Int) ≤ 3; omega, by show 0 ≤ tr; omega, h3, fun _ => h2, fun _ => rfl⟩
    · omega
  · omega
abbrev sb (S : Sp) : Obj := .cells #[.int .i64 S.ow, .int .i64 S.sq, .int .i64 S.fs, .int .i64 S.wd, .int .i64 S.dp] 69
set_option maxRecDepth 100000 in
theorem newo_bad (S : Sp) (a : Option Addr) (n cap : Nat) (tr : Int) (w : World) (h : ¬ nwE S n tr = 0) : Calls Try.prog 24 #[spV S, .slice a n cap, .int .i64 tr] w (Ret (.tuple #[.pointer none, .int .i64 (nwE S n tr)]) w) := by
  have hb0 := (Below.refl w.heap.size w).alloc (Nat.le_refl _) (sb S)
  have hC := Blk.new w #[.int .i64 S.ow, .int .i64 S.sq, .int .i64 S.fs, .int .i64 S.wd, .int .i64 S.dp] 69
  have Hm := Lib.hid (maybe_any S tr (w.alloc (sb S)))
  have HB := Lib.hid (And.intro hC hb0)
  clear hC hb0
  cases hq : mb S tr with
  | false =>
    have hv : nwE S n tr = 10 := by unfold nwE; rw [hq]; rfl
    rw [hv]
    rw [hq] at Hm
    clear hv hq h
    go_enter Try.func24, Try.ntmps24
    go_wp2_with fail
    refine Hm.out.mono ?_
    rintro e w1 ⟨rfl, hb1⟩
    have Hb := Lib.hid (HB.out.2.trans (hb1.mono HB.out.2.size))
    clear hb1
    go_wp2
    go_ret2
    exact ⟨rfl, Hb.out⟩
  | true =>
    have hne : ¬ (n : Int) = S.wd := fun c => h (by unfold nwE; rw [hq, if_pos rfl, if_pos c])
    have hv : nwE S n tr = 17 := by unfold nwE; rw [hq, if_pos rfl, if_neg hne]
    rw [hv]
    rw [hq] at Hm
    have m0 : ((n : Int) != S.wd) = true := by simpa using hne
    clear hv hq h
    go_enter Try.func24, Try.ntmps24
    go_wp2_with fail
    refine Hm.out.mono ?_
    rintro e w1 ⟨rfl, hb1⟩
    have Hb := Lib.hid (HB.out.2.trans (hb1.mono HB.out.2.size))
    have c3 := (HB.out.1.low hb1).cell (i := 3) rfl
    clear hb1
    go_wp2
    go_ret2
    exact ⟨rfl, Hb.out⟩
def B5' (s : Nat) (S : Sp) (w : World) : Prop := Blk w s (spc S.ow S.sq S.fs S.wd S.dp)
theorem info49 : (Try.prog.info? 42).map (fun i => (i.zero, i.size, i.bytes)) = some (some (.int .u64 0), 1, 8) := by kernel_rfl
def Pre (ws : List Int) (g : Nat) (w : World) : Prop := ∃ vs, Blk w g vs ∧ ∀ (i : Nat) (v : Int), ws[i]? = some v → vs[i]? = some (.int .u64 v)
def ClPost (ws : List Int) (w : World) (e : Ending) (w' : World) : Prop :=
  ∃ g cap : Nat, w.heap.size ≤ g ∧ e = .returned (.slice (some ⟨g, 0, none⟩) ws.length cap) ∧ Pre ws g w' ∧ Below w.heap.size w w'
theorem clone_wds (a : Option Addr) (ws : List Int) (cap : Nat) (h1 : 1 ≤ ws.length) (h2 : ws.length ≤ 64) (n₀ : Nat) (w : World) (h : Wds n₀ w a ws) :
    Calls Try.prog 47 #[.slice a ws.length cap] w (ClPost ws w) := by
  obtain ⟨_, b, off, rfl, hb, _⟩ := h 0 (ws[0]'(by omega)) (List.getElem?_eq_getElem _)
  obtain ⟨i, hi, he⟩ := Option.map_eq_some_iff.1 info49
  simp only [Prod.mk.injEq] at he
  obtain ⟨hz, hs, hbb⟩ := he
  refine (Try.slices_Clone i (.int .u64 0) 1 8 hi hz hs hbb rfl (by omega) (fun w => Try.sizeOf42 w) b off ws.length cap (ws.map (Value.int .u64)) w (by simp) (Nat.le_trans h2 (by decide)) (by omega) ?_ ?_).mono ?_
  · intro j u hu
    rw [List.getElem?_map] at hu
    obtain ⟨v, hv, rfl⟩ := Option.map_eq_some_iff.1 hu
    obtain ⟨_, b', off', e, _, hc⟩ := h j v hv
    cases e
    exact hc
  · intro u hu
    obtain ⟨v, _, rfl⟩ := List.mem_map.1 hu
    rfl
  · rintro e w' ⟨v', rfl, hor, hnn, hb'⟩
    rcases hor.2 with ⟨rfl, _⟩ | ⟨g, cap', cur, rfl, hg, hcur, _⟩
    · exact absurd rfl hnn
    · refine ⟨g, cap', hg, rfl, ⟨cur.toList, ⟨42, by simpa using hcur⟩, fun k v hv => ?_⟩, hb'⟩
      have hc := hor.cells (g := g) rfl k (.int .u64 v) (by rw [List.getElem?_map, hv]; rfl)
      have e : (⟨g, 0, none⟩ : Addr).add k = ⟨g, k, none⟩ := by unfold Addr.add; split <;> simp_all
      rw [e] at hc
      simp only [World.cell?, hcur] at hc
      rw [Array.getElem?_toList]
      exact hc
set_option maxRecDepth 100000 in
set_option maxHeartbeats 1000000 in
theorem newo_ok (S : Sp) (a : Option Addr) (ws : List Int) (cap : Nat) (tr : Int) (w : World) (n₀ : Nat) (hn : n₀ ≤ w.heap.size) (hW : Wds n₀ w a ws) (h : nwE S ws.length tr = 0) : Calls Try.prog 24 #[spV S, .slice a ws.length cap, .int .i64 tr] w (NewOp S ws tr w) := by
  have hf := wf0 h hW.us
  obtain ⟨hr1, hr2, _⟩ := hf.rt
  have hlen := hf.len
  have hq : mb S tr = true := by
    unfold nwE at h
    split at h
    · assumption
    · omega
  have m0 : ((ws.length : Int) != S.wd) = false := by simpa using hlen
  have hb0 := (Below.refl w.heap.size w).alloc (Nat.le_refl _) (sb S)
  have hC := Blk.new w #[.int .i64 S.ow, .int .i64 S.sq, .int .i64 S.fs, .int .i64 S.wd, .int .i64 S.dp] 69
  have hm := maybe_any S tr (w.alloc (sb S))
  rw [hq] at hm
  have Hm := Lib.hid hm
  have HB := Lib.hid (And.intro hC hb0)
  have Hcl := Lib.hid (clone_wds a ws cap (by omega) (by omega) n₀)
  have HW := Lib.hid hW
  have Hn := Lib.hid hn
  clear hC hb0 hm hq h hr1 hr2 hlen hf hW hn
  go_enter Try.func24, Try.ntmps24
  go_wp2_with fail
  refine Hm.out.mono ?_
  rintro e w1 ⟨rfl, hb1⟩
  have c3 := (HB.out.1.low hb1).cell (i := 3) rfl
  have hbl := HB.out.2.trans (hb1.mono HB.out.2.size)
  have HK := Lib.hid (show B5' w.heap.size S w1.drew ∧ Below w.heap.size w w1.drew ∧ Wds n₀ w1.drew a ws from ⟨(HB.out.1.low hb1).drew, belN hbl 1, (HW.out.keep (hbl.mono Hn.out)).keep (belN (Below.refl _ _) 1)⟩)
  clear hb1 hbl HB HW Hn
  go_wp2_with fail
  refine wp_region_held_drew (S := B5' w.heap.size S) (by kernel_rfl) (HK.out.1) (fun hHeld => ?_)
  refine wpAnyH_take (i := 0) (v := ?v1) rfl (by kernel_rfl) (by kernel_rfl) (by kernel_rfl) (fun _ _ _ h => h) (Or.inl ⟨by rfl, ?y1⟩) hHeld ?r1
  case y1 => (intro w hSw; have c0 := hSw.cell (i := 0) rfl; have c1 := hSw.cell (i := 1) rfl; have c2 := hSw.cell (i := 2) rfl; have c3 := hSw.cell (i := 3) rfl; have c4 := hSw.cell (i := 4) rfl; clear hSw; go_simp; try with_reducible rfl)
  simp only [List.getElem_toArray, List.getElem_cons_zero, Act.put, List.setIfInBounds_toArray, List.set_cons_zero, List.set_cons_succ]
  refine wpAnyH_take (i := 1) (v := ?v2) rfl (by kernel_rfl) (by kernel_rfl) (by kernel_rfl) (fun _ _ _ h => h) (Or.inl ⟨by rfl, ?y2⟩) hHeld ?r2
  case y2 => (intro w hSw; have c0 := hSw.cell (i := 0) rfl; have c1 := hSw.cell (i := 1) rfl; have c2 := hSw.cell (i := 2) rfl; have c3 := hSw.cell (i := 3) rfl; have c4 := hSw.cell (i := 4) rfl; clear hSw; go_simp; try with_reducible rfl)
  simp only [List.getElem_toArray, List.getElem_cons_zero, List.getElem_cons_succ, Act.put, List.setIfInBounds_toArray, List.set_cons_zero, List.set_cons_succ]
  refine wpAnyH_take (i := 2) (v := ?v3) rfl (by kernel_rfl) (by kernel_rfl) (by kernel_rfl) (fun _ _ _ h => h) (Or.inl ⟨by rfl, ?y3⟩) hHeld ?r3
  case y3 => (intro w hSw; have c0 := hSw.cell (i := 0) rfl; have c1 := hSw.cell (i := 1) rfl; have c2 := hSw.cell (i := 2) rfl; have c3 := hSw.cell (i := 3) rfl; have c4 := hSw.cell (i := 4) rfl; clear hSw; go_simp; try with_reducible rfl)
  simp only [List.getElem_toArray, List.getElem_cons_zero, List.getElem_cons_succ, Act.put, List.setIfInBounds_toArray, List.set_cons_zero, List.set_cons_succ]
  refine wpAnyH_take (i := 3) (v := ?v4) rfl (by kernel_rfl) (by kernel_rfl) (by kernel_rfl) (fun _ _ _ h => h) (Or.inl ⟨by rfl, ?y4⟩) hHeld ?r4
  case y4 => (intro w hSw; have c0 := hSw.cell (i := 0) rfl; have c1 := hSw.cell (i := 1) rfl; have c2 := hSw.cell (i := 2) rfl; have c3 := hSw.cell (i := 3) rfl; have c4 := hSw.cell (i := 4) rfl; clear hSw; go_simp; try with_reducible rfl)
  simp only [List.getElem_toArray, List.getElem_cons_zero, List.getElem_cons_succ, Act.put, List.setIfInBounds_toArray, List.set_cons_zero, List.set_cons_succ]
  refine wpAnyH_ready (rs := [4]) (by kernel_rfl) (by simp) (AllReadyH.cons rfl (fun K hK => ?_) AllReadyH.nil)
  go_simp
  refine (Hcl.out _ HK.out.2.2).mono ?_
  rintro e v1 ⟨g, cap1, hg, rfl, hp, hb1⟩
  have Hb5 := Lib.hid (HK.out.1.low hb1)
  have Hor := Lib.hid (And.intro hg (And.intro hp (HK.out.2.1.trans (hb1.mono HK.out.2.1.size))))
  clear hg hp hb1
  go_wp2_with fail
  refine hK.out _ _ (Hb5.out) (fun hHeld => ?_)
  clear hK K
  refine wpAnyH_take (i := 5) (v := ?v6) rfl (by kernel_rfl) (by kernel_rfl) (by kernel_rfl) (fun _ _ _ h => h) (Or.inl ⟨by rfl, ?y6⟩) hHeld ?r6
  case y6 => (intro w hSw; have c0 := hSw.cell (i := 0) rfl; have c1 := hSw.cell (i := 1) rfl; have c2 := hSw.cell (i := 2) rfl; have c3 := hSw.cell (i := 3) rfl; have c4 := hSw.cell (i := 4) rfl; clear hSw; go_simp; try with_reducible rfl)
  simp only [List.getElem_toArray, List.getElem_cons_zero, List.getElem_cons_succ, Act.put, List.setIfInBounds_toArray, List.set_cons_zero, List.set_cons_succ]
  refine wpAnyH_ready (rs := [6]) (by kernel_rfl) (by simp) (AllReadyH.cons rfl (fun K hK => ?_) AllReadyH.nil)
  go_simp
  refine hK.out _ _ (Blk.alloc hHeld _) (fun hHeld => ?_)
  clear hK K
  refine wpAnyH_take (i := 7) (v := ?v8) rfl (by kernel_rfl) (by kernel_rfl) (by kernel_rfl) (fun _ _ _ h => h) (Or.inl ⟨by rfl, ?y8⟩) hHeld ?r8
  case y8 => (intro w hSw; have c0 := hSw.cell (i := 0) rfl; have c1 := hSw.cell (i := 1) rfl; have c2 := hSw.cell (i := 2) rfl; have c3 := hSw.cell (i := 3) rfl; have c4 := hSw.cell (i := 4) rfl; clear hSw; go_simp; try with_reducible rfl)
  simp only [List.getElem_toArray, List.getElem_cons_zero, List.getElem_cons_succ, Act.put, List.setIfInBounds_toArray, List.set_cons_zero, List.set_cons_succ]
  refine wpAnyH_take (i := 8) (v := ?v9) rfl (by kernel_rfl) (by kernel_rfl) (by kernel_rfl) (fun _ _ _ h => h) (Or.inl ⟨by rfl, ?y9⟩) hHeld ?r9
  case y9 => (intro w hSw; have c0 := hSw.cell (i := 0) rfl; have c1 := hSw.cell (i := 1) rfl; have c2 := hSw.cell (i := 2) rfl; have c3 := hSw.cell (i := 3) rfl; have c4 := hSw.cell (i := 4) rfl; clear hSw; go_simp; try with_reducible rfl)
  simp only [List.getElem_toArray, List.getElem_cons_zero, List.getElem_cons_succ, Act.put, List.setIfInBounds_toArray, List.set_cons_zero, List.set_cons_succ]
  refine wpAnyH_done (by kernel_rfl) ?_ _
  go_wp2
  go_ret2
  obtain ⟨hg, ⟨vs, hp, hpp⟩, hbb⟩ := Hor.out
  have hsz : w.heap.size ≤ v1.heap.size := hbb.size
  have hgl := hp.lt
  have hgw : w.heap.size ≤ g := Nat.le_trans HK.out.2.1.size hg
  exact ⟨v1.heap.size, g, hsz, hgw, rfl, ⟨⟨cap1, Blk.new v1 _ 112⟩, ⟨vs, hp.alloc _, hpp⟩, by omega⟩, hbb.alloc hsz _⟩
end Go.Proofs.Ytflgggfomhifeaa
