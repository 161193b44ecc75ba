/- ReadOwn: its walk. -/
import Derived.Test.YtajibhhmcjcchaaOwM
import Derived.Deep.RegionHeld3
import Derived.BigQuiet
namespace Go.Proofs.Ytajibhhmcjcchaa
open Go.RowKit

set_option maxRecDepth 100000 in
set_option maxHeartbeats 2000000 in
theorem own_bad (a : Option Addr) (l cap : Nat) (m : Int) (w : World) (h : ¬ (1 ≤ l ∧ l ≤ 20 ∧ 1 ≤ m ∧ m ≤ 60)) : Calls Try.prog 6 #[.slice a l cap, .int .i64 m] w (True1 w) := by
  rcases (show (l : Int) < 1 ∨ (1 ≤ (l : Int) ∧ 20 < (l : Int)) ∨ (1 ≤ (l : Int) ∧ (l : Int) ≤ 20 ∧ m < 1) ∨ (1 ≤ (l : Int) ∧ (l : Int) ≤ 20 ∧ 1 ≤ m ∧ 60 < m) by omega) with k | ⟨k1, k2⟩ | ⟨k1, k2, k3⟩ | ⟨k1, k2, k3, k4⟩
  all_goals
    clear h
    go_enter Try.func6, Try.ntmps6
    go_wp2_with fail
    refine (got_nil _).mono ?_
    rintro e w' ⟨rfl, rfl⟩
    go_wp2_with fail
    refine (rstep_nil _ _).mono ?_
    rintro e w' ⟨rfl, rfl⟩
    go_wp2_with fail
    refine (rat_nil _).mono ?_
    rintro e w' ⟨rfl, rfl⟩
    go_wp2_with fail
    refine (rsteps_nil _).mono ?_
    rintro e w' ⟨rfl, rfl⟩
    go_wp2_with fail
    refine (awake_any _).mono ?_
    rintro e w1 ⟨rfl, hu1⟩
    have H1 := Lib.hid hu1
    clear hu1
    go_wp2
    go_ret
    exact ⟨rfl, H1.out⟩
/-- The first loop's head. -/
def OwRel1 (w : World) (b bg sp o g n : Nat) (zs : List Int) (t : Int) (i : Value) (wr : World) : Prop :=
  ∃ j : Nat, i = .int .i64 j ∧ j ≤ n + 2 ∧ OwM w b bg sp o g n 2 (rqa zs n 2 1 (gat n 2 1) j) zs (t + j) wr
/-- The second loop's head. -/
def OwRel2 (w : World) (b bg sp o g q n : Nat) (x : RSt) (zs : List Int) (t : Int) (i : Value) (wr : World) : Prop :=
  ∃ (j : Nat) (vs : List Value), i = .int .i64 j ∧ j ≤ n ∧ Blk wr q vs ∧ vs.length = n ∧ OwM w b bg sp o g n 2 x zs t wr
/-- The third loop's head. -/
def OwRel3 (w : World) (cb cg ro rg n nb : Nat) (i : Value) (wr : World) : Prop :=
  ∃ j : Nat, i = .int .i64 j ∧ j < n + 2 ∧ j < nb ∧ Bk wr cb cg (List.replicate nb 0) j ∧ RdAt wr ro rg (spS n ((2 : Nat) : Int)) (rqa (List.replicate nb 0) n 1 0 (gat n 2 0) j) ∧ Below w.heap.size w wr
theorem gat0 (n : Nat) : gat n 2 0 = 2 := by unfold gat; simp
theorem rep_u (nb : Nat) : ∀ v ∈ List.replicate nb (0 : Int), U64 v := fun v hv => by rw [List.eq_of_mem_replicate hv]; exact u64_zero
theorem rwf_rqa {zs : List Int} {n d G : Nat} {tr : Int} (h1 : 1 ≤ n) (h2 : n ≤ 64) (h3 : 2 ≤ d) (h4 : d ≤ 16) (t1 : 1 ≤ tr) (t2 : tr ≤ 16) (hz : ∀ v ∈ zs, U64 v) (hG : U64 G) (j : Nat) (hj : j ≤ n + 2) : RWf (spS n d) (rqa zs n tr G (gat n d G) j) := by
  have rt : Rt (spS n d) := by unfold Rt spS; simp only; omega
  have hm : ∀ A m, ∀ v ∈ (zs.drop A).take m, U64 v := fun A m v hv => hz v (List.mem_of_mem_drop (List.mem_of_mem_take hv))
  have hl : ∀ A m : Nat, ((zs.drop A).take m).length ≤ m := fun A m => by rw [List.length_take]; omega
  unfold rqa
  by_cases c : j = n + 2
  · rw [if_pos c]
    have := hl (gat n d G) n
    exact ⟨rt, hG, hm _ _, by show (((zs.drop (gat n d G)).take n).length : Int) ≤ n; omega, fun c => absurd (show (2 : Int) = 1 from c) (by omega), by show (0 : Int) ≤ 2; omega, by show (2 : Int) ≤ 2; omega, by show 0 ≤ tr; omega, t2, fun c => absurd (show (1 : Int) = 0 from c) (by omega)⟩
  · rw [if_neg c]
    unfold rq
    by_cases c0 : j = 0
    · rw [if_pos c0]
      exact ⟨rt, u64_zero, fun v hv => (by cases hv), by show (0 : Int) ≤ n; omega, fun c => absurd (show (0 : Int) = 1 from c) (by omega), by show (0 : Int) ≤ 0; omega, by show (0 : Int) ≤ 2; omega, by show 0 ≤ tr; omega, t2, fun _ => t1⟩
    · rw [if_neg c0]
      have := hl (gat n d G) (j - 1)
      refine ⟨rt, hG, hm _ _, by show (((zs.drop (gat n d G)).take (j - 1)).length : Int) ≤ n; omega, fun c => ?_, ?_, ?_, by show 0 ≤ tr; omega, t2, fun _ => t1⟩
      · have c' : (if j = n + 1 then (2 : Int) else 1) = 1 := c
        show (((zs.drop (gat n d G)).take (j - 1)).length : Int) < n
        split at c'
        · omega
        · omega
      · show (0 : Int) ≤ if j = n + 1 then 2 else 1
        split <;> omega
      · show (if j = n + 1 then (2 : Int) else 1) ≤ 2
        split <;> omega
set_option maxRecDepth 100000 in
set_option maxHeartbeats 8000000 in
theorem own_walk (a : Option Addr) (ws : List Int) (cap nb : Nat) (w : World) (hW : Wds w.heap.size w a ws) (n : Nat) (hn : ws.length = n) (n1 : 1 ≤ n) (n2 : n ≤ 20) (m1 : 1 ≤ nb) (m2 : nb ≤ 60) :
    Calls Try.prog 6 #[.slice a n cap, .int .i64 (nb : Int)] w (True1 w) := by
  have HW := Lib.hid hW
  have Hn := Lib.hid (And.intro hn (And.intro n1 (And.intro n2 (And.intro m1 m2))))
  have Hs := Lib.hid (fun w => spot_ok n 2 n1 (by omega) (by omega) (by omega) w)
  have Hmb2 := Lib.hid ((mb_iff (spS n 2) 2).2 ⟨by unfold Rt spS; simp only; omega, by omega, by omega⟩)
  have Hmb1 := Lib.hid ((mb_iff (spS n 2) 1).2 ⟨by unfold Rt spS; simp only; omega, by omega, by omega⟩)
  have Hn2 := Lib.hid (fun w => rnew_ok (spS n 2) 2 w Hmb2.out)
  have Hn1 := Lib.hid (fun w => rnew_ok (spS n 2) 1 w Hmb1.out)
  have Hbn := Lib.hid (fun w => new_ok nb w m1 (by omega))
  have k1 : 1 ≤ (n : Int) := by omega
  have k2 : (n : Int) ≤ 20 := by omega
  have k3 : 1 ≤ (nb : Int) := by omega
  have k4 : (nb : Int) ≤ 60 := by omega
  clear hW hn n1 n2 m1 m2
  go_enter Try.func6, Try.ntmps6
  go_wp2_with fail
  refine (got_nil _).mono ?_
  rintro e w' ⟨rfl, rfl⟩
  go_wp2_with fail
  refine (rstep_nil _ _).mono ?_
  rintro e w' ⟨rfl, rfl⟩
  go_wp2_with fail
  refine (rat_nil _).mono ?_
  rintro e w' ⟨rfl, rfl⟩
  go_wp2_with fail
  refine (rsteps_nil _).mono ?_
  rintro e w' ⟨rfl, rfl⟩
  go_wp2_with fail
  refine (Hs.out _).mono ?_
  rintro e w1 ⟨b, bg, hb, hg, rfl, hk1, hb1⟩
  have hC := Blk.new w1 #[.int .i64 0, .int .i64 1, .int .i64 2, .int .i64 n, .int .i64 2] 23
  have H1 := Lib.hid (And.intro (hk1.alloc (bs n 2)) (And.intro (hb1.alloc hb1.size (bs n 2)) (And.intro hC (show b < w1.heap.size ∧ bg < w1.heap.size ∧ w.heap.size ≤ w1.heap.size ∧ w1.heap.size < (w1.alloc (bs n 2)).heap.size from ⟨hk1.ltb, hk1.ltg, hb1.size, by simp⟩))))
  have Hbg := Lib.hid (And.intro hb hg)
  clear hk1 hb1 hC Hs hb hg
  have e0 := H1.out.2.2.1.cell (i := 0) rfl
  have e1 := H1.out.2.2.1.cell (i := 1) rfl
  have e2 := H1.out.2.2.1.cell (i := 2) rfl
  have e3 := H1.out.2.2.1.cell (i := 3) rfl
  have e4 := H1.out.2.2.1.cell (i := 4) rfl
  have Hpub : Hid (Calls Try.prog 23 #[.pointer (some ⟨b, 0, none⟩), .agg #[.int .i64 0, .int .i64 1, .int .i64 2, .int .i64 n, .int .i64 2], .slice a n cap] (w1.alloc (bs n 2)) (PubPost b bg n 2 0 ws (List.replicate (2 + n * 2) 0) 0 (w1.alloc (bs n 2)))) := Lib.hid (by
    obtain ⟨q1, q2, q3, q4⟩ := H1.out
    obtain ⟨p1, p2, p3, p4, p5⟩ := Hn.out
    exact publish_any b bg n 2 0 a cap w.heap.size ws _ 0 _ p2 (by omega) (by omega) (by omega) (by omega) p1 (HW.out.keep q2) q2.size q1 (by simp) (by rw [List.getElem?_replicate, if_pos (by omega)]; rfl) (by omega) (by omega))
  go_wp2_with fail
  generalize hw2 : w1.alloc (bs n 2) = w2 at *
  refine Hpub.out.mono ?_
  rintro e w3 ⟨zs, rfl, hB3, hzl, hz0, hz1, hL, hu3⟩
  have hsp : w1.heap.size ≠ b ∧ w1.heap.size ≠ bg ∧ w.heap.size ≤ w1.heap.size := by
    have := H1.out.2.2.2
    omega
  have H3 := Lib.hid (show Blk w3 w1.heap.size (spc 0 1 2 n 2) ∧ Bk w3 b bg zs (n + 3) ∧ Below w.heap.size w w3 from ⟨H1.out.2.2.1.of_block (hu3.block _ H1.out.2.2.1.lt (fun q => by rcases q with q | q <;> omega)), (by have := hB3; rw [Int.zero_add] at this; exact this), H1.out.2.1.trans (hu3.below H1.out.2.1.size (fun k hk => by rcases hk with rfl | rfl <;> (have := Hbg.out; omega)))⟩)
  have Hsp := Lib.hid hsp
  have HZ : Hid (zs.length = 2 + n * 2 ∧ zs[1]? = some 2 ∧ (zs.drop (gat n 2 1)).take n = ws) := Lib.hid (by
    obtain ⟨p1, p2, p3, p4, p5⟩ := Hn.out
    refine ⟨by rw [hzl]; simp, hz1, place_eq p1 (fun j hj => ?_)⟩
    have g := (gat_in (n := n) (d := 2) (G := 1) (by omega)).1
    have := hL (gat n 2 1 + j) (by omega)
    rw [this, if_pos ⟨by unfold gat plc; omega, by unfold gat plc; omega⟩]
    congr 1
    unfold gat plc
    omega)
  clear hB3 hzl hz0 hz1 hL hu3 Hpub H1 hsp e0 e1 e2 e3 e4 hw2
  generalize w1.heap.size = sp at *
  have e0 := H3.out.1.cell (i := 0) rfl
  have e1 := H3.out.1.cell (i := 1) rfl
  have e2 := H3.out.1.cell (i := 2) rfl
  have e3 := H3.out.1.cell (i := 3) rfl
  have e4 := H3.out.1.cell (i := 4) rfl
  have Hn2' := Lib.hid (show Calls Try.prog 9 #[.agg #[.int .i64 0, .int .i64 1, .int .i64 2, .int .i64 n, .int .i64 2], .int .i64 2] w3 (RNewOp (spS n 2) 2 w3) from Hn2.out w3)
  go_wp2_with fail
  refine Hn2'.out.mono ?_
  rintro e w4 ⟨o, g, ho, hgo, rfl, hO, hu4⟩
  have H4 : Hid (OwM w b bg sp o g n 2 (rqa zs n 2 1 (gat n 2 1) 0) zs (n + 3) w4 ∧ OwD w b bg sp o g) := Lib.hid (by
    obtain ⟨q1, q2, q3⟩ := H3.out
    have l1 := q1.lt
    have l2 := q2.ltb
    have l3 := q2.ltg
    have l4 := q3.size
    have l5 := Hbg.out
    have l6 := Hsp.out
    refine ⟨⟨q2.below hu4, q1.low hu4, by rw [rqa_zero]; exact hO, q3.trans (hu4.mono q3.size)⟩, ⟨by omega, by omega, by omega, by omega, by omega, by omega, by omega, by omega, by omega, by omega, by omega, by omega⟩⟩)
  clear Hn2' Hn2 H3 ho hgo hO hu4 e0 e1 e2 e3 e4
  go_wp2_with fail
  go_loopw [13] (fun i wr => OwRel1 w b bg sp o g n zs (n + 3) i wr) (fun i _ => n + 2 - (intOf i).toNat)
  case atStart => exact ⟨0, rfl, by omega, by rw [show ((0 : Nat) : Int) = 0 from rfl, Int.add_zero]; exact H4.out.1⟩
  case round =>
    obtain ⟨j, rfl, hj, hM⟩ := hrel
    have HM := Lib.hid hM
    clear hM
    by_cases hlt : (j : Int) < n + 2
    · have hjj : (j : Int) ≤ 21 := by omega
      have Hst : Hid (Calls Try.prog 16 #[.pointer (some ⟨o, 0, none⟩), .pointer (some ⟨b, 0, none⟩)] wr (RdPost o g b bg (spS n 2) zs (rqa zs n 2 1 (gat n 2 1) (j + 1), 1) (n + 3 + j) wr)) := Lib.hid (by
        obtain ⟨p1, p2, p3, p4, p5⟩ := Hn.out
        obtain ⟨z1, z2, z3⟩ := HZ.out
        have hD := H4.out.2
        have hM := HM.out
        have hw := rwf_rqa (zs := zs) (n := n) (d := 2) (G := 1) (tr := 2) p2 (by omega) (by omega) (by omega) (by omega) (by omega) hM.bank.rng (by unfold U64; omega) j hj
        have hs := rqa_steps (xs := zs) (n := n) (d := 2) (G := 1) (tr := 2) j
        have := rstep_any hM.rd hM.bank hD.d1 hD.d2 hD.d3 hD.d4 hw (by omega) (by omega) (by rw [hs]; omega) (by rw [hs]; omega)
        rw [rqa_step z2 (by rfl) (by unfold U64; omega) p2 (by omega) (by omega) (by omega) (by omega) (by omega)] at this
        exact this)
      go_wp2_with fail
      refine Hst.out.mono ?_
      rintro e w5 ⟨rfl, hR5, hK5, hu5⟩
      have HM5 := Lib.hid (HM.out.step H4.out.2 hR5 hK5 hu5)
      clear hR5 hK5 hu5 Hst
      go_wp2_with fail
      go_roundw
      case rel => exact ⟨j + 1, by go_num, by omega, by rw [show ((j + 1 : Nat) : Int) = (j : Int) + 1 by omega, ← Int.add_assoc]; exact HM5.out⟩
      case measure => simp [intOf]; omega
    · obtain rfl : j = n + 2 := by omega
      rw [rqa_end] at HM
      have HE : Hid (((zs.drop (gat n 2 1)).take n = ws) ∧ (rqE zs n 2 1 (gat n 2 1)).rw = ws ∧ (rqE zs n 2 1 (gat n 2 1)).gen = 1 ∧ (rqE zs n 2 1 (gat n 2 1)).steps = n + 2 ∧ (rqE zs n 2 1 (gat n 2 1)).how = 1) := Lib.hid ⟨HZ.out.2.2, HZ.out.2.2, rfl, rfl, rfl⟩
      have Hgot : Hid (∀ W, RdAt W o g (spS n 2) (rqE zs n 2 1 (gat n 2 1)) → Calls Try.prog 18 #[.pointer (some ⟨o, 0, none⟩)] W (fun e w' => ∃ q : Nat, W.heap.size ≤ q ∧ e = .returned (.tuple #[.slice (some ⟨q, 0, none⟩) n n, .int .u64 1]) ∧ Blk w' q (ws.map (Value.int .u64)) ∧ Below W.heap.size W w')) := Lib.hid (fun W h => by
        obtain ⟨y1, y2, y3, y4, y5⟩ := HE.out
        obtain ⟨p1, p2, p3, p4, p5⟩ := Hn.out
        have := got_ok h y5 (by rw [y2]; omega)
        unfold GotPost at this
        rw [y2, y3, p1] at this
        exact this)
      generalize rqE zs n 2 1 (gat n 2 1) = X at *
      go_wp2_with fail
      refine (Hgot.out _ HM.out.rd).mono ?_
      rintro e w6 ⟨q, hq, rfl, hB6, hu6⟩
      have H6 : Hid (OwM w b bg sp o g n 2 X zs (n + 3 + ((n + 2 : Nat) : Int)) w6 ∧ Blk w6 q (ws.map (Value.int .u64)) ∧ (b ≠ q ∧ bg ≠ q ∧ sp ≠ q ∧ o ≠ q ∧ g ≠ q ∧ w.heap.size ≤ q)) := Lib.hid (by
        have hM := HM.out
        have l1 := hM.bank.ltb
        have l2 := hM.bank.ltg
        have l3 := hM.spot.lt
        have l4 := hM.rd.lto
        have l5 := hM.rd.ltg
        have l6 := hM.bel.size
        exact ⟨hM.low hu6, hB6, by omega, by omega, by omega, by omega, by omega, by omega⟩)
      clear hq hB6 hu6 HM
      go_wp2_with fail
      go_loopw [16] (fun i wr => OwRel2 w b bg sp o g q n X zs (n + 3 + ((n + 2 : Nat) : Int)) i wr) (fun i _ => n - (intOf i).toNat)
      case atStart => exact ⟨0, _, rfl, by omega, H6.out.2.1, by simp [Hn.out.1], H6.out.1⟩
      case round =>
        obtain ⟨j, vs, rfl, hj, hV, hvl, hM⟩ := hrel
        by_cases hlt2 : (j : Int) < n
        · have cv := hV.cell (i := j) (List.getElem?_eq_getElem (by omega))
          generalize vs[j] = vj at cv
          have fv := hV.frozen j
          have HV := Lib.hid (And.intro hV (And.intro hvl hM))
          clear hV hvl hM
          go_wp2_with fail
          go_roundw
          case rel =>
            obtain ⟨a1, a2, a3, a4, a5, a6⟩ := H6.out.2.2
            exact ⟨j + 1, _, by go_num, by omega, HV.out.1.put j (.int .u64 77), by rw [List.length_set]; exact HV.out.2.1, HV.out.2.2.setFar (p := ⟨q, j, none⟩) a1 a2 a3 a4 a5 a6 _⟩
          case measure => simp [intOf]; omega
        · obtain rfl : j = n := by omega
          have HM := Lib.hid hM
          clear hV hvl hM H6
          go_wp2_with fail
          refine (Hgot.out _ HM.out.rd).mono ?_
          rintro e w7 ⟨q2, hq2, rfl, hB7, hu7⟩
          have H7 := Lib.hid (And.intro (HM.out.low hu7) hB7)
          clear hq2 hB7 hu7 HM
          go_wp2_with fail
          refine (touches_any b bg _ _ _ H7.out.1.bank).mono ?_
          rintro e w' ⟨rfl, rfl⟩
          have Hwd : Hid (Calls Try.prog 19 #[.slice (some ⟨q2, 0, none⟩) j j, .slice a j cap] w7 (Ret (.bool true) w7)) := Lib.hid (by
            obtain ⟨p1, p2, p3, p4, p5⟩ := Hn.out
            have := words_any (some ⟨q2, 0, none⟩) a ws ws j cap w7 (Rdw.of_blk H7.out.2) (HW.out.keep H7.out.1.bel).rdw (by omega)
            rw [decide_eq_true rfl, p1] at this
            exact this)
          have Hst7 : Hid (∀ W, RdAt W o g (spS j 2) X → Calls Try.prog 16 #[.pointer (some ⟨o, 0, none⟩), .pointer (some ⟨b, 0, none⟩)] W (Pur (.int .i64 1) W)) := Lib.hid (fun W h => by
            obtain ⟨y1, y2, y3, y4, y5⟩ := HE.out
            have := rstep_ended h (.pointer (some ⟨b, 0, none⟩)) (by rw [y5]; omega)
            rw [y5] at this
            exact this)
          have Hsp7 : Hid (∀ W, RdAt W o g (spS j 2) X → Calls Try.prog 17 #[.pointer (some ⟨o, 0, none⟩)] W (Pur (.int .i64 (j + 2)) W)) := Lib.hid (fun W h => by
            obtain ⟨y1, y2, y3, y4, y5⟩ := HE.out
            have := rsteps_any h
            rw [y4] at this
            exact this)
          generalize (j : Int) + 3 + ((j + 2 : Nat) : Int) = tt at *
          have mtt : (tt != tt) = false := by simp
          have mjj : (((j : Int) + 2) != ((j : Int) + 2)) = false := by simp
          go_wp2_with fail
          refine Hwd.out.mono ?_
          rintro e w8 ⟨rfl, hu8⟩
          have H8 := Lib.hid (H7.out.1.low hu8)
          clear hu8 Hwd H7
          go_wp2_with fail
          refine (Hst7.out _ H8.out.rd).mono ?_
          rintro e w' ⟨rfl, rfl⟩
          go_wp2_with fail
          refine (touches_any b bg _ _ _ H8.out.bank).mono ?_
          rintro e w' ⟨rfl, rfl⟩
          go_wp2_with fail
          refine (Hsp7.out _ H8.out.rd).mono ?_
          rintro e w' ⟨rfl, rfl⟩
          have e0 := H8.out.spot.cell (i := 0) rfl
          have e1 := H8.out.spot.cell (i := 1) rfl
          have e2 := H8.out.spot.cell (i := 2) rfl
          have e3 := H8.out.spot.cell (i := 3) rfl
          have e4 := H8.out.spot.cell (i := 4) rfl
          have Hn1' := Lib.hid (show ∀ W, Calls Try.prog 9 #[.agg #[.int .i64 0, .int .i64 1, .int .i64 2, .int .i64 j, .int .i64 2], .int .i64 1] W (RNewOp (spS j 2) 1 W) from fun W => Hn1.out W)
          go_wp2_with fail
          refine (Hn1'.out _).mono ?_
          rintro e w9 ⟨po, pg, hpo, hpg, rfl, hP9, hu9⟩
          have H9 : Hid (OwM w b bg sp o g j 2 X zs tt w9 ∧ RdAt w9 po pg (spS j 2) (rst0 1) ∧ (w.heap.size ≤ po ∧ w.heap.size ≤ pg)) := Lib.hid ⟨H8.out.low hu9, hP9, by have := H8.out.bel.size; omega⟩
          clear hpo hpg hP9 hu9 H8 e0 e1 e2 e3 e4
          have e0 := H9.out.1.spot.cell (i := 0) rfl
          have e1 := H9.out.1.spot.cell (i := 1) rfl
          have e2 := H9.out.1.spot.cell (i := 2) rfl
          have e3 := H9.out.1.spot.cell (i := 3) rfl
          have e4 := H9.out.1.spot.cell (i := 4) rfl
          go_wp2_with fail
          refine (Hn1'.out _).mono ?_
          rintro e w10 ⟨ro, rg, hro, hrg, rfl, hR10, hu10⟩
          have H10 : Hid (RdAt w10 po pg (spS j 2) (rst0 1) ∧ (w.heap.size ≤ po ∧ w.heap.size ≤ pg) ∧ RdAt w10 ro rg (spS j 2) (rst0 1) ∧ (po ≠ ro ∧ po ≠ rg ∧ w.heap.size ≤ ro ∧ w.heap.size ≤ rg) ∧ Below w.heap.size w w10) := Lib.hid (by
            obtain ⟨q1, q2, q3⟩ := H9.out
            have l1 := q2.lto
            have l2 := q2.ltg
            have l3 := q1.bel.size
            exact ⟨q2.below hu10, q3, hR10, by omega, (q1.low hu10).bel⟩)
          clear hro hrg hR10 hu10 H9 e0 e1 e2 e3 e4 Hn1' Hn1
          go_wp2_with fail
          refine (Hbn.out _).mono ?_
          rintro e w11 ⟨cb, cg, hcb, hcg, rfl, hC11, hu11⟩
          have H11 : Hid (RdAt w11 po pg (spS j 2) (rst0 1) ∧ w.heap.size ≤ po ∧ RdAt w11 ro rg (spS j 2) (rst0 1) ∧ Bk w11 cb cg (List.replicate nb 0) 0 ∧ Below w.heap.size w w11 ∧ (po ≠ ro ∧ po ≠ rg ∧ po ≠ cb ∧ po ≠ cg)) := Lib.hid (by
            obtain ⟨q1, q2, q3, q4, q5⟩ := H10.out
            have l1 := q1.lto
            exact ⟨q1.below hu11, q2.1, q3.below hu11, hC11, q5.trans (hu11.mono q5.size), by omega, by omega, by omega, by omega⟩)
          have HD : Hid (ro ≠ cb ∧ ro ≠ cg ∧ rg ≠ cb ∧ rg ≠ cg ∧ w.heap.size ≤ ro ∧ w.heap.size ≤ rg ∧ w.heap.size ≤ cb ∧ w.heap.size ≤ cg) := Lib.hid (by
            obtain ⟨q1, q2, q3, q4, q5⟩ := H10.out
            have l1 := q3.lto
            have l2 := q3.ltg
            have l3 := q5.size
            omega)
          clear hcb hcg hC11 hu11 H10
          have hwf0 : RWf (spS j 2) (rst0 1) := rwf0 Hmb1.out
          have Hpn := Lib.hid (rstep_bank_nil H11.out.1 hwf0 rfl)
          clear hwf0
          go_wp2_with fail
          refine Hpn.out.mono ?_
          rintro e w12 ⟨rfl, hP12, hu12⟩
          have H12 : Hid (RdAt w12 po pg (spS j 2) { rst0 1 with how := 3 } ∧ RdAt w12 ro rg (spS j 2) (rst0 1) ∧ Bk w12 cb cg (List.replicate nb 0) 0 ∧ Below w.heap.size w w12) := Lib.hid (by
            obtain ⟨q1, q2, q3, q4, q5, q6, q7, q8, q9⟩ := H11.out
            have nO : ∀ k, k ≠ po → ¬ OwnS po po po k := fun k c q => by rcases q with q | q | q <;> exact c q
            exact ⟨hP12, q3.upd hu12 (nO _ q6.symm) (nO _ q7.symm), q4.upd hu12 (nO _ q8.symm) (nO _ q9.symm), Below.ownS q5 hu12 q5.size q2 q2 q2⟩)
          clear Hpn H11 hP12 hu12
          go_wp2_with fail
          refine (rstep_ended H12.out.1 _ (by show ¬ (3 : Int) = 0; omega)).mono ?_
          rintro e w' ⟨rfl, rfl⟩
          have Hps : Hid (Calls Try.prog 17 #[.pointer (some ⟨po, 0, none⟩)] w12 (Pur (.int .i64 0) w12)) := Lib.hid (rsteps_any H12.out.1)
          go_wp2_with fail
          refine Hps.out.mono ?_
          rintro e w' ⟨rfl, rfl⟩
          have H13 := Lib.hid H12.out.2
          clear H12 Hps
          go_wp2_with fail
          by_cases hbig : j + 2 ≤ nb
          · have kb : (j : Int) + 2 ≤ nb := by omega
            go_loopw [25] (fun i wr => OwRel3 w cb cg ro rg j nb i wr) (fun i _ => 60 - (intOf i).toNat)
            case atStart => exact ⟨0, rfl, by omega, by omega, (by obtain ⟨q1, q2, q3⟩ := H13.out; exact q2), (by rw [rqa_zero]; exact H13.out.1), H13.out.2.2⟩
            case round =>
              obtain ⟨i, rfl, hi, hi2, hK, hR, hb⟩ := hrel
              have Hst : Hid (Calls Try.prog 16 #[.pointer (some ⟨ro, 0, none⟩), .pointer (some ⟨cb, 0, none⟩)] wr (RdPost ro rg cb cg (spS j ((2 : Nat) : Int)) (List.replicate nb 0) (rqa (List.replicate nb 0) j 1 0 (gat j 2 0) (i + 1), 1) i wr)) := Lib.hid (by
                obtain ⟨p1, p2, p3, p4, p5⟩ := Hn.out
                obtain ⟨x1, x2, x3, x4, _⟩ := HD.out
                have hw := rwf_rqa (zs := List.replicate nb 0) (n := j) (d := 2) (G := 0) (tr := 1) p2 (by omega) (by omega) (by omega) (by omega) (by omega) (rep_u nb) u64_zero i (by omega)
                have hs := rqa_steps (xs := List.replicate nb 0) (n := j) (d := 2) (G := 0) (tr := 1) i
                have := rstep_any hR hK x1 x2 x3 x4 hw (by omega) (by omega) (by rw [hs]; omega) (by rw [hs]; omega)
                have hx : (List.replicate nb (0 : Int))[1]? = some 0 := by rw [List.getElem?_replicate, if_pos (by omega)]
                by_cases c : i = j + 1
                · subst c
                  have e1 : rqa (List.replicate nb 0) j 1 0 (gat j 2 0) (j + 1) = rq (List.replicate nb 0) j 1 0 (gat j 2 0) (j + 1) := by unfold rqa; rw [if_neg (by omega)]
                  rw [show rst (spS (j : Int) ((2 : Nat) : Int)) (List.replicate nb 0) (rqa (List.replicate nb 0) j 1 0 (gat j 2 0) (j + 1)) = (rqa (List.replicate nb 0) j 1 0 (gat j 2 0) (j + 1 + 1), 1) from by
                    rw [e1, rq_last hx (by rfl) u64_zero p2 (by omega) (by omega), rqa_end]] at this
                  exact this
                · have e1 : rqa (List.replicate nb 0) j 1 0 (gat j 2 0) i = rq (List.replicate nb 0) j 1 0 (gat j 2 0) i := by unfold rqa; rw [if_neg (by omega)]
                  have e2 : rqa (List.replicate nb 0) j 1 0 (gat j 2 0) (i + 1) = rq (List.replicate nb 0) j 1 0 (gat j 2 0) (i + 1) := by unfold rqa; rw [if_neg (by omega)]
                  rw [show rst (spS (j : Int) ((2 : Nat) : Int)) (List.replicate nb 0) (rqa (List.replicate nb 0) j 1 0 (gat j 2 0) i) = (rqa (List.replicate nb 0) j 1 0 (gat j 2 0) (i + 1), 1) from by
                    rw [e1, e2, rq_step hx (by rfl) p2 (by omega) (by omega) (by omega) (by omega) (fun _ => by rw [gat0, List.length_replicate]; omega)]] at this
                  exact this)
              have Hb := Lib.hid hb
              clear hK hR hb
              have hi60 : (i : Int) < 60 := by have := Hn.out; omega
              by_cases c : i = j + 1
              · subst c
                rw [show j + 1 + 1 = j + 2 from rfl, rqa_end] at Hst
                go_wp2_with fail
                refine Hst.out.mono ?_
                rintro e w14 ⟨rfl, hR, hK, hu⟩
                dsimp only
                rw [show (rqE (List.replicate nb 0) j 1 0 (gat j 2 0)).how = 1 from rfl]
                change RdAt w14 ro rg (spS (j : Int) ((2 : Nat) : Int)) (rqE (List.replicate nb 0) j 1 0 (gat j 2 0)) at hR
                have He := Lib.hid (rstep_ended hR (.pointer (some ⟨cb, 0, none⟩)) (by show ¬ (1 : Int) = 0; omega))
                have Hs2 : Hid (Calls Try.prog 17 #[.pointer (some ⟨ro, 0, none⟩)] w14 (Pur (.int .i64 (j + 2)) w14)) := Lib.hid (rsteps_any hR)
                obtain ⟨x1, x2, x3, x4, x5, x6, x7, x8⟩ := HD.out
                have Hb2 := Lib.hid (Below.ownR Hb.out hu Hb.out.size x5 x6 x7 x8)
                clear hR hK hu Hst Hb x1 x2 x3 x4 x5 x6 x7 x8
                have mjj : (((j : Int) + 2) == ((j : Int) + 2)) = true := by simp
                change Hid (Calls Try.prog 16 #[.pointer (some ⟨ro, 0, none⟩), .pointer (some ⟨cb, 0, none⟩)] w14 (Pur (.int .i64 1) w14)) at He
                go_wp2_with fail
                refine He.out.mono ?_
                rintro e w' ⟨rfl, rfl⟩
                go_wp2_with fail
                refine Hs2.out.mono ?_
                rintro e w' ⟨rfl, rfl⟩
                go_wp2_with fail
                refine (awake_any _).mono ?_
                rintro e w15 ⟨rfl, hu15⟩
                have H15 := Lib.hid (Hb2.out.trans (hu15.mono Hb2.out.size))
                clear hu15
                go_wp2
                go_ret
                exact ⟨rfl, H15.out⟩
              · have Hh := Lib.hid (rqa_how (xs := List.replicate nb 0) (n := j) (d := 2) (G := 0) (tr := 1) (j := i + 1) (by omega))
                go_wp2_with fail
                refine Hst.out.mono ?_
                rintro e w14 ⟨rfl, hR, hK, hu⟩
                dsimp only
                rw [Hh.out]
                obtain ⟨x1, x2, x3, x4, x5, x6, x7, x8⟩ := HD.out
                have HB := Lib.hid (And.intro hR (And.intro hK (Below.ownR Hb.out hu Hb.out.size x5 x6 x7 x8)))
                clear hR hK hu Hst Hb x1 x2 x3 x4 x5 x6 x7 x8
                go_wp2_with fail
                go_roundw
                case rel => exact ⟨i + 1, by go_num, by omega, by omega, (by have := HB.out.2.1; exact this), HB.out.1, HB.out.2.2⟩
                case measure => simp [intOf]; omega
          · have kb : (nb : Int) < (j : Int) + 2 := by omega
            go_loopw [25] (fun i wr => OwRel3 w cb cg ro rg j nb i wr) (fun i _ => 60 - (intOf i).toNat)
            case atStart => exact ⟨0, rfl, by omega, by have := Hn.out; omega, (by obtain ⟨q1, q2, q3⟩ := H13.out; exact q2), (by rw [rqa_zero]; exact H13.out.1), H13.out.2.2⟩
            case round =>
              obtain ⟨i, rfl, hi, hi2, hK, hR, hb⟩ := hrel
              have Hb := Lib.hid hb
              clear hb
              have hi60 : (i : Int) < 60 := by have := Hn.out; omega
              by_cases c : i + 1 = nb
              · have Hst : Hid (Calls Try.prog 16 #[.pointer (some ⟨ro, 0, none⟩), .pointer (some ⟨cb, 0, none⟩)] wr (RdPost ro rg cb cg (spS (j : Int) ((2 : Nat) : Int)) (List.replicate nb 0) ({ rqa (List.replicate nb 0) j 1 0 (gat j 2 0) i with how := 3 }, 0) i wr)) := Lib.hid (by
                  obtain ⟨p1, p2, p3, p4, p5⟩ := Hn.out
                  obtain ⟨x1, x2, x3, x4, _⟩ := HD.out
                  have hw := rwf_rqa (zs := List.replicate nb 0) (n := j) (d := 2) (G := 0) (tr := 1) p2 (by omega) (by omega) (by omega) (by omega) (by omega) (rep_u nb) u64_zero i (by omega)
                  have hs := rqa_steps (xs := List.replicate nb 0) (n := j) (d := 2) (G := 0) (tr := 1) i
                  have := rstep_any hR hK x1 x2 x3 x4 hw (by omega) (by omega) (by rw [hs]; omega) (by rw [hs]; omega)
                  have e1 : rqa (List.replicate nb 0) j 1 0 (gat j 2 0) i = rq (List.replicate nb 0) j 1 0 (gat j 2 0) i := by unfold rqa; rw [if_neg (by omega)]
                  by_cases c0 : i = 0
                  · subst c0
                    have h1 := rq_out0 (xs := List.replicate nb 0) (n := j) (d := 2) (tr := 1) (by simp; omega)
                    rw [← rqa_zero (xs := List.replicate nb 0) (n := j) (G := 0) (A := gat j 2 0)] at h1
                    rw [h1] at this
                    exact this
                  · obtain ⟨m, rfl⟩ : ∃ m, i = m + 1 := ⟨i - 1, by omega⟩
                    have h1 := rq_out (xs := List.replicate nb 0) (n := j) (d := 2) (G := 0) (tr := 1) p2 (by omega) (by omega) (by omega) (m := m) (by omega) (by rw [gat0, List.length_replicate]; omega)
                    rw [← e1] at h1
                    rw [h1] at this
                    exact this)
                have Hsi := Lib.hid (rqa_steps (xs := List.replicate nb 0) (n := j) (d := 2) (G := 0) (tr := 1) i)
                generalize rqa (List.replicate nb 0) j 1 0 (gat j 2 0) i = Y at *
                clear hK hR
                go_wp2_with fail
                refine Hst.out.mono ?_
                rintro e w14 ⟨rfl, hR, hK, hu⟩
                have He := Lib.hid (rstep_ended hR (.pointer (some ⟨cb, 0, none⟩)) (by show ¬ (3 : Int) = 0; omega))
                have hs2 := rsteps_any hR
                dsimp only at hs2
                rw [Hsi.out] at hs2
                have Hs2 := Lib.hid hs2
                obtain ⟨x1, x2, x3, x4, x5, x6, x7, x8⟩ := HD.out
                have Hb2 := Lib.hid (Below.ownR Hb.out hu Hb.out.size x5 x6 x7 x8)
                have mii : ((i : Int) == max 0 ((nb : Int) - 1)) = true := by simp; omega
                clear hR hK hu Hst Hb x1 x2 x3 x4 x5 x6 x7 x8 hs2
                go_wp2_with fail
                refine He.out.mono ?_
                rintro e w' ⟨rfl, rfl⟩
                go_wp2_with fail
                refine Hs2.out.mono ?_
                rintro e w' ⟨rfl, rfl⟩
                go_wp2_with fail
                refine (awake_any _).mono ?_
                rintro e w15 ⟨rfl, hu15⟩
                have H15 := Lib.hid (Hb2.out.trans (hu15.mono Hb2.out.size))
                clear hu15
                go_wp2
                go_ret
                exact ⟨rfl, H15.out⟩
              · have Hst : Hid (Calls Try.prog 16 #[.pointer (some ⟨ro, 0, none⟩), .pointer (some ⟨cb, 0, none⟩)] wr (RdPost ro rg cb cg (spS (j : Int) ((2 : Nat) : Int)) (List.replicate nb 0) (rqa (List.replicate nb 0) j 1 0 (gat j 2 0) (i + 1), 1) i wr)) := Lib.hid (by
                  obtain ⟨p1, p2, p3, p4, p5⟩ := Hn.out
                  obtain ⟨x1, x2, x3, x4, _⟩ := HD.out
                  have hw := rwf_rqa (zs := List.replicate nb 0) (n := j) (d := 2) (G := 0) (tr := 1) p2 (by omega) (by omega) (by omega) (by omega) (by omega) (rep_u nb) u64_zero i (by omega)
                  have hs := rqa_steps (xs := List.replicate nb 0) (n := j) (d := 2) (G := 0) (tr := 1) i
                  have := rstep_any hR hK x1 x2 x3 x4 hw (by omega) (by omega) (by rw [hs]; omega) (by rw [hs]; omega)
                  have hx : (List.replicate nb (0 : Int))[1]? = some 0 := by rw [List.getElem?_replicate, if_pos (by omega)]
                  have e1 : rqa (List.replicate nb 0) j 1 0 (gat j 2 0) i = rq (List.replicate nb 0) j 1 0 (gat j 2 0) i := by unfold rqa; rw [if_neg (by omega)]
                  have e2 : rqa (List.replicate nb 0) j 1 0 (gat j 2 0) (i + 1) = rq (List.replicate nb 0) j 1 0 (gat j 2 0) (i + 1) := by unfold rqa; rw [if_neg (by omega)]
                  have h1 := rq_step (d := 2) (G := 0) (tr := 1) hx (by rfl) p2 (by omega) (by omega) (by omega) (j := i) (by omega) (fun _ => by rw [gat0, List.length_replicate]; omega)
                  rw [← e1, ← e2] at h1
                  rw [h1] at this
                  exact this)
                have Hh := Lib.hid (rqa_how (xs := List.replicate nb 0) (n := j) (d := 2) (G := 0) (tr := 1) (j := i + 1) (by omega))
                clear hK hR
                go_wp2_with fail
                refine Hst.out.mono ?_
                rintro e w14 ⟨rfl, hR, hK, hu⟩
                dsimp only
                rw [Hh.out]
                obtain ⟨x1, x2, x3, x4, x5, x6, x7, x8⟩ := HD.out
                have HB := Lib.hid (And.intro hR (And.intro hK (Below.ownR Hb.out hu Hb.out.size x5 x6 x7 x8)))
                clear hR hK hu Hst Hb x1 x2 x3 x4 x5 x6 x7 x8
                go_wp2_with fail
                go_roundw
                case rel => exact ⟨i + 1, by go_num, by omega, by omega, (by have := HB.out.2.1; exact this), HB.out.1, HB.out.2.2⟩
                case measure => simp [intOf]; omega
theorem own_law (a : Option Addr) (ws : List Int) (cap : Nat) (m : Int) (w : World) (hW : Wds w.heap.size w a ws) : Calls Try.prog 6 #[.slice a ws.length cap, .int .i64 m] w (True1 w) := by
  by_cases h : 1 ≤ ws.length ∧ ws.length ≤ 20 ∧ 1 ≤ m ∧ m ≤ 60
  · obtain ⟨h1, h2, h3, h4⟩ := h
    obtain ⟨k, rfl⟩ := Int.eq_ofNat_of_zero_le (by omega : 0 ≤ m)
    exact own_walk a ws cap k w hW _ rfl h1 h2 (by omega) (by omega)
  · exact own_bad a _ cap m w h
end Go.Proofs.Ytajibhhmcjcchaa
