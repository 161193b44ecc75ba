/- The chapter's example, that each law ends with. -/
import Derived.Test.YtflgggfomhifeaaSnP
import Derived.Test.YtflgggfomhifeaaWor
import Derived.Deep.RegionWith
namespace Go.Proofs.Ytflgggfomhifeaa
open Go.RowKit

/-- The example's spots, and what is at hand. -/
abbrev exS : List Sp := [⟨0, 1, 2, 1, 2⟩, ⟨0, 5, 6, 1, 3⟩]
abbrev exZ : List Int := List.replicate 20 0
def exP : NSt × Int := (nst0 1, 0)
theorem ex_how : ∀ k, k < 5 → (nst exS exZ (nnn exS exZ exP k).1).1.how = 0 := by decide +kernel
theorem ex_end : (nst exS exZ (nnn exS exZ exP 5).1) = (⟨1, 2, 0, 0, 1, 6, 2, [0, 0, 0, 0]⟩, 1) := by
  simp [nnn, exP, exS, nst0, nst, getI, nxl, nxs, atv, okS, List.replicate]
theorem ex_flt : flt exS 1 = 0 := flt_mk (by decide) (by decide) (fun S hS => by
  simp only [exS, List.mem_cons, List.not_mem_nil, or_false] at hS
  rcases hS with rfl | rfl <;> decide) (by decide) (by decide)
/-- What holds at the head of the loop. -/
def AwRel (w : World) (b bg o gs g : Nat) (i : Value) (wr : World) : Prop :=
  ∃ k : Nat, k ≤ 5 ∧ i = .int .i64 k ∧ NAt wr o gs g exS (nnn exS exZ exP k).1 ∧ Bk wr b bg exZ (nnn exS exZ exP k).2 ∧ Below w.heap.size w wr
theorem ex_wf0 : NWf exS exP.1 := nwf0 ex_flt
theorem ex_u : ∀ v ∈ exZ, U64 v := fun v hv => by rw [List.eq_of_mem_replicate hv]; exact u64_zero
/-- The answer is true, and nothing that was there has turned. -/
abbrev exB : Obj := .cells #[.int .i64 0, .int .i64 1, .int .i64 2, .int .i64 1, .int .i64 2, .int .i64 0, .int .i64 5, .int .i64 6, .int .i64 1, .int .i64 3] 69
theorem ex_sps (w : World) : Sps (w.alloc exB).heap.size (w.alloc exB) (some ⟨w.heap.size, 0, none⟩) exS := fun j S hS => by
  have hB := Blk.new w #[.int .i64 0, .int .i64 1, .int .i64 2, .int .i64 1, .int .i64 2, .int .i64 0, .int .i64 5, .int .i64 6, .int .i64 1, .int .i64 3] 69
  match j, hS with
  | 0, hS => cases hS; exact ⟨_, _, rfl, by simp, hB.cell rfl, hB.cell rfl, hB.cell rfl, hB.cell rfl, hB.cell rfl⟩
  | 1, hS => cases hS; exact ⟨_, _, rfl, by simp, hB.cell rfl, hB.cell rfl, hB.cell rfl, hB.cell rfl, hB.cell rfl⟩
theorem ex_row (w : World) : Rdw (w.alloc (.cells #[.int .u64 0, .int .u64 0] 42)) (some ⟨w.heap.size, 0, none⟩) [0, 0] := Rdw.of_blk (Blk.new w #[.int .u64 0, .int .u64 0] 42)
theorem Orw.rdw {W : World} {q cap : Nat} {ws : List Int} (h : Orw W q cap ws) : Rdw W (some ⟨q, 0, none⟩) ws := fun j x hx => ⟨q, 0, rfl, by rw [Nat.zero_add]; exact h.cell hx⟩
set_option maxRecDepth 100000 in
set_option maxHeartbeats 1000000 in
theorem awake_any (w : World) : Calls Try.prog 8 #[] w (Ret (.bool true) w) := by
  have HN : Hid (∀ w a cap, Sps w.heap.size w a exS → Calls Try.prog 10 #[.slice a 2 cap, .int .i64 1] w (NNewOp exS 1 w)) := Lib.hid (fun w a cap hS => nnew_ok a cap exS 1 w hS ex_flt)
  go_enter Try.func8, Try.ntmps8
  go_wp2_with fail
  refine (new_ok 20 w (by omega) (by omega)).mono ?_
  rintro e w1 ⟨b, bg, hb, hg, rfl, hk1, hu1⟩
  have H1 := Lib.hid (And.intro (hk1.alloc exB) (hu1.alloc hu1.size exB))
  have hz : w.heap.size ≤ w1.heap.size := hu1.size
  have hbl := hk1.ltb
  have hgl := hk1.ltg
  have hs1 : (w1.alloc exB).heap.size = w1.heap.size + 1 := by simp
  have Hs := Lib.hid (And.intro hz (And.intro hbl (And.intro hgl hs1)))
  clear hk1 hu1 hz hbl hgl hs1
  go_wp2_with fail
  refine (HN.out _ _ _ (ex_sps w1)).mono ?_
  rintro e w3 ⟨o, gs, g, ho, hgs, hgg, rfl, hO, hu3⟩
  have hk3 := H1.out.1.below hu3
  have hu4 := H1.out.2.trans (hu3.mono H1.out.2.size)
  have hd : Apt o gs g b bg ∧ w.heap.size ≤ o ∧ w.heap.size ≤ g := by
    obtain ⟨l1, l2, l3, l4⟩ := Hs.out
    unfold Apt
    omega
  have Hd := Lib.hid (And.intro hb (And.intro hg hd))
  clear H1 HN hu3 ho hgg hd hb hg hgs Hs
  change NAt w3 o gs g exS exP.1 at hO
  go_wp2_with fail
  go_loopw [5] (fun i wr => AwRel w b bg o gs g i wr) (fun i _ => 5 - (intOf i).toNat)
  case atStart => exact ⟨0, by omega, rfl, hO, hk3, hu4⟩
  case round =>
    clear hO hk3 hu4
    obtain ⟨k, hk4, rfl, hO1, hK1, hu⟩ := hrel
    obtain ⟨wf, p0, p1, q0, q1⟩ := nnn_wf ex_wf0 ex_u k
    have hp : exP.1.steps = 0 ∧ exP.2 = 0 := ⟨rfl, rfl⟩
    have hst := nstep_any hO1 hK1 Hd.out.2.2.1 wf (by omega) (by omega) (by omega) (by omega)
    have Hst := Lib.hid hst
    have Hu := Lib.hid hu
    clear hst hO1 hK1 hu wf p0 p1 q0 q1 hp
    by_cases hlt : (k : Int) < 5
    · have Hh := Lib.hid (ex_how k (by omega))
      go_wp2_with fail
      refine Hst.out.mono ?_
      rintro e w5 ⟨rfl, hO2, hK2, hu2⟩
      rw [Hh.out]
      have hu5 := Below.ownN Hu.out hu2 Hu.out.size Hd.out.2.2.2.1 Hd.out.2.2.2.2 Hd.out.1 Hd.out.2.1
      clear hu2 Hst
      go_wp2_with fail
      go_roundw
      case rel => exact ⟨k + 1, by omega, by go_num, hO2, hK2, hu5⟩
      case measure => simp [intOf]; omega
    · obtain rfl : k = 5 := by omega
      go_wp2_with fail
      refine Hst.out.mono ?_
      rw [ex_end]
      rintro e w5 ⟨rfl, hO2, hK2, hu2⟩
      have hu5 := Below.ownN Hu.out hu2 Hu.out.size Hd.out.2.2.2.1 Hd.out.2.2.2.2 Hd.out.1 Hd.out.2.1
      have H5 := Lib.hid (And.intro hO2 hu5)
      clear hu2 Hst hO2 hK2 hu5 hlt Hu
      go_wp2_with fail
      refine (ngot_ok H5.out.1 rfl 2 rfl (by omega) (by decide) (by omega) (by decide) (by decide)).mono ?_
      rintro e w6 ⟨q1, c1, q2, c2, rfl, hq1, hq2, hqq, hO1, hO2, hu6⟩
      change Orw w6 q1 c1 [0, 0] at hO1
      change Orw w6 q2 c2 [0, 0] at hO2
      have H6 := Lib.hid (And.intro (H5.out.1.below hu6) (H5.out.2.trans (hu6.mono H5.out.2.size)))
      have Hq := Lib.hid (And.intro hO1 hO2)
      clear hO1 hO2 hu6 H5 hq1 hq2 hqq
      go_wp2_with fail
      refine (words_any _ _ [0, 0] [0, 0] c1 _ _ (Hq.out.1.low ((Below.refl _ w6).alloc (Nat.le_refl _) _)).rdw (ex_row w6) (by decide)).mono ?_
      rintro e w7 ⟨rfl, hb7⟩
      have hb7' := ((Below.refl _ w6).alloc (Nat.le_refl _) (.cells #[.int .u64 0, .int .u64 0] 42)).trans (hb7.mono (by simp))
      have H7 := Lib.hid (And.intro (H6.out.1.below hb7') (And.intro (H6.out.2.trans (hb7'.mono H6.out.2.size)) (Hq.out.2.low hb7')))
      clear hb7 hb7' H6 Hq
      go_wp2_with fail
      refine (words_any _ _ [0, 0] [0, 0] c2 _ _ (H7.out.2.2.low ((Below.refl _ w7).alloc (Nat.le_refl _) _)).rdw (ex_row w7) (by decide)).mono ?_
      rintro e w8 ⟨rfl, hb8⟩
      have hb8' := ((Below.refl _ w7).alloc (Nat.le_refl _) (.cells #[.int .u64 0, .int .u64 0] 42)).trans (hb8.mono (by simp))
      have H8 := Lib.hid (And.intro (H7.out.1.below hb8') (H7.out.2.1.trans (hb8'.mono H7.out.2.1.size)))
      clear hb8 hb8' H7
      go_wp2_with fail
      refine (nat_pur H8.out.1).mono ?_
      rintro e w9 ⟨rfl, rfl⟩
      go_wp2_with fail
      refine (nsteps_any H8.out.1).mono ?_
      rintro e w9 ⟨rfl, rfl⟩
      go_wp2
      go_ret
      exact ⟨rfl, H8.out.2⟩
end Go.Proofs.Ytflgggfomhifeaa
