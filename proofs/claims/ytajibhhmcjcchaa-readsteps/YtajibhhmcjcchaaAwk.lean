/- The chapter's example, that each law ends with. -/
import Derived.Test.YtajibhhmcjcchaaRStp
import Derived.Test.YtajibhhmcjcchaaRdG
import Derived.Deep.RegionWith
namespace Go.Proofs.Ytajibhhmcjcchaa
open Go.RowKit

theorem Below.ownS {B o b g : Nat} {a w w' : World} (h : Below B a w) (u : Upd (OwnS o b g) w w') (hs : B ≤ w.heap.size) (ho : B ≤ o) (hb : B ≤ b) (hg : B ≤ g) : Below B a w' :=
  h.trans (u.below hs (fun k hk => by rcases hk with rfl | rfl | rfl <;> assumption))
def intOf : Value → Int | .int _ q => q | _ => 0
/-- The example's spot, and what is at hand. -/
def exS : Sp := ⟨9, 10, 11, 2, 3⟩
abbrev exZ : List Int := List.replicate 20 0
def exP : RSt × Int := (rst0 1, 0)
theorem ex_how : ∀ k, k < 3 → (rst exS exZ (rnn exS exZ exP k).1).1.how = 0 := by decide +kernel
theorem ex_end : (rst exS exZ (rnn exS exZ exP 3).1) = (⟨1, 2, 1, 4, 1, 0, [0, 0]⟩, 1) := by
  simp [rnn, exP, exS, rst0, rst, getI, rdl, atv, okS, List.replicate, Sq.kp, Sq.bg]
/-- What holds at the head of the loop. -/
def AwRel (w : World) (b bg o g : Nat) (i : Value) (wr : World) : Prop :=
  ∃ k : Nat, k ≤ 3 ∧ i = .int .i64 k ∧ RdAt wr o g exS (rnn exS exZ exP k).1 ∧ Bk wr b bg exZ (rnn exS exZ exP k).2 ∧ Below w.heap.size w wr
theorem ex_wf0 : RWf exS exP.1 := rwf0 (by decide +kernel)
theorem ex_u : ∀ v ∈ exZ, U64 v := fun v hv => by rw [List.eq_of_mem_replicate hv]; exact u64_zero

set_option maxRecDepth 100000 in
set_option maxHeartbeats 1000000 in
theorem awake_any (w : World) : Calls Try.prog 7 #[] w (True1 w) := by
  have HN := Lib.hid (fun w => rnew_ok exS 1 w (by decide +kernel))
  unfold exS at HN
  go_enter Try.func7, Try.ntmps7
  go_wp2_with fail
  refine (new_ok 20 w (by omega) (by omega)).mono ?_
  rintro e w1 ⟨b, bg, hb, hg, rfl, hk1, hu1⟩
  have H1 := Lib.hid (And.intro hk1 hu1)
  clear hk1 hu1
  go_wp2_with fail
  refine (HN.out _).mono ?_
  rintro e w3 ⟨o, g, ho, hgg, rfl, hO, hu3⟩
  have hk3 := H1.out.1.below hu3
  have hu4 := H1.out.2.trans (hu3.mono H1.out.2.size)
  have hd : o ≠ b ∧ o ≠ bg ∧ g ≠ b ∧ g ≠ bg ∧ w.heap.size ≤ o ∧ w.heap.size ≤ g := by
    have l1 := H1.out.1.ltb
    have l2 := H1.out.1.ltg
    have l3 := H1.out.2.size
    omega
  have Hd := Lib.hid (And.intro hb (And.intro hg hd))
  clear H1 HN hu3 ho hgg hd hb hg
  change RdAt w3 o g exS exP.1 at hO
  go_wp2_with fail
  go_loopw [5] (fun i wr => AwRel w b bg o g i wr) (fun i _ => 3 - (intOf i).toNat)
  case atStart => exact ⟨0, by omega, rfl, hO, hk3, hu4⟩
  case round =>
    clear hO hk3 hu4
    obtain ⟨k, hk4, rfl, hO1, hK1, hu⟩ := hrel
    obtain ⟨wf, p0, p1, q0, q1⟩ := rnn_wf ex_wf0 ex_u k
    have hp : exP.1.steps = 0 ∧ exP.2 = 0 := ⟨rfl, rfl⟩
    obtain ⟨hb, hg, d1, d2, d3, d4, d5, d6⟩ := Hd.out
    have hst := rstep_any hO1 hK1 d1 d2 d3 d4 wf (by omega) (by omega) (by omega) (by omega)
    have Hst := Lib.hid hst
    have Hu := Lib.hid hu
    clear hst hO1 hK1 hu wf p0 p1 q0 q1 d1 d2 d3 d4 hp hb hg d5 d6
    by_cases hlt : (k : Int) < 3
    · have Hh := Lib.hid (ex_how k (by omega))
      go_wp2_with fail
      refine Hst.out.mono ?_
      rintro e w5 ⟨rfl, hO2, hK2, hu2⟩
      rw [Hh.out]
      have hu5 := Below.ownR Hu.out hu2 Hu.out.size Hd.out.2.2.2.2.2.2.1 Hd.out.2.2.2.2.2.2.2 Hd.out.1 Hd.out.2.1
      clear hu2 Hst
      go_wp2_with fail
      go_roundw
      case rel => exact ⟨k + 1, by omega, by go_num, hO2, hK2, hu5⟩
      case measure => simp [intOf]; omega
    · obtain rfl : k = 3 := by omega
      go_wp2_with fail
      refine Hst.out.mono ?_
      rw [ex_end]
      rintro e w5 ⟨rfl, hO2, hK2, hu2⟩
      have hu5 := Below.ownR Hu.out hu2 Hu.out.size Hd.out.2.2.2.2.2.2.1 Hd.out.2.2.2.2.2.2.2 Hd.out.1 Hd.out.2.1
      have H5 := Lib.hid (And.intro hO2 hu5)
      clear hu2 Hst hO2 hK2 hu5 hlt Hu
      go_wp2_with fail
      refine (got_ok H5.out.1 rfl (by decide)).mono ?_
      rintro e w6 ⟨q, hq, rfl, hB, hu6⟩
      have c0 := hB.cell (i := 0) rfl
      have c1 := hB.cell (i := 1) rfl
      have H6 := Lib.hid (And.intro (H5.out.1.below hu6) (H5.out.2.trans (hu6.mono H5.out.2.size)))
      clear hB hu6 H5 hq
      go_wp2_with fail
      refine (rat_pur H6.out.1).mono ?_
      rintro e w7 ⟨rfl, rfl⟩
      go_wp2_with fail
      refine (rsteps_any H6.out.1).mono ?_
      rintro e w7 ⟨rfl, rfl⟩
      go_wp2
      go_ret
      exact ⟨rfl, H6.out.2⟩
end Go.Proofs.Ytajibhhmcjcchaa
