/- The chapter's example, that each law ends with. -/
import Derived.Test.YtbfelghfimcenaaNewO
import Derived.Test.YtbfelghfimcenaaNew
import Derived.Deep.RegionWith
namespace Go.Proofs.Ytbfelghfimcenaa
open Go.RowKit

/-- So many steps of one publishing. -/
def rn (S : Sp) (ws : List Int) (p : St × List Int × Int) : Nat → St × List Int × Int
  | 0 => p
  | k + 1 => ((stp S ws (rn S ws p k).2.1 (rn S ws p k).1).1, (stp S ws (rn S ws p k).2.1 (rn S ws p k).1).2.1, (rn S ws p k).2.2 + (stp S ws (rn S ws p k).2.1 (rn S ws p k).1).2.2)
theorem rn_wf {S : Sp} {ws : List Int} {p : St × List Int × Int} (h : Wf S ws p.1) (hx : ∀ v ∈ p.2.1, U64 v) (k : Nat) : Wf S ws (rn S ws p k).1 ∧ (∀ v ∈ (rn S ws p k).2.1, U64 v) ∧
    (rn S ws p k).2.1.length = p.2.1.length ∧ p.1.steps ≤ (rn S ws p k).1.steps ∧ (rn S ws p k).1.steps ≤ p.1.steps + k ∧ p.2.2 ≤ (rn S ws p k).2.2 ∧ (rn S ws p k).2.2 ≤ p.2.2 + k ∧ (rn S ws p k).2.2 - p.2.2 = (rn S ws p k).1.steps - p.1.steps := by
  induction k with
  | zero => exact ⟨h, hx, rfl, by show p.1.steps ≤ p.1.steps; omega, by show p.1.steps ≤ _; omega, by show p.2.2 ≤ p.2.2; omega, by show p.2.2 ≤ _; omega, by show p.2.2 - p.2.2 = p.1.steps - p.1.steps; omega⟩
  | succ k ih =>
    obtain ⟨h1, h2, h3, h4, h5, h6, h7, h8⟩ := ih
    obtain ⟨s1, s2, s3⟩ := steps_stp S ws (rn S ws p k).2.1 (rn S ws p k).1
    refine ⟨wf_stp h1 h2, u64_stp h2 h1, (len_stp _ _ _ _).trans h3, ?_, ?_, ?_, ?_, ?_⟩
    · show _ ≤ (stp S ws (rn S ws p k).2.1 (rn S ws p k).1).1.steps; omega
    · show (stp S ws (rn S ws p k).2.1 (rn S ws p k).1).1.steps ≤ _; omega
    · show _ ≤ (rn S ws p k).2.2 + (stp S ws (rn S ws p k).2.1 (rn S ws p k).1).2.2; omega
    · show (rn S ws p k).2.2 + (stp S ws (rn S ws p k).2.1 (rn S ws p k).1).2.2 ≤ _; omega
    · show (rn S ws p k).2.2 + (stp S ws (rn S ws p k).2.1 (rn S ws p k).1).2.2 - _ = (stp S ws (rn S ws p k).2.1 (rn S ws p k).1).1.steps - _; omega
def intOf : Value → Int | .int _ q => q | _ => 0
/-- The example's spot, and what is at hand. -/
def exS : Sp := ⟨9, 10, 11, 2, 3⟩
def exP : St × List Int × Int := (st0 1, List.replicate 20 0, 0)
theorem ex_how : ∀ k, k < 4 → (stp exS [5, 6] (rn exS [5, 6] exP k).2.1 (rn exS [5, 6] exP k).1).1.how = 0 := by decide +kernel
theorem ex_end : (stp exS [5, 6] (rn exS [5, 6] exP 4).2.1 (rn exS [5, 6] exP 4).1) = (⟨1, 5, 1, 3, 2, 0⟩, [0, 0, 0, 0, 0, 0, 0, 0, 0, 0, 2, 0, 0, 5, 6, 0, 0, 0, 0, 0], 1) := by
  simp [rn, exP, exS, st0, stp, getI, lie, atv, okS, addw, List.replicate, IntKind.wrap_u64]
theorem ex_four : (rn exS [5, 6] exP 4).2.2 = 4 := by decide +kernel
/-- What holds at the head of the loop. -/
def AwRel (w : World) (b bg o g : Nat) (i : Value) (wr : World) : Prop :=
  ∃ k : Nat, k ≤ 4 ∧ i = .int .i64 k ∧ OpAt wr o g exS [5, 6] (rn exS [5, 6] exP k).1 ∧ Bk wr b bg (rn exS [5, 6] exP k).2.1 (rn exS [5, 6] exP k).2.2 ∧ Below w.heap.size w wr
theorem Below.ownS {B o b g : Nat} {a w w' : World} (h : Below B a w) (u : Upd (OwnS o b g) w w') (hs : B ≤ w.heap.size) (ho : B ≤ o) (hb : B ≤ b) (hg : B ≤ g) : Below B a w' :=
  h.trans (u.below hs (fun k hk => by rcases hk with rfl | rfl | rfl <;> assumption))
theorem u56 : U64 5 ∧ U64 6 := by unfold U64; omega
theorem ex_wf0 : Wf exS [5, 6] exP.1 := wf0 (by decide +kernel) (fun v hv => by
  simp only [List.mem_cons, List.not_mem_nil, or_false] at hv
  rcases hv with rfl | rfl
  · exact u56.1
  · exact u56.2)
theorem ex_u : ∀ v ∈ exP.2.1, U64 v := fun v hv => by rw [List.eq_of_mem_replicate hv]; exact u64_zero

set_option maxRecDepth 100000 in
set_option maxHeartbeats 1000000 in
theorem awake_any (w : World) : Calls Try.prog 9 #[] w (True1 w) := by
  go_enter Try.func9, Try.ntmps9
  go_wp2_with fail
  refine (new_ok 20 w (by omega) (by omega)).mono ?_
  rintro e w1 ⟨b, bg, hb, hg, rfl, hk1, hu1⟩
  have hs1 := hu1.size
  have hlb := hk1.ltb
  have hlg := hk1.ltg
  have hk2 := hk1.alloc (.cells #[.int .u64 5, .int .u64 6] 49)
  have hu2 := hu1.alloc hs1 (.cells #[.int .u64 5, .int .u64 6] 49)
  have hn := Blk.new w1 #[.int .u64 5, .int .u64 6] 49
  have hW : Wds (w1.heap.size + 1) (w1.alloc (.cells #[.int .u64 5, .int .u64 6] 49)) (some ⟨w1.heap.size, 0, none⟩) [5, 6] := by
    intro j x hx
    match j, hx with
    | 0, hx => cases hx; exact ⟨u56.1, _, _, rfl, by omega, hn.cell rfl⟩
    | 1, hx => cases hx; exact ⟨u56.2, _, _, rfl, by omega, hn.cell rfl⟩
  have hN : Calls Try.prog 11 #[.agg #[.int .i64 9, .int .i64 10, .int .i64 11, .int .i64 2, .int .i64 3], .slice (some ⟨w1.heap.size, 0, none⟩) 2 2, .int .i64 1] (w1.alloc (.cells #[.int .u64 5, .int .u64 6] 49)) _ :=
    newo_ok exS (some ⟨w1.heap.size, 0, none⟩) [5, 6] 2 1 (w1.alloc (.cells #[.int .u64 5, .int .u64 6] 49)) (w1.heap.size + 1) (by simp) hW (by decide +kernel)
  have HN := Lib.hid (And.intro hN (And.intro hk2 hu2))
  clear hN hW hn hk2 hu2 hk1 hu1
  go_wp2_with fail
  refine HN.out.1.mono ?_
  rintro e w3 ⟨o, g, ho, hgg, rfl, hO, hu3⟩
  have hk3 := HN.out.2.1.below hu3
  have hu4 := HN.out.2.2.trans (hu3.mono HN.out.2.2.size)
  have ho' : w1.heap.size + 1 ≤ o := by simpa using ho
  have hgg' : w1.heap.size + 1 ≤ g := by simpa using hgg
  clear HN hu3 ho hgg
  have hd : o ≠ b ∧ o ≠ bg ∧ g ≠ b ∧ g ≠ bg := by omega
  have hB : w.heap.size ≤ o := by omega
  have Hd := Lib.hid hd
  clear hd ho' hgg' hs1 hlb hlg
  go_wp2_with fail
  go_loopw [5] (fun i wr => AwRel w b bg o g i wr) (fun i _ => 4 - (intOf i).toNat)
  case atStart => exact ⟨0, by omega, rfl, hO, hk3, hu4⟩
  case round =>
    clear hO hk3 hu4
    obtain ⟨k, hk4, rfl, hO1, hK1, hu⟩ := hrel
    obtain ⟨wf, wu, wl, p0, p1, q0, q1, _⟩ := rn_wf ex_wf0 ex_u k
    have hp : exP.1.steps = 0 ∧ exP.2.2 = 0 := ⟨rfl, rfl⟩
    obtain ⟨d1, d2, d3, d4⟩ := Hd.out
    have hst := step_any hO1 hK1 d1 d2 d3 d4 wf (by omega) (by omega) (by omega) (by omega)
    have Hst := Lib.hid hst
    have Hu := Lib.hid hu
    clear hst hO1 hK1 hu wf wu wl p0 p1 q0 q1 d1 d2 d3 d4 hp
    by_cases hlt : (k : Int) < 4
    · have Hh := Lib.hid (ex_how k (by omega))
      go_wp2_with fail
      refine Hst.out.mono ?_
      rintro e w5 ⟨rfl, hO2, hK2, hu2⟩
      rw [Hh.out]
      have hu5 := Below.ownS Hu.out hu2 Hu.out.size hB hb hg
      clear hu2 Hst
      go_wp2_with fail
      go_roundw
      case rel => exact ⟨k + 1, by omega, by go_num, hO2, hK2, hu5⟩
      case measure => simp [intOf]; omega
    · obtain rfl : k = 4 := by omega
      go_wp2_with fail
      refine Hst.out.mono ?_
      rw [ex_end]
      rintro e w5 ⟨rfl, hO2, hK2, hu2⟩
      have hu5 := Below.ownS Hu.out hu2 Hu.out.size hB hb hg
      have H5 := Lib.hid (And.intro hO2 (And.intro hK2 hu5))
      clear hu2 Hst hO2 hK2 hu5 hlt
      go_wp2_with fail
      refine (gen_any H5.out.1 (by show U64 0; exact u64_zero)).mono ?_
      rintro e w6 ⟨rfl, rfl⟩
      go_wp2_with fail
      refine (steps_any H5.out.1).mono ?_
      rintro e w6 ⟨rfl, rfl⟩
      go_wp2_with fail
      refine (peek_in b bg _ _ 2 10 _ H5.out.2.1 rfl).mono ?_
      rintro e w6 ⟨rfl, hK6, hu6⟩
      have H6 := Lib.hid (And.intro hK6 (H5.out.2.2.trans (hu6.mono H5.out.2.2.size)))
      clear hK6 hu6 H5
      go_wp2_with fail
      refine (peek_in b bg _ _ 5 13 _ H6.out.1 rfl).mono ?_
      rintro e w7 ⟨rfl, hK7, hu7⟩
      have H7 := Lib.hid (And.intro hK7 (H6.out.2.trans (hu7.mono H6.out.2.size)))
      clear hK7 hu7 H6
      go_wp2_with fail
      refine (peek_in b bg _ _ 6 14 _ H7.out.1 rfl).mono ?_
      rintro e w8 ⟨rfl, hK8, hu8⟩
      have H8 := Lib.hid (H7.out.2.trans (hu8.mono H7.out.2.size))
      clear hK8 hu8 H7
      go_wp2
      go_ret
      exact ⟨rfl, H8.out⟩
end Go.Proofs.Ytbfelghfimcenaa
