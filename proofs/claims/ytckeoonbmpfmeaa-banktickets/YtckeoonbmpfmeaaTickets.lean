/- The law BankTickets returns true, whatever it is given. No condition. -/
import Derived.Test.YtckeoonbmpfmeaaDo
import Derived.ProofKit
import Derived.OpenShut
import Derived.ChangeOld
import Derived.Below
namespace Go.Proofs.Ytckeoonbmpfmeaa.bankTickets
open Go.ChangeShapes Go.WideShapes Go.ChangeAt Go.RowKit Go.Deep

theorem own : ownKnob Try.prog.godebug = none := by kernel_rfl
theorem laidOut : laidOutB Try.prog = true := by kernel_rfl

/-- What an access to another word leaves of word 3. -/
theorem acc_other (c : Act4) (xs : List Int) (t : Int) (h : ¬ c.a = 3) :
    (acc c xs t).xs.length = xs.length ∧ (acc c xs t).xs[3]? = xs[3]? ∧ t ≤ (acc c xs t).t ∧ (acc c xs t).t ≤ t + 1 := by
  unfold acc
  cases hw : word c.a xs with
  | none => exact ⟨rfl, rfl, by simp, by simp; omega⟩
  | some v =>
    obtain ⟨h0, _, _⟩ := word_some hw
    have hne : ¬ c.a.toNat = 3 := by omega
    simp only
    split
    · exact ⟨rfl, rfl, by simp; omega, by simp⟩
    · split
      · exact ⟨by simp, by simp [hne], by simp; omega, by simp⟩
      · split
        · split
          · exact ⟨by simp, by simp [hne], by simp; omega, by simp⟩
          · exact ⟨rfl, rfl, by simp; omega, by simp⟩
        · exact ⟨by simp, by simp [hne], by simp; omega, by simp⟩

/-- What holds at the head of the loop. -/
def Rel (w : World) (b g len : Nat) (nx i : Value) (wr : World) : Prop :=
  ∃ (k : Nat) (xs : List Int) (t next : Int), k ≤ len ∧ i = .int .i64 k ∧ nx = .int .u64 next ∧ Bk wr b g xs t ∧ xs.length = 8 ∧ xs[3]? = some next ∧ 0 ≤ t ∧ t ≤ k + 1 ∧ Below w.heap.size w wr

set_option maxHeartbeats 400000 in
theorem walk (first : Int) (a : Option Addr) (len cap : Nat) (l : List Act4) (w : World) (hf : U64 first) (hl : Acts w a len cap l) : Calls Try.prog 5 #[.int .u64 first, .slice a len cap] w (True1 w) := by
  have hmax := hl.1.len.2
  unfold maxLen at hmax
  by_cases hbig : 200 < (len : Int)
  · go_enter Try.func5, Try.ntmps5
    go_wp2_with fail
    refine (new_ok 8 w (by omega) (by omega)).mono ?_
    rintro e w1 ⟨b, g, hb, hg, rfl, hk1, hu1⟩
    have hs1 := hu1.size
    go_wp2_with fail
    refine (awake_any w1).mono ?_
    rintro e w7 ⟨rfl, hu7⟩
    have hu' := hu1.trans (hu7.mono hs1)
    clear hk1 hu1 hu7 hs1
    go_wp2
    go_ret
    exact ⟨rfl, hu'⟩
  · go_enter Try.func5, Try.ntmps5
    go_wp2_with fail
    refine (new_ok 8 w (by omega) (by omega)).mono ?_
    rintro e w1 ⟨b, g, hb, hg, rfl, hk1, hu1⟩
    have hs1 := hu1.size
    go_wp2_with fail
    refine (store_at b g _ _ first 0 3 _ (by omega) hk1 rfl (by omega) (by omega) hf).mono ?_
    rintro e w2 ⟨rfl, hk2, hu2'⟩
    have hu2 := Below.own hu1 hu2' hs1 hb hg
    clear hk1 hu1 hu2' hs1
    go_wp2_with fail
    go_loopw [7, 8] (fun nx i wr => Rel w b g len nx i wr) (fun _ i _ => len - (intOf i).toNat)
    case atStart => exact ⟨0, _, _, first, by omega, rfl, rfl, hk2, rfl, rfl, by omega, by omega, hu2⟩
    case round =>
      clear hk2 hu2
      obtain ⟨k, xs, t, next, hk, rfl, rfl, hk1, hxl, hx3, ht0, ht1, hu1⟩ := hrel
      have Hxl := Lib.hid hxl
      have Hx3 := Lib.hid hx3
      clear hxl hx3
      have hs1 := hu1.size
      by_cases hlt : (k : Int) < len
      · obtain ⟨ab, off, c, ha, hlk, hok, hc0, hc1, hc2, hc3⟩ := hl.at hu1 (k := k) (by omega)
        subst ha
        clear hlk
        by_cases h3 : c.a = 3
        · rw [h3] at hc1
          clear h3
          go_wp2_with fail
          refine (add_at b g xs t 1 next 3 _ (by omega) hk1 Hx3.out (by omega) (by omega)).mono ?_
          rintro e w2 ⟨rfl, hk2, hu2'⟩
          have hu2 := Below.own hu1 hu2' hs1 hb hg
          clear hu1 hu2' hk1 hs1 hc0 hc1 hc2 hc3
          go_wp2_with fail
          go_roundw
          case rel => exact ⟨k + 1, _, _, addw next 1, by omega, by go_num, rfl, hk2, by rw [List.length_set]; exact Hxl.out, by simp [Hxl.out], by omega, by omega, hu2⟩
          case measure => simp [intOf]; omega
        · have h3' : (c.a != 3) = true := by simp [h3]
          have hacc := Lib.hid (acc_other c xs t h3)
          go_wp2_with fail
          refine (do_any b g xs t c _ hk1 hok (by omega) (by omega)).mono ?_
          rintro e w2 ⟨rfl, hk2, hu2'⟩
          have hu2 := Below.own hu1 hu2' hs1 hb hg
          clear hu1 hu2' hk1 hs1 hc0 hc1 hc2 hc3
          go_wp2_with fail
          go_roundw
          case rel =>
            obtain ⟨q1, q2, q3, q4⟩ := hacc.out
            exact ⟨k + 1, _, _, next, by omega, by go_num, rfl, hk2, by rw [q1]; exact Hxl.out, by rw [q2]; exact Hx3.out, by omega, by omega, hu2⟩
          case measure => simp [intOf]; omega
      · go_wp2_with fail
        refine (peek_at b g _ _ next 3 _ (by omega) hk1 Hx3.out).mono ?_
        rintro e w6 ⟨rfl, hk6, hu6⟩
        have hu := hu1.trans (hu6.mono hs1)
        have hs6 := hu.size
        clear hk1 hu1 hu6 hs1
        go_wp2_with fail
        refine (awake_any _).mono ?_
        rintro e w7 ⟨rfl, hu7⟩
        have hu' := hu.trans (hu7.mono hs6)
        clear hk6 hu hu7 hs6
        go_wp2
        go_ret
        exact ⟨rfl, hu'⟩

set_option maxRecDepth 100000 in
theorem lifted (os : Os) (started : os.Started) (H : Type) (enc : TypeId × Value → H) :
    ReturnsInHanded {} Try.checked os 5 .any (Rows.bankTicketsSpec.pre6 enc Try.prog Try.f5 Rows.bankTicketsRow.domain false) (Rows.bankTicketsSpec.post enc Try.prog Try.f5 false true false false) := by
  refine returnsInHanded_of_change (C := Try.checked) own started (by kernel_rfl) Try.func5
    (ChangeSpec.witness6 (enc := enc) (C := Try.checked) false ⟨#[], #[.int .u64 0, .slice none 0 0], []⟩ 8 (by kernel_rfl) (by kernel_rfl) (by kernel_rfl) (by kernel_rfl)) ?_
  intro W base args ds gs before hval0 hW _ _
  have hval : ∀ (j : Nat) t v, Try.f5.params[j]? = some t → args[j]? = some v → Value.okWide Try.prog W .any base t v := hval0
  have hW' := hW
  obtain ⟨p, q, hA0, hV, rfl, _, _⟩ := hW
  have hA : DataW.TrodAll enc Try.prog W 0 (fun _ => true) true Try.f5.params.toList args.toList ds p := hA0
  rw [Try.params5] at hA hval
  obtain ⟨v0, vs0, d0, ds0, p0, q0, hargs, rfl, rfl, h0, r0⟩ := trodAll_cons hA
  obtain ⟨v1, vs1, d1, ds1, p1, q1, rfl, rfl, rfl, h1, r1⟩ := trodAll_cons r0
  obtain ⟨rfl, rfl, rfl⟩ := trodAll_nil r1
  obtain rfl : args = #[v0, v1] := by cases args; simp_all
  obtain ⟨rfl, rfl⟩ := trodVars_none hV
  have k0 := h0
  have lt0 : ∀ x ∈ p0, x.block < W.heap.size := by obtain ⟨m, hm⟩ := k0; exact DataW.trod_lt m _ _ _ hm
  obtain ⟨a0, rfl, _, _, wf0⟩ := open_int Try.underlying31 (hval 0 31 v0 rfl rfl) h0
  have k1 := h1
  have lt1 : ∀ x ∈ p1, x.block < W.heap.size := by obtain ⟨m, hm⟩ := k1; exact DataW.trod_lt m _ _ _ hm
  obtain ⟨a1, len1, cap1, rfl⟩ := okWide_slice Try.underlying22 (hval 1 22 v1 rfl rfl)
  obtain ⟨l1, hl1⟩ := acts_of h1
  clear hA0 hval0
  refine (walk a0 a1 len1 cap1 l1 W (u64_of_wf wf0) hl1).mono fun e W' ⟨he, bel⟩ => ?_
  subst he
  exact ⟨_, rfl, _, _, _, [], _, [], hW', trodAll_mk1 (shut_bool Try.underlying4 _), (trodAll_cons_mk (Below.trod laidOut (by kernel_rfl) (of_decide_eq_true (by kernel_rfl)) k0 bel lt0) (trodAll_cons_mk (Below.trod laidOut (by kernel_rfl) (of_decide_eq_true (by kernel_rfl)) k1 bel lt1) trodAll_mk0)), rfl, bel.frame _, fun h => by cases h⟩

theorem over : Rows.bankTicketsRow.holds Try.pinned (OpenSpec.ofChange Rows.bankTicketsSpec) :=
  OpenClaim.holds_of_wide 5 Try.f5 rfl rfl rfl rfl rfl rfl rfl ⟨rfl, rfl, rfl, rfl, rfl⟩ rfl rfl rfl rfl rfl (by kernel_rfl) Try.func5 (by kernel_rfl)
    (of_decide_eq_true (by kernel_rfl)) (by unfold Func.isWrapper; first | (rw [if_pos (by decide +kernel)]; kernel_rfl) | (rw [if_neg (by decide +kernel)]; exact ⟨rfl, rfl⟩))
    (fun os started H enc _ => lifted os started H enc)

theorem proved : Rows.BankTicketsSaid := over
#print axioms proved
end Go.Proofs.Ytckeoonbmpfmeaa.bankTickets
