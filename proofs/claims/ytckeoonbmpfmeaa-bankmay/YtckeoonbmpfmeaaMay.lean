/- The law BankMay returns true, whatever it is given. No condition. -/
import Derived.Test.YtckeoonbmpfmeaaNew
import Derived.ProofKit
import Derived.OpenShut
import Derived.ChangeOld
import Derived.Below
namespace Go.Proofs.Ytckeoonbmpfmeaa.bankMay
open Go.ChangeShapes Go.WideShapes Go.ChangeAt Go.RowKit

theorem own : ownKnob Try.prog.godebug = none := by kernel_rfl
theorem laidOut : laidOutB Try.prog = true := by kernel_rfl

set_option maxHeartbeats 400000 in
theorem may_yes (n : Int) (w : World) (h1 : 1 ≤ n) (h2 : n ≤ 1048576) :
    Calls Try.prog 19 #[.int .i64 n] w fun e w' => e = .returned (.bool true) ∧ w = w' := by
  go_enter Try.func19, Try.ntmps19
  go_wp2
  go_ret
  exact ⟨rfl, rfl⟩
set_option maxHeartbeats 400000 in
theorem may_no (n : Int) (w : World) (h : n < 1 ∨ 1048576 < n) :
    Calls Try.prog 19 #[.int .i64 n] w fun e w' => e = .returned (.bool false) ∧ w = w' := by
  by_cases h1 : n < 1
  · have hd : decide (1 ≤ n) = false := by simp; omega
    go_enter Try.func19, Try.ntmps19
    go_wp2
    go_ret
    exact ⟨rfl, rfl⟩
  · have h3 : 1 ≤ n := by omega
    have hd : decide (n ≤ 1048576) = false := by simp; omega
    go_enter Try.func19, Try.ntmps19
    go_wp2
    go_ret
    exact ⟨rfl, rfl⟩

set_option maxHeartbeats 400000 in
theorem walk_bad (n : Int) (w : World) (h : n < 1 ∨ 1048576 < n) : Calls Try.prog 4 #[.int .i64 n] w (True1 w) := by
  have hnot : ∀ (x : Bool) (w : World), (Op.unary .not (.bool x)).run Try.prog w = .ok (.bool (!x)) w := fun _ _ => rfl
  go_enter Try.func4, Try.ntmps4
  go_wp2_with fail
  refine (new_bad n w h).mono ?_
  rintro e w1 ⟨rfl, rfl⟩
  go_wp2_with fail
  refine (may_no n w h).mono ?_
  rintro e w1 ⟨rfl, rfl⟩
  go_wp2_with fail
  refine (awake_any w).mono ?_
  rintro e w1 ⟨rfl, hu⟩
  go_wp2
  go_ret
  exact ⟨rfl, hu⟩

theorem rep_at {n : Nat} {a : Int} (h0 : 0 ≤ a) (h : a < n) : (List.replicate n (0 : Int))[a.toNat]? = some 0 := by
  have : a.toNat < n := by omega
  simp [this]
theorem rep_set {n : Nat} {a : Int} (h0 : 0 ≤ a) (h : a < n) (v : Int) : ((List.replicate n (0 : Int)).set a.toNat v)[a.toNat]? = some v := by
  have : a.toNat < n := by omega
  simp [this]
theorem addw05 : addw 0 5 = 5 := by decide

set_option maxHeartbeats 400000 in
theorem walk_ok (n : Int) (w : World) (h1 : 1 ≤ n) (h2 : n ≤ 1048576) : Calls Try.prog 4 #[.int .i64 n] w (True1 w) := by
  have hnot : ∀ (x : Bool) (w : World), (Op.unary .not (.bool x)).run Try.prog w = .ok (.bool (!x)) w := fun _ _ => rfl
  obtain ⟨m, Hm⟩ : ∃ m : Nat, Hid (n = (m : Int)) := ⟨n.toNat, show n = _ by omega⟩
  have hm : (m : Int) ≤ n ∧ n ≤ m := by have := Hm.out; omega
  obtain ⟨hm1, hm2⟩ := hm
  go_enter Try.func4, Try.ntmps4
  go_wp2_with fail
  have hnew : Calls Try.prog 11 #[.int .i64 n] w (NewPost m w) := by rw [Hm.out]; exact new_ok m w (by omega) (by omega)
  refine hnew.mono ?_
  clear hnew
  rintro e w1 ⟨b, g, hb, hg, rfl, hk1, hu1⟩
  have hs1 := hu1.size
  go_wp2_with fail
  refine (may_yes n w1 h1 h2).mono ?_
  rintro e w2 ⟨rfl, rfl⟩
  go_wp2_with fail
  have hlen : Calls Try.prog 12 #[.pointer (some ⟨b, 0, none⟩)] w1 fun e w' => e = .returned (.int .i64 n) ∧ w1 = w' := by
    have := len_any b g _ _ w1 hk1
    rw [List.length_replicate, ← Hm.out] at this
    exact this
  refine hlen.mono ?_
  clear hlen
  rintro e w2 ⟨rfl, rfl⟩
  go_wp2_with fail
  refine (touches_any b g _ _ w1 hk1).mono ?_
  rintro e w2 ⟨rfl, rfl⟩
  go_wp2_with fail
  refine (peek_at b g _ _ 0 0 w1 (by omega) hk1 (rep_at (by omega) (by omega))).mono ?_
  rintro e w2 ⟨rfl, hk2, hu2⟩
  have hu := hu1.trans (hu2.mono hs1)
  have hs2 := hu.size
  clear hu1 hu2 hk1 hs1
  go_wp2_with fail
  refine (peek_at b g _ _ 0 (n - 1) w2 (by omega) hk2 (rep_at (by omega) (by omega))).mono ?_
  rintro e w3 ⟨rfl, hk3, hu3⟩
  have hu' := hu.trans (hu3.mono hs2)
  have hs3 := hu'.size
  clear hu hu3 hk2 hs2
  go_wp2_with fail
  refine (add_at b g _ _ 5 0 (n - 1) w3 (by omega) hk3 (rep_at (by omega) (by omega)) (by omega) (by omega)).mono ?_
  rintro e w4 ⟨rfl, hk4, hu4⟩
  rw [addw05] at hk4
  have hu := Below.own hu' hu4 hs3 hb hg
  have hs4 := hu.size
  clear hu' hu4 hk3 hs3
  go_wp2_with fail
  refine (load_out b g _ _ n w4 hk4 (Or.inr (by rw [List.length_set, List.length_replicate]; omega))).mono ?_
  rintro e w5 ⟨rfl, hk5, hu5⟩
  have hu' := hu.trans (hu5.mono hs4)
  have hs5 := hu'.size
  clear hu hu5 hk4 hs4
  go_wp2_with fail
  refine (peek_at b g _ _ 5 (n - 1) w5 (by omega) hk5 (rep_set (by omega) (by omega) 5)).mono ?_
  rintro e w6 ⟨rfl, hk6, hu6⟩
  have hu := hu'.trans (hu6.mono hs5)
  have hs6 := hu.size
  clear hu' hu6 hk5 hs5
  go_wp2_with fail
  refine (touches_any b g _ _ w6 hk6).mono ?_
  rintro e w7 ⟨rfl, rfl⟩
  go_wp2_with fail
  refine (awake_any w6).mono ?_
  rintro e w7 ⟨rfl, hu7⟩
  have hu' := hu.trans (hu7.mono hs6)
  clear hk6 hu hu7 hs6
  go_wp2
  go_ret
  exact ⟨rfl, hu'⟩

theorem walk (n : Int) (w : World) : Calls Try.prog 4 #[.int .i64 n] w (True1 w) := by
  by_cases h : n < 1 ∨ 1048576 < n
  · exact walk_bad n w h
  · exact walk_ok n w (by omega) (by omega)

set_option maxRecDepth 100000 in
theorem lifted (os : Os) (started : os.Started) (H : Type) (enc : TypeId × Value → H) :
    ReturnsInHanded {} Try.checked os 4 .any (Rows.bankMaySpec.pre6 enc Try.prog Try.f4 Rows.bankMayRow.domain false) (Rows.bankMaySpec.post enc Try.prog Try.f4 false true false false) := by
  refine returnsInHanded_of_change (C := Try.checked) own started (by kernel_rfl) Try.func4
    (ChangeSpec.witness6 (enc := enc) (C := Try.checked) false ⟨#[], #[.int .i64 0], []⟩ 8 (by kernel_rfl) (by kernel_rfl) (by kernel_rfl) (by kernel_rfl)) ?_
  intro W base args ds gs before hval0 hW _ _
  have hval : ∀ (j : Nat) t v, Try.f4.params[j]? = some t → args[j]? = some v → Value.okWide Try.prog W .any base t v := hval0
  have hW' := hW
  obtain ⟨p, q, hA0, hV, rfl, _, _⟩ := hW
  have hA : DataW.TrodAll enc Try.prog W 0 (fun _ => true) true Try.f4.params.toList args.toList ds p := hA0
  rw [Try.params4] at hA hval
  obtain ⟨v0, vs0, d0, ds0, p0, q0, hargs, rfl, rfl, h0, r0⟩ := trodAll_cons hA
  obtain ⟨rfl, rfl, rfl⟩ := trodAll_nil r0
  obtain rfl : args = #[v0] := by cases args; simp_all
  obtain ⟨rfl, rfl⟩ := trodVars_none hV
  have k0 := h0
  have lt0 : ∀ x ∈ p0, x.block < W.heap.size := by obtain ⟨m, hm⟩ := k0; exact DataW.trod_lt m _ _ _ hm
  obtain ⟨a0, rfl, _, _, _⟩ := open_int Try.underlying3 (hval 0 3 v0 rfl rfl) h0
  clear hA0 hval0
  refine (walk a0 W).mono fun e W' ⟨he, bel⟩ => ?_
  subst he
  exact ⟨_, rfl, _, _, _, [], _, [], hW', trodAll_mk1 (shut_bool Try.underlying4 _), (trodAll_cons_mk (Below.trod laidOut (by kernel_rfl) (of_decide_eq_true (by kernel_rfl)) k0 bel lt0) trodAll_mk0), rfl, bel.frame _, fun h => by cases h⟩

theorem over : Rows.bankMayRow.holds Try.pinned (OpenSpec.ofChange Rows.bankMaySpec) :=
  OpenClaim.holds_of_wide 4 Try.f4 rfl rfl rfl rfl rfl rfl rfl ⟨rfl, rfl, rfl, rfl, rfl⟩ rfl rfl rfl rfl rfl (by kernel_rfl) Try.func4 (by kernel_rfl)
    (of_decide_eq_true (by kernel_rfl)) (by unfold Func.isWrapper; first | (rw [if_pos (by decide +kernel)]; kernel_rfl) | (rw [if_neg (by decide +kernel)]; exact ⟨rfl, rfl⟩))
    (fun os started H enc _ => lifted os started H enc)

theorem proved : Rows.BankMaySaid := over
#print axioms proved
end Go.Proofs.Ytckeoonbmpfmeaa.bankMay
