/- The law BitsJoins returns true, whatever it is given. No condition. -/
import Derived.Test.YtknhbpifkpcpnaaAny
import Derived.Test.YtknhbpifkpcpnaaArgs
import Derived.Test.YtknhbpifkpcpnaaFew
import Derived.Test.YtknhbpifkpcpnaaRJoin
import Derived.Test.YtknhbpifkpcpnaaSplits
import Derived.ProofKit
import Derived.OpenShut
import Derived.ChangeOld
namespace Go.Proofs.Ytknhbpifkpcpnaa.bitsJoins
open Go.ChangeShapes Go.WideShapes Go.ChangeAt Go.RowKit Go.Deep

theorem own : ownKnob Try.prog.godebug = none := by kernel_rfl
theorem laidOut : laidOutB Try.prog = true := by kernel_rfl

set_option maxRecDepth 100000 in
set_option maxHeartbeats 4000000 in
theorem walk_b1 (a : Option Addr) (cap : Nat) (zs : List Int) (a2 : Option Addr) (cap2 : Nat) (xs : List Nat) (x : Nat) (w : World) (hI : Ints w.heap.size w a zs) (hX : Words w.heap.size w a2 xs) (hx : W64 x) (h80 : 80 < zs.length) : Calls Try.prog 9 #[.slice a zs.length cap, .slice a2 xs.length cap2, .int .u64 x] w (Ret (.bool true) w) := by
  have hnot := hnot
  have hd : decide ((zs.length : Int) ≤ 80) = false := decide_eq_false (by omega)
  clear h80 hx hI hX
  go_enter Try.func9, Try.ntmps9
  go_wp2_with fail
  refine (few_any a zs.length cap w).mono ?_
  rintro e w0 ⟨rfl, hb0⟩
  rw [hd]
  go_wp2_with fail
  refine (awake_any w0).mono ?_
  rintro e w1 ⟨rfl, hb1⟩
  have hfin := hb0.trans (hb1.mono hb0.size)
  go_wp2
  go_ret
  exact ⟨rfl, hfin⟩

set_option maxRecDepth 100000 in
set_option maxHeartbeats 4000000 in
theorem walk_b2 (a : Option Addr) (cap : Nat) (zs : List Int) (a2 : Option Addr) (cap2 : Nat) (xs : List Nat) (x : Nat) (w : World) (hI : Ints w.heap.size w a zs) (hX : Words w.heap.size w a2 xs) (hx : W64 x) (h80 : zs.length ≤ 80) (hx80 : 80 < xs.length) : Calls Try.prog 9 #[.slice a zs.length cap, .slice a2 xs.length cap2, .int .u64 x] w (Ret (.bool true) w) := by
  have hnot := hnot
  have hd : decide ((zs.length : Int) ≤ 80) = true := decide_eq_true (by omega)
  have hd2 : (80 : Int) < xs.length := by omega
  clear h80 hx80 hx hI hX
  go_enter Try.func9, Try.ntmps9
  go_wp2_with fail
  refine (few_any a zs.length cap w).mono ?_
  rintro e w0 ⟨rfl, hb0⟩
  rw [hd]
  go_wp2_with fail
  refine (awake_any w0).mono ?_
  rintro e w1 ⟨rfl, hb1⟩
  have hfin := hb0.trans (hb1.mono hb0.size)
  go_wp2
  go_ret
  exact ⟨rfl, hfin⟩

set_option maxRecDepth 100000 in
set_option maxHeartbeats 4000000 in
theorem walk_ok (a : Option Addr) (cap : Nat) (zs : List Int) (a2 : Option Addr) (cap2 : Nat) (xs : List Nat) (x : Nat) (w : World) (hI : Ints w.heap.size w a zs) (hX : Words w.heap.size w a2 xs) (hx : W64 x) (h80 : zs.length ≤ 80) (hx80 : xs.length ≤ 80) : Calls Try.prog 9 #[.slice a zs.length cap, .slice a2 xs.length cap2, .int .u64 x] w (Ret (.bool true) w) := by
  have hnot := hnot
  have hd : decide ((zs.length : Int) ≤ 80) = true := decide_eq_true (by omega)
  have hd2 : (xs.length : Int) ≤ 80 := by omega
  have hsl := split_len zs x h80
  have Hsl := Lib.hid hsl
  clear hsl
  go_enter Try.func9, Try.ntmps9
  go_wp2_with fail
  refine (few_any a zs.length cap w).mono ?_
  rintro e w0 ⟨rfl, hb0⟩
  rw [hd]
  have hI0 := (hI.below hb0).mono hb0.size
  have hX0 := (hX.below hb0).mono hb0.size
  go_wp2_with fail
  refine (join_any a _ cap zs rfl h80 a2 _ cap2 xs rfl w0 hI0 hX0).mono ?_
  rintro e w1 ⟨rfl, hb1⟩
  have hI1 := (hI0.below hb1).mono hb1.size
  have hX1 := (hX0.below hb1).mono hb1.size
  go_wp2_with fail
  refine (rjoin_any a _ cap zs rfl h80 a2 _ cap2 xs rfl w1 hI1 hX1).mono ?_
  rintro e w2 ⟨rfl, hb2⟩
  have hI2 := (hI1.below hb2).mono hb2.size
  go_wp2_with fail
  refine (split_any a _ cap zs x hx rfl h80 w2 hI2).mono ?_
  rintro e w3 ⟨v, rfl, hb3, hv0, hv1⟩
  have hI3 := (hI2.below hb3).mono hb3.size
  obtain ⟨av, cv, rfl, hW⟩ := split_words hv0 hv1
  clear hv0 hv1
  go_wp2_with fail
  refine (rsplit_any a _ cap zs x hx rfl h80 w3 hI3).mono ?_
  rintro e w4 ⟨v, rfl, hb4, hv0, hv1⟩
  obtain ⟨av', cv', rfl, hW'⟩ := split_words hv0 hv1
  clear hv0 hv1
  have hW4 := (hW.below hb4).mono hb4.size
  have hB2 := hb0.trans ((hb1.mono hb0.size).trans (hb2.mono (Nat.le_trans hb0.size hb1.size)))
  have hB3 := hB2.trans (hb3.mono hB2.size)
  have hB4 := hB3.trans (hb4.mono hB3.size)
  have HH := Lib.hid (And.intro hW4 (And.intro hW' hB4))
  clear hW hW4 hW' hB2 hB3 hB4 hb0 hb1 hb2 hb3 hb4 hI hX hI0 hX0 hI1 hX1 hI2 hI3
  generalize splitL zs x = ws at *
  generalize joinE zs xs = je at *
  obtain ⟨j1, j2⟩ := je
  generalize rowE 0 zs = er at *
  go_wp2_with fail
  refine (words_eq av av' cv cv' ws w4 Hsl.out HH.out.1 HH.out.2.1).mono ?_
  rintro e w5 ⟨rfl, hb5⟩
  have hB5 := HH.out.2.2.trans (hb5.mono HH.out.2.2.size)
  go_wp2_with fail
  refine (awake_any w5).mono ?_
  rintro e w6 ⟨rfl, hb6⟩
  have hB6 := hB5.trans (hb6.mono hB5.size)
  go_wp2
  go_ret
  exact ⟨rfl, hB6⟩

theorem walk (a : Option Addr) (len cap : Nat) (zs : List Int) (a2 : Option Addr) (len2 cap2 : Nat) (xs : List Nat) (x : Nat) (w : World) (hl : len = zs.length) (hl2 : len2 = xs.length) (hI : Ints w.heap.size w a zs) (hX : Words w.heap.size w a2 xs) (hx : W64 x) :
    Calls Try.prog 9 #[.slice a len cap, .slice a2 len2 cap2, .int .u64 x] w (Ret (.bool true) w) := by
  subst hl hl2
  by_cases h80 : zs.length ≤ 80
  · by_cases hx80 : xs.length ≤ 80
    · exact walk_ok a cap zs a2 cap2 xs x w hI hX hx h80 hx80
    · exact walk_b2 a cap zs a2 cap2 xs x w hI hX hx h80 (by omega)
  · exact walk_b1 a cap zs a2 cap2 xs x w hI hX hx (by omega)

set_option maxRecDepth 100000 in
theorem lifted (os : Os) (started : os.Started) (H : Type) (enc : TypeId × Value → H) :
    ReturnsInHanded {} Try.checked os 9 .any (Rows.bitsJoinsSpec.pre6 enc Try.prog Try.f9 Rows.bitsJoinsRow.domain false) (Rows.bitsJoinsSpec.post enc Try.prog Try.f9 false true false false) := by
  refine returnsInHanded_of_change (C := Try.checked) own started (by kernel_rfl) Try.func9
    (ChangeSpec.witness6 (enc := enc) (C := Try.checked) false ⟨#[], #[.slice none 0 0, .slice none 0 0, .int .u64 0], []⟩ 8 (by kernel_rfl) (by kernel_rfl) (by kernel_rfl) (by kernel_rfl)) ?_
  intro W base args ds gs before hval0 hW _ _
  have hval : ∀ (j : Nat) t v, Try.f9.params[j]? = some t → args[j]? = some v → Value.okWide Try.prog W .any base t v := hval0
  have hW' := hW
  obtain ⟨p, q, hA0, hV, rfl, _, _⟩ := hW
  have hA : DataW.TrodAll enc Try.prog W 0 (fun _ => true) true Try.f9.params.toList args.toList ds p := hA0
  rw [Try.params9] at hA hval
  obtain ⟨v0, vs0, d0, ds0, p0, q0, hargs, rfl, rfl, h0, r0⟩ := trodAll_cons hA
  obtain ⟨v1, vs1, d1, ds1, p1, q1, rfl, rfl, rfl, h1, r1⟩ := trodAll_cons r0
  obtain ⟨v2, vs2, d2, ds2, p2, q2, rfl, rfl, rfl, h2, r2⟩ := trodAll_cons r1
  obtain ⟨rfl, rfl, rfl⟩ := trodAll_nil r2
  obtain rfl : args = #[v0, v1, v2] := by cases args; simp_all
  obtain ⟨rfl, rfl⟩ := trodVars_none hV
  have k0 := h0
  have lt0 : ∀ x ∈ p0, x.block < W.heap.size := by obtain ⟨m, hm⟩ := k0; exact DataW.trod_lt m _ _ _ hm
  obtain ⟨sa0, len0, cap0, rfl⟩ := okWide_slice Try.underlying48 (hval 0 48 v0 rfl rfl)
  obtain ⟨zs0, hl0, hi0⟩ := lens_of h0
  have k1 := h1
  have lt1 : ∀ x ∈ p1, x.block < W.heap.size := by obtain ⟨m, hm⟩ := k1; exact DataW.trod_lt m _ _ _ hm
  obtain ⟨sa1, len1, cap1, rfl⟩ := okWide_slice Try.underlying56 (hval 1 56 v1 rfl rfl)
  obtain ⟨xs1, hl1, hi1⟩ := words_of h1
  have k2 := h2
  have lt2 : ∀ x ∈ p2, x.block < W.heap.size := by obtain ⟨m, hm⟩ := k2; exact DataW.trod_lt m _ _ _ hm
  obtain ⟨b2, rfl, _, _, wf2⟩ := open_int Try.underlying24 (hval 2 24 v2 rfl rfl) h2
  obtain ⟨a2, rfl, u2⟩ := u64_nat wf2
  clear hA0 hval0
  refine (walk sa0 len0 cap0 zs0 sa1 len1 cap1 xs1 a2 W hl0 hl1 hi0 hi1 u2).mono fun e W' ⟨he, bel⟩ => ?_
  subst he
  exact ⟨_, rfl, _, _, _, [], _, [], hW', trodAll_mk1 (shut_bool Try.underlying4 _), (trodAll_cons_mk (Below.trod laidOut (by kernel_rfl) (of_decide_eq_true (by kernel_rfl)) k0 bel lt0) (trodAll_cons_mk (Below.trod laidOut (by kernel_rfl) (of_decide_eq_true (by kernel_rfl)) k1 bel lt1) (trodAll_cons_mk (Below.trod laidOut (by kernel_rfl) (of_decide_eq_true (by kernel_rfl)) k2 bel lt2) trodAll_mk0))), rfl, bel.frame _, fun h => by cases h⟩

theorem over : Rows.bitsJoinsRow.holds Try.pinned (OpenSpec.ofChange Rows.bitsJoinsSpec) :=
  OpenClaim.holds_of_wide 9 Try.f9 rfl rfl rfl rfl rfl rfl rfl ⟨rfl, rfl, rfl, rfl, rfl⟩ rfl rfl rfl rfl rfl (by kernel_rfl) Try.func9 (by kernel_rfl)
    (of_decide_eq_true (by kernel_rfl)) (by unfold Func.isWrapper; first | (rw [if_pos (by decide +kernel)]; kernel_rfl) | (rw [if_neg (by decide +kernel)]; exact ⟨rfl, rfl⟩))
    (fun os started H enc _ => lifted os started H enc)

theorem proved : Rows.BitsJoinsSaid := over
#print axioms proved
end Go.Proofs.Ytknhbpifkpcpnaa.bitsJoins
