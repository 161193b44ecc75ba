/- The law BankLock returns true, whatever it is given. No condition. -/
import Derived.Test.YtckeoonbmpfmeaaNew
import Derived.Test.YtckeoonbmpfmeaaArgs
import Derived.ProofKit
import Derived.OpenShut
import Derived.ChangeOld
import Derived.Below
namespace Go.Proofs.Ytckeoonbmpfmeaa.bankLock
open Go.ChangeShapes Go.WideShapes Go.ChangeAt Go.RowKit Go.Deep

theorem own : ownKnob Try.prog.godebug = none := by kernel_rfl
theorem laidOut : laidOutB Try.prog = true := by kernel_rfl

structure Hand where
  task : Int
  free : Bool
def Hand.row (c : Hand) : List Value := [.int .u64 c.task, .bool c.free]
def Hands (w : World) (a : Option Addr) (len cap : Nat) (l : List Hand) : Prop := Lies w (.slice a len cap) 2 (l.map Hand.row) ∧ ∀ c ∈ l, U64 c.task

theorem Hands.at {w wr : World} {a : Option Addr} {len cap : Nat} {l : List Hand} (h : Hands w a len cap l) (hb : Below w.heap.size w wr) {k : Nat} (hk : k < len) :
    ∃ ab off ta fr, a = some ⟨ab, off, none⟩ ∧ U64 ta ∧ wr.cell? ⟨ab, off + k * 2, none⟩ = some (.int .u64 ta) ∧ wr.cell? ⟨ab, off + k * 2 + 1, none⟩ = some (.bool fr) := by
  have hl := h.1.len.1
  rw [List.length_map] at hl
  obtain ⟨ab, off, ha, _, hcell⟩ := h.1.at hb (i := k) (r := (l[k]'(by omega)).row) (by simp; exact ⟨_, List.getElem?_eq_getElem (by omega), rfl⟩)
  exact ⟨ab, off, _, _, ha, h.2 _ (List.getElem_mem (by omega)), hcell 0 _ rfl, hcell 1 _ rfl⟩

/-- What holds at the head of the loop. -/
def Rel (w : World) (b g len : Nat) (ho i : Value) (wr : World) : Prop :=
  ∃ (k : Nat) (h t : Int), k ≤ len ∧ i = .int .i64 k ∧ ho = .int .u64 h ∧ Bk wr b g [h] t ∧ 0 ≤ t ∧ t ≤ k ∧ Below w.heap.size w wr

set_option maxHeartbeats 400000 in
theorem walk (a : Option Addr) (len cap : Nat) (l : List Hand) (w : World) (hl : Hands w a len cap l) : Calls Try.prog 6 #[.slice a len cap] w (True1 w) := by
  obtain ⟨hlies, hrng⟩ := hl
  obtain ⟨hlen, hmax⟩ := hlies.len
  unfold maxLen at hmax
  have Hlen := Lib.hid hlen
  have Hrng := Lib.hid hrng
  clear hlen hrng
  by_cases hbig : 200 < (len : Int)
  · go_enter Try.func6, Try.ntmps6
    go_wp2_with fail
    refine (new_ok 1 w (by omega) (by omega)).mono ?_
    rintro e w1 ⟨b, g, hb, hg, rfl, hk1, hu1⟩
    have hs1 := hu1.size
    go_wp2_with fail
    refine (awake_any w1).mono ?_
    rintro e w7 ⟨rfl, hu7⟩
    have hu' := hu1.trans (hu7.mono hs1)
    clear hk1 hu1 hu7 hs1
    go_wp2
    go_ret
    exact ⟨rfl, hu'⟩
  · go_enter Try.func6, Try.ntmps6
    go_wp2_with fail
    refine (new_ok 1 w (by omega) (by omega)).mono ?_
    rintro e w1 ⟨b, g, hb, hg, rfl, hk1, hu1⟩
    have hs1 := hu1.size
    go_wp2_with fail
    go_loopw [5, 6] (fun ho i wr => Rel w b g len ho i wr) (fun _ i _ => len - (intOf i).toNat)
    case atStart => exact ⟨0, 0, 0, by omega, rfl, rfl, hk1, by omega, by omega, hu1⟩
    case round =>
      clear hk1 hu1 hs1
      obtain ⟨k, h, t, hk, rfl, rfl, hk1, ht0, ht1, hu1⟩ := hrel
      have hs1 := hu1.size
      by_cases hlt : (k : Int) < len
      · obtain ⟨ab, off, ta, fr, ha, hct, hc0, hc1⟩ := Hands.at ⟨hlies, Hrng.out⟩ hu1 (k := k) (by omega)
        subst ha
        by_cases hz : ta = 0
        · subst hz
          go_wp2_with fail
          go_roundw
          case rel => exact ⟨k + 1, h, t, by omega, by go_num, rfl, hk1, by omega, by omega, hu1⟩
          case measure => simp [intOf]; omega
        · have hz' : (ta == 0) = false := by simp [hz]
          cases fr
          · by_cases hh : h = 0
            · subst hh
              go_wp2_with fail
              refine (cas_hit_at b g [0] t ta 0 0 _ (by omega) hk1 rfl (by omega) (by omega) hct).mono ?_
              rintro e w2 ⟨rfl, hk2, hu2'⟩
              have hu2 := Below.own hu1 hu2' hs1 hb hg
              have hs2 := hu2.size
              clear hu1 hu2' hk1 hs1
              go_wp2_with fail
              refine (peek_at b g _ _ (ta) 0 _ (by omega) hk2 rfl).mono ?_
              rintro e w3 ⟨rfl, hk3, hu3⟩
              have hu' := hu2.trans (hu3.mono hs2)
              clear hu2 hu3 hk2 hs2
              go_wp2_with fail
              go_roundw
              case rel => exact ⟨k + 1, ta, t + 1, by omega, by go_num, rfl, hk3, by omega, by omega, hu'⟩
              case measure => simp [intOf]; omega
            · have hh' : (h == 0) = false := by simp [hh]
              go_wp2_with fail
              refine (cas_miss_at b g [h] t 0 ta h 0 _ (by omega) hk1 rfl (by omega) (by omega) hh).mono ?_
              rintro e w2 ⟨rfl, hk2, hu2'⟩
              have hu2 := Below.own hu1 hu2' hs1 hb hg
              have hs2 := hu2.size
              clear hu1 hu2' hk1 hs1
              go_wp2_with fail
              refine (peek_at b g _ _ (h) 0 _ (by omega) hk2 rfl).mono ?_
              rintro e w3 ⟨rfl, hk3, hu3⟩
              have hu' := hu2.trans (hu3.mono hs2)
              clear hu2 hu3 hk2 hs2
              go_wp2_with fail
              go_roundw
              case rel => exact ⟨k + 1, h, t + 1, by omega, by go_num, rfl, hk3, by omega, by omega, hu'⟩
              case measure => simp [intOf]; omega
          · by_cases hh : h = ta
            · subst hh
              go_wp2_with fail
              refine (cas_hit_at b g [h] t 0 h 0 _ (by omega) hk1 rfl (by omega) (by omega) u64_zero).mono ?_
              rintro e w2 ⟨rfl, hk2, hu2'⟩
              have hu2 := Below.own hu1 hu2' hs1 hb hg
              have hs2 := hu2.size
              clear hu1 hu2' hk1 hs1
              go_wp2_with fail
              refine (peek_at b g _ _ (0) 0 _ (by omega) hk2 rfl).mono ?_
              rintro e w3 ⟨rfl, hk3, hu3⟩
              have hu' := hu2.trans (hu3.mono hs2)
              clear hu2 hu3 hk2 hs2
              go_wp2_with fail
              go_roundw
              case rel => exact ⟨k + 1, 0, t + 1, by omega, by go_num, rfl, hk3, by omega, by omega, hu'⟩
              case measure => simp [intOf]; omega
            · have hh' : (h == ta) = false := by simp [hh]
              go_wp2_with fail
              refine (cas_miss_at b g [h] t ta 0 h 0 _ (by omega) hk1 rfl (by omega) (by omega) hh).mono ?_
              rintro e w2 ⟨rfl, hk2, hu2'⟩
              have hu2 := Below.own hu1 hu2' hs1 hb hg
              have hs2 := hu2.size
              clear hu1 hu2' hk1 hs1
              go_wp2_with fail
              refine (peek_at b g _ _ (h) 0 _ (by omega) hk2 rfl).mono ?_
              rintro e w3 ⟨rfl, hk3, hu3⟩
              have hu' := hu2.trans (hu3.mono hs2)
              clear hu2 hu3 hk2 hs2
              go_wp2_with fail
              go_roundw
              case rel => exact ⟨k + 1, h, t + 1, by omega, by go_num, rfl, hk3, by omega, by omega, hu'⟩
              case measure => simp [intOf]; omega
      · go_wp2_with fail
        refine (awake_any _).mono ?_
        rintro e w7 ⟨rfl, hu7⟩
        have hu' := hu1.trans (hu7.mono hs1)
        clear hk1 hu1 hu7 hs1
        go_wp2
        go_ret
        exact ⟨rfl, hu'⟩
theorem hands_of {H : Type} {enc : TypeId × Value → H} {W : World} {base : Nat} {spare : Nat → Bool} {held : Bool} {a : Option Addr} {len cap : Nat} {d : DataW H} {p : List MemPlace}
    (h : DataW.Trod enc Try.prog W base spare held 47 (.slice a len cap) d p) : ∃ l, Hands W a len cap l := by
  obtain ⟨fuel, hf⟩ := h
  obtain ⟨rows, hlies, hrow⟩ := lies_of (n := 2) Try.underlying47 (by kernel_rfl) (by omega) (by simpa [Value.cells] using hf)
  obtain ⟨l, rfl, hl⟩ := list_map Hand.row (fun c => U64 c.task) rows (fun r hr => by
    obtain ⟨m, y, hy⟩ := hrow r hr
    obtain ⟨hlen, h0⟩ := row_fields (j := 0) Try.underlying49 (by kernel_rfl) hy rfl
    obtain ⟨_, h1⟩ := row_fields (j := 1) Try.underlying49 (by kernel_rfl) hy rfl
    rw [show Try.prog.cellsOf 49 = 2 from by kernel_rfl] at hlen
    match r, hlen with
    | [c0, c1], _ =>
      obtain ⟨_, _, g0⟩ := h0 c0 rfl
      obtain ⟨_, _, g1⟩ := h1 c1 rfl
      obtain ⟨n0, e0, _, w0⟩ := DataW.trod_int Try.underlying31 g0
      obtain ⟨n1, e1, _⟩ := DataW.trod_bool Try.underlying4 g1
      simp only [List.cons.injEq, and_true] at e0 e1
      exact ⟨⟨n0, n1⟩, by rw [e0, e1]; rfl, u64_of_wf w0⟩)
  exact ⟨l, hlies, hl⟩

set_option maxRecDepth 100000 in
theorem lifted (os : Os) (started : os.Started) (H : Type) (enc : TypeId × Value → H) :
    ReturnsInHanded {} Try.checked os 6 .any (Rows.bankLockSpec.pre6 enc Try.prog Try.f6 Rows.bankLockRow.domain false) (Rows.bankLockSpec.post enc Try.prog Try.f6 false true false false) := by
  refine returnsInHanded_of_change (C := Try.checked) own started (by kernel_rfl) Try.func6
    (ChangeSpec.witness6 (enc := enc) (C := Try.checked) false ⟨#[], #[.slice none 0 0], []⟩ 8 (by kernel_rfl) (by kernel_rfl) (by kernel_rfl) (by kernel_rfl)) ?_
  intro W base args ds gs before hval0 hW _ _
  have hval : ∀ (j : Nat) t v, Try.f6.params[j]? = some t → args[j]? = some v → Value.okWide Try.prog W .any base t v := hval0
  have hW' := hW
  obtain ⟨p, q, hA0, hV, rfl, _, _⟩ := hW
  have hA : DataW.TrodAll enc Try.prog W 0 (fun _ => true) true Try.f6.params.toList args.toList ds p := hA0
  rw [Try.params6] at hA hval
  obtain ⟨v0, vs0, d0, ds0, p0, q0, hargs, rfl, rfl, h0, r0⟩ := trodAll_cons hA
  obtain ⟨rfl, rfl, rfl⟩ := trodAll_nil r0
  obtain rfl : args = #[v0] := by cases args; simp_all
  obtain ⟨rfl, rfl⟩ := trodVars_none hV
  have k0 := h0
  have lt0 : ∀ x ∈ p0, x.block < W.heap.size := by obtain ⟨m, hm⟩ := k0; exact DataW.trod_lt m _ _ _ hm
  obtain ⟨a0, len0, cap0, rfl⟩ := okWide_slice Try.underlying47 (hval 0 47 v0 rfl rfl)
  obtain ⟨l0, hl0⟩ := hands_of h0
  clear hA0 hval0
  refine (walk a0 len0 cap0 l0 W hl0).mono fun e W' ⟨he, bel⟩ => ?_
  subst he
  exact ⟨_, rfl, _, _, _, [], _, [], hW', trodAll_mk1 (shut_bool Try.underlying4 _), (trodAll_cons_mk (Below.trod laidOut (by kernel_rfl) (of_decide_eq_true (by kernel_rfl)) k0 bel lt0) trodAll_mk0), rfl, bel.frame _, fun h => by cases h⟩

theorem over : Rows.bankLockRow.holds Try.pinned (OpenSpec.ofChange Rows.bankLockSpec) :=
  OpenClaim.holds_of_wide 6 Try.f6 rfl rfl rfl rfl rfl rfl rfl ⟨rfl, rfl, rfl, rfl, rfl⟩ rfl rfl rfl rfl rfl (by kernel_rfl) Try.func6 (by kernel_rfl)
    (of_decide_eq_true (by kernel_rfl)) (by unfold Func.isWrapper; first | (rw [if_pos (by decide +kernel)]; kernel_rfl) | (rw [if_neg (by decide +kernel)]; exact ⟨rfl, rfl⟩))
    (fun os started H enc _ => lifted os started H enc)

theorem proved : Rows.BankLockSaid := over
#print axioms proved
end Go.Proofs.Ytckeoonbmpfmeaa.bankLock
