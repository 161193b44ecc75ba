/- A snapshot over words that stay: where it stands, and what it has loaded. No program is named here. -/
import Derived.Test.YtflgggfomhifeaaSnM
namespace Go.Proofs.Ytflgggfomhifeaa
open Go.RowKit

/-- Which record is the newest one, by the sequence. -/
def gw (xs : List Int) (S : Sp) : Int := xs.getD S.sq.toNat 0 / 2
/-- All spots lie in the words. -/
def InB (SS : List Sp) (xs : List Int) : Prop := ∀ S ∈ SS, S.sq < xs.length ∧ S.fs + S.wd * S.dp ≤ xs.length
/-- How many steps of its try a snapshot did. -/
def pos (SS : List Sp) (x : NSt) : Nat :=
  if x.line = 0 then x.k else if x.line = 1 then SS.length + wid (SS.take x.k) + x.n else SS.length + wid SS + x.k
/-- How many steps a try has. -/
def ful (SS : List Sp) : Nat := 2 * SS.length + wid SS
section
variable {SS : List Sp} {x : NSt} {xs : List Int}
theorem pos_lt (hw : NWf SS x) : pos SS x < ful SS ∧ (x.line = 0 ↔ pos SS x < SS.length) ∧ (x.line = 2 ↔ SS.length + wid SS ≤ pos SS x) := by
  have hk := hw.k
  have h0 := hw.l0
  have h2 := hw.l2
  have h3 := wid_take SS x.k _ hw.sp
  have h4 := wid_le SS (x.k + 1)
  have h5 := hw.rts.1
  unfold pos ful
  by_cases a : x.line = 0
  · rw [if_pos a]
    refine ⟨by omega, ⟨fun _ => hk, fun _ => a⟩, ⟨fun c => by omega, fun c => by omega⟩⟩
  · rw [if_neg a]
    by_cases b : x.line = 1
    · rw [if_pos b]
      have := (hw.a1 b).2
      refine ⟨by omega, ⟨fun c => absurd c a, fun c => by omega⟩, ⟨fun c => by omega, fun c => by omega⟩⟩
    · rw [if_neg b]
      refine ⟨by omega, ⟨fun c => absurd c a, fun c => by omega⟩, ⟨fun c => by omega, fun c => by omega⟩⟩
theorem getI_in {a : Int} (h0 : 0 ≤ a) (h1 : a < xs.length) : ∃ v, getI xs a = some v ∧ v = xs.getD a.toNat 0 := by
  have h : a.toNat < xs.length := by omega
  refine ⟨xs[a.toNat], getI_mk h0 (List.getElem?_eq_getElem h), ?_⟩
  rw [List.getD_eq_getElem?_getD, List.getElem?_eq_getElem h]
  rfl
theorem place_in {S : Sp} (hr : Rt S) (hi : S.fs + S.wd * S.dp ≤ xs.length) {g : Int} {n : Nat} (hn : (n : Int) < S.wd) :
    0 ≤ atv S.fs S.wd S.dp g + n ∧ atv S.fs S.wd S.dp g + n < xs.length := by
  obtain ⟨a1, a2, a3, a4, _, _, _, _, a5, a6⟩ := hr
  rw [atv_ok (by unfold okS; omega)]
  have r0 : 0 ≤ g % S.dp := Int.emod_nonneg _ (by omega)
  have r1 : g % S.dp < S.dp := Int.emod_lt_of_pos _ (by omega)
  have m1 : 0 ≤ g % S.dp * S.wd := Int.mul_nonneg r0 (by omega)
  have m2 : (g % S.dp + 1) * S.wd ≤ S.dp * S.wd := Int.mul_le_mul_of_nonneg_right (by omega) (by omega)
  rw [Int.add_mul, Int.one_mul, Int.mul_comm S.dp S.wd] at m2
  exact ⟨by omega, by omega⟩
/-- What a step loads. -/
theorem nst_load (hw : NWf SS x) (hin : InB SS xs) : ∃ v, getI xs (nxl SS x) = some v ∧ v = xs.getD (nxl SS x).toNat 0 ∧ (x.line ≠ 1 → v / 2 = gw xs (nxs SS x)) := by
  obtain ⟨i1, i2⟩ := hin _ (List.mem_of_getElem? hw.sp)
  have hr := hw.rts
  have hr' := hr
  obtain ⟨_, _, _, _, _, _, a7, _⟩ := hr'
  by_cases b : x.line = 1
  · have e : nxl SS x = atv (nxs SS x).fs (nxs SS x).wd (nxs SS x).dp (x.tl.getD x.k 0) + x.n := if_pos b
    obtain ⟨p1, p2⟩ := place_in (xs := xs) hr i2 (hw.a1 b).2
    obtain ⟨v, hv, hv2⟩ := getI_in (xs := xs) p1 p2
    rw [e]
    exact ⟨v, hv, hv2, fun c => absurd b c⟩
  · have e : nxl SS x = (nxs SS x).sq := if_neg b
    obtain ⟨v, hv, hv2⟩ := getI_in (xs := xs) a7 i1
    rw [e]
    exact ⟨v, hv, hv2, fun _ => by unfold gw; rw [hv2]⟩
/-- A step that goes on, or ends the try well. -/
structure Onw (SS : List Sp) (xs : List Int) (x r : NSt) : Prop where
  left : r.left = x.left
  done : pos SS x + 1 = ful SS → r.how = 1 ∧ r.tl = x.tl ∧ r.bgn = x.bgn
  busy : pos SS x + 1 < ful SS → r.how = 0 ∧ pos SS r = pos SS x + 1
  t0 : x.line = 0 → r.tl = x.tl ++ [gw xs (nxs SS x)]
  t1 : x.line = 1 → r.tl = x.tl ++ [xs.getD (nxl SS x).toNat 0]
  t2 : x.line = 2 → r.tl = x.tl
  b0 : x.line ≠ 0 → r.bgn = x.bgn
  b1 : pos SS x + 1 = SS.length → r.bgn = x.steps + 1
theorem nst_step (hw : NWf SS x) (hin : InB SS xs) (hh : x.how = 0) :
    (nst SS xs x).2 = 1 ∧ (nst SS xs x).1.steps = x.steps + 1 ∧
    ((x.line = 2 ∧ ¬ gw xs (nxs SS x) = x.tl.getD x.k 0 ∧ (nst SS xs x).1 = nagn x) ∨
     ((x.line = 2 → gw xs (nxs SS x) = x.tl.getD x.k 0) ∧ Onw SS xs x (nst SS xs x).1)) := by
  obtain ⟨v, hv, hv2, hv3⟩ := nst_load hw hin
  have hk := hw.k
  have h0 := hw.l0
  have h2 := hw.l2
  have hwt := wid_take SS x.k _ hw.sp
  have hwl := wid_le SS (x.k + 1)
  have hrt := hw.rts.1
  have hlen : 1 ≤ SS.length := by omega
  have hW1 : 1 ≤ wid SS := by omega
  unfold nst
  rw [if_neg (fun c => c hh), hv]
  dsimp only
  by_cases l0 : x.line = 0
  · have hg := hv3 (by omega)
    have hp : pos SS x = x.k := if_pos l0
    rw [if_pos l0]
    have hf : ful SS = 2 * SS.length + wid SS := rfl
    by_cases e : x.k + 1 = SS.length
    · rw [if_pos e]
      refine ⟨rfl, rfl, .inr ⟨fun c => by omega, rfl, fun c => by omega, fun _ => ⟨hh, ?_⟩, fun _ => by rw [hg], fun c => by omega, fun c => by omega, fun c => absurd l0 c, fun _ => rfl⟩⟩
      unfold pos
      dsimp only
      rw [if_neg (show ¬ (1 : Int) = 0 by omega), if_pos rfl, if_pos l0, (hw.a0 l0).2]
      simp [wid]
      omega
    · rw [if_neg e]
      refine ⟨rfl, rfl, .inr ⟨fun c => by omega, rfl, fun c => by omega, fun _ => ⟨hh, ?_⟩, fun _ => by rw [hg], fun c => by omega, fun c => by omega, fun c => absurd l0 c, fun c => by omega⟩⟩
      unfold pos
      rw [if_pos l0, if_pos l0]
  · rw [if_neg l0]
    by_cases l1 : x.line = 1
    · have hn := (hw.a1 l1).2
      have hp : pos SS x = SS.length + wid (SS.take x.k) + x.n := by unfold pos; rw [if_neg l0, if_pos l1]
      have hf : ful SS = 2 * SS.length + wid SS := rfl
      rw [if_pos l1]
      by_cases m : (x.n : Int) + 1 = (nxs SS x).wd
      · rw [if_pos m]
        by_cases e : x.k + 1 = SS.length
        · rw [if_pos e]
          rw [show SS.take (x.k + 1) = SS from List.take_of_length_le (by omega)] at hwt
          refine ⟨rfl, rfl, .inr ⟨fun c => by omega, rfl, fun c => by omega, fun _ => ⟨hh, ?_⟩, fun c => absurd c l0, fun _ => by rw [hv2], fun c => by omega, fun _ => rfl, fun c => by omega⟩⟩
          unfold pos
          dsimp only
          rw [if_neg (show ¬ (2 : Int) = 0 by omega), if_neg (show ¬ (2 : Int) = 1 by omega), if_neg l0, if_pos l1]
          omega
        · rw [if_neg e]
          refine ⟨rfl, rfl, .inr ⟨fun c => by omega, rfl, fun c => by omega, fun _ => ⟨hh, ?_⟩, fun c => absurd c l0, fun _ => by rw [hv2], fun c => by omega, fun _ => rfl, fun c => by omega⟩⟩
          unfold pos
          rw [if_neg l0, if_pos l1, if_neg l0, if_pos l1]
          dsimp only
          omega
      · rw [if_neg m]
        refine ⟨rfl, rfl, .inr ⟨fun c => by omega, rfl, fun c => by omega, fun _ => ⟨hh, ?_⟩, fun c => absurd c l0, fun _ => by rw [hv2], fun c => by omega, fun _ => rfl, fun c => by omega⟩⟩
        unfold pos
        rw [if_neg l0, if_pos l1, if_neg l0, if_pos l1]
        dsimp only
        omega
    · have l2 : x.line = 2 := by omega
      have hg := hv3 (by omega)
      have hp : pos SS x = SS.length + wid SS + x.k := by unfold pos; rw [if_neg l0, if_neg l1]
      have hf : ful SS = 2 * SS.length + wid SS := rfl
      rw [if_neg l1]
      by_cases c : v / 2 = x.tl.getD x.k 0
      · rw [if_pos c]
        by_cases e : x.k + 1 = SS.length
        · rw [if_pos e]
          exact ⟨rfl, rfl, .inr ⟨fun _ => by rw [← hg]; exact c, rfl, fun _ => ⟨rfl, rfl, rfl⟩, fun q => by omega, fun q => absurd q l0, fun q => absurd q l1, fun _ => rfl, fun _ => rfl, fun q => by omega⟩⟩
        · rw [if_neg e]
          refine ⟨rfl, rfl, .inr ⟨fun _ => by rw [← hg]; exact c, rfl, fun q => by omega, fun _ => ⟨hh, ?_⟩, fun q => absurd q l0, fun q => absurd q l1, fun _ => rfl, fun _ => rfl, fun q => by omega⟩⟩
          unfold pos
          rw [if_neg l0, if_neg l1, if_neg l0, if_neg l1]
          dsimp only
          omega
      · rw [if_neg c]
        exact ⟨rfl, rfl, .inl ⟨l2, by rw [← hg]; exact c, rfl⟩⟩
theorem nst_len (hw : NWf SS x) : x.tl.length = if pos SS x < SS.length + wid SS then pos SS x else SS.length + wid SS := by
  have hk := hw.k
  have h0 := hw.l0
  have h2 := hw.l2
  obtain ⟨_, p2, p3⟩ := pos_lt hw
  by_cases l0 : x.line = 0
  · have hp : pos SS x = x.k := if_pos l0
    rw [(hw.a0 l0).1, hp, if_pos (by omega)]
  · by_cases l1 : x.line = 1
    · have hp : pos SS x = SS.length + wid (SS.take x.k) + x.n := by unfold pos; rw [if_neg l0, if_pos l1]
      rw [if_pos (by omega), hp]
      exact (hw.a1 l1).1
    · have l2 : x.line = 2 := by omega
      rw [if_neg (by have := p3.1 l2; omega)]
      exact (hw.a2 l2).1
end
end Go.Proofs.Ytflgggfomhifeaa
