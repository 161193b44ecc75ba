/- A publishing whose sequence others store into: how the law follows it. -/
import Derived.Test.YtbfelghfimcenaaSpo
namespace Go.Proofs.Ytbfelghfimcenaa
open Go.RowKit

/-- What the law keeps (phase, fails, saw) beside a publishing that is busy, behind i steps. -/
structure BInv (ws : List Int) (tr : Int) (i : Nat) (ph fl sw : Int) (x : St) (xs : List Int) : Prop where
  len : xs.length = 2 + ws.length * 3
  how : x.how = 0
  steps : x.steps = i
  left : x.left = tr - fl
  f0 : 0 ≤ fl
  f1 : fl < tr
  pl : (ph = 0 ∧ x.line = 0) ∨ (ph = 1 ∧ x.line = 1 ∧ x.s = sw) ∨ (ph = 2 ∧ 2 ≤ x.line ∧ x.s = sw ∧ getI xs 1 = some (addw sw 1) ∧ (x.line = 3 → x.n = ws.length))
  bd : ph = 0 ∧ (i : Int) ≤ 2 * fl ∨ ph = 1 ∧ (i : Int) ≤ 2 * fl + 1 ∨ ph = 2 ∧ (i : Int) ≤ 2 * fl + 2 + x.n
/-- What the law does of it with what it saw (now), and what it comes to: phase, fails, saw. -/
def bph (ph sw now : Int) : Int := if (ph = 0 ∧ now % 2 = 1) ∨ (ph = 1 ∧ ¬ now = sw) then 0 else if ph = 0 then 1 else if ph = 1 then 2 else ph
def bfl (ph fl sw now : Int) : Int := if (ph = 0 ∧ now % 2 = 1) ∨ (ph = 1 ∧ ¬ now = sw) then fl + 1 else fl
def bsw (ph sw now : Int) : Int := if (ph = 0 ∧ now % 2 = 1) ∨ (ph = 1 ∧ ¬ now = sw) then sw else if ph = 0 then now else sw
/-- What comes of a step, as the law looks at it. -/
def BRes (ws : List Int) (tr : Int) (i : Nat) (ph fl sw : Int) (r : St × List Int × Int) : Prop :=
  (fl = tr ∧ r.1.how = 2) ∨ (fl < tr ∧ r.1.how = 1 ∧ ph = 2 ∧ getI r.2.1 1 = some (addw sw 2)) ∨ (fl < tr ∧ r.1.how = 0 ∧ BInv ws tr (i + 1) ph fl sw r.1 r.2.1)
theorem agn_how (x : St) (hh : x.how = 0) : (agn x).how = if x.left - 1 = 0 then 2 else 0 := by
  show (if x.left - 1 = 0 then (2 : Int) else x.how) = _
  rw [hh]
theorem b_fail {ws : List Int} {tr : Int} {i : Nat} {ph fl sw s : Int} {x : St} {xs : List Int} (h : BInv ws tr i ph fl sw x xs) (hp : ph = 0 ∨ ph = 1) : BRes ws tr i 0 (fl + 1) sw (agn { x with s := s }, xs, 1) := by
  have hh := h.how
  have hl := h.left
  have f0 := h.f0
  have f1 := h.f1
  have hs := h.steps
  by_cases k : fl + 1 = tr
  · refine .inl ⟨k, ?_⟩
    show (agn { x with s := s }).how = 2
    rw [agn_how { x with s := s } hh, if_pos (show x.left - 1 = 0 by omega)]
  · refine .inr (.inr ⟨by omega, ?_, ⟨h.len, ?_, ?_, ?_, by omega, by omega, .inl ⟨rfl, rfl⟩, .inl ⟨rfl, ?_⟩⟩⟩)
    · show (agn { x with s := s }).how = 0
      rw [agn_how { x with s := s } hh, if_neg (show ¬ x.left - 1 = 0 by omega)]
    · rw [agn_how { x with s := s } hh, if_neg (show ¬ x.left - 1 = 0 by omega)]
    · show x.steps + 1 = ((i + 1 : Nat) : Int)
      omega
    · show x.left - 1 = tr - (fl + 1)
      omega
    · have := h.bd
      omega

theorem sps_sq (n d : Int) : (spS n d).sq = 1 := rfl
theorem bd_lie {ws : List Int} {x : St} (hw : Wf (spS ws.length 3) ws x) (l2 : x.line = 2) {xs : List Int} (hl : xs.length = 2 + ws.length * 3) :
    2 ≤ lie (spS ws.length 3) x ∧ ∃ v, getI xs (lie (spS ws.length 3) x) = some v := by
  obtain ⟨ok, _, _⟩ := lie_bd hw
  have hn := hw.nl l2
  have h0 := hw.n0
  obtain ⟨s0, s1⟩ := hw.s
  have hb : 2 ≤ lie (spS ws.length 3) x ∧ lie (spS ws.length 3) x < xs.length := by
    unfold lie
    rw [atv_ok ok]
    show 2 ≤ 2 + (x.s / 2 + 1) % 3 * (ws.length : Int) + x.n ∧ 2 + (x.s / 2 + 1) % 3 * (ws.length : Int) + x.n < xs.length
    have h3 : (x.s / 2 + 1) % 3 = 0 ∨ (x.s / 2 + 1) % 3 = 1 ∨ (x.s / 2 + 1) % 3 = 2 := by omega
    rcases h3 with h | h | h <;> rw [h] <;> omega
  refine ⟨hb.1, _, getI_mk (by omega) (List.getElem?_eq_getElem (by omega))⟩
theorem b_step {ws : List Int} {tr : Int} {i : Nat} {ph fl sw now : Int} {x : St} {xs : List Int} (h : BInv ws tr i ph fl sw x xs) (hw : Wf (spS ws.length 3) ws x) (hv : getI xs 1 = some now) :
    BRes ws tr i (bph ph sw now) (bfl ph fl sw now) (bsw ph sw now) (stp (spS ws.length 3) ws xs x) ∧ (stp (spS ws.length 3) ws xs x).1.steps = i + 1 ∧ (i : Int) + 1 ≤ 2 * tr + ws.length + 1 := by
  have hh := h.how
  have f1 := h.f1
  have f0 := h.f0
  have hst := h.steps
  have hbd := h.bd
  have hlen := hw.len
  have hn1 := hw.n1
  rcases h.pl with ⟨rfl, l0⟩ | ⟨rfl, l1, hs⟩ | ⟨rfl, l2, hs, hg, h3⟩
  · refine ⟨?_, ?_, by omega⟩
    · unfold stp
      rw [if_neg (fun c => c hh), if_pos l0, sps_sq, hv]
      dsimp only
      by_cases ho : now % 2 = 1
      · rw [if_pos ho]
        have e1 : bph 0 sw now = 0 := by unfold bph; rw [if_pos (.inl ⟨rfl, ho⟩)]
        have e2 : bfl 0 fl sw now = fl + 1 := by unfold bfl; rw [if_pos (.inl ⟨rfl, ho⟩)]
        have e3 : bsw 0 sw now = sw := by unfold bsw; rw [if_pos (.inl ⟨rfl, ho⟩)]
        rw [e1, e2, e3]
        exact b_fail h (.inl rfl)
      · rw [if_neg ho]
        have hn : ¬ ((0 : Int) = 0 ∧ now % 2 = 1 ∨ (0 : Int) = 1 ∧ ¬ now = sw) := by omega
        have e1 : bph 0 sw now = 1 := by unfold bph; rw [if_neg hn, if_pos rfl]
        have e2 : bfl 0 fl sw now = fl := by unfold bfl; rw [if_neg hn]
        have e3 : bsw 0 sw now = now := by unfold bsw; rw [if_neg hn, if_pos rfl]
        rw [e1, e2, e3]
        refine .inr (.inr ⟨f1, hh, ⟨h.len, hh, ?_, h.left, f0, f1, .inr (.inl ⟨rfl, rfl, rfl⟩), .inr (.inl ⟨rfl, ?_⟩)⟩⟩)
        · show x.steps + 1 = ((i + 1 : Nat) : Int); omega
        · omega
    · unfold stp
      rw [if_neg (fun c => c hh), if_pos l0, sps_sq, hv]
      dsimp only
      split
      · show x.steps + 1 = _; omega
      · show x.steps + 1 = _; omega
  · refine ⟨?_, ?_, by omega⟩
    · unfold stp
      rw [if_neg (fun c => c hh), if_neg (by omega), if_pos l1, sps_sq, hv]
      dsimp only
      by_cases ho : now = x.s
      · rw [if_pos ho]
        have hn : ¬ ((1 : Int) = 0 ∧ now % 2 = 1 ∨ (1 : Int) = 1 ∧ ¬ now = sw) := by omega
        have e1 : bph 1 sw now = 2 := by unfold bph; rw [if_neg hn, if_neg (by omega), if_pos rfl]
        have e2 : bfl 1 fl sw now = fl := by unfold bfl; rw [if_neg hn]
        have e3 : bsw 1 sw now = sw := by unfold bsw; rw [if_neg hn, if_neg (by omega)]
        rw [e1, e2, e3]
        have hx1 := (getI_some hv).2
        have hlt := lt_of_some hx1
        refine .inr (.inr ⟨f1, hh, ⟨by rw [List.length_set]; exact h.len, hh, ?_, h.left, f0, f1, .inr (.inr ⟨rfl, ?_, hs, ?_, ?_⟩), .inr (.inr ⟨rfl, ?_⟩)⟩⟩)
        · show x.steps + 1 = ((i + 1 : Nat) : Int); omega
        · show (2 : Int) ≤ 2; omega
        · rw [hs]
          exact getI_mk (by omega) (List.getElem?_set_self hlt)
        · intro c
          exact absurd (show (2 : Int) = 3 from c) (by omega)
        · have := hw.n0
          show ((i + 1 : Nat) : Int) ≤ 2 * fl + 2 + x.n
          omega
      · rw [if_neg ho]
        have hp : (1 : Int) = 0 ∧ now % 2 = 1 ∨ (1 : Int) = 1 ∧ ¬ now = sw := .inr ⟨rfl, by omega⟩
        have e1 : bph 1 sw now = 0 := by unfold bph; rw [if_pos hp]
        have e2 : bfl 1 fl sw now = fl + 1 := by unfold bfl; rw [if_pos hp]
        have e3 : bsw 1 sw now = sw := by unfold bsw; rw [if_pos hp]
        rw [e1, e2, e3]
        exact b_fail (s := x.s) h (.inr rfl)
    · unfold stp
      rw [if_neg (fun c => c hh), if_neg (by omega), if_pos l1, sps_sq, hv]
      dsimp only
      split
      · show x.steps + 1 = _; omega
      · show x.steps + 1 = _; omega
  · have hn : ¬ ((2 : Int) = 0 ∧ now % 2 = 1 ∨ (2 : Int) = 1 ∧ ¬ now = sw) := by omega
    have e1 : bph 2 sw now = 2 := by unfold bph; rw [if_neg hn, if_neg (by omega), if_neg (by omega)]
    have e2 : bfl 2 fl sw now = fl := by unfold bfl; rw [if_neg hn]
    have e3 : bsw 2 sw now = sw := by unfold bsw; rw [if_neg hn, if_neg (by omega)]
    rw [e1, e2, e3]
    have hl3 := hw.l3
    by_cases c2 : x.line = 2
    · obtain ⟨hlie, v, hq⟩ := bd_lie hw c2 h.len
      have hnl := hw.nl c2
      have hn0 := hw.n0
      refine ⟨?_, ?_, by omega⟩
      · unfold stp
        rw [if_neg (fun c => c hh), if_neg (by omega), if_neg (by omega), if_pos c2, hq]
        dsimp only
        refine .inr (.inr ⟨f1, hh, ⟨by rw [List.length_set]; exact h.len, hh, ?_, h.left, f0, f1, .inr (.inr ⟨rfl, ?_, hs, ?_, ?_⟩), .inr (.inr ⟨rfl, ?_⟩)⟩⟩)
        · show x.steps + 1 = ((i + 1 : Nat) : Int); omega
        · show (2 : Int) ≤ if x.n + 1 = (ws.length : Int) then 3 else 2
          split <;> omega
        · unfold getI
          rw [if_pos (by omega), List.getElem?_set_ne (by omega)]
          exact (getI_some hg).2
        · show (if x.n + 1 = (ws.length : Int) then (3 : Int) else 2) = 3 → x.n + 1 = ws.length
          split <;> omega
        · show ((i + 1 : Nat) : Int) ≤ 2 * fl + 2 + (x.n + 1)
          omega
      · unfold stp
        rw [if_neg (fun c => c hh), if_neg (by omega), if_neg (by omega), if_pos c2, hq]
        show x.steps + 1 = _
        omega
    · have c3 : x.line = 3 := by omega
      have hnn := h3 c3
      have hlt := lt_of_some (getI_some hg).2
      refine ⟨?_, ?_, by omega⟩
      · unfold stp
        rw [if_neg (fun c => c hh), if_neg (by omega), if_neg (by omega), if_neg c2, sps_sq, hg]
        dsimp only
        refine .inr (.inl ⟨f1, rfl, rfl, ?_⟩)
        rw [hs]
        exact getI_mk (by omega) (List.getElem?_set_self hlt)
      · unfold stp
        rw [if_neg (fun c => c hh), if_neg (by omega), if_neg (by omega), if_neg c2, sps_sq, hg]
        show x.steps + 1 = _
        omega
theorem b_start {ws : List Int} {tr : Int} {d : Nat} (h1 : 1 ≤ tr) (hd : d = 3) : BInv ws tr 0 0 0 0 (st0 tr) (List.replicate (2 + ws.length * d) 0) := by
  subst hd
  exact ⟨by simp, rfl, rfl, by show tr = tr - 0; omega, by omega, by omega, .inl ⟨rfl, rfl⟩, .inl ⟨rfl, by omega⟩⟩
theorem b_store {ws : List Int} {tr : Int} {i : Nat} {ph fl sw v : Int} {x : St} {xs : List Int} (h : BInv ws tr i ph fl sw x xs) (hp : ph < 2) : BInv ws tr i ph fl sw x (xs.set 1 v) :=
  ⟨by rw [List.length_set]; exact h.len, h.how, h.steps, h.left, h.f0, h.f1, by
    rcases h.pl with k | k | ⟨k, _⟩
    · exact .inl k
    · exact .inr (.inl k)
    · omega, h.bd⟩
theorem how_not1 (S : Sp) (ws xs : List Int) (x : St) (hh : x.how = 0) (hl : x.line = 0 ∨ x.line = 1) : ¬ (stp S ws xs x).1.how = 1 := by
  have ha : ∀ y : St, y.how = 0 → ¬ (agn y).how = 1 := fun y hy => by
    rw [agn_how y hy]
    split <;> omega
  unfold stp
  rw [if_neg (fun c => c hh)]
  rcases hl with l | l
  · rw [if_pos l]
    cases getI xs S.sq with
    | none => exact fun c => absurd (show (3 : Int) = 1 from c) (by omega)
    | some v =>
      dsimp only
      split
      · exact ha _ hh
      · show ¬ x.how = 1; omega
  · rw [if_neg (by omega), if_pos l]
    cases getI xs S.sq with
    | none => exact fun c => absurd (show (3 : Int) = 1 from c) (by omega)
    | some v =>
      dsimp only
      split
      · show ¬ x.how = 1; omega
      · exact ha _ hh
theorem b_not1 {ws : List Int} {tr : Int} {i : Nat} {ph fl sw : Int} {x : St} {xs : List Int} (h : BInv ws tr i ph fl sw x xs) (S : Sp) : ph < 2 → ¬ (stp S ws xs x).1.how = 1 := fun hp =>
  how_not1 S ws xs x h.how (by
    rcases h.pl with ⟨_, q⟩ | ⟨_, q, _⟩ | ⟨q, _⟩
    · exact .inl q
    · exact .inr q
    · omega)
end Go.Proofs.Ytbfelghfimcenaa
