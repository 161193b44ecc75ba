/- A step of a publishing, whatever it stands at. -/
import Derived.Test.YtflgggfomhifeaaStC
import Derived.Test.YtflgggfomhifeaaStD
namespace Go.Proofs.Ytflgggfomhifeaa
open Go.RowKit
section
variable {w : World} {o g b bg : Nat} {S : Sp} {ws xs : List Int} {x : St} {t : Int}
theorem step_any (h : OpAt w o g S ws x) (hB : Bk w b bg xs t) (d1 : o ≠ b) (d2 : o ≠ bg) (d3 : g ≠ b) (d4 : g ≠ bg) (hw : Wf S ws x)
    (t0 : 0 ≤ t) (t1 : t ≤ 1000000) (p0 : 0 ≤ x.steps) (p1 : x.steps ≤ 1000000) :
    Calls Try.prog 26 #[.pointer (some ⟨o, 0, none⟩), .pointer (some ⟨b, 0, none⟩)] w (StepPost o g b bg S ws (stp S ws xs x) t w) := by
  unfold stp
  by_cases hh : x.how = 0
  · rw [if_neg (fun c => c hh)]
    by_cases l0 : x.line = 0
    · rw [if_pos l0]
      cases hv : getI xs S.sq with
      | none => exact step_look_out h hB d1 d2 d3 d4 hh l0 hv
      | some v =>
        dsimp only
        by_cases he : v % 2 = 1
        · rw [if_pos he]; exact step_look_odd h hB d1 d2 d3 d4 hh l0 v hv he hw.f0 hw.f1 t0 t1 p0 p1
        · rw [if_neg he]; exact step_look_even h hB d1 d2 d3 d4 hh l0 v hv he t0 t1 p0 p1
    · rw [if_neg l0]
      by_cases l1 : x.line = 1
      · rw [if_pos l1]
        cases hv : getI xs S.sq with
        | none => exact step_take_out h hB d1 d2 d3 d4 hh l1 hv
        | some v =>
          dsimp only
          by_cases he : v = x.s
          · rw [if_pos he]; exact step_take_hit h hB d1 d2 d3 d4 hh l1 (he ▸ hv) t0 t1 p0 p1
          · rw [if_neg he]; exact step_take_miss h hB d1 d2 d3 d4 hh l1 v hv he hw.f0 hw.f1 t0 t1 p0 p1
      · rw [if_neg l1]
        by_cases l2 : x.line = 2
        · rw [if_pos l2]
          cases hv : getI xs (lie S x) with
          | none => exact step_lay_out h hB d1 d2 d3 d4 hh l2 hw hv
          | some v =>
            dsimp only
            by_cases he : x.n + 1 = ws.length
            · rw [if_pos he]; exact step_lay_last h hB d1 d2 d3 d4 hh l2 hw v hv he t0 t1 p0 p1
            · rw [if_neg he]; exact step_lay_mid h hB d1 d2 d3 d4 hh l2 hw v hv he t0 t1 p0 p1
        · rw [if_neg l2]
          have l3 : x.line = 3 := by have := hw.l0; have := hw.l3; omega
          cases hv : getI xs S.sq with
          | none => exact step_give_out h hB d1 d2 d3 d4 hh l3 hv
          | some v => exact step_give_in h hB d1 d2 d3 d4 hh l3 v hv t0 t1 p0 p1
  · rw [if_pos hh]
    refine (step_ended h _ hh).mono ?_
    rintro e w' ⟨rfl, rfl⟩
    exact ⟨rfl, h, by rw [Int.add_zero]; exact hB, Upd.refl _ _⟩
theorem wf_mk (h : Wf S ws x) (y : St) (s : U64 y.s) (n0 : 0 ≤ y.n) (n1 : y.n ≤ 64) (nl : y.line = 2 → y.n < ws.length) (l0 : 0 ≤ y.line) (l3 : y.line ≤ 3) (f0 : 0 ≤ y.left) (f1 : y.left ≤ 16) (fp : y.how = 0 → 1 ≤ y.left) (nz : y.line ≤ 1 → y.n = 0) : Wf S ws y :=
  ⟨h.rt, h.len, h.us, s, n0, n1, nl, l0, l3, f0, f1, fp, nz⟩
theorem wf_how (h : Wf S ws x) (k : Int) (hk : ¬ k = 0) (s : Int) (hs : U64 s) (p : Int) : Wf S ws { x with how := k, s := s, steps := p } :=
  wf_mk h _ hs h.n0 h.n1 h.nl h.l0 h.l3 h.f0 h.f1 (fun c => absurd c hk) h.nz
theorem wf_agn (h : Wf S ws x) (hh : x.how = 0) (hl : x.line ≤ 1) : Wf S ws (agn x) := by
  have := h.fp hh
  have f1 := h.f1
  refine wf_mk h _ h.s h.n0 h.n1 (fun c => ?_) ?_ ?_ ?_ ?_ ?_ (fun _ => h.nz hl)
  · have : (0 : Int) = 2 := c
    omega
  · show (0 : Int) ≤ 0; omega
  · show (0 : Int) ≤ 3; omega
  · show 0 ≤ x.left - 1; omega
  · show x.left - 1 ≤ 16; omega
  · show (if x.left - 1 = 0 then (2 : Int) else x.how) = 0 → 1 ≤ x.left - 1
    split
    · intro c; omega
    · intro _; omega
theorem wf_stp (h : Wf S ws x) (hx : ∀ v ∈ xs, U64 v) : Wf S ws (stp S ws xs x).1 := by
  have hlen : 1 ≤ (ws.length : Int) ∧ (ws.length : Int) ≤ 64 := by have h1 := h.rt.1; have h2 := h.rt.2.1; have := h.len; omega
  have ho : ∀ (k : Int), ¬ k = 0 → Wf S ws { x with how := k } := fun k hk => wf_how h k hk x.s h.s x.steps
  unfold stp
  by_cases hh : x.how = 0
  · rw [if_neg (fun c => c hh)]
    by_cases l0 : x.line = 0
    · rw [if_pos l0]
      cases hv : getI xs S.sq with
      | none => exact wf_how h 3 (by omega) 0 u64_zero x.steps
      | some v =>
        dsimp only
        have uv : U64 v := hx v (List.mem_of_getElem? (getI_some hv).2)
        have h' : Wf S ws { x with s := v } := wf_mk h _ uv h.n0 h.n1 h.nl h.l0 h.l3 h.f0 h.f1 h.fp h.nz
        split
        · exact wf_agn h' hh (by show x.line ≤ 1; omega)
        · exact wf_mk h _ uv h.n0 h.n1 (fun c => absurd (show (1 : Int) = 2 from c) (by omega)) (by show (0 : Int) ≤ 1; omega) (by show (1 : Int) ≤ 3; omega) h.f0 h.f1 h.fp (fun _ => h.nz (by omega))
    · rw [if_neg l0]
      by_cases l1 : x.line = 1
      · rw [if_pos l1]
        have n0 := h.nz (by omega)
        cases hv : getI xs S.sq with
        | none => exact ho 3 (by omega)
        | some v =>
          dsimp only
          split
          · exact wf_mk h _ h.s h.n0 h.n1 (fun _ => by show x.n < ws.length; omega) (by show (0 : Int) ≤ 2; omega) (by show (2 : Int) ≤ 3; omega) h.f0 h.f1 h.fp (fun c => absurd (show (2 : Int) ≤ 1 from c) (by omega))
          · exact wf_agn h hh (by omega)
      · rw [if_neg l1]
        by_cases l2 : x.line = 2
        · rw [if_pos l2]
          cases hv : getI xs (lie S x) with
          | none => exact ho 3 (by omega)
          | some v =>
            dsimp only
            have hnl := h.nl l2
            have hn0 := h.n0
            refine wf_mk h _ h.s (by show 0 ≤ x.n + 1; omega) (by show x.n + 1 ≤ 64; omega) ?_ ?_ ?_ h.f0 h.f1 h.fp ?_
            · show (if x.n + 1 = (ws.length : Int) then (3 : Int) else 2) = 2 → x.n + 1 < ws.length
              split <;> omega
            · show (0 : Int) ≤ if x.n + 1 = (ws.length : Int) then (3 : Int) else 2
              split <;> omega
            · show (if x.n + 1 = (ws.length : Int) then (3 : Int) else 2) ≤ 3
              split <;> omega
            · show (if x.n + 1 = (ws.length : Int) then (3 : Int) else 2) ≤ 1 → x.n + 1 = 0
              split <;> omega
        · rw [if_neg l2]
          cases hv : getI xs S.sq with
          | none => exact ho 3 (by omega)
          | some v => exact wf_how h 1 (by omega) x.s h.s _
  · rw [if_pos hh]; exact h
theorem len_stp (S : Sp) (ws xs : List Int) (x : St) : (stp S ws xs x).2.1.length = xs.length := by
  unfold stp
  (repeat' split) <;> simp
theorem steps_stp (S : Sp) (ws xs : List Int) (x : St) : (stp S ws xs x).1.steps = x.steps + (stp S ws xs x).2.2 ∧ 0 ≤ (stp S ws xs x).2.2 ∧ (stp S ws xs x).2.2 ≤ 1 := by
  unfold stp
  (repeat' split) <;> simp [agn]
theorem u64_stp (hx : ∀ v ∈ xs, U64 v) (h : Wf S ws x) : ∀ v ∈ (stp S ws xs x).2.1, U64 v := by
  have hs : ∀ (i : Nat) (y : Int), U64 y → ∀ v ∈ xs.set i y, U64 v := fun i y hy v hv => (List.mem_or_eq_of_mem_set hv).elim (hx v) (fun e => e ▸ hy)
  unfold stp
  (repeat' split) <;> first | exact hx | exact hs _ _ (u64_addw _ _) | skip
  all_goals
    refine hs _ _ ?_
    rw [List.getD_eq_getElem?_getD]
    cases hq : ws[x.n.toNat]? with
    | none => exact u64_zero
    | some v => exact h.us v (List.mem_of_getElem? hq)
end
end Go.Proofs.Ytflgggfomhifeaa
