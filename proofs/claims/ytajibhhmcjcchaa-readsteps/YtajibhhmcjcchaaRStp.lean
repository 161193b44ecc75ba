/- A step of a reading, whatever it stands at. -/
import Derived.Test.YtajibhhmcjcchaaRdTB
import Derived.Test.YtajibhhmcjcchaaRdTC
import Derived.Test.YtajibhhmcjcchaaRdTD
namespace Go.Proofs.Ytajibhhmcjcchaa
open Go.RowKit
section
variable {w : World} {o g b bg : Nat} {S : Sp} {xs : List Int} {x : RSt} {t : Int}
theorem rstep_any (h : RdAt w o g S x) (hB : Bk w b bg xs t) (d1 : o ≠ b) (d2 : o ≠ bg) (d3 : g ≠ b) (d4 : g ≠ bg) (hw : RWf S x)
    (t0 : 0 ≤ t) (t1 : t ≤ 1000000) (p0 : 0 ≤ x.steps) (p1 : x.steps ≤ 1000000) :
    Calls Try.prog 16 #[.pointer (some ⟨o, 0, none⟩), .pointer (some ⟨b, 0, none⟩)] w (RdPost o g b bg S xs (rst S xs x) t w) := by
  unfold rst
  by_cases hh : x.how = 0
  · rw [if_neg (fun c => c hh)]
    cases hv : getI xs (rdl S x) with
    | none => exact rstep_out h hB d1 d2 d3 d4 hw hh hv
    | some v =>
      dsimp only
      by_cases l0 : x.line = 0
      · rw [if_pos l0]
        exact rstep_new h hB d1 d2 d3 d4 hw hh l0 v hv t0 t1 p0 p1
      · rw [if_neg l0]
        by_cases l1 : x.line = 1
        · rw [if_pos l1]
          by_cases hm : (x.rw.length : Int) + 1 = S.wd
          · rw [if_pos hm]; exact rstep_word_last h hB d1 d2 d3 d4 hw hh l1 v hv hm t0 t1 p0 p1
          · rw [if_neg hm]; exact rstep_word h hB d1 d2 d3 d4 hw hh l1 v hv hm t0 t1 p0 p1
        · rw [if_neg l1]
          have l2 : x.line = 2 := by have := hw.l0; have := hw.l2; omega
          cases hk : Sq.kp v x.gen S.dp with
          | true => rw [if_pos rfl]; exact rstep_kept h hB d1 d2 d3 d4 hw hh l2 v hv hk t0 t1 p0 p1
          | false =>
            rw [if_neg (by simp)]
            by_cases hf : x.left = 1
            · exact rstep_spent h hB d1 d2 d3 d4 hw hh l2 v hv hk hf t0 t1 p0 p1
            · exact rstep_again h hB d1 d2 d3 d4 hw hh l2 v hv hk (by omega) t0 t1 p0 p1
  · rw [if_pos hh]
    refine (rstep_ended h _ hh).mono ?_
    rintro e w' ⟨rfl, rfl⟩
    exact ⟨rfl, h, by rw [Int.add_zero]; exact hB, Upd.refl _ _⟩
theorem rwf_mk (h : RWf S x) (y : RSt) (gen : U64 y.gen) (us : ∀ v ∈ y.rw, U64 v) (len : (y.rw.length : Int) ≤ S.wd) (nl : y.line = 1 → (y.rw.length : Int) < S.wd) (l0 : 0 ≤ y.line) (l2 : y.line ≤ 2) (f0 : 0 ≤ y.left) (f1 : y.left ≤ 16) (fp : y.how = 0 → 1 ≤ y.left) : RWf S y :=
  ⟨h.rt, gen, us, len, nl, l0, l2, f0, f1, fp⟩
theorem rwf_rst (h : RWf S x) (hx : ∀ v ∈ xs, U64 v) : RWf S (rst S xs x).1 := by
  have h1 := h.rt.1
  unfold rst
  by_cases hh : x.how = 0
  · rw [if_neg (fun c => c hh)]
    cases hv : getI xs (rdl S x) with
    | none => exact rwf_mk h _ h.gen h.us h.len h.nl h.l0 h.l2 h.f0 h.f1 (fun c => absurd (show (3 : Int) = 0 from c) (by omega))
    | some v =>
      have uv : U64 v := hx v (List.mem_of_getElem? (getI_some hv).2)
      dsimp only
      by_cases l0 : x.line = 0
      · rw [if_pos l0]
        refine rwf_mk h _ (by unfold U64 at *; show 0 ≤ v / 2 ∧ v / 2 < _; omega) (fun v hv => (by cases hv)) (by show (0 : Int) ≤ S.wd; omega) (fun _ => by show (0 : Int) < S.wd; omega) (by show (0 : Int) ≤ 1; omega) (by show (1 : Int) ≤ 2; omega) h.f0 h.f1 h.fp
      · rw [if_neg l0]
        by_cases l1 : x.line = 1
        · rw [if_pos l1]
          have hnl := h.nl l1
          have e : ((x.rw ++ [v]).length : Int) = x.rw.length + 1 := by simp
          refine rwf_mk h _ h.gen (fun u hu => ?_) (by rw [e]; omega) (fun c => ?_) ?_ ?_ h.f0 h.f1 h.fp
          · rcases List.mem_append.1 hu with hu | hu
            · exact h.us u hu
            · simp only [List.mem_cons, List.not_mem_nil, or_false] at hu
              exact hu ▸ uv
          · have c' : (if (x.rw.length : Int) + 1 = S.wd then (2 : Int) else 1) = 1 := c
            rw [e]
            split at c' <;> omega
          · show (0 : Int) ≤ if (x.rw.length : Int) + 1 = S.wd then 2 else 1
            split <;> omega
          · show (if (x.rw.length : Int) + 1 = S.wd then (2 : Int) else 1) ≤ 2
            split <;> omega
        · rw [if_neg l1]
          have hnl := h.fp hh
          have f1 := h.f1
          split
          · exact rwf_mk h _ h.gen h.us h.len h.nl h.l0 h.l2 h.f0 h.f1 (fun c => absurd (show (1 : Int) = 0 from c) (by omega))
          · refine rwf_mk h _ h.gen h.us h.len (fun c => absurd (show (0 : Int) = 1 from c) (by omega)) (by show (0 : Int) ≤ 0; omega) (by show (0 : Int) ≤ 2; omega) (by show 0 ≤ x.left - 1; omega) (by show x.left - 1 ≤ 16; omega) ?_
            show (if x.left - 1 = 0 then (2 : Int) else x.how) = 0 → 1 ≤ x.left - 1
            split
            · intro c; omega
            · intro _; omega
  · rw [if_pos hh]; exact h
theorem steps_rst (S : Sp) (xs : List Int) (x : RSt) : (rst S xs x).1.steps = x.steps + (rst S xs x).2 ∧ 0 ≤ (rst S xs x).2 ∧ (rst S xs x).2 ≤ 1 := by
  unfold rst
  (repeat' split) <;> simp [ragn]
/-- So many steps of one reading, while the words stay. -/
def rnn (S : Sp) (xs : List Int) (p : RSt × Int) : Nat → RSt × Int
  | 0 => p
  | k + 1 => ((rst S xs (rnn S xs p k).1).1, (rnn S xs p k).2 + (rst S xs (rnn S xs p k).1).2)
theorem rnn_wf {p : RSt × Int} (h : RWf S p.1) (hx : ∀ v ∈ xs, U64 v) (k : Nat) : RWf S (rnn S xs p k).1 ∧
    p.1.steps ≤ (rnn S xs p k).1.steps ∧ (rnn S xs p k).1.steps ≤ p.1.steps + k ∧ p.2 ≤ (rnn S xs p k).2 ∧ (rnn S xs p k).2 ≤ p.2 + k := by
  induction k with
  | zero => exact ⟨h, by show p.1.steps ≤ p.1.steps; omega, by show p.1.steps ≤ _; omega, by show p.2 ≤ p.2; omega, by show p.2 ≤ _; omega⟩
  | succ k ih =>
    obtain ⟨h1, h4, h5, h6, h7⟩ := ih
    obtain ⟨s1, s2, s3⟩ := steps_rst S xs (rnn S xs p k).1
    refine ⟨rwf_rst h1 hx, ?_, ?_, ?_, ?_⟩
    · show _ ≤ (rst S xs (rnn S xs p k).1).1.steps; omega
    · show (rst S xs (rnn S xs p k).1).1.steps ≤ _; omega
    · show _ ≤ (rnn S xs p k).2 + (rst S xs (rnn S xs p k).1).2; omega
    · show (rnn S xs p k).2 + (rst S xs (rnn S xs p k).1).2 ≤ _; omega
end
end Go.Proofs.Ytajibhhmcjcchaa
