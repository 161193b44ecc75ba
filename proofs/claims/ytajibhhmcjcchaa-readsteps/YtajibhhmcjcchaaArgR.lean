/- What came in: slices of slices of words. -/
import Derived.Test.YtajibhhmcjcchaaArgW
namespace Go.Proofs.Ytajibhhmcjcchaa
open Go.RowKit Go.Deep Go.ChangeShapes Go.WideShapes Go.ChangeAt

/-- Rows of words: where each lies, how much room it has, and its words. -/
abbrev Rw := Option Addr × Nat × List Int
def Rws (n₀ : Nat) (W : World) (a : Option Addr) (rs : List Rw) : Prop :=
  ∀ j r, rs[j]? = some r → Wds n₀ W r.1 r.2.2 ∧ ∃ b off, a = some ⟨b, off, none⟩ ∧ b < n₀ ∧ W.cell? ⟨b, off + j, none⟩ = some (.slice r.1 r.2.2.length r.2.1)
theorem Rws.keep {A B : World} {n₀ : Nat} {a : Option Addr} {rs : List Rw} (k : Rws n₀ A a rs) (h : Below n₀ A B) : Rws n₀ B a rs := fun j r hr => by
  obtain ⟨h1, b, off, e, hb, hc⟩ := k j r hr
  exact ⟨h1.keep h, b, off, e, hb, by rw [h.cell (p := ⟨b, off + j, none⟩) hb]; exact hc⟩
theorem rows_of {H : Type} {enc : TypeId × Value → H} {W : World} {base : Nat} {spare : Nat → Bool} {held : Bool} {a : Option Addr} {len cap : Nat} {d : DataW H} {p : List MemPlace}
    (h : DataW.Trod enc Try.prog W base spare held 57 (.slice a len cap) d p) : ∃ rs : List Rw, len = rs.length ∧ Rws W.heap.size W a rs := by
  obtain ⟨fuel, hf⟩ := h
  obtain ⟨rows, hlies, hrow⟩ := lies_of (n := 1) (v := .slice a len cap) Try.underlying57 (by kernel_rfl) (by omega) (by simpa [Value.cells] using hf)
  obtain ⟨l, rfl, hl⟩ := list_map (fun z : Rw => [Value.slice z.1 z.2.2.length z.2.1]) (fun z => Wds W.heap.size W z.1 z.2.2) rows (fun r hr => by
    obtain ⟨m, y, hy⟩ := hrow r hr
    have h1 : ∃ v, r = [v] := by
      rcases hlies with ⟨_, _, _, rfl⟩ | ⟨b, off, cap', hs, _, _, _, hc⟩
      · cases hr
      · obtain ⟨i, hi⟩ := List.mem_iff_getElem?.1 hr
        have := (hc i r hi).1
        match r, this with
        | [v], _ => exact ⟨v, rfl⟩
    obtain ⟨v, rfl⟩ := h1
    obtain ⟨a', cap', xs, rfl, hw, _⟩ := words_trod hy
    exact ⟨(a', cap', xs), rfl, hw⟩)
  refine ⟨l, ?_, fun j r hr => ⟨hl r (List.mem_of_getElem? hr), ?_⟩⟩
  · have := hlies.len
    simpa using this.1
  · obtain ⟨b, off, e1, _, hc⟩ := hlies.at (Below.refl _ _) (i := j) (r := [Value.slice r.1 r.2.2.length r.2.1]) (by simp [hr])
    have hc0 := hc 0 _ rfl
    refine ⟨b, off, e1, ?_, by simpa using hc0⟩
    exact World.block_lt_of_cell? _ _ hc0
end Go.Proofs.Ytajibhhmcjcchaa
