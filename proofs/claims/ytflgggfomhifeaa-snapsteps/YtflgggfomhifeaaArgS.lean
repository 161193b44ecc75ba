/- What came in: a job; what is done. -/
import Derived.Test.YtflgggfomhifeaaNsB
import Derived.Test.YtflgggfomhifeaaArgW
namespace Go.Proofs.Ytflgggfomhifeaa
open Go.RowKit Go.Deep Go.ChangeShapes Go.WideShapes Go.ChangeAt

theorem spots_of {H : Type} {enc : TypeId × Value → H} {W : World} {base : Nat} {spare : Nat → Bool} {held : Bool} {v : Value} {fuel : Nat} {x : DataW H × List MemPlace}
    (h : DataW.trod enc Try.prog W base spare held fuel 22 [v] = some x) : ∃ (l : List Sp) (a : Option Addr) (cap : Nat), v = .slice a l.length cap ∧ Sps W.heap.size W a l := by
  obtain ⟨rows, hlies, hrow⟩ := lies_of (n := 5) Try.underlying22 (by kernel_rfl) (by omega) h
  obtain ⟨l, rfl, _⟩ := list_map spc5 (fun _ => True) rows (fun r hr => by
    obtain ⟨m, y, hy⟩ := hrow r hr
    obtain ⟨hlen, h0⟩ := row_fields Try.underlying69 (by kernel_rfl) hy (j := 0) rfl
    obtain ⟨_, h1⟩ := row_fields Try.underlying69 (by kernel_rfl) hy (j := 1) rfl
    obtain ⟨_, h2⟩ := row_fields Try.underlying69 (by kernel_rfl) hy (j := 2) rfl
    obtain ⟨_, h3⟩ := row_fields Try.underlying69 (by kernel_rfl) hy (j := 3) rfl
    obtain ⟨_, h4⟩ := row_fields Try.underlying69 (by kernel_rfl) hy (j := 4) rfl
    have h5 : r.length = 5 := hlen.trans (by kernel_rfl)
    match r, h5, h0, h1, h2, h3, h4 with
    | [v0, v1, v2, v3, v4], _, h0, h1, h2, h3, h4 =>
      obtain ⟨_, _, g0⟩ := h0 v0 rfl
      obtain ⟨_, _, g1⟩ := h1 v1 rfl
      obtain ⟨_, _, g2⟩ := h2 v2 rfl
      obtain ⟨_, _, g3⟩ := h3 v3 rfl
      obtain ⟨_, _, g4⟩ := h4 v4 rfl
      obtain ⟨n0, e0, _, _⟩ := DataW.trod_int Try.underlying3 g0
      obtain ⟨n1, e1, _, _⟩ := DataW.trod_int Try.underlying3 g1
      obtain ⟨n2, e2, _, _⟩ := DataW.trod_int Try.underlying3 g2
      obtain ⟨n3, e3, _, _⟩ := DataW.trod_int Try.underlying3 g3
      obtain ⟨n4, e4, _, _⟩ := DataW.trod_int Try.underlying3 g4
      simp only [List.cons.injEq, and_true] at e0 e1 e2 e3 e4
      exact ⟨⟨n0, n1, n2, n3, n4⟩, by rw [e0, e1, e2, e3, e4]; rfl, trivial⟩)
  rcases hlies with ⟨a, cap, hs, h0⟩ | ⟨b, off, cap, hs, _, _, hlt, hc⟩
  · have hl : l = [] := by simpa using h0
    subst hl
    exact ⟨[], a, cap, hs, fun j s hs => by simp at hs⟩
  · refine ⟨l, some ⟨b, off, none⟩, cap, by rw [hs]; simp, fun j t ht => ?_⟩
    have hj : (l.map spc5)[j]? = some (spc5 t) := by simp [ht]
    exact ⟨b, off, rfl, hlt, (hc j _ hj).2 0 _ rfl, (hc j _ hj).2 1 _ rfl, (hc j _ hj).2 2 _ rfl, (hc j _ hj).2 3 _ rfl, (hc j _ hj).2 4 _ rfl⟩
set_option maxRecDepth 100000 in
theorem job_of {H : Type} {enc : TypeId × Value → H} {W : World} {base b0 : Nat} {r : Reach} {spare : Nat → Bool} {held : Bool} {v : Value} {d : DataW H} {p : List MemPlace}
    (hv : Value.okWide Try.prog W r b0 24 v) (h : DataW.Trod enc Try.prog W base spare held 24 v d p) : ∃ (ja : Option Addr) (jc : Nat) (jl : List Sp) (tr : Int), v = .agg (jbx ja jl.length jc tr).toArray ∧ Sps W.heap.size W ja jl := by
  obtain ⟨cs, rfl, hsz⟩ := okWide_struct Try.underlying24 hv
  obtain ⟨fuel, hf⟩ := h
  have hy : DataW.trod enc Try.prog W base spare held fuel 24 cs.toList = some (d, p) := by simpa [Value.cells] using hf
  obtain ⟨hlen, h0⟩ := row_fields Try.underlying24 (by kernel_rfl) hy (j := 0) rfl
  obtain ⟨_, h1⟩ := row_fields Try.underlying24 (by kernel_rfl) hy (j := 1) rfl
  have h2 : cs.toList.length = 2 := hlen.trans (by kernel_rfl)
  obtain ⟨ls⟩ := cs
  match ls, h2, h0, h1 with
  | [v0, v1], _, h0, h1 =>
    obtain ⟨_, _, g0⟩ := h0 v0 rfl
    obtain ⟨_, _, g1⟩ := h1 v1 rfl
    obtain ⟨n1, e1, _, _⟩ := DataW.trod_int Try.underlying3 g1
    simp only [List.cons.injEq, and_true] at e1
    obtain ⟨l, a, cap, rfl, hT⟩ := spots_of g0
    subst e1
    exact ⟨a, cap, l, n1, rfl, hT⟩
theorem acts_of {H : Type} {enc : TypeId × Value → H} {W : World} {base : Nat} {spare : Nat → Bool} {held : Bool} {a : Option Addr} {len cap : Nat} {d : DataW H} {p : List MemPlace}
    (h : DataW.Trod enc Try.prog W base spare held 25 (.slice a len cap) d p) : ∃ acl : List Ac, len = acl.length ∧ Acs W.heap.size W a acl := by
  obtain ⟨fuel, hf⟩ := h
  obtain ⟨rows, hlies, hrow⟩ := lies_of (n := 3) (v := .slice a len cap) Try.underlying25 (by kernel_rfl) (by omega) (by simpa [Value.cells] using hf)
  obtain ⟨l, rfl, hl⟩ := list_map (fun z : Ac => [Value.bool z.1, Value.int .i64 z.2.1, Value.int .u64 z.2.2]) (fun z => I64 z.2.1 ∧ U64 z.2.2) rows (fun r hr => by
    obtain ⟨m, y, hy⟩ := hrow r hr
    obtain ⟨hlen, h0⟩ := row_fields Try.underlying44 (by kernel_rfl) hy (j := 0) rfl
    obtain ⟨_, h1⟩ := row_fields Try.underlying44 (by kernel_rfl) hy (j := 1) rfl
    obtain ⟨_, h2⟩ := row_fields Try.underlying44 (by kernel_rfl) hy (j := 2) rfl
    have hl3 : r.length = 3 := hlen.trans (by kernel_rfl)
    match r, hl3 with
    | [v0, v1, v2], _ =>
      obtain ⟨m0, z0, k0⟩ := h0 v0 rfl
      obtain ⟨m1, z1, k1⟩ := h1 v1 rfl
      obtain ⟨m2, z2, k2⟩ := h2 v2 rfl
      obtain ⟨n0, e0, _⟩ := DataW.trod_bool Try.underlying4 k0
      obtain ⟨n1, e1, _, w1⟩ := DataW.trod_int Try.underlying3 k1
      obtain ⟨n2, e2, _, w2⟩ := DataW.trod_int Try.underlying42 k2
      simp only [List.cons.injEq, and_true] at e0 e1 e2
      exact ⟨(n0, n1, n2), by rw [e0, e1, e2], i64_of_wf w1, u64_of_wf w2⟩)
  rcases hlies with ⟨a', cap', hs, h0⟩ | ⟨b, off, cap', hs, hc1, hc2, hlt, hc⟩
  · have h00 : l = [] := by simpa using h0
    subst h00
    cases hs
    exact ⟨[], rfl, fun j x hx => by simp at hx⟩
  · have hs' : (Value.slice a len cap) = .slice (some ⟨b, off, none⟩) (l.map (fun z : Ac => [Value.bool z.1, Value.int .i64 z.2.1, Value.int .u64 z.2.2])).length cap' := hs
    cases hs'
    refine ⟨l, by simp, fun j z hz => ?_⟩
    obtain ⟨h2, h3⟩ := hl z (List.mem_of_getElem? hz)
    have := (hc j [Value.bool z.1, Value.int .i64 z.2.1, Value.int .u64 z.2.2] (by simp only [List.getElem?_map, hz, Option.map_some])).2
    exact ⟨h2, h3, b, off, rfl, hlt, by simpa using this 0 _ rfl, this 1 _ rfl, this 2 _ rfl⟩
end Go.Proofs.Ytflgggfomhifeaa
