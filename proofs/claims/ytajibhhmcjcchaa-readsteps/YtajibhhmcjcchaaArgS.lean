/- What came in: a job; what is done. -/
import Derived.Test.YtajibhhmcjcchaaRsB
import Derived.Test.YtajibhhmcjcchaaArgW
namespace Go.Proofs.Ytajibhhmcjcchaa
open Go.RowKit Go.Deep Go.ChangeShapes Go.WideShapes Go.ChangeAt

set_option maxRecDepth 100000 in
theorem job_of {H : Type} {enc : TypeId × Value → H} {W : World} {base b0 : Nat} {r : Reach} {spare : Nat → Bool} {held : Bool} {v : Value} {d : DataW H} {p : List MemPlace}
    (hv : Value.okWide Try.prog W r b0 25 v) (h : DataW.Trod enc Try.prog W base spare held 25 v d p) : ∃ (S : Sp) (tr : Int), v = .agg (jbx S tr).toArray := by
  obtain ⟨cs, rfl, hsz⟩ := okWide_struct Try.underlying25 hv
  obtain ⟨fuel, hf⟩ := h
  have hy : DataW.trod enc Try.prog W base spare held fuel 25 cs.toList = some (d, p) := by simpa [Value.cells] using hf
  obtain ⟨xs, m, _, _, hlen, hxl, hg⟩ := DataW.trod_struct Try.underlying25 hy
  have hlen6 : cs.toList.length = 6 := hlen.trans (by kernel_rfl)
  have k0 := hg 0 _ rfl
  have k1 := hg 1 _ rfl
  have hx2 : xs.length = 2 := hxl
  have c23 : Try.prog.cellsOf 23 = 5 := by kernel_rfl
  have c3 : Try.prog.cellsOf 3 = 1 := by kernel_rfl
  rw [List.getElem?_eq_getElem (by omega)] at k0 k1
  obtain ⟨ls⟩ := cs
  match ls, hlen6 with
  | [v0, v1, v2, v3, v4, v5], _ =>
    have m0 : DataW.trod enc Try.prog W base spare held m 23 [v0, v1, v2, v3, v4] = some (xs[0]'(by omega)) := k0
    have m1 : DataW.trod enc Try.prog W base spare held m 3 [v5] = some (xs[1]'(by omega)) := k1
    have hr := fun (j : Nat) (f : Field) (hj) => row_fields (j := j) (f := f) Try.underlying23 (by kernel_rfl) m0 hj
    obtain ⟨_, _, q0⟩ := (hr 0 _ rfl).2 v0 rfl
    obtain ⟨_, _, q1⟩ := (hr 1 _ rfl).2 v1 rfl
    obtain ⟨_, _, q2⟩ := (hr 2 _ rfl).2 v2 rfl
    obtain ⟨_, _, q3⟩ := (hr 3 _ rfl).2 v3 rfl
    obtain ⟨_, _, q4⟩ := (hr 4 _ rfl).2 v4 rfl
    obtain ⟨n0, e0, _, _⟩ := DataW.trod_int Try.underlying3 q0
    obtain ⟨n1, e1, _, _⟩ := DataW.trod_int Try.underlying3 q1
    obtain ⟨n2, e2, _, _⟩ := DataW.trod_int Try.underlying3 q2
    obtain ⟨n3, e3, _, _⟩ := DataW.trod_int Try.underlying3 q3
    obtain ⟨n4, e4, _, _⟩ := DataW.trod_int Try.underlying3 q4
    obtain ⟨n5, e5, _, _⟩ := DataW.trod_int Try.underlying3 m1
    simp only [List.cons.injEq, and_true] at e0 e1 e2 e3 e4 e5
    exact ⟨⟨n0, n1, n2, n3, n4⟩, n5, by rw [e0, e1, e2, e3, e4, e5]; rfl⟩
theorem acts_of {H : Type} {enc : TypeId × Value → H} {W : World} {base : Nat} {spare : Nat → Bool} {held : Bool} {a : Option Addr} {len cap : Nat} {d : DataW H} {p : List MemPlace}
    (h : DataW.Trod enc Try.prog W base spare held 26 (.slice a len cap) d p) : ∃ acl : List Ac, len = acl.length ∧ Acs W.heap.size W a acl := by
  obtain ⟨fuel, hf⟩ := h
  obtain ⟨rows, hlies, hrow⟩ := lies_of (n := 3) (v := .slice a len cap) Try.underlying26 (by kernel_rfl) (by omega) (by simpa [Value.cells] using hf)
  obtain ⟨l, rfl, hl⟩ := list_map (fun z : Ac => [Value.bool z.1, Value.int .i64 z.2.1, Value.int .u64 z.2.2]) (fun z => I64 z.2.1 ∧ U64 z.2.2) rows (fun r hr => by
    obtain ⟨m, y, hy⟩ := hrow r hr
    obtain ⟨hlen, h0⟩ := row_fields Try.underlying45 (by kernel_rfl) hy (j := 0) rfl
    obtain ⟨_, h1⟩ := row_fields Try.underlying45 (by kernel_rfl) hy (j := 1) rfl
    obtain ⟨_, h2⟩ := row_fields Try.underlying45 (by kernel_rfl) hy (j := 2) rfl
    have hl3 : r.length = 3 := hlen.trans (by kernel_rfl)
    match r, hl3 with
    | [v0, v1, v2], _ =>
      obtain ⟨m0, z0, k0⟩ := h0 v0 rfl
      obtain ⟨m1, z1, k1⟩ := h1 v1 rfl
      obtain ⟨m2, z2, k2⟩ := h2 v2 rfl
      obtain ⟨n0, e0, _⟩ := DataW.trod_bool Try.underlying4 k0
      obtain ⟨n1, e1, _, w1⟩ := DataW.trod_int Try.underlying3 k1
      obtain ⟨n2, e2, _, w2⟩ := DataW.trod_int Try.underlying43 k2
      simp only [List.cons.injEq, and_true] at e0 e1 e2
      exact ⟨(n0, n1, n2), by rw [e0, e1, e2], i64_of_wf w1, u64_of_wf w2⟩)
  rcases hlies with ⟨a', cap', hs, h0⟩ | ⟨b, off, cap', hs, hc1, hc2, hlt, hc⟩
  · have h00 : l = [] := by simpa using h0
    subst h00
    cases hs
    exact ⟨[], rfl, fun j x hx => by simp at hx⟩
  · have hs' : (Value.slice a len cap) = .slice (some ⟨b, off, none⟩) (l.map (fun z : Ac => [Value.bool z.1, Value.int .i64 z.2.1, Value.int .u64 z.2.2])).length cap' := hs
    cases hs'
    refine ⟨l, by simp, fun j z hz => ?_⟩
    obtain ⟨h2, h3⟩ := hl z (List.mem_of_getElem? hz)
    have := (hc j [Value.bool z.1, Value.int .i64 z.2.1, Value.int .u64 z.2.2] (by simp only [List.getElem?_map, hz, Option.map_some])).2
    exact ⟨h2, h3, b, off, rfl, hlt, by simpa using this 0 _ rfl, this 1 _ rfl, this 2 _ rfl⟩
end Go.Proofs.Ytajibhhmcjcchaa
