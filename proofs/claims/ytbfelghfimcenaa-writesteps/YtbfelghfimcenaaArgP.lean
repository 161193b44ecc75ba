/- What came in: three jobs, and what is done; a spot. -/
import Derived.Test.YtbfelghfimcenaaSpB
import Derived.Test.YtbfelghfimcenaaArgW
namespace Go.Proofs.Ytbfelghfimcenaa
open Go.RowKit Go.Deep Go.ChangeShapes Go.WideShapes Go.ChangeAt

theorem acts_trod {H : Type} {enc : TypeId × Value → H} {W : World} {base fuel : Nat} {spare : Nat → Bool} {held : Bool} {v : Value} {x : DataW H × List MemPlace}
    (hf : DataW.trod enc Try.prog W base spare held fuel 28 [v] = some x) : ∃ (a : Option Addr) (cap : Nat) (acl : List (Int × Int × Int)), v = .slice a acl.length cap ∧ Acs W.heap.size W a acl := by
  obtain ⟨rows, hlies, hrow⟩ := lies_of (n := 3) Try.underlying28 (by kernel_rfl) (by omega) hf
  obtain ⟨l, rfl, hl⟩ := list_map (fun z : Int × Int × Int => [Value.int .i64 z.1, Value.int .i64 z.2.1, Value.int .u64 z.2.2]) (fun z => I64 z.1 ∧ I64 z.2.1 ∧ U64 z.2.2) rows (fun r hr => by
    obtain ⟨m, y, hy⟩ := hrow r hr
    obtain ⟨hlen, h0⟩ := row_fields Try.underlying51 (by kernel_rfl) hy (j := 0) rfl
    obtain ⟨_, h1⟩ := row_fields Try.underlying51 (by kernel_rfl) hy (j := 1) rfl
    obtain ⟨_, h2⟩ := row_fields Try.underlying51 (by kernel_rfl) hy (j := 2) rfl
    have hl3 : r.length = 3 := hlen.trans (by kernel_rfl)
    match r, hl3 with
    | [v0, v1, v2], _ =>
      obtain ⟨m0, z0, k0⟩ := h0 v0 rfl
      obtain ⟨m1, z1, k1⟩ := h1 v1 rfl
      obtain ⟨m2, z2, k2⟩ := h2 v2 rfl
      obtain ⟨n0, e0, _, w0⟩ := DataW.trod_int Try.underlying3 k0
      obtain ⟨n1, e1, _, w1⟩ := DataW.trod_int Try.underlying3 k1
      obtain ⟨n2, e2, _, w2⟩ := DataW.trod_int Try.underlying49 k2
      simp only [List.cons.injEq, and_true] at e0 e1 e2
      exact ⟨(n0, n1, n2), by rw [e0, e1, e2], i64_of_wf w0, i64_of_wf w1, u64_of_wf w2⟩)
  rcases hlies with ⟨a, cap, rfl, h0⟩ | ⟨b, off, cap', hs, hc1, hc2, hlt, hc⟩
  · have : l = [] := by simpa using h0
    subst this
    exact ⟨a, cap, [], rfl, fun j x hx => by simp at hx⟩
  · refine ⟨some ⟨b, off, none⟩, cap', l, by rw [hs]; simp, fun j z hz => ?_⟩
    obtain ⟨h1, h2, h3⟩ := hl z (List.mem_of_getElem? hz)
    have := (hc j [Value.int .i64 z.1, Value.int .i64 z.2.1, Value.int .u64 z.2.2] (by simp only [List.getElem?_map, hz, Option.map_some])).2
    exact ⟨h1, h2, h3, b, off, rfl, hlt, by simpa using this 0 _ rfl, this 1 _ rfl, this 2 _ rfl⟩
set_option maxRecDepth 100000 in
theorem play_of {H : Type} {enc : TypeId × Value → H} {W : World} {base b0 : Nat} {r : Reach} {spare : Nat → Bool} {held : Bool} {v : Value} {d : DataW H} {p : List MemPlace}
    (hv : Value.okWide Try.prog W r b0 30 v) (h : DataW.Trod enc Try.prog W base spare held 30 v d p) :
    ∃ (J : Nat → Jb) (aa : Option Addr) (acl : List (Int × Int × Int)) (ac : Nat), v = .agg (jbc J (.slice aa acl.length ac)).toArray ∧ (∀ k, k < 3 → Wds W.heap.size W (J k).1 (J k).2.2.1) ∧ Acs W.heap.size W aa acl := by
  obtain ⟨cs, rfl, hsz⟩ := okWide_struct Try.underlying30 hv
  obtain ⟨fuel, hf⟩ := h
  have hy : DataW.trod enc Try.prog W base spare held fuel 30 cs.toList = some (d, p) := by simpa [Value.cells] using hf
  obtain ⟨xs, m, _, _, hlen, hxl, hg⟩ := DataW.trod_struct Try.underlying30 hy
  have hlen7 : cs.toList.length = 7 := hlen.trans (by kernel_rfl)
  have k0 := hg 0 _ rfl
  have k1 := hg 1 _ rfl
  have hx2 : xs.length = 2 := hxl
  have c27 : Try.prog.cellsOf 27 = 6 := by kernel_rfl
  have c28 : Try.prog.cellsOf 28 = 1 := by kernel_rfl
  rw [List.getElem?_eq_getElem (by omega)] at k0 k1
  obtain ⟨ls⟩ := cs
  match ls, hlen7 with
  | [v0, v1, v2, v3, v4, v5, v6], _ =>
    have m0 : DataW.trod enc Try.prog W base spare held m 27 [v0, v1, v2, v3, v4, v5] = some (xs[0]'(by omega)) := k0
    have m1 : DataW.trod enc Try.prog W base spare held m 28 [v6] = some (xs[1]'(by omega)) := k1
    obtain ⟨aa, ac, acl, rfl, hA⟩ := acts_trod m1
    obtain ⟨ys, m', _, _, _, hyl, hq⟩ := DataW.trod_array Try.underlying27 m0
    rw [show Try.prog.cellsOf 26 = 2 from by kernel_rfl] at hq
    have a0 := hq 0 (by omega)
    have a1 := hq 1 (by omega)
    have a2 := hq 2 (by omega)
    rw [List.getElem?_eq_getElem (by omega)] at a0 a1 a2
    have job : ∀ (u t : Value) (z : DataW H × List MemPlace), DataW.trod enc Try.prog W base spare held m' 26 [u, t] = some z → ∃ (q : Option Addr) (c : Nat) (ws : List Int) (n : Int), u = .slice q ws.length c ∧ t = .int .i64 n ∧ Wds W.heap.size W q ws := by
      intro u t z hz
      obtain ⟨_, h0⟩ := row_fields Try.underlying26 (by kernel_rfl) hz (j := 0) rfl
      obtain ⟨_, h1⟩ := row_fields Try.underlying26 (by kernel_rfl) hz (j := 1) rfl
      obtain ⟨_, _, k0⟩ := h0 u rfl
      obtain ⟨_, _, k1⟩ := h1 t rfl
      obtain ⟨q, c, ws, e, hw, _⟩ := words_trod k0
      obtain ⟨n, e1, _, _⟩ := DataW.trod_int Try.underlying3 k1
      simp only [List.cons.injEq, and_true] at e1
      exact ⟨q, c, ws, n, e, e1, hw⟩
    obtain ⟨q0, c0, w0, t0, rfl, rfl, h0⟩ := job v0 v1 _ a0
    obtain ⟨q1, c1, w1, t1, rfl, rfl, h1⟩ := job v2 v3 _ a1
    obtain ⟨q2, c2, w2, t2, rfl, rfl, h2⟩ := job v4 v5 _ a2
    refine ⟨fun k => if k = 0 then (q0, c0, w0, t0) else if k = 1 then (q1, c1, w1, t1) else (q2, c2, w2, t2), aa, acl, ac, rfl, fun k hk => ?_, hA⟩
    match k, hk with
    | 0, _ => exact h0
    | 1, _ => exact h1
    | 2, _ => exact h2
set_option maxRecDepth 100000 in
theorem spot_of {H : Type} {enc : TypeId × Value → H} {W : World} {base b0 : Nat} {r : Reach} {spare : Nat → Bool} {held : Bool} {v : Value} {d : DataW H} {p : List MemPlace}
    (hv : Value.okWide Try.prog W r b0 23 v) (h : DataW.Trod enc Try.prog W base spare held 23 v d p) : ∃ S : Sp, v = spV S := by
  obtain ⟨cs, rfl, hsz⟩ := okWide_struct Try.underlying23 hv
  obtain ⟨fuel, hf⟩ := h
  have hy : DataW.trod enc Try.prog W base spare held fuel 23 cs.toList = some (d, p) := by simpa [Value.cells] using hf
  have hr := fun (j : Nat) (f : Field) (hj) => row_fields (j := j) (f := f) Try.underlying23 (by kernel_rfl) hy hj
  have hlen5 : cs.toList.length = 5 := (hr 0 _ rfl).1.trans (by kernel_rfl)
  obtain ⟨ls⟩ := cs
  match ls, hlen5 with
  | [v0, v1, v2, v3, v4], _ =>
    obtain ⟨_, _, k0⟩ := (hr 0 _ rfl).2 v0 rfl
    obtain ⟨_, _, k1⟩ := (hr 1 _ rfl).2 v1 rfl
    obtain ⟨_, _, k2⟩ := (hr 2 _ rfl).2 v2 rfl
    obtain ⟨_, _, k3⟩ := (hr 3 _ rfl).2 v3 rfl
    obtain ⟨_, _, k4⟩ := (hr 4 _ rfl).2 v4 rfl
    obtain ⟨n0, e0, _, _⟩ := DataW.trod_int Try.underlying3 k0
    obtain ⟨n1, e1, _, _⟩ := DataW.trod_int Try.underlying3 k1
    obtain ⟨n2, e2, _, _⟩ := DataW.trod_int Try.underlying3 k2
    obtain ⟨n3, e3, _, _⟩ := DataW.trod_int Try.underlying3 k3
    obtain ⟨n4, e4, _, _⟩ := DataW.trod_int Try.underlying3 k4
    simp only [List.cons.injEq, and_true] at e0 e1 e2 e3 e4
    exact ⟨⟨n0, n1, n2, n3, n4⟩, by rw [e0, e1, e2, e3, e4]⟩
end Go.Proofs.Ytbfelghfimcenaa
