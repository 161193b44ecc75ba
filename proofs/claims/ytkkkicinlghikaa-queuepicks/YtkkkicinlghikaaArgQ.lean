/- What came in: a cursor, subscriptions, generations, acts. -/
import Derived.Test.YtkkkicinlghikaaArgs
import Derived.Test.YtkkkicinlghikaaSub
import Derived.OpenShut
import Derived.ChangeOld
namespace Go.Proofs.Ytkkkicinlghikaa
open Go.RowKit Go.Deep Go.ChangeShapes Go.WideShapes Go.ChangeAt

theorem u64_bd {x : Int} (h : (Lit.int .u64 x).wf = true) : W64 x := by
  have := bounds_u64 h
  unfold W64
  omega
theorem cur_row {H : Type} {enc : TypeId × Value → H} {W : World} {base fuel : Nat} {spare : Nat → Bool} {held : Bool} {r : List Value} {x : DataW H × List MemPlace}
    (hy : DataW.trod enc Try.prog W base spare held fuel 27 r = some x) : ∃ n c g l : Int, r = cuL n c g l ∧ W64 n ∧ I64 c ∧ W64 g ∧ W64 l := by
  obtain ⟨hlen, h0⟩ := row_fields Try.underlying27 (by kernel_rfl) hy (j := 0) rfl
  obtain ⟨_, h1⟩ := row_fields Try.underlying27 (by kernel_rfl) hy (j := 1) rfl
  obtain ⟨_, h2⟩ := row_fields Try.underlying27 (by kernel_rfl) hy (j := 2) rfl
  obtain ⟨_, h3⟩ := row_fields Try.underlying27 (by kernel_rfl) hy (j := 3) rfl
  have hl4 : r.length = 4 := hlen.trans (by kernel_rfl)
  match r, hl4, h0, h1, h2, h3 with
  | [v0, v1, v2, v3], _, h0, h1, h2, h3 =>
    obtain ⟨_, _, g0⟩ := h0 v0 rfl
    obtain ⟨_, _, g1⟩ := h1 v1 rfl
    obtain ⟨_, _, g2⟩ := h2 v2 rfl
    obtain ⟨_, _, g3⟩ := h3 v3 rfl
    obtain ⟨n0, e0, _, w0⟩ := DataW.trod_int Try.underlying22 g0
    obtain ⟨n1, e1, _, w1⟩ := DataW.trod_int Try.underlying3 g1
    obtain ⟨n2, e2, _, w2⟩ := DataW.trod_int Try.underlying22 g2
    obtain ⟨n3, e3, _, w3⟩ := DataW.trod_int Try.underlying22 g3
    simp only [List.cons.injEq, and_true] at e0 e1 e2 e3
    exact ⟨n0, n1, n2, n3, by rw [e0, e1, e2, e3], u64_bd w0, i64_of_wf w1, u64_bd w2, u64_bd w3⟩
/-- A cursor that came in. -/
theorem cu_of {H : Type} {enc : TypeId × Value → H} {W : World} {base b0 : Nat} {r : Reach} {spare : Nat → Bool} {held : Bool} {v : Value} {d : DataW H} {p : List MemPlace}
    (hv : Value.okWide Try.prog W r b0 27 v) (h : DataW.Trod enc Try.prog W base spare held 27 v d p) : ∃ n c g l : Int, v = cu n c g l ∧ W64 n ∧ I64 c ∧ W64 g ∧ W64 l := by
  obtain ⟨cs, rfl, hsz⟩ := okWide_struct Try.underlying27 hv
  obtain ⟨fuel, hf⟩ := h
  have hy : DataW.trod enc Try.prog W base spare held fuel 27 cs.toList = some (d, p) := by simpa [Value.cells] using hf
  obtain ⟨n, c, g, l, e, w⟩ := cur_row hy
  obtain ⟨ls⟩ := cs
  simp only at e
  subst e
  exact ⟨n, c, g, l, rfl, w⟩
/-- A subscription's numbers are such. -/
def SbW (S : Sb) : Prop := W64 S.n ∧ I64 S.c ∧ W64 S.g ∧ W64 S.l ∧ I64 S.rk
theorem subs_of {H : Type} {enc : TypeId × Value → H} {W : World} {base : Nat} {spare : Nat → Bool} {held : Bool} {a : Option Addr} {len cap : Nat} {d : DataW H} {p : List MemPlace}
    (h : DataW.Trod enc Try.prog W base spare held 53 (.slice a len cap) d p) : ∃ l : List Sb, len = l.length ∧ Sbs W.heap.size W a l ∧ (∀ S ∈ l, SbW S) ∧ l.length ≤ maxLen := by
  obtain ⟨fuel, hf⟩ := h
  obtain ⟨rows, hlies, hrow⟩ := lies_of (n := 6) (v := .slice a len cap) Try.underlying53 (by kernel_rfl) (by omega) (by simpa [Value.cells] using hf)
  have hll := hlies.len
  obtain ⟨l, rfl, hl⟩ := list_map sbL SbW rows (fun r hr => by
    obtain ⟨m, y, hy⟩ := hrow r hr
    obtain ⟨xs, n, _, _, hlen, hxl, hg⟩ := DataW.trod_struct Try.underlying56 hy
    have hl6 : r.length = 6 := hlen.trans (by kernel_rfl)
    have hx3 : xs.length = 3 := hxl
    have k0 := hg 0 _ rfl
    have k1 := hg 1 _ rfl
    have k2 := hg 2 _ rfl
    rw [List.getElem?_eq_getElem (by omega)] at k0 k1 k2
    match r, hl6 with
    | [v0, v1, v2, v3, v4, v5], _ =>
      have m0 : DataW.trod enc Try.prog W base spare held n 3 [v0] = some (xs[0]'(by omega)) := k0
      have m1 : DataW.trod enc Try.prog W base spare held n 3 [v1] = some (xs[1]'(by omega)) := k1
      have m2 : DataW.trod enc Try.prog W base spare held n 27 [v2, v3, v4, v5] = some (xs[2]'(by omega)) := k2
      obtain ⟨n0, e0, _, w0⟩ := DataW.trod_int Try.underlying3 m0
      obtain ⟨n1, e1, _, w1⟩ := DataW.trod_int Try.underlying3 m1
      obtain ⟨a0, a1, a2, a3, e2, w2, w3, w4, w5⟩ := cur_row m2
      simp only [List.cons.injEq, and_true] at e0 e1 e2
      obtain ⟨rfl, rfl, rfl, rfl⟩ := e2
      exact ⟨⟨n0, n1, a0, a1, a2, a3⟩, by rw [e0, e1], w2, w3, w4, w5, i64_of_wf w1⟩)
  have hlm : l.length ≤ maxLen := by have h1 := hll.1; have h2 := hll.2; rw [List.length_map] at h1; omega
  rcases hlies with ⟨a', cap', hs, h0⟩ | ⟨b, off, cap', hs, hc1, hc2, hlt, hc⟩
  · have h00 : l = [] := by simpa using h0
    subst h00
    cases hs
    exact ⟨[], rfl, fun j x hx => by simp at hx, hl, hlm⟩
  · have hs' : (Value.slice a len cap) = .slice (some ⟨b, off, none⟩) (l.map sbL).length cap' := hs
    cases hs'
    refine ⟨l, by simp, fun j z hz => ?_, hl, hlm⟩
    have := (hc j (sbL z) (by simp only [List.getElem?_map, hz, Option.map_some])).2
    exact ⟨b, off, rfl, hlt, by simpa using this 0 _ rfl, this 1 _ rfl, this 2 _ rfl, this 3 _ rfl, this 4 _ rfl, this 5 _ rfl⟩
theorem gens_of {H : Type} {enc : TypeId × Value → H} {W : World} {base : Nat} {spare : Nat → Bool} {held : Bool} {a : Option Addr} {len cap : Nat} {d : DataW H} {p : List MemPlace}
    (h : DataW.Trod enc Try.prog W base spare held 32 (.slice a len cap) d p) : ∃ l : List Int, len = l.length ∧ Gns W.heap.size W a l ∧ (∀ x ∈ l, W64 x) ∧ l.length ≤ maxLen := by
  obtain ⟨fuel, hf⟩ := h
  obtain ⟨rows, hlies, hrow⟩ := lies_of (n := 1) (v := .slice a len cap) Try.underlying32 (by kernel_rfl) (by omega) (by simpa [Value.cells] using hf)
  have hll := hlies.len
  obtain ⟨l, rfl, hl⟩ := list_map (fun z : Int => [Value.int .u64 z]) W64 rows (fun r hr => by
    obtain ⟨m, y, hy⟩ := hrow r hr
    obtain ⟨n0, e0, _, w0⟩ := DataW.trod_int Try.underlying22 hy
    exact ⟨n0, e0, u64_bd w0⟩)
  have hlm : l.length ≤ maxLen := by have h1 := hll.1; have h2 := hll.2; rw [List.length_map] at h1; omega
  rcases hlies with ⟨a', cap', hs, h0⟩ | ⟨b, off, cap', hs, hc1, hc2, hlt, hc⟩
  · have h00 : l = [] := by simpa using h0
    subst h00
    cases hs
    exact ⟨[], rfl, fun j x hx => by simp at hx, hl, hlm⟩
  · have hs' : (Value.slice a len cap) = .slice (some ⟨b, off, none⟩) (l.map (fun z : Int => [Value.int .u64 z])).length cap' := hs
    cases hs'
    refine ⟨l, by simp, fun j z hz => ?_, hl, hlm⟩
    have := (hc j [Value.int .u64 z] (by simp only [List.getElem?_map, hz, Option.map_some])).2 0 _ rfl
    exact ⟨b, off, rfl, hlt, by simpa using this⟩
/-- Acts: what is done, and by how many. -/
def Ats (n₀ : Nat) (W : World) (a : Option Addr) (l : List (Int × Int)) : Prop :=
  ∀ j x, l[j]? = some x → ∃ b off, a = some ⟨b, off, none⟩ ∧ b < n₀ ∧ W.cell? ⟨b, off + j * 2, none⟩ = some (.int .i64 x.1) ∧ W.cell? ⟨b, off + j * 2 + 1, none⟩ = some (.int .i64 x.2)
theorem Ats.below {n₀ : Nat} {A B : World} {a : Option Addr} {l : List (Int × Int)} (k : Ats n₀ A a l) (h : Below n₀ A B) : Ats n₀ B a l := fun j p hp => by
  obtain ⟨b, off, e, hb, c0, c1⟩ := k j p hp
  exact ⟨b, off, e, hb, by rw [h.cell (p := ⟨b, off + j * 2, none⟩) hb]; exact c0, by rw [h.cell (p := ⟨b, off + j * 2 + 1, none⟩) hb]; exact c1⟩
theorem acts_of {H : Type} {enc : TypeId × Value → H} {W : World} {base : Nat} {spare : Nat → Bool} {held : Bool} {a : Option Addr} {len cap : Nat} {d : DataW H} {p : List MemPlace}
    (h : DataW.Trod enc Try.prog W base spare held 23 (.slice a len cap) d p) : ∃ l : List (Int × Int), len = l.length ∧ Ats W.heap.size W a l ∧ (∀ x ∈ l, I64 x.1 ∧ I64 x.2) ∧ l.length ≤ maxLen := by
  obtain ⟨fuel, hf⟩ := h
  obtain ⟨rows, hlies, hrow⟩ := lies_of (n := 2) (v := .slice a len cap) Try.underlying23 (by kernel_rfl) (by omega) (by simpa [Value.cells] using hf)
  have hll := hlies.len
  obtain ⟨l, rfl, hl⟩ := list_map (fun z : Int × Int => [Value.int .i64 z.1, Value.int .i64 z.2]) (fun z => I64 z.1 ∧ I64 z.2) rows (fun r hr => by
    obtain ⟨m, y, hy⟩ := hrow r hr
    obtain ⟨hlen, h0⟩ := row_fields Try.underlying36 (by kernel_rfl) hy (j := 0) rfl
    obtain ⟨_, h1⟩ := row_fields Try.underlying36 (by kernel_rfl) hy (j := 1) rfl
    have hl2 : r.length = 2 := hlen.trans (by kernel_rfl)
    match r, hl2, h0, h1 with
    | [v0, v1], _, h0, h1 =>
      obtain ⟨m0, z0, k0⟩ := h0 v0 rfl
      obtain ⟨m1, z1, k1⟩ := h1 v1 rfl
      obtain ⟨n0, e0, _, w0⟩ := DataW.trod_int Try.underlying3 k0
      obtain ⟨n1, e1, _, w1⟩ := DataW.trod_int Try.underlying3 k1
      simp only [List.cons.injEq, and_true] at e0 e1
      exact ⟨(n0, n1), by rw [e0, e1], i64_of_wf w0, i64_of_wf w1⟩)
  have hlm : l.length ≤ maxLen := by have h1 := hll.1; have h2 := hll.2; rw [List.length_map] at h1; omega
  rcases hlies with ⟨a', cap', hs, h0⟩ | ⟨b, off, cap', hs, hc1, hc2, hlt, hc⟩
  · have h00 : l = [] := by simpa using h0
    subst h00
    cases hs
    exact ⟨[], rfl, fun j x hx => by simp at hx, hl, hlm⟩
  · have hs' : (Value.slice a len cap) = .slice (some ⟨b, off, none⟩) (l.map (fun z : Int × Int => [Value.int .i64 z.1, Value.int .i64 z.2])).length cap' := hs
    cases hs'
    refine ⟨l, by simp, fun j z hz => ?_, hl, hlm⟩
    have := (hc j [Value.int .i64 z.1, Value.int .i64 z.2] (by simp only [List.getElem?_map, hz, Option.map_some])).2
    exact ⟨b, off, rfl, hlt, by simpa using this 0 _ rfl, this 1 _ rfl⟩
end Go.Proofs.Ytkkkicinlghikaa
