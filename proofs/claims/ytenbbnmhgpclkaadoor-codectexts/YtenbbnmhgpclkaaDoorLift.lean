/- What a walk is told of arguments, and of the table of kinds. -/
import Derived.ProofKit
import Derived.Deep.Slices
import Derived.Deep.Fields
import Derived.Lib.SmallJoins
import Derived.LaidMore
import Derived.OpenShut
import Derived.Stop.Joined
import Derived.Test.YtenbbnmhgpclkaaDoorAwk
namespace Go.Proofs.YtenbbnmhgpclkaaDoor
open Go.RowKit Go.Deep Go.ChangeShapes Go.WideShapes Go.ChangeAt

/-- A slice of structs of n one-cell fields: its rows, each a list of n values. -/
def Lies (w : World) (s : Value) (n : Nat) (rows : List (List Value)) : Prop :=
  (∃ a cap, s = .slice a 0 cap ∧ rows = []) ∨
  ∃ (b off cap : Nat), s = .slice (some ⟨b, off, none⟩) rows.length cap ∧ rows.length ≤ cap ∧ cap ≤ maxLen ∧ b < w.heap.size ∧
    ∀ i r, rows[i]? = some r → r.length = n ∧ ∀ j x, r[j]? = some x → w.cell? ⟨b, off + i * n + j, none⟩ = some x

theorem add_none (b off k : Nat) : (⟨b, off, none⟩ : Addr).add k = ⟨b, off + k, none⟩ := by
  unfold Addr.add
  split <;> simp_all

section
variable {H : Type} {enc : TypeId × Value → H} {P : Program} {w : World} {base : Nat} {spare : Nat → Bool} {held : Bool}

theorem list_of {p : Nat → List Value → Prop} : ∀ (n : Nat), (∀ i, i < n → ∃ r, p i r) → ∃ l : List (List Value), l.length = n ∧ ∀ i r, l[i]? = some r → p i r
  | 0, _ => ⟨[], rfl, fun i r h => by simp at h⟩
  | n + 1, h => by
    obtain ⟨l, hl, hp⟩ := list_of n (fun i hi => h i (by omega))
    obtain ⟨r, hr⟩ := h n (by omega)
    refine ⟨l ++ [r], by simp [hl], fun i r' h' => ?_⟩
    rcases Nat.lt_trichotomy i n with hi | rfl | hi
    · rw [List.getElem?_append_left (by omega)] at h'
      exact hp i r' h'
    · rw [List.getElem?_append_right (by omega), hl] at h'
      simp at h'
      exact h' ▸ hr
    · rw [List.getElem?_append_right (by omega)] at h'
      have : (i - l.length) = (i - n - 1) + 1 := by omega
      rw [this] at h'
      simp at h'

/-- A slice of structs that came in: its rows; each reads as a struct. -/
theorem lies_of {t e : TypeId} {fuel : Nat} {v : Value} {x : DataW H × List MemPlace} {n : Nat} (ht : P.underlying t = some (.slice e)) (hC : P.cellsOf e = n) (hn : 0 < n)
    (h : DataW.trod enc P w base spare held fuel t [v] = some x) :
    ∃ rows, Lies w v n rows ∧ ∀ r ∈ rows, ∃ (m : Nat) (y : DataW H × List MemPlace), DataW.trod enc P w base spare held m e r = some y := by
  rcases open_slice ht h with ⟨hv, _⟩ | ⟨a, len, cap, m, fu, D, Pl, hv, _, hl, hm, hmm, _, hi⟩
  · refine ⟨[], .inl ⟨none, 0, by simpa using hv, rfl⟩, fun r hr => by cases hr⟩
  · have hlen : len ≤ m := by rw [hmm]; split <;> omega
    obtain ⟨rows, hr, hp⟩ := list_of (p := fun i r => w.cells? base (a.add (i * P.cellsOf e)) (P.cellsOf e) = some r ∧ DataW.trod enc P w base spare held fu e r = some (D i, Pl i)) len (fun i hlt => hi i (by omega))
    rw [hC] at hp
    obtain ⟨b, off, sp⟩ := a
    simp only [List.cons.injEq, and_true] at hv
    refine ⟨rows, ?_, fun r hr => ?_⟩
    · match rows, hr, hp with
      | [], hr, _ => exact .inl ⟨some ⟨b, off, sp⟩, cap, by rw [hv, ← hr]; rfl, rfl⟩
      | r :: rest, hr, hp =>
        obtain ⟨hc, _⟩ := hp 0 r rfl
        obtain ⟨_, hcl, hat⟩ := World.cells?_some hc
        have h0 := hat 0 hn
        have hs : r[0]? = some (r[0]'(by omega)) := List.getElem?_eq_getElem (by omega)
        rw [hs] at h0
        have hsp : sp = none := by simpa [Addr.add] using World.cell?_spot h0
        have hlt : b < w.heap.size := by simpa [Addr.add] using World.block_lt_of_cell? _ _ h0
        subst hsp
        refine .inr ⟨b, off, cap, by rw [hv, ← hr], by omega, hm, hlt, fun i r' hi' => ?_⟩
        obtain ⟨hc', _⟩ := hp i r' hi'
        obtain ⟨_, hcl', hat'⟩ := World.cells?_some hc'
        refine ⟨hcl', fun j x hx => ?_⟩
        have hj : j < n := by rw [← hcl']; exact (List.getElem?_eq_some_iff.1 hx).1
        have := hat' j hj
        rw [hx, add_none, add_none] at this
        exact this
    · obtain ⟨i, hi', hr'⟩ := List.mem_iff_getElem.1 hr
      obtain ⟨_, hd⟩ := hp i r (by rw [List.getElem?_eq_getElem hi', hr'])
      exact ⟨_, _, hd⟩

/-- A struct's row, field by field. -/
theorem row_fields {e : TypeId} {fs : Array Field} {m : Nat} {r : List Value} {y : DataW H × List MemPlace} (he : P.underlying e = some (.struct fs)) (hone : oneCellFields P fs = true)
    (h : DataW.trod enc P w base spare held m e r = some y) {j : Nat} {f : Field} (hj : fs[j]? = some f) :
    r.length = P.cellsOf e ∧ ∀ v, r[j]? = some v → ∃ (m' : Nat) (z : DataW H × List MemPlace), DataW.trod enc P w base spare held m' f.type [v] = some z := by
  obtain ⟨xs, n, _, _, hlen, hxl, hf⟩ := DataW.trod_struct he h
  refine ⟨hlen, fun v hv => ?_⟩
  obtain ⟨ho, hk⟩ := hone_of hone j f hj
  have h1 := hf j f hj
  rw [ho, hk] at h1
  have hjl : j < r.length := (List.getElem?_eq_some_iff.1 hv).1
  have hjs : j < fs.size := (Array.getElem?_eq_some_iff.1 hj).1
  have e1 : (r.drop j).take 1 = [v] := by
    rw [List.drop_eq_getElem_cons hjl]
    have := (List.getElem?_eq_some_iff.1 hv).2
    simp [this]
  rw [e1, List.getElem?_eq_getElem (by omega)] at h1
  exact ⟨_, _, h1⟩
end

theorem list_map {α : Type} (f : α → List Value) (p : α → Prop) : ∀ rows : List (List Value), (∀ r ∈ rows, ∃ c, r = f c ∧ p c) → ∃ l : List α, rows = l.map f ∧ ∀ c ∈ l, p c
  | [], _ => ⟨[], rfl, fun c h => by cases h⟩
  | r :: rest, h => by
    obtain ⟨c, hc, hp⟩ := h r List.mem_cons_self
    obtain ⟨l, hl, hq⟩ := list_map f p rest (fun r' hr' => h r' (List.mem_cons_of_mem _ hr'))
    refine ⟨c :: l, by rw [hc, hl]; rfl, fun d hd => ?_⟩
    rcases List.mem_cons.1 hd with rfl | hd
    · exact hp
    · exact hq d hd

/-- An int. -/
def I64 (x : Int) : Prop := -9223372036854775808 ≤ x ∧ x ≤ 9223372036854775807
theorem i64_of_wf {x : Int} (h : (Lit.int .i64 x).wf = true) : I64 x := bounds_i64 h

/-- The cells of row i of a slice that came in, in a later world. -/
theorem Lies.at {w wr : World} {a : Option Addr} {len cap n : Nat} {rows : List (List Value)} (h : Lies w (.slice a len cap) n rows) (hb : Below w.heap.size w wr) {i : Nat} {r : List Value} (hi : rows[i]? = some r) :
    ∃ b off, a = some ⟨b, off, none⟩ ∧ len = rows.length ∧ ∀ j x, r[j]? = some x → wr.cell? ⟨b, off + i * n + j, none⟩ = some x := by
  rcases h with ⟨_, _, _, rfl⟩ | ⟨b, off, cap', hs, _, _, hlt, hc⟩
  · simp at hi
  · simp only [Value.slice.injEq] at hs
    obtain ⟨rfl, rfl, rfl⟩ := hs
    refine ⟨b, off, rfl, rfl, fun j x hx => ?_⟩
    rw [hb.cell (p := ⟨b, off + i * n + j, none⟩) hlt]
    exact (hc i r hi).2 j x hx
theorem Lies.len {w : World} {a : Option Addr} {len cap n : Nat} {rows : List (List Value)} (h : Lies w (.slice a len cap) n rows) : len = rows.length ∧ len ≤ maxLen := by
  rcases h with ⟨_, _, h, rfl⟩ | ⟨b, off, cap', hs, h1, h2, _⟩
  · simp only [Value.slice.injEq] at h
    obtain ⟨_, rfl, _⟩ := h
    exact ⟨rfl, Nat.zero_le _⟩
  · simp only [Value.slice.injEq] at hs
    obtain ⟨rfl, rfl, rfl⟩ := hs
    exact ⟨rfl, by omega⟩

theorem u64_nat {x : Int} (h : (Lit.int .u64 x).wf = true) : ∃ n : Nat, x = n ∧ W64 n := by
  have := bounds_u64 h
  exact ⟨x.toNat, by omega, by unfold W64; omega⟩


/-- A slice of parts that came in. -/
theorem parts_of {H : Type} {enc : TypeId × Value → H} {W : World} {base : Nat} {spare : Nat → Bool} {held : Bool} {a : Option Addr} {len cap : Nat} {d : DataW H} {p : List MemPlace}
    (h : DataW.Trod enc Tryd.prog W base spare held 22 (.slice a len cap) d p) : ∃ l : List (Int × Int), len = l.length ∧ Prs W.heap.size W a l := by
  obtain ⟨fuel, hf⟩ := h
  obtain ⟨rows, hlies, hrow⟩ := lies_of (n := 2) Tryd.underlying22 (by kernel_rfl) (by omega) (by simpa [Value.cells] using hf)
  obtain ⟨l, rfl, hl⟩ := list_map (fun z : Int × Int => fcells z.1 z.2) (fun _ => True) rows (fun r hr => by
    obtain ⟨m, y, hy⟩ := hrow r hr
    obtain ⟨hlen, h0⟩ := row_fields Tryd.underlying47 (by kernel_rfl) hy (j := 0) rfl
    obtain ⟨_, h1⟩ := row_fields Tryd.underlying47 (by kernel_rfl) hy (j := 1) rfl
    have h2 : r.length = 2 := hlen.trans (by kernel_rfl)
    match r, h2, h0, h1 with
    | [v0, v1], _, h0, h1 =>
      obtain ⟨_, _, g0⟩ := h0 v0 rfl
      obtain ⟨_, _, g1⟩ := h1 v1 rfl
      obtain ⟨n0, e0, _, _⟩ := DataW.trod_int Tryd.underlying3 g0
      obtain ⟨n1, e1, _, _⟩ := DataW.trod_int Tryd.underlying3 g1
      simp only [List.cons.injEq, and_true] at e0 e1
      exact ⟨(n0, n1), by rw [e0, e1], trivial⟩)
  refine ⟨l, by have := hlies.len.1; simpa using this, fun j z hz => ?_⟩
  have hj : (l.map fun z : Int × Int => fcells z.1 z.2)[j]? = some (fcells z.1 z.2) := by simp [hz]
  rcases hlies with ⟨_, _, _, h0⟩ | ⟨b, off, cap', hs, _, _, hlt, hc⟩
  · simp at h0; subst h0; simp at hz
  · simp only [Value.slice.injEq] at hs
    exact ⟨b, off, hs.1, hlt, (hc j _ hj).2 0 _ rfl, (hc j _ hj).2 1 _ rfl⟩

/-- No slice of parts is longer than its room. -/
theorem parts_cap {H : Type} {enc : TypeId × Value → H} {W : World} {base : Nat} {spare : Nat → Bool} {held : Bool} {a : Option Addr} {len cap : Nat} {d : DataW H} {p : List MemPlace}
    (h : DataW.Trod enc Tryd.prog W base spare held 22 (.slice a len cap) d p) : len ≤ cap := by
  obtain ⟨fuel, hf⟩ := h
  obtain ⟨rows, hlies, _⟩ := lies_of (n := 2) Tryd.underlying22 (by kernel_rfl) (by omega) (by simpa [Value.cells] using hf)
  rcases hlies with ⟨_, _, hs, _⟩ | ⟨b, off, cap', hs, hc, _, _, _⟩
  · simp only [Value.slice.injEq] at hs
    omega
  · simp only [Value.slice.injEq] at hs
    omega
theorem list3 {α : Type} {l : List α} (h : l.length = 3) : ∃ a b c, l = [a, b, c] := by
  match l, h with
  | [a, b, c], _ => exact ⟨a, b, c, rfl⟩
theorem list4 {α : Type} {l : List α} (h : l.length = 4) : ∃ a b c d, l = [a, b, c, d] := by
  match l, h with
  | [a, b, c, d], _ => exact ⟨a, b, c, d, rfl⟩
theorem list12 {α : Type} {l : List α} (h : l.length = 12) : ∃ a b c d e f g h i j k m, l = [a, b, c, d, e, f, g, h, i, j, k, m] := by
  match l, h with
  | [a, b, c, d, e, f, g, h, i, j, k, m], _ => exact ⟨a, b, c, d, e, f, g, h, i, j, k, m, rfl⟩
set_option maxRecDepth 100000 in
/-- A row of the table, read as this datum, is these cells. -/
theorem kind_row {H : Type} {enc : TypeId × Value → H} {W : World} {base : Nat} {spare : Nat → Bool} {held : Bool} {m : Nat} {r : List Value} {y : DataW H × List MemPlace} {s : List UInt8} {x z : Int}
    (h : DataW.trod enc Tryd.prog W base spare held m 63 r = some y) (hy : y.1 = .agg [.lit (.string s), .lit (.int .i64 x), .lit (.int .i64 z)]) : r = [.string (str s), .int .i64 x, .int .i64 z] := by
  obtain ⟨xs, n, _, rfl, hlen, hxl, hf⟩ := DataW.trod_struct Tryd.underlying63 h
  have h3 : r.length = 3 := hlen.trans (by kernel_rfl)
  have hx3 : xs.length = 3 := hxl
  have c9 : Tryd.prog.cellsOf 9 = 1 := by kernel_rfl
  have c3 : Tryd.prog.cellsOf 3 = 1 := by kernel_rfl
  obtain ⟨v0, v1, v2, rfl⟩ := list3 h3
  obtain ⟨y0, y1, y2, rfl⟩ := list3 hx3
  simp only [List.map_cons, List.map_nil, DataW.agg.injEq, List.cons.injEq, and_true] at hy
  obtain ⟨g0, g1, g2⟩ := hy
  have f0 : DataW.trod enc Tryd.prog W base spare held n 9 (([v0, v1, v2].drop 0).take (Tryd.prog.cellsOf 9)) = some y0 := hf 0 _ rfl
  have f1 : DataW.trod enc Tryd.prog W base spare held n 3 (([v0, v1, v2].drop 1).take (Tryd.prog.cellsOf 3)) = some y1 := hf 1 _ rfl
  have f2 : DataW.trod enc Tryd.prog W base spare held n 3 (([v0, v1, v2].drop 2).take (Tryd.prog.cellsOf 3)) = some y2 := hf 2 _ rfl
  rw [c9] at f0
  rw [c3] at f1 f2
  obtain ⟨t, e0, k0, _⟩ := DataW.trod_string Tryd.underlying9 (x := y0) (cs := [v0]) f0
  obtain ⟨n1, e1, k1, _⟩ := DataW.trod_int Tryd.underlying3 (x := y1) (cs := [v1]) f1
  obtain ⟨n2, e2, k2, _⟩ := DataW.trod_int Tryd.underlying3 (x := y2) (cs := [v2]) f2
  rw [k0] at g0
  rw [k1] at g1
  rw [k2] at g2
  simp only [List.cons.injEq, and_true] at e0 e1 e2
  simp only [DataW.lit.injEq, Lit.string.injEq, Lit.int.injEq, true_and] at g0 g1 g2
  rw [e0, e1, e2, g1, g2, ← g0]
  rfl

abbrev laid4 : List (String × DataW Unit) := [("math/bits.deBruijn32tab", Rows.laid_math_bits_deBruijn32tab), ("math/bits.deBruijn64tab", Rows.laid_math_bits_deBruijn64tab), ("internal/strconv.uint64pow10", Rows.laid_internal_strconv_uint64pow10), ("aileron/codec.kinds", Rows.laid_aileron_codec_kinds)]
theorem gKinds : Tryd.prog.globalNamed "aileron/codec.kinds" = some 0 := by kernel_rfl
theorem tKinds : (Tryd.prog.globals[0]?).map (·.type) = some 64 := by kernel_rfl
set_option maxRecDepth 100000 in
/-- The condition gives the table. -/
theorem kd_of_laid {W : World} (h : laidMetH Tryd.prog laid4 W) : KD W := by
  rw [MakeChecks.laidMetH_plain _ _ _ (by kernel_rfl)] at h
  obtain ⟨ps, ⟨g0, t0, cs0, f0, p0, q0, _, _, _, _, ⟨g1, t1, cs1, f1, p1, q1, _, _, _, _, ⟨g2, t2, cs2, f2, p2, q2, _, _, _, _, ⟨g3, t3, cs3, f3, p3, q3, hg, ht, hv, hd, _, _⟩, _⟩, _⟩, _⟩, _, _⟩ := h
  obtain rfl := Option.some.inj (gKinds.symm.trans hg)
  obtain rfl := Option.some.inj (tKinds.symm.trans ht)
  obtain ⟨xs, m, _, hx, hlen, hn, hel⟩ := DataW.trod_array Tryd.underlying64 hd
  have c63 : Tryd.prog.cellsOf 63 = 3 := by kernel_rfl
  have c64 : Tryd.prog.cellsOf 64 = 12 := by kernel_rfl
  rw [c64] at hlen
  rw [c63] at hel
  simp only [Prod.mk.injEq] at hx
  have hx' := hx.1
  have e0 := hel 0 (by decide)
  have e1 := hel 1 (by decide)
  have e2 := hel 2 (by decide)
  have e3 := hel 3 (by decide)
  obtain ⟨l⟩ := cs3
  have key : l = kcells := by
    obtain ⟨v0, v1, v2, v3, v4, v5, v6, v7, v8, v9, v10, v11, rfl⟩ := list12 hlen
    obtain ⟨y0, y1, y2, y3, rfl⟩ := list4 hn
    simp only [Rows.laid_aileron_codec_kinds, List.map_cons, List.map_nil, DataW.agg.injEq, List.cons.injEq, and_true] at hx'
    obtain ⟨k0, k1, k2, k3⟩ := hx'
    have r0 := kind_row (r := [v0, v1, v2]) (y := y0) e0 k0.symm
    have r1 := kind_row (r := [v3, v4, v5]) (y := y1) e1 k1.symm
    have r2 := kind_row (r := [v6, v7, v8]) (y := y2) e2 k2.symm
    have r3 := kind_row (r := [v9, v10, v11]) (y := y3) e3 k3.symm
    simp only [List.cons.injEq, and_true] at r0 r1 r2 r3
    obtain ⟨rfl, rfl, rfl⟩ := r0
    obtain ⟨rfl, rfl, rfl⟩ := r1
    obtain ⟨rfl, rfl, rfl⟩ := r2
    obtain ⟨rfl, rfl, rfl⟩ := r3
    rfl
  have hcell : ∀ j v, kcells[j]? = some v → W.cell? ⟨0, j, none⟩ = some v := fun j v hj => by
    rw [World.var?_cell hg hv j, ← hj, ← key]
    simp
  exact ⟨World.block_lt_of_cell? W ⟨0, 0, none⟩ (hcell 0 _ rfl), hcell⟩
end Go.Proofs.YtenbbnmhgpclkaaDoor
