/- What a walk is told of arguments: configs, spots, pairs. -/
import Derived.ProofKit
import Derived.Deep.Slices
import Derived.Deep.Fields
import Derived.Lib.SmallJoins
import Derived.OpenShut
import Derived.Test.YtdnjoflahiffhaaAcc
namespace Go.Proofs.Ytdnjoflahiffhaa
open Go.RowKit Go.Deep Go.ChangeShapes Go.WideShapes Go.ChangeAt

/-- A slice of structs of n one-cell fields: its rows, each a list of n values. -/
def Lies (w : World) (s : Value) (n : Nat) (rows : List (List Value)) : Prop :=
  (∃ a cap, s = .slice a 0 cap ∧ rows = []) ∨
  ∃ (b off cap : Nat), s = .slice (some ⟨b, off, none⟩) rows.length cap ∧ rows.length ≤ cap ∧ cap ≤ maxLen ∧ b < w.heap.size ∧
    ∀ i r, rows[i]? = some r → r.length = n ∧ ∀ j x, r[j]? = some x → w.cell? ⟨b, off + i * n + j, none⟩ = some x

theorem add_none (b off k : Nat) : (⟨b, off, none⟩ : Addr).add k = ⟨b, off + k, none⟩ := by
  unfold Addr.add
  split <;> simp_all

section
variable {H : Type} {enc : TypeId × Value → H} {P : Program} {w : World} {base : Nat} {spare : Nat → Bool} {held : Bool}

theorem list_of {p : Nat → List Value → Prop} : ∀ (n : Nat), (∀ i, i < n → ∃ r, p i r) → ∃ l : List (List Value), l.length = n ∧ ∀ i r, l[i]? = some r → p i r
  | 0, _ => ⟨[], rfl, fun i r h => by simp at h⟩
  | n + 1, h => by
    obtain ⟨l, hl, hp⟩ := list_of n (fun i hi => h i (by omega))
    obtain ⟨r, hr⟩ := h n (by omega)
    refine ⟨l ++ [r], by simp [hl], fun i r' h' => ?_⟩
    rcases Nat.lt_trichotomy i n with hi | rfl | hi
    · rw [List.getElem?_append_left (by omega)] at h'
      exact hp i r' h'
    · rw [List.getElem?_append_right (by omega), hl] at h'
      simp at h'
      exact h' ▸ hr
    · rw [List.getElem?_append_right (by omega)] at h'
      have : (i - l.length) = (i - n - 1) + 1 := by omega
      rw [this] at h'
      simp at h'

/-- A slice of structs that came in: its rows; each reads as a struct. -/
theorem lies_of {t e : TypeId} {fuel : Nat} {v : Value} {x : DataW H × List MemPlace} {n : Nat} (ht : P.underlying t = some (.slice e)) (hC : P.cellsOf e = n) (hn : 0 < n)
    (h : DataW.trod enc P w base spare held fuel t [v] = some x) :
    ∃ rows, Lies w v n rows ∧ ∀ r ∈ rows, ∃ (m : Nat) (y : DataW H × List MemPlace), DataW.trod enc P w base spare held m e r = some y := by
  rcases open_slice ht h with ⟨hv, _⟩ | ⟨a, len, cap, m, fu, D, Pl, hv, _, hl, hm, hmm, _, hi⟩
  · refine ⟨[], .inl ⟨none, 0, by simpa using hv, rfl⟩, fun r hr => by cases hr⟩
  · have hlen : len ≤ m := by rw [hmm]; split <;> omega
    obtain ⟨rows, hr, hp⟩ := list_of (p := fun i r => w.cells? base (a.add (i * P.cellsOf e)) (P.cellsOf e) = some r ∧ DataW.trod enc P w base spare held fu e r = some (D i, Pl i)) len (fun i hlt => hi i (by omega))
    rw [hC] at hp
    obtain ⟨b, off, sp⟩ := a
    simp only [List.cons.injEq, and_true] at hv
    refine ⟨rows, ?_, fun r hr => ?_⟩
    · match rows, hr, hp with
      | [], hr, _ => exact .inl ⟨some ⟨b, off, sp⟩, cap, by rw [hv, ← hr]; rfl, rfl⟩
      | r :: rest, hr, hp =>
        obtain ⟨hc, _⟩ := hp 0 r rfl
        obtain ⟨_, hcl, hat⟩ := World.cells?_some hc
        have h0 := hat 0 hn
        have hs : r[0]? = some (r[0]'(by omega)) := List.getElem?_eq_getElem (by omega)
        rw [hs] at h0
        have hsp : sp = none := by simpa [Addr.add] using World.cell?_spot h0
        have hlt : b < w.heap.size := by simpa [Addr.add] using World.block_lt_of_cell? _ _ h0
        subst hsp
        refine .inr ⟨b, off, cap, by rw [hv, ← hr], by omega, hm, hlt, fun i r' hi' => ?_⟩
        obtain ⟨hc', _⟩ := hp i r' hi'
        obtain ⟨_, hcl', hat'⟩ := World.cells?_some hc'
        refine ⟨hcl', fun j x hx => ?_⟩
        have hj : j < n := by rw [← hcl']; exact (List.getElem?_eq_some_iff.1 hx).1
        have := hat' j hj
        rw [hx, add_none, add_none] at this
        exact this
    · obtain ⟨i, hi', hr'⟩ := List.mem_iff_getElem.1 hr
      obtain ⟨_, hd⟩ := hp i r (by rw [List.getElem?_eq_getElem hi', hr'])
      exact ⟨_, _, hd⟩

/-- A struct's row, field by field. -/
theorem row_fields {e : TypeId} {fs : Array Field} {m : Nat} {r : List Value} {y : DataW H × List MemPlace} (he : P.underlying e = some (.struct fs)) (hone : oneCellFields P fs = true)
    (h : DataW.trod enc P w base spare held m e r = some y) {j : Nat} {f : Field} (hj : fs[j]? = some f) :
    r.length = P.cellsOf e ∧ ∀ v, r[j]? = some v → ∃ (m' : Nat) (z : DataW H × List MemPlace), DataW.trod enc P w base spare held m' f.type [v] = some z := by
  obtain ⟨xs, n, _, _, hlen, hxl, hf⟩ := DataW.trod_struct he h
  refine ⟨hlen, fun v hv => ?_⟩
  obtain ⟨ho, hk⟩ := hone_of hone j f hj
  have h1 := hf j f hj
  rw [ho, hk] at h1
  have hjl : j < r.length := (List.getElem?_eq_some_iff.1 hv).1
  have hjs : j < fs.size := (Array.getElem?_eq_some_iff.1 hj).1
  have e1 : (r.drop j).take 1 = [v] := by
    rw [List.drop_eq_getElem_cons hjl]
    have := (List.getElem?_eq_some_iff.1 hv).2
    simp [this]
  rw [e1, List.getElem?_eq_getElem (by omega)] at h1
  exact ⟨_, _, h1⟩
end

theorem list_map {α : Type} (f : α → List Value) (p : α → Prop) : ∀ rows : List (List Value), (∀ r ∈ rows, ∃ c, r = f c ∧ p c) → ∃ l : List α, rows = l.map f ∧ ∀ c ∈ l, p c
  | [], _ => ⟨[], rfl, fun c h => by cases h⟩
  | r :: rest, h => by
    obtain ⟨c, hc, hp⟩ := h r List.mem_cons_self
    obtain ⟨l, hl, hq⟩ := list_map f p rest (fun r' hr' => h r' (List.mem_cons_of_mem _ hr'))
    refine ⟨c :: l, by rw [hc, hl]; rfl, fun d hd => ?_⟩
    rcases List.mem_cons.1 hd with rfl | hd
    · exact hp
    · exact hq d hd

/-- A slice of topics that came in. -/
theorem tops_of {H : Type} {enc : TypeId × Value → H} {W : World} {base : Nat} {spare : Nat → Bool} {held : Bool} {v : Value} {fuel : Nat} {x : DataW H × List MemPlace}
    (h : DataW.trod enc Try.prog W base spare held fuel 22 [v] = some x) : ∃ (l : List Tp) (a : Option Addr) (cap : Nat), v = .slice a l.length cap ∧ Tps W.heap.size W a l := by
  obtain ⟨rows, hlies, hrow⟩ := lies_of (n := 3) Try.underlying22 (by kernel_rfl) (by omega) h
  obtain ⟨l, rfl, _⟩ := list_map tcells (fun _ => True) rows (fun r hr => by
    obtain ⟨m, y, hy⟩ := hrow r hr
    obtain ⟨hlen, h0⟩ := row_fields Try.underlying58 (by kernel_rfl) hy (j := 0) rfl
    obtain ⟨_, h1⟩ := row_fields Try.underlying58 (by kernel_rfl) hy (j := 1) rfl
    obtain ⟨_, h2⟩ := row_fields Try.underlying58 (by kernel_rfl) hy (j := 2) rfl
    have h3 : r.length = 3 := hlen.trans (by kernel_rfl)
    match r, h3, h0, h1, h2 with
    | [v0, v1, v2], _, h0, h1, h2 =>
      obtain ⟨_, _, g0⟩ := h0 v0 rfl
      obtain ⟨_, _, g1⟩ := h1 v1 rfl
      obtain ⟨_, _, g2⟩ := h2 v2 rfl
      obtain ⟨n0, e0, _, _⟩ := DataW.trod_string Try.underlying9 g0
      obtain ⟨n1, e1, _, _⟩ := DataW.trod_int Try.underlying3 g1
      obtain ⟨n2, e2, _, _⟩ := DataW.trod_int Try.underlying3 g2
      simp only [List.cons.injEq, and_true] at e0 e1 e2
      exact ⟨(n0, n1, n2), by rw [e0, e1, e2]; rfl, trivial⟩)
  rcases hlies with ⟨a, cap, hs, h0⟩ | ⟨b, off, cap, hs, _, _, hlt, hc⟩
  · have hl : l = [] := by simpa using h0
    subst hl
    exact ⟨[], a, cap, hs, Tps.nil _ _ _⟩
  · refine ⟨l, some ⟨b, off, none⟩, cap, by rw [hs]; simp, fun j t ht => ?_⟩
    have hj : (l.map tcells)[j]? = some (tcells t) := by simp [ht]
    exact ⟨b, off, rfl, hlt, (hc j _ hj).2 0 _ rfl, (hc j _ hj).2 1 _ rfl, (hc j _ hj).2 2 _ rfl⟩
set_option maxRecDepth 100000 in
/-- A config that came in. -/
theorem cfg_of {H : Type} {enc : TypeId × Value → H} {W : World} {base b0 : Nat} {r : Reach} {spare : Nat → Bool} {held : Bool} {v : Value} {d : DataW H} {p : List MemPlace}
    (hv : Value.okWide Try.prog W r b0 24 v) (h : DataW.Trod enc Try.prog W base spare held 24 v d p) :
    ∃ (T R L : Int) (a : Option Addr) (cap : Nat) (l : List Tp), v = cfg T a l.length cap R L ∧ Tps W.heap.size W a l := by
  obtain ⟨cs, rfl, hsz⟩ := okWide_struct Try.underlying24 hv
  obtain ⟨fuel, hf⟩ := h
  have hy : DataW.trod enc Try.prog W base spare held fuel 24 cs.toList = some (d, p) := by simpa [Value.cells] using hf
  obtain ⟨hlen, h0⟩ := row_fields Try.underlying24 (by kernel_rfl) hy (j := 0) rfl
  obtain ⟨_, h1⟩ := row_fields Try.underlying24 (by kernel_rfl) hy (j := 1) rfl
  obtain ⟨_, h2⟩ := row_fields Try.underlying24 (by kernel_rfl) hy (j := 2) rfl
  obtain ⟨_, h3⟩ := row_fields Try.underlying24 (by kernel_rfl) hy (j := 3) rfl
  have h4 : cs.toList.length = 4 := hlen.trans (by kernel_rfl)
  obtain ⟨ls⟩ := cs
  match ls, h4, h0, h1, h2, h3 with
  | [v0, v1, v2, v3], _, h0, h1, h2, h3 =>
    obtain ⟨_, _, g0⟩ := h0 v0 rfl
    obtain ⟨_, _, g1⟩ := h1 v1 rfl
    obtain ⟨_, _, g2⟩ := h2 v2 rfl
    obtain ⟨_, _, g3⟩ := h3 v3 rfl
    obtain ⟨n0, e0, _, _⟩ := DataW.trod_int Try.underlying3 g0
    obtain ⟨n2, e2, _, _⟩ := DataW.trod_int Try.underlying3 g2
    obtain ⟨n3, e3, _, _⟩ := DataW.trod_int Try.underlying3 g3
    simp only [List.cons.injEq, and_true] at e0 e2 e3
    obtain ⟨l, a, cap, rfl, hT⟩ := tops_of g1
    subst e0 e2 e3
    exact ⟨n0, n2, n3, a, cap, l, rfl, hT⟩


set_option maxRecDepth 100000 in
/-- A spot that came in. -/
theorem spot_of {H : Type} {enc : TypeId × Value → H} {W : World} {base b0 : Nat} {r : Reach} {spare : Nat → Bool} {held : Bool} {v : Value} {d : DataW H} {p : List MemPlace}
    (hv : Value.okWide Try.prog W r b0 43 v) (h : DataW.Trod enc Try.prog W base spare held 43 v d p) :
    ∃ o q f x d : Int, v = spv o q f x d := by
  obtain ⟨cs, rfl, hsz⟩ := okWide_struct Try.underlying43 hv
  obtain ⟨fuel, hf⟩ := h
  have hy : DataW.trod enc Try.prog W base spare held fuel 43 cs.toList = some (d, p) := by simpa [Value.cells] using hf
  obtain ⟨hlen, h0⟩ := row_fields Try.underlying43 (by kernel_rfl) hy (j := 0) rfl
  obtain ⟨_, h1⟩ := row_fields Try.underlying43 (by kernel_rfl) hy (j := 1) rfl
  obtain ⟨_, h2⟩ := row_fields Try.underlying43 (by kernel_rfl) hy (j := 2) rfl
  obtain ⟨_, h3⟩ := row_fields Try.underlying43 (by kernel_rfl) hy (j := 3) rfl
  obtain ⟨_, h4⟩ := row_fields Try.underlying43 (by kernel_rfl) hy (j := 4) rfl
  have h5 : cs.toList.length = 5 := hlen.trans (by kernel_rfl)
  obtain ⟨ls⟩ := cs
  match ls, h5, h0, h1, h2, h3, h4 with
  | [v0, v1, v2, v3, v4], _, h0, h1, h2, h3, h4 =>
    obtain ⟨_, _, g0⟩ := h0 v0 rfl
    obtain ⟨_, _, g1⟩ := h1 v1 rfl
    obtain ⟨_, _, g2⟩ := h2 v2 rfl
    obtain ⟨_, _, g3⟩ := h3 v3 rfl
    obtain ⟨_, _, g4⟩ := h4 v4 rfl
    obtain ⟨n0, e0, _, _⟩ := DataW.trod_int Try.underlying3 g0
    obtain ⟨n1, e1, _, _⟩ := DataW.trod_int Try.underlying3 g1
    obtain ⟨n2, e2, _, _⟩ := DataW.trod_int Try.underlying3 g2
    obtain ⟨n3, e3, _, _⟩ := DataW.trod_int Try.underlying3 g3
    obtain ⟨n4, e4, _, _⟩ := DataW.trod_int Try.underlying3 g4
    simp only [List.cons.injEq, and_true] at e0 e1 e2 e3 e4
    subst e0 e1 e2 e3 e4
    exact ⟨n0, n1, n2, n3, n4, rfl⟩
/-- A pair of ints that came in. -/
theorem i2_of {H : Type} {enc : TypeId × Value → H} {W : World} {base b0 : Nat} {r : Reach} {spare : Nat → Bool} {held : Bool} {v : Value} {d : DataW H} {p : List MemPlace}
    (hv : Value.okWide Try.prog W r b0 44 v) (h : DataW.Trod enc Try.prog W base spare held 44 v d p) :
    ∃ x x' : Int, v = .agg #[.int .i64 x, .int .i64 x'] := by
  simp only [Value.okWide, Try.underlying44] at hv
  obtain ⟨cs, rfl, hsz, _⟩ := hv
  obtain ⟨fuel, hf⟩ := h
  rw [show Try.prog.cellsOf 44 = 2 from by kernel_rfl] at hsz
  obtain ⟨xs, m, _, _, _, hxl, hg⟩ := DataW.trod_array Try.underlying44 hf
  rw [show Try.prog.cellsOf 3 = 1 from by kernel_rfl] at hg
  obtain ⟨l⟩ := cs
  match l, hsz with
  | [c0, c1], _ =>
    have g0 := hg 0 (by omega)
    have g1 := hg 1 (by omega)
    rw [List.getElem?_eq_getElem (by omega)] at g0 g1
    obtain ⟨x0, e0, _, w0⟩ := DataW.trod_int Try.underlying3 (by simpa [Value.cells] using g0)
    obtain ⟨x1, e1, _, w1⟩ := DataW.trod_int Try.underlying3 (by simpa [Value.cells] using g1)
    simp only [List.cons.injEq, and_true] at e0 e1
    exact ⟨x0, x1, by rw [e0, e1]⟩
theorem u64_bd {x : Int} (h : (Lit.int .u64 x).wf = true) : 0 ≤ x ∧ x < 18446744073709551616 := by
  have := bounds_u64 h
  omega
end Go.Proofs.Ytdnjoflahiffhaa
