/- Arguments that are slices of small structs: what a walk is told of them. -/
import Derived.Test.YtkkkicinlghikaaMem
import Derived.ProofKit
import Derived.Deep.Slices
import Derived.Deep.Fields
namespace Go.Proofs.Ytkkkicinlghikaa
open Go.RowKit Go.Deep

/-- A slice of structs of n one-cell fields: its rows, each a list of n values. -/
def Lies (w : World) (s : Value) (n : Nat) (rows : List (List Value)) : Prop :=
  (∃ a cap, s = .slice a 0 cap ∧ rows = []) ∨
  ∃ (b off cap : Nat), s = .slice (some ⟨b, off, none⟩) rows.length cap ∧ rows.length ≤ cap ∧ cap ≤ maxLen ∧ b < w.heap.size ∧
    ∀ i r, rows[i]? = some r → r.length = n ∧ ∀ j x, r[j]? = some x → w.cell? ⟨b, off + i * n + j, none⟩ = some x

theorem add_none (b off k : Nat) : (⟨b, off, none⟩ : Addr).add k = ⟨b, off + k, none⟩ := by
  unfold Addr.add
  split <;> simp_all

section
variable {H : Type} {enc : TypeId × Value → H} {P : Program} {w : World} {base : Nat} {spare : Nat → Bool} {held : Bool}

theorem list_of {p : Nat → List Value → Prop} : ∀ (n : Nat), (∀ i, i < n → ∃ r, p i r) → ∃ l : List (List Value), l.length = n ∧ ∀ i r, l[i]? = some r → p i r
  | 0, _ => ⟨[], rfl, fun i r h => by simp at h⟩
  | n + 1, h => by
    obtain ⟨l, hl, hp⟩ := list_of n (fun i hi => h i (by omega))
    obtain ⟨r, hr⟩ := h n (by omega)
    refine ⟨l ++ [r], by simp [hl], fun i r' h' => ?_⟩
    rcases Nat.lt_trichotomy i n with hi | rfl | hi
    · rw [List.getElem?_append_left (by omega)] at h'
      exact hp i r' h'
    · rw [List.getElem?_append_right (by omega), hl] at h'
      simp at h'
      exact h' ▸ hr
    · rw [List.getElem?_append_right (by omega)] at h'
      have : (i - l.length) = (i - n - 1) + 1 := by omega
      rw [this] at h'
      simp at h'

/-- A slice of structs that came in: its rows; each reads as a struct. -/
theorem lies_of {t e : TypeId} {fuel : Nat} {v : Value} {x : DataW H × List MemPlace} {n : Nat} (ht : P.underlying t = some (.slice e)) (hC : P.cellsOf e = n) (hn : 0 < n)
    (h : DataW.trod enc P w base spare held fuel t [v] = some x) :
    ∃ rows, Lies w v n rows ∧ ∀ r ∈ rows, ∃ (m : Nat) (y : DataW H × List MemPlace), DataW.trod enc P w base spare held m e r = some y := by
  rcases open_slice ht h with ⟨hv, _⟩ | ⟨a, len, cap, m, fu, D, Pl, hv, _, hl, hm, hmm, _, hi⟩
  · refine ⟨[], .inl ⟨none, 0, by simpa using hv, rfl⟩, fun r hr => by cases hr⟩
  · have hlen : len ≤ m := by rw [hmm]; split <;> omega
    obtain ⟨rows, hr, hp⟩ := list_of (p := fun i r => w.cells? base (a.add (i * P.cellsOf e)) (P.cellsOf e) = some r ∧ DataW.trod enc P w base spare held fu e r = some (D i, Pl i)) len (fun i hlt => hi i (by omega))
    rw [hC] at hp
    obtain ⟨b, off, sp⟩ := a
    simp only [List.cons.injEq, and_true] at hv
    refine ⟨rows, ?_, fun r hr => ?_⟩
    · match rows, hr, hp with
      | [], hr, _ => exact .inl ⟨some ⟨b, off, sp⟩, cap, by rw [hv, ← hr]; rfl, rfl⟩
      | r :: rest, hr, hp =>
        obtain ⟨hc, _⟩ := hp 0 r rfl
        obtain ⟨_, hcl, hat⟩ := World.cells?_some hc
        have h0 := hat 0 hn
        have hs : r[0]? = some (r[0]'(by omega)) := List.getElem?_eq_getElem (by omega)
        rw [hs] at h0
        have hsp : sp = none := by simpa [Addr.add] using World.cell?_spot h0
        have hlt : b < w.heap.size := by simpa [Addr.add] using World.block_lt_of_cell? _ _ h0
        subst hsp
        refine .inr ⟨b, off, cap, by rw [hv, ← hr], by omega, hm, hlt, fun i r' hi' => ?_⟩
        obtain ⟨hc', _⟩ := hp i r' hi'
        obtain ⟨_, hcl', hat'⟩ := World.cells?_some hc'
        refine ⟨hcl', fun j x hx => ?_⟩
        have hj : j < n := by rw [← hcl']; exact (List.getElem?_eq_some_iff.1 hx).1
        have := hat' j hj
        rw [hx, add_none, add_none] at this
        exact this
    · obtain ⟨i, hi', hr'⟩ := List.mem_iff_getElem.1 hr
      obtain ⟨_, hd⟩ := hp i r (by rw [List.getElem?_eq_getElem hi', hr'])
      exact ⟨_, _, hd⟩

/-- A struct's row, field by field. -/
theorem row_fields {e : TypeId} {fs : Array Field} {m : Nat} {r : List Value} {y : DataW H × List MemPlace} (he : P.underlying e = some (.struct fs)) (hone : oneCellFields P fs = true)
    (h : DataW.trod enc P w base spare held m e r = some y) {j : Nat} {f : Field} (hj : fs[j]? = some f) :
    r.length = P.cellsOf e ∧ ∀ v, r[j]? = some v → ∃ (m' : Nat) (z : DataW H × List MemPlace), DataW.trod enc P w base spare held m' f.type [v] = some z := by
  obtain ⟨xs, n, _, _, hlen, hxl, hf⟩ := DataW.trod_struct he h
  refine ⟨hlen, fun v hv => ?_⟩
  obtain ⟨ho, hk⟩ := hone_of hone j f hj
  have h1 := hf j f hj
  rw [ho, hk] at h1
  have hjl : j < r.length := (List.getElem?_eq_some_iff.1 hv).1
  have hjs : j < fs.size := (Array.getElem?_eq_some_iff.1 hj).1
  have e1 : (r.drop j).take 1 = [v] := by
    rw [List.drop_eq_getElem_cons hjl]
    have := (List.getElem?_eq_some_iff.1 hv).2
    simp [this]
  rw [e1, List.getElem?_eq_getElem (by omega)] at h1
  exact ⟨_, _, h1⟩
end

theorem list_map {α : Type} (f : α → List Value) (p : α → Prop) : ∀ rows : List (List Value), (∀ r ∈ rows, ∃ c, r = f c ∧ p c) → ∃ l : List α, rows = l.map f ∧ ∀ c ∈ l, p c
  | [], _ => ⟨[], rfl, fun c h => by cases h⟩
  | r :: rest, h => by
    obtain ⟨c, hc, hp⟩ := h r List.mem_cons_self
    obtain ⟨l, hl, hq⟩ := list_map f p rest (fun r' hr' => h r' (List.mem_cons_of_mem _ hr'))
    refine ⟨c :: l, by rw [hc, hl]; rfl, fun d hd => ?_⟩
    rcases List.mem_cons.1 hd with rfl | hd
    · exact hp
    · exact hq d hd

/-- An int. -/
def I64 (x : Int) : Prop := -9223372036854775808 ≤ x ∧ x ≤ 9223372036854775807
theorem i64_of_wf {x : Int} (h : (Lit.int .i64 x).wf = true) : I64 x := bounds_i64 h

/-- The cells of row i of a slice that came in, in a later world. -/
theorem Lies.at {w wr : World} {a : Option Addr} {len cap n : Nat} {rows : List (List Value)} (h : Lies w (.slice a len cap) n rows) (hb : Below w.heap.size w wr) {i : Nat} {r : List Value} (hi : rows[i]? = some r) :
    ∃ b off, a = some ⟨b, off, none⟩ ∧ len = rows.length ∧ ∀ j x, r[j]? = some x → wr.cell? ⟨b, off + i * n + j, none⟩ = some x := by
  rcases h with ⟨_, _, _, rfl⟩ | ⟨b, off, cap', hs, _, _, hlt, hc⟩
  · simp at hi
  · simp only [Value.slice.injEq] at hs
    obtain ⟨rfl, rfl, rfl⟩ := hs
    refine ⟨b, off, rfl, rfl, fun j x hx => ?_⟩
    rw [hb.cell (p := ⟨b, off + i * n + j, none⟩) hlt]
    exact (hc i r hi).2 j x hx
theorem Lies.len {w : World} {a : Option Addr} {len cap n : Nat} {rows : List (List Value)} (h : Lies w (.slice a len cap) n rows) : len = rows.length ∧ len ≤ maxLen := by
  rcases h with ⟨_, _, h, rfl⟩ | ⟨b, off, cap', hs, h1, h2, _⟩
  · simp only [Value.slice.injEq] at h
    obtain ⟨_, rfl, _⟩ := h
    exact ⟨rfl, Nat.zero_le _⟩
  · simp only [Value.slice.injEq] at hs
    obtain ⟨rfl, rfl, rfl⟩ := hs
    exact ⟨rfl, by omega⟩
end Go.Proofs.Ytkkkicinlghikaa
