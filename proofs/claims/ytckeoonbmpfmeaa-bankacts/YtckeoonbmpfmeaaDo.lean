/- One access, as the laws do it (do), and the list of accesses that came in. -/
import Derived.Test.YtckeoonbmpfmeaaNew
import Derived.Test.YtckeoonbmpfmeaaArgs
namespace Go.Proofs.Ytckeoonbmpfmeaa
open Go.RowKit Go.Deep Go.ChangeShapes Go.WideShapes

/-- An access: its kind, its word, and two numbers. -/
structure Act4 where
  k : Int
  a : Int
  x : Int
  y : Int
def Act4.row (c : Act4) : List Value := [.int .i64 c.k, .int .i64 c.a, .int .u64 c.x, .int .u64 c.y]
def Act4.agg (c : Act4) : Value := .agg #[.int .i64 c.k, .int .i64 c.a, .int .u64 c.x, .int .u64 c.y]
def Act4.ok (c : Act4) : Prop := I64 c.k ∧ I64 c.a ∧ U64 c.x ∧ U64 c.y
def Acts (w : World) (a : Option Addr) (len cap : Nat) (l : List Act4) : Prop := Lies w (.slice a len cap) 4 (l.map Act4.row) ∧ ∀ c ∈ l, c.ok

/-- What an access comes to: what it tells, its error, the words and the count behind it. -/
structure Out where
  r : Int
  e : Int
  xs : List Int
  t : Int
/-- The word that is asked for. -/
def word (a : Int) (xs : List Int) : Option Int := if a < 0 then none else xs[a.toNat]?
def acc (c : Act4) (xs : List Int) (t : Int) : Out :=
  match word c.a xs with
  | none => ⟨0, 10, xs, t⟩
  | some v => if c.k = 0 then ⟨v, 0, xs, t + 1⟩ else if c.k = 1 then ⟨0, 0, xs.set c.a.toNat c.x, t + 1⟩
      else if c.k = 2 then (if v = c.y then ⟨1, 0, xs.set c.a.toNat c.x, t + 1⟩ else ⟨0, 0, xs, t + 1⟩) else ⟨v, 0, xs.set c.a.toNat (addw v c.x), t + 1⟩
theorem word_none {a : Int} {xs : List Int} (h : word a xs = none) : a < 0 ∨ (xs.length : Int) ≤ a := by
  unfold word at h
  split at h
  · exact .inl ‹_›
  · right
    have := List.getElem?_eq_none_iff.1 h
    omega
theorem word_some {a : Int} {xs : List Int} {v : Int} (h : word a xs = some v) : 0 ≤ a ∧ xs[a.toNat]? = some v ∧ a < xs.length := by
  unfold word at h
  split at h
  · cases h
  · exact ⟨by omega, h, by have := lt_of_some h; omega⟩

def DoPost (b g : Nat) (o : Out) (w : World) (e : Ending) (w' : World) : Prop :=
  e = .returned (.tuple #[.int .u64 o.r, .int .i64 o.e]) ∧ Bk w' b g o.xs o.t ∧ Upd (Own b g) w w'

theorem DoPost.mk' {b g : Nat} {o : Out} {w : World} {e : Ending} {w' : World} {r er : Int} {xs : List Int} {t : Int} (ho : o = ⟨r, er, xs, t⟩) (he : e = .returned (.tuple #[.int .u64 r, .int .i64 er])) (hk : Bk w' b g xs t) (hu : Upd (Own b g) w w') : DoPost b g o w e w' := by
  subst ho
  exact ⟨he, hk, hu⟩

set_option maxHeartbeats 400000 in
theorem do_any (b g : Nat) (xs : List Int) (t : Int) (c : Act4) (w : World) (hk : Bk w b g xs t) (hc : c.ok) (ht : 0 ≤ t) (ht' : t ≤ 1000000) :
    Calls Try.prog 14 #[.pointer (some ⟨b, 0, none⟩), c.agg] w (DoPost b g (acc c xs t) w) := by
  obtain ⟨k, a, x, y⟩ := c
  obtain ⟨_, _, hx, hy⟩ := hc
  simp only at hx hy
  unfold Act4.agg
  have hk0 := hk.alloc (.cells #[.int .i64 k, .int .i64 a, .int .u64 x, .int .u64 y] 35)
  have hu0 := (Upd.refl (Own b g) w).alloc (.cells #[.int .i64 k, .int .i64 a, .int .u64 x, .int .u64 y] 35)
  have lb := hk.ltb
  have lg := hk.ltg
  cases hw : word a xs with
  | none =>
    have ho := word_none hw
    have ha : acc ⟨k, a, x, y⟩ xs t = ⟨0, 10, xs, t⟩ := by simp [acc, hw]
    have HA := Lib.hid ha
    clear ha hw
    by_cases h0 : k = 0
    · subst h0
      go_enter Try.func14, Try.ntmps14
      go_wp2_with fail
      refine (load_out b g xs t a _ hk0 ho).mono ?_
      rintro e w1 ⟨rfl, hk1, hu1⟩
      have hu := hu0.trans (Upd.of_below _ hu1)
      go_wp2
      go_ret2
      exact DoPost.mk' HA.out rfl hk1 hu
    · have h0' : (k == 0) = false := by simp [h0]
      by_cases h1 : k = 1
      · subst h1
        go_enter Try.func14, Try.ntmps14
        go_wp2_with fail
        refine (store_out b g xs t a x _ hk0 ho).mono ?_
        rintro e w1 ⟨rfl, hk1, hu1⟩
        have hu := hu0.trans (Upd.of_below _ hu1)
        go_wp2
        go_ret2
        exact DoPost.mk' HA.out rfl hk1 hu
      · have h1' : (k == 1) = false := by simp [h1]
        by_cases h2 : k = 2
        · subst h2
          go_enter Try.func14, Try.ntmps14
          go_wp2_with fail
          refine (cas_out b g xs t a y x _ hk0 ho).mono ?_
          rintro e w1 ⟨rfl, hk1, hu1⟩
          have hu := hu0.trans (Upd.of_below _ hu1)
          go_wp2
          go_ret2
          exact DoPost.mk' HA.out rfl hk1 hu
        · have h2' : (k == 2) = false := by simp [h2]
          go_enter Try.func14, Try.ntmps14
          go_wp2_with fail
          refine (add_out b g xs t a x _ hk0 ho).mono ?_
          rintro e w1 ⟨rfl, hk1, hu1⟩
          have hu := hu0.trans (Upd.of_below _ hu1)
          go_wp2
          go_ret2
          exact DoPost.mk' HA.out rfl hk1 hu
  | some v =>
    obtain ⟨ha0, hv, _⟩ := word_some hw
    have Hv := Lib.hid hv
    have HW := Lib.hid hw
    clear hv hw
    by_cases h0 : k = 0
    · subst h0
      have HA := Lib.hid (show acc ⟨0, a, x, y⟩ xs t = ⟨v, 0, xs, t + 1⟩ by simp [acc, HW.out])
      go_enter Try.func14, Try.ntmps14
      go_wp2_with fail
      refine (load_at b g xs t v a _ ha0 hk0 Hv.out ht ht').mono ?_
      rintro e w1 ⟨rfl, hk1, hu1⟩
      have hu := hu0.trans hu1
      go_wp2
      go_ret2
      exact DoPost.mk' HA.out rfl hk1 hu
    · have h0' : (k == 0) = false := by simp [h0]
      by_cases h1 : k = 1
      · subst h1
        have HA := Lib.hid (show acc ⟨1, a, x, y⟩ xs t = ⟨0, 0, xs.set a.toNat x, t + 1⟩ by simp [acc, HW.out])
        go_enter Try.func14, Try.ntmps14
        go_wp2_with fail
        refine (store_at b g xs t x v a _ ha0 hk0 Hv.out ht ht' hx).mono ?_
        rintro e w1 ⟨rfl, hk1, hu1⟩
        have hu := hu0.trans hu1
        go_wp2
        go_ret2
        exact DoPost.mk' HA.out rfl hk1 hu
      · have h1' : (k == 1) = false := by simp [h1]
        by_cases h2 : k = 2
        · subst h2
          by_cases hvy : v = y
          · subst hvy
            have HA := Lib.hid (show acc ⟨2, a, x, v⟩ xs t = ⟨1, 0, xs.set a.toNat x, t + 1⟩ by simp [acc, HW.out])
            go_enter Try.func14, Try.ntmps14
            go_wp2_with fail
            refine (cas_hit_at b g xs t x v a _ ha0 hk0 Hv.out ht ht' hx).mono ?_
            rintro e w1 ⟨rfl, hk1, hu1⟩
            have hu := hu0.trans hu1
            go_wp2
            go_ret2
            exact DoPost.mk' HA.out rfl hk1 hu
          · have HA := Lib.hid (show acc ⟨2, a, x, y⟩ xs t = ⟨0, 0, xs, t + 1⟩ by simp [acc, HW.out, hvy])
            go_enter Try.func14, Try.ntmps14
            go_wp2_with fail
            refine (cas_miss_at b g xs t y x v a _ ha0 hk0 Hv.out ht ht' hvy).mono ?_
            rintro e w1 ⟨rfl, hk1, hu1⟩
            have hu := hu0.trans hu1
            go_wp2
            go_ret2
            exact DoPost.mk' HA.out rfl hk1 hu
        · have h2' : (k == 2) = false := by simp [h2]
          have HA := Lib.hid (show acc ⟨k, a, x, y⟩ xs t = ⟨v, 0, xs.set a.toNat (addw v x), t + 1⟩ by simp [acc, HW.out, h0, h1, h2])
          go_enter Try.func14, Try.ntmps14
          go_wp2_with fail
          refine (add_at b g xs t x v a _ ha0 hk0 Hv.out ht ht').mono ?_
          rintro e w1 ⟨rfl, hk1, hu1⟩
          have hu := hu0.trans hu1
          go_wp2
          go_ret2
          exact DoPost.mk' HA.out rfl hk1 hu

theorem Acts.at {w wr : World} {a : Option Addr} {len cap : Nat} {l : List Act4} (h : Acts w a len cap l) (hb : Below w.heap.size w wr) {k : Nat} (hk : k < len) :
    ∃ ab off c, a = some ⟨ab, off, none⟩ ∧ l[k]? = some c ∧ c.ok ∧ wr.cell? ⟨ab, off + k * 4, none⟩ = some (.int .i64 c.k) ∧ wr.cell? ⟨ab, off + k * 4 + 1, none⟩ = some (.int .i64 c.a) ∧
      wr.cell? ⟨ab, off + k * 4 + 2, none⟩ = some (.int .u64 c.x) ∧ wr.cell? ⟨ab, off + k * 4 + 3, none⟩ = some (.int .u64 c.y) := by
  have hl := h.1.len.1
  rw [List.length_map] at hl
  obtain ⟨ab, off, ha, _, hcell⟩ := h.1.at hb (i := k) (r := (l[k]'(by omega)).row) (by simp; exact ⟨_, List.getElem?_eq_getElem (by omega), rfl⟩)
  exact ⟨ab, off, l[k]'(by omega), ha, List.getElem?_eq_getElem (by omega), h.2 _ (List.getElem_mem (by omega)), hcell 0 _ rfl, hcell 1 _ rfl, hcell 2 _ rfl, hcell 3 _ rfl⟩

theorem acts_of {H : Type} {enc : TypeId × Value → H} {W : World} {base : Nat} {spare : Nat → Bool} {held : Bool} {a : Option Addr} {len cap : Nat} {d : DataW H} {p : List MemPlace}
    (h : DataW.Trod enc Try.prog W base spare held 22 (.slice a len cap) d p) : ∃ l, Acts W a len cap l := by
  obtain ⟨fuel, hf⟩ := h
  obtain ⟨rows, hlies, hrow⟩ := lies_of (n := 4) Try.underlying22 (by kernel_rfl) (by omega) (by simpa [Value.cells] using hf)
  obtain ⟨l, rfl, hl⟩ := list_map Act4.row Act4.ok rows (fun r hr => by
    obtain ⟨m, y, hy⟩ := hrow r hr
    obtain ⟨hlen, h0⟩ := row_fields (j := 0) Try.underlying35 (by kernel_rfl) hy rfl
    obtain ⟨_, h1⟩ := row_fields (j := 1) Try.underlying35 (by kernel_rfl) hy rfl
    obtain ⟨_, h2⟩ := row_fields (j := 2) Try.underlying35 (by kernel_rfl) hy rfl
    obtain ⟨_, h3⟩ := row_fields (j := 3) Try.underlying35 (by kernel_rfl) hy rfl
    rw [show Try.prog.cellsOf 35 = 4 from by kernel_rfl] at hlen
    match r, hlen with
    | [c0, c1, c2, c3], _ =>
      obtain ⟨_, _, g0⟩ := h0 c0 rfl
      obtain ⟨_, _, g1⟩ := h1 c1 rfl
      obtain ⟨_, _, g2⟩ := h2 c2 rfl
      obtain ⟨_, _, g3⟩ := h3 c3 rfl
      obtain ⟨n0, e0, _, w0⟩ := DataW.trod_int Try.underlying3 g0
      obtain ⟨n1, e1, _, w1⟩ := DataW.trod_int Try.underlying3 g1
      obtain ⟨n2, e2, _, w2⟩ := DataW.trod_int Try.underlying31 g2
      obtain ⟨n3, e3, _, w3⟩ := DataW.trod_int Try.underlying31 g3
      simp only [List.cons.injEq, and_true] at e0 e1 e2 e3
      exact ⟨⟨n0, n1, n2, n3⟩, by rw [e0, e1, e2, e3]; rfl, i64_of_wf w0, i64_of_wf w1, u64_of_wf w2, u64_of_wf w3⟩)
  exact ⟨l, hlies, hl⟩
end Go.Proofs.Ytckeoonbmpfmeaa
