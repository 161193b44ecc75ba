/- Within the document's step of a snapshot: what lies in memory. -/
import Derived.Test.YtflgggfomhifeaaRfS
import Derived.Test.YtflgggfomhifeaaRec
import Derived.Deep.RegionHeld3
import Derived.BigQuiet
namespace Go.Proofs.Ytflgggfomhifeaa
open Go.RowKit

/-- What the document's step may turn. -/
def OwnR (o : Nat) (V U : Value) (k : Nat) : Prop := k = o ∨ V.ownBlock = some k ∨ U.ownBlock = some k
/-- A row's block is the one it was, or none, or a new one. -/
def Frs (s : Nat) (V0 V : Value) (e : Nat) : Prop := V.ownBlock = V0.ownBlock ∨ V.ownBlock = none ∨ ∀ q, V.ownBlock = some q → s ≤ q ∧ q < e
theorem Frs.mono {s e e' : Nat} {V0 V : Value} (h : Frs s V0 V e) (k : e ≤ e') : Frs s V0 V e' := by
  rcases h with c | c | c
  · exact .inl c
  · exact .inr (.inl c)
  · exact .inr (.inr fun q hq => ⟨(c q hq).1, by have := (c q hq).2; omega⟩)
theorem Frs.app {s m e e' : Nat} {V0 V V' : Value} (h : Frs s V0 V m) (k : V'.ownBlock = V.ownBlock ∨ ∀ q, V'.ownBlock = some q → e ≤ q ∧ q < e') (hs : s ≤ e) (hm : m ≤ e') : Frs s V0 V' e' := by
  rcases k with k | k
  · have h := h.mono hm
    unfold Frs at h ⊢
    rw [k]
    exact h
  · exact .inr (.inr fun q hq => by have := k q hq; omega)
/-- The document's snapshot within a step. -/
structure Rtg (w0 : World) (o wb : Nat) (a : Option Addr) (V0 U0 V U : Value) (gl wl : List Int) (SS : List Sp) (ys : List Int) (C : List Value) (W : World) : Prop where
  bk : Blk W o C
  sp : Sps W.heap.size W a SS
  row : Row W wb ys
  gv : W.ownsRow 0 42 1 V gl.length (gl.map (Value.int .u64))
  uv : W.ownsRow 0 42 1 U wl.length (wl.map (Value.int .u64))
  up : Upd (OwnR o V0 U0) w0 W
  ap : V.ownBlock ≠ some o ∧ U.ownBlock ≠ some o ∧ V.ownBlock ≠ some wb ∧ U.ownBlock ≠ some wb ∧ o ≠ wb
  vu : ∀ q, V.ownBlock = some q → U.ownBlock ≠ some q
  aw : ∀ b off, a = some ⟨b, off, none⟩ → b ≠ o ∧ V.ownBlock ≠ some b ∧ U.ownBlock ≠ some b
  fv : Frs w0.heap.size V0 V W.heap.size
  fu : Frs w0.heap.size U0 U W.heap.size
theorem owns_lt {W : World} {e : TypeId} {base : Nat} {v : Value} {k : Nat} {xs : List Value} (h : W.ownsRow base e 1 v k xs) {q : Nat} (hq : v.ownBlock = some q) : q < W.heap.size := by
  rcases h.2 with ⟨c, _⟩ | ⟨g', _, _, e, _, hg', _⟩
  · rw [c] at hq; cases hq
  · have e' : g' = q := by rw [e] at hq; simpa [Value.ownBlock] using hq
    subst e'
    exact (Array.getElem?_eq_some_iff.1 hg').1
theorem owns_low {A B : World} {e : TypeId} {v : Value} {k : Nat} {xs : List Value} (h : A.ownsRow 0 e 1 v k xs) (u : Below A.heap.size A B) : B.ownsRow 0 e 1 v k xs :=
  owns_blocks h (fun g hg => u.block g (owns_lt h hg))
theorem owns_set {A : World} {e : TypeId} {v : Value} {k : Nat} {xs : List Value} (h : A.ownsRow 0 e 1 v k xs) {p : Addr} (hp : v.ownBlock ≠ some p.block) (u : Value) : (A.setCell p u).ownsRow 0 e 1 v k xs :=
  owns_blocks h (fun g hg => Below.heap_setCell _ _ _ _ (fun c => hp (by rw [hg, c])))
theorem owns_drew {A : World} {e : TypeId} {v : Value} {k : Nat} {xs : List Value} (h : A.ownsRow 0 e 1 v k xs) (m : Nat) : (A.drewN m).ownsRow 0 e 1 v k xs := owns_blocks h (fun _ _ => rfl)
theorem Sps.put {W : World} {b off : Nat} {l : List Sp} (h : Sps W.heap.size W (some ⟨b, off, none⟩) l) {p : Addr} (hp : b ≠ p.block) (u : Value) : Sps (W.setCell p u).heap.size (W.setCell p u) (some ⟨b, off, none⟩) l := fun j s hs => by
  obtain ⟨b', off', e, hb, c0, c1, c2, c3, c4⟩ := h j s hs
  cases e
  have ec : ∀ i, (W.setCell p u).cell? ⟨b, i, none⟩ = W.cell? ⟨b, i, none⟩ := fun i => World.cell?_of_block (Below.heap_setCell _ _ _ _ hp)
  exact ⟨b, off, rfl, by simpa [World.setCell] using hb, by rw [ec]; exact c0, by rw [ec]; exact c1, by rw [ec]; exact c2, by rw [ec]; exact c3, by rw [ec]; exact c4⟩
theorem Sps.block {W W' : World} {b off : Nat} {l : List Sp} (h : Sps W.heap.size W (some ⟨b, off, none⟩) l) (e : b < W.heap.size → W'.heap[b]? = W.heap[b]?) (hs : W.heap.size ≤ W'.heap.size) : Sps W'.heap.size W' (some ⟨b, off, none⟩) l := fun j s hj => by
  obtain ⟨b', off', e', hb, c0, c1, c2, c3, c4⟩ := h j s hj
  cases e'
  have ec : ∀ i, W'.cell? ⟨b, i, none⟩ = W.cell? ⟨b, i, none⟩ := fun i => World.cell?_of_block (e hb)
  exact ⟨b, off, rfl, by omega, by rw [ec]; exact c0, by rw [ec]; exact c1, by rw [ec]; exact c2, by rw [ec]; exact c3, by rw [ec]; exact c4⟩
/-- The document's append. -/
theorem rn_append {W : World} {V : Value} {k : Nat} {xs : List Value} (h : W.ownsRow 0 42 1 V k xs) (hk : k ≤ 100000) (v : Int) :
    ∃ V' W', (Builtin.append_ #[41, 41] 41 #[V, .slice (some ⟨W.heap.size, 0, none⟩) 1 1]).run Try.prog (W.alloc (.cells #[.int .u64 v] 42)) = .ok V' W' ∧ W'.ownsRow 0 42 1 V' (k + 1) (xs ++ [.int .u64 v]) ∧ (W.alloc (.cells #[.int .u64 v] 42)).grownBy W' V.ownBlock ∧ (V'.ownBlock = V.ownBlock ∨ ∀ p, V'.ownBlock = some p → W.heap.size + 1 ≤ p ∧ p < W'.heap.size) := by
  obtain ⟨i, hi, he⟩ := Option.map_eq_some_iff.1 info49
  simp only [Prod.mk.injEq] at he
  obtain ⟨hz, hs, hb⟩ := he
  have hA := owns_low h ((Below.refl W.heap.size W).alloc (Nat.le_refl _) (.cells #[.int .u64 v] 42))
  have hr := append_one (P := Try.prog) (W.alloc (.cells #[.int .u64 v] 42)) 41 42 i (.int .u64 0) 8 Try.underlying41 hi hz hs hb rfl (by omega) V k xs hA W.heap.size (.int .u64 v) ((Blk.new W #[.int .u64 v] 42).cell rfl) rfl hk
  simpa using hr
section
variable {w0 W W' : World} {o wb b off : Nat} {V0 U0 V U : Value} {gl wl : List Int} {SS : List Sp} {ys : List Int} {C : List Value}
theorem Rtg.put (h : Rtg w0 o wb (some ⟨b, off, none⟩) V0 U0 V U gl wl SS ys C W) (i : Nat) (v : Value) : Rtg w0 o wb (some ⟨b, off, none⟩) V0 U0 V U gl wl SS ys (C.set i v) (W.setCell ⟨o, i, none⟩ v) :=
  ⟨h.bk.put i v, h.sp.put (h.aw b off rfl).1 v, h.row.setFar h.ap.2.2.2.2.symm v, owns_set h.gv h.ap.1 v, owns_set h.uv h.ap.2.1 v, h.up.setCell (.inl (.inl rfl)) v, h.ap, h.vu, h.aw, h.fv.mono (by simp [World.setCell]), h.fu.mono (by simp [World.setCell])⟩
theorem Rtg.to (h : Rtg w0 o wb (some ⟨b, off, none⟩) V0 U0 V U gl wl SS ys C W) {C' : List Value} (e : C = C') : Rtg w0 o wb (some ⟨b, off, none⟩) V0 U0 V U gl wl SS ys C' W := e ▸ h
theorem Rtg.drewN (h : Rtg w0 o wb (some ⟨b, off, none⟩) V0 U0 V U gl wl SS ys C W) (n : Nat) : Rtg w0 o wb (some ⟨b, off, none⟩) V0 U0 V U gl wl SS ys C (W.drewN n) :=
  ⟨blkN h.bk n, h.sp, h.row, owns_drew h.gv n, owns_drew h.uv n, h.up.drewN n, h.ap, h.vu, h.aw, h.fv, h.fu⟩
theorem Rtg.drew (h : Rtg w0 o wb (some ⟨b, off, none⟩) V0 U0 V U gl wl SS ys C W) : Rtg w0 o wb (some ⟨b, off, none⟩) V0 U0 V U gl wl SS ys C W.drew := h.drewN 1
theorem Rtg.low (h : Rtg w0 o wb (some ⟨b, off, none⟩) V0 U0 V U gl wl SS ys C W) (u : Below W.heap.size W W') : Rtg w0 o wb (some ⟨b, off, none⟩) V0 U0 V U gl wl SS ys C W' :=
  ⟨h.bk.low u, h.sp.next u, h.row.below u, owns_low h.gv u, owns_low h.uv u, h.up.trans (Upd.of_below _ u), h.ap, h.vu, h.aw, h.fv.mono u.size, h.fu.mono u.size⟩
theorem Rtg.alloc (h : Rtg w0 o wb (some ⟨b, off, none⟩) V0 U0 V U gl wl SS ys C W) (c : Obj) : Rtg w0 o wb (some ⟨b, off, none⟩) V0 U0 V U gl wl SS ys C (W.alloc c) := h.low ((Below.refl _ W).alloc (Nat.le_refl _) c)
/-- The first row is none again. -/
theorem Rtg.nilV (h : Rtg w0 o wb (some ⟨b, off, none⟩) V0 U0 V U gl wl SS ys C W) : Rtg w0 o wb (some ⟨b, off, none⟩) V0 U0 (.slice none 0 0) U [] wl SS ys C W :=
  ⟨h.bk, h.sp, h.row, World.ownsRow_nil _ _ _ _, h.uv, h.up, ⟨by simp [Value.ownBlock], h.ap.2.1, by simp [Value.ownBlock], h.ap.2.2.2.1, h.ap.2.2.2.2⟩, fun q hq => by simp [Value.ownBlock] at hq, fun b off e => ⟨(h.aw b off e).1, by simp [Value.ownBlock], (h.aw b off e).2.2⟩, .inr (.inl rfl), h.fu⟩
theorem Rtg.nilU (h : Rtg w0 o wb (some ⟨b, off, none⟩) V0 U0 V U gl wl SS ys C W) : Rtg w0 o wb (some ⟨b, off, none⟩) V0 U0 V (.slice none 0 0) gl [] SS ys C W :=
  ⟨h.bk, h.sp, h.row, h.gv, World.ownsRow_nil _ _ _ _, h.up, ⟨h.ap.1, by simp [Value.ownBlock], h.ap.2.2.1, by simp [Value.ownBlock], h.ap.2.2.2.2⟩, fun q _ => by simp [Value.ownBlock], fun b off e => ⟨(h.aw b off e).1, (h.aw b off e).2.1, by simp [Value.ownBlock]⟩, h.fv, .inr (.inl rfl)⟩
theorem Rtg.swap (h : Rtg w0 o wb (some ⟨b, off, none⟩) V0 U0 V U gl wl SS ys C W) : Rtg w0 o wb (some ⟨b, off, none⟩) U0 V0 U V wl gl SS ys C W :=
  ⟨h.bk, h.sp, h.row, h.uv, h.gv, h.up.mono (fun k hk => by rcases hk with c | c | c; exact .inl c; exact .inr (.inr c); exact .inr (.inl c)), ⟨h.ap.2.1, h.ap.1, h.ap.2.2.2.1, h.ap.2.2.1, h.ap.2.2.2.2⟩, fun q hq c => h.vu q c hq, fun b off e => ⟨(h.aw b off e).1, (h.aw b off e).2.2, (h.aw b off e).2.1⟩, h.fu, h.fv⟩
/-- One number more in the first row. -/
theorem Rtg.appV' (h : Rtg w0 o wb (some ⟨b, off, none⟩) V0 U0 V U gl wl SS ys C W) (hk : gl.length ≤ 100000) (hbl : b < W.heap.size) (v : Int) :
    ∃ a' c' W', (Builtin.append_ #[41, 41] 41 #[V, .slice (some ⟨W.heap.size, 0, none⟩) 1 1]).run Try.prog (W.alloc (.cells #[.int .u64 v] 42)) = .ok (.slice a' (gl.length + 1) c') W' ∧
      Rtg w0 o wb (some ⟨b, off, none⟩) V0 U0 (.slice a' (gl.length + 1) c') U (gl ++ [v]) wl SS ys C W' ∧ ∀ p, p < W.heap.size → V.ownBlock ≠ some p → W'.heap[p]? = W.heap[p]? := by
  obtain ⟨V', W', hr, ho, hg, hf⟩ := rn_append h.gv hk v
  obtain ⟨a', c', rfl⟩ := owns_sl ho
  have hA := h.alloc (.cells #[.int .u64 v] 42)
  have hsz : (W.alloc (.cells #[.int .u64 v] 42)).heap.size = W.heap.size + 1 := by simp
  have hlt := h.bk.lt
  have hlr := h.row.lt
  have hgs := hg.size
  have hup := h.up.size
  have fr : ∀ p, p < W.heap.size → V.ownBlock ≠ some p → (Value.slice a' (gl.length + 1) c').ownBlock ≠ some p := fun p hp hn e => by
    rcases hf with c | c
    · rw [c] at e; exact hn e
    · have := (c p e).1; omega
  have bl : ∀ p, p < W.heap.size → V.ownBlock ≠ some p → W'.heap[p]? = (W.alloc (.cells #[.int .u64 v] 42)).heap[p]? := fun p hp hn => hg.block p (by omega) (fun c => hn c.symm)
  have hvu : ∀ q, (Value.slice a' (gl.length + 1) c').ownBlock = some q → U.ownBlock ≠ some q := fun q hq hu => by
    rcases hf with c | c
    · rw [c] at hq; exact h.vu q hq hu
    · have h1 := (c q hq).1
      have h2 := owns_lt h.uv hu
      omega
  refine ⟨a', c', W', hr, ?_, fun p hp hn => by rw [bl p hp hn]; exact Below.heap_alloc _ _ _ hp⟩
  refine ⟨hA.bk.of_block (bl o hlt h.ap.1), hA.sp.block (fun _ => bl b hbl (h.aw b off rfl).2.1) hg.size, hA.row.of_block (bl wb hlr h.ap.2.2.1), ?_, owns_blocks hA.uv (fun g hu => bl g (owns_lt h.uv hu) (fun c => h.vu g c hu)), ⟨hA.up.os ▸ hg.os, hA.up.tape ▸ hg.tape, hA.up.output ▸ hg.output, by omega, fun k hk hn => ?_⟩, ⟨fr o hlt h.ap.1, h.ap.2.1, fr wb hlr h.ap.2.2.1, h.ap.2.2.2⟩, hvu, fun b' off' e => ?_, ?_, h.fu.mono (by omega)⟩
  · rw [List.length_append, List.map_append]
    exact ho
  · by_cases c : V.ownBlock = some k
    · rcases h.fv with q | q | q
      · exact absurd (.inr (.inl (q ▸ c))) hn
      · rw [q] at c; cases c
      · have := (q k c).1; omega
    · rw [bl k (by omega) c]
      exact hA.up.block k hk hn
  · cases e
    exact ⟨(h.aw b off rfl).1, fr b hbl (h.aw b off rfl).2.1, (h.aw b off rfl).2.2⟩
  · exact h.fv.app hf (by omega) (by omega)
theorem Rtg.appV (h : Rtg w0 o wb (some ⟨b, off, none⟩) V0 U0 V U gl wl SS ys C W) (hk : gl.length ≤ 100000) (hbl : b < W.heap.size) (v : Int) :
    ∃ a' c' W', (Builtin.append_ #[41, 41] 41 #[V, .slice (some ⟨W.heap.size, 0, none⟩) 1 1]).run Try.prog (W.alloc (.cells #[.int .u64 v] 42)) = .ok (.slice a' (gl.length + 1) c') W' ∧
      Rtg w0 o wb (some ⟨b, off, none⟩) V0 U0 (.slice a' (gl.length + 1) c') U (gl ++ [v]) wl SS ys C W' := by
  obtain ⟨a', c', W', hr, h', _⟩ := h.appV' hk hbl v
  exact ⟨a', c', W', hr, h'⟩
/-- One number more in the second row. -/
theorem Rtg.appU (h : Rtg w0 o wb (some ⟨b, off, none⟩) V0 U0 V U gl wl SS ys C W) (hk : wl.length ≤ 100000) (hbl : b < W.heap.size) (v : Int) :
    ∃ a' c' W', (Builtin.append_ #[41, 41] 41 #[U, .slice (some ⟨W.heap.size, 0, none⟩) 1 1]).run Try.prog (W.alloc (.cells #[.int .u64 v] 42)) = .ok (.slice a' (wl.length + 1) c') W' ∧
      Rtg w0 o wb (some ⟨b, off, none⟩) V0 U0 V (.slice a' (wl.length + 1) c') gl (wl ++ [v]) SS ys C W' ∧ ∀ p, p < W.heap.size → U.ownBlock ≠ some p → W'.heap[p]? = W.heap[p]? := by
  obtain ⟨a', c', W', hr, h', hf⟩ := h.swap.appV' hk hbl v
  exact ⟨a', c', W', hr, h'.swap, hf⟩
end
/-- What comes of the document's step. -/
def RnPost (o wb : Nat) (a : Option Addr) (n c : Nat) (V U : Value) (SS : List Sp) (tr : Int) (ys : List Int) (y : NSt) (w : World) (e : Ending) (w' : World) : Prop :=
  e = .returned (.tuple #[]) ∧ ∃ V' U', RnAt w' o a n c V' U' SS tr y ∧ Row w' wb ys ∧ V'.ownBlock ≠ some wb ∧ U'.ownBlock ≠ some wb ∧ Upd (OwnR o V U) w w' ∧ Frs w.heap.size V V' w'.heap.size ∧ Frs w.heap.size U U' w'.heap.size
section
variable {w W : World} {o wb b off n c : Nat} {V0 U0 V U : Value} {gl wl : List Int} {SS : List Sp} {ys : List Int} {tr : Int} {x : NSt}
theorem Rtg.start (h : RnAt w o (some ⟨b, off, none⟩) n c V U SS tr x) (hB : Row w wb ys) (hne : o ≠ wb) (hv : V.ownBlock ≠ some wb) (hu : U.ownBlock ≠ some wb) :
    ∃ gl wl : List Int, (¬ (x.line = 0 ∧ x.k = 0) → gl = x.tl.take SS.length ∧ wl = x.tl.drop SS.length) ∧ Rtg w o wb (some ⟨b, off, none⟩) V U V U gl wl SS ys (rfc (.slice (some ⟨b, off, none⟩) n c) V U tr x) w := by
  obtain ⟨gl, wl, h1, h2, h3⟩ := h.rows
  exact ⟨gl, wl, h3, h.cells, h.spots, hB, h1, h2, Upd.refl _ w, ⟨h.apart.1, h.apart.2.1, hv, hu, hne⟩, h.apart.2.2, h.away, .inl rfl, .inl rfl⟩
theorem Rtg.post (h : Rtg w o wb (some ⟨b, off, none⟩) V0 U0 V U gl wl SS ys (rfc (.slice (some ⟨b, off, none⟩) n c) V U tr x) W) (hn : SS.length = n) (hr : ¬ (x.line = 0 ∧ x.k = 0) → gl = x.tl.take SS.length ∧ wl = x.tl.drop SS.length) :
    RnPost o wb (some ⟨b, off, none⟩) n c V0 U0 SS tr ys x w (.returned (.tuple #[])) W :=
  ⟨rfl, V, U, ⟨h.bk, hn, h.sp, ⟨gl, wl, h.gv, h.uv, hr⟩, ⟨h.ap.1, h.ap.2.1, h.vu⟩, h.aw⟩, h.row, h.ap.2.2.1, h.ap.2.2.2.1, h.up, h.fv, h.fu⟩
end
end Go.Proofs.Ytflgggfomhifeaa
