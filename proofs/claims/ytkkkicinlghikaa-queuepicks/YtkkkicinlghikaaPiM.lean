/- The law QueuePicks: the document's subscriptions, built one by one. -/
import Derived.Test.YtkkkicinlghikaaRpW
import Derived.Test.YtkkkicinlghikaaLaP
import Derived.Maps.AppendAt
namespace Go.Proofs.Ytkkkicinlghikaa
open Go.RowKit

abbrev rbL (S : Sb) : List Value := [.int .i64 S.rk, .int .u64 S.n, .int .i64 S.c, .int .u64 S.g, .int .u64 S.l]
abbrev rbO (S : Sb) : Obj := .cells #[.int .i64 S.rk, .int .u64 S.n, .int .i64 S.c, .int .u64 S.g, .int .u64 S.l] 58
theorem info58 : ∃ (i : TypeInfo) (z : Value), Try.prog.info? 58 = some i ∧ i.zero = some z ∧ z.cells.size = 5 ∧ i.size = 5 ∧ i.bytes = 40 := by
  cases hi : Try.prog.info? 58 with
  | none =>
    have h : (Try.prog.info? 58).map (fun i => (i.zero, i.size, i.bytes)) = some (some (.agg #[.int .i64 0, .int .u64 0, .int .i64 0, .int .u64 0, .int .u64 0]), 5, 40) := by kernel_rfl
    rw [hi] at h
    cases h
  | some i =>
    have h : (Try.prog.info? 58).map (fun i => (i.zero, i.size, i.bytes)) = some (some (.agg #[.int .i64 0, .int .u64 0, .int .i64 0, .int .u64 0, .int .u64 0]), 5, 40) := by kernel_rfl
    rw [hi] at h
    simp only [Option.map_some, Option.some.injEq, Prod.mk.injEq] at h
    exact ⟨i, _, rfl, h.1, rfl, h.2.1, h.2.2⟩
theorem blk_add {W : World} {g : Nat} {vs : List Value} (h : Blk W g vs) : ∀ j u, vs[j]? = some u → W.cell? ((⟨g, 0, none⟩ : Addr).add j) = some u := fun j u hj => by
  have e : (⟨g, 0, none⟩ : Addr).add j = ⟨g, j, none⟩ := by
    unfold Addr.add
    split <;> simp_all
  rw [e]
  exact h.cell hj
theorem rp_append (W : World) (v : Value) (k : Nat) (l : List Sb) (hO : W.ownsRow 0 58 5 v k (l.flatMap rbL)) (S : Sb) (hk : k ≤ 1000) :
    ∃ v' W', (Builtin.append_ #[54, 54] 54 #[v, .slice (some ⟨W.heap.size, 0, none⟩) 1 1]).run Try.prog (W.alloc (rbO S)) = .ok v' W' ∧ W'.ownsRow 0 58 5 v' (k + 1) ((l ++ [S]).flatMap rbL) ∧
      (W.alloc (rbO S)).grownBy W' v.ownBlock ∧ (v'.ownBlock = v.ownBlock ∨ v'.ownBlock = some (W.heap.size + 1)) := by
  obtain ⟨i, z, hi, hz, hzs, hs, hb⟩ := info58
  obtain ⟨v', W', h1, h2, h3, _, h5⟩ := run_append_own_at (P := Try.prog) (w := W.alloc (rbO S)) 0 54 54 58 i z 5 40 Try.underlying54 hi hz hs hb hzs (by decide) v k (l.flatMap rbL) (hO.alloc _) ⟨W.heap.size, 0, none⟩ 1 1 (rbL S) rfl
    (blk_add (Blk.new W _ 58))
    (fun u hu => by
      simp only [List.mem_cons, List.not_mem_nil, or_false] at hu
      rcases hu with rfl | rfl | rfl | rfl | rfl <;> rfl) (by simp only [maxLen]; omega) (by omega) (Nat.zero_le _)
  exact ⟨v', W', h1, by rw [List.flatMap_append]; simpa using h2, h3, by simpa using h5⟩
theorem owns58 {W : World} {v : Value} {k : Nat} {l : List Sb} (h : W.ownsRow 0 58 5 v k (l.flatMap rbL)) : ∃ a c, v = .slice a k c ∧ Rbs W.heap.size W a l := by
  have hc := fun (g : Nat) (hg : v.ownBlock = some g) => World.ownsRow.cells h hg
  have hlt := fun (g : Nat) (hg : v.ownBlock = some g) => h.lt g hg
  rcases h.2 with ⟨rfl, rfl⟩ | ⟨b, cap, cur, rfl, _⟩
  · refine ⟨none, 0, rfl, fun j s hj => ?_⟩
    have h1 := h.1
    have : l = [] := by
      cases l with
      | nil => rfl
      | cons x xs => simp at h1
    subst this
    simp at hj
  · refine ⟨_, _, rfl, fun j s hj => ?_⟩
    have kk := fun i (hi : i < 5) => fm_get rbL 5 (fun _ => rfl) l j i s hj hi
    have cc := fun i u (hi : i < 5) (hu : (rbL s)[i]? = some u) => by
      have := hc b rfl (j * 5 + i) u ((kk i hi).trans hu)
      rw [show (⟨b, 0, none⟩ : Addr).add (j * 5 + i) = ⟨b, 0 + (j * 5 + i), none⟩ by
        unfold Addr.add
        split <;> simp_all] at this
      exact this
    exact ⟨b, 0, rfl, (hlt b rfl).2, cc 0 _ (by omega) rfl, cc 1 _ (by omega) rfl, cc 2 _ (by omega) rfl, cc 3 _ (by omega) rfl, cc 4 _ (by omega) rfl⟩
theorem pkV_two (l : List Sb) (gs : List Int) : ∃ P E : Int, pkV l gs = .tuple #[.int .i64 P, .int .i64 E] := by
  unfold pkV
  split
  · exact ⟨_, _, rfl⟩
  · exact ⟨_, _, rfl⟩
/-- The slice that is being built. -/
structure Pr (w : World) (l : List Sb) (k : Nat) (v : Value) (W : World) : Prop where
  o : W.ownsRow 0 58 5 v k ((l.take k).flatMap rbL)
  s : ∀ p, v.ownBlock = some p → w.heap.size ≤ p
  b : Below w.heap.size w W
theorem owns_lt58 {W : World} {v : Value} {k : Nat} {xs : List Value} (h : W.ownsRow 0 58 5 v k xs) {p : Nat} (hp : v.ownBlock = some p) : p < W.heap.size := (h.lt p hp).2
theorem Pr.next {w W W' : World} {l : List Sb} {k : Nat} {v : Value} (h : Pr w l k v W) (u : Below W.heap.size W W') : Pr w l k v W' :=
  ⟨owns_blocks h.o (fun _ hp => u.block _ (owns_lt58 h.o hp)), h.s, h.b.trans (u.mono h.b.size)⟩
theorem Pr.start (w : World) (l : List Sb) : Pr w l 0 (.slice (some ⟨w.heap.size, 0, none⟩) 0 0) (w.alloc (.cells #[] 58)) :=
  ⟨World.ownsRow_made w #[] 0 (Nat.zero_le _) (by simp only [maxLen]; omega) rfl, fun p hp => by
    have : w.heap.size = p := by simpa [Value.ownBlock] using hp
    omega, (Below.refl _ _).alloc (Nat.le_refl _) _⟩
def PiRel (w : World) (l : List Sb) (n : Nat) (v i : Value) (wr : World) : Prop := ∃ k : Nat, i = .int .i64 k ∧ k ≤ n ∧ Pr w l k v wr
/-- What region 8 reads. -/
structure P8 (b off k cb : Nat) (rk n c g l : Int) (W : World) : Prop where
  r : W.cell? ⟨b, off + k * 6 + 1, none⟩ = some (.int .i64 rk)
  c : Blk W cb (cuL n c g l)
/-- One more. -/
structure Pa (w : World) (l : List Sb) (k : Nat) (v : Value) (S : Sb) (W : World) (v' : Value) (W' : World) : Prop where
  run : (Builtin.append_ #[54, 54] 54 #[v, .slice (some ⟨W.heap.size, 0, none⟩) 1 1]).run Try.prog (W.alloc (rbO S)) = .ok v' W'
  p : Pr w l (k + 1) v' W'
  u : ∀ q, q < W.heap.size → v.ownBlock ≠ some q → W'.heap[q]? = W.heap[q]?
theorem pa_any (w : World) (l : List Sb) (k : Nat) (v : Value) (S : Sb) (W : World) (h : Pr w l k v W) (hS : l[k]? = some S) (hk : k ≤ 1000) : ∃ v' W', Pa w l k v S W v' W' := by
  obtain ⟨v', W', h1, h2, h3, h4⟩ := rp_append W v k (l.take k) h.o S hk
  have ht : l.take k ++ [S] = l.take (k + 1) := by rw [List.take_add_one, hS]; rfl
  rw [ht] at h2
  have hs := h.b.size
  refine ⟨v', W', h1, ⟨h2, fun p hp => ?_, ?_⟩, fun q hq hn => ?_⟩
  · rcases h4 with h4 | h4
    · exact h.s p (h4 ▸ hp)
    · have : W.heap.size + 1 = p := by rw [h4] at hp; simpa using hp
      omega
  · exact (h.b.alloc hs (rbO S)).grown h3 (by simp; omega) (fun q e => h.s q e)
  · exact (h3.block q (by simp; omega) (fun c => hn c.symm)).trans (Below.heap_alloc _ _ _ hq)
end Go.Proofs.Ytkkkicinlghikaa
