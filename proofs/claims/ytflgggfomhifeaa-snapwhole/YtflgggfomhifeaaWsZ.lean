/- Zeros, appended to numbers. -/
import Derived.Test.YtflgggfomhifeaaRec
import Derived.Deep.AppendSrc
namespace Go.Proofs.Ytflgggfomhifeaa
open Go.RowKit

theorem zero_cells (n : Nat) : Builtin.zeroCells #[Value.int .u64 0] n = (List.replicate n (Value.int .u64 0)).toArray := by
  apply Array.ext
  · simp [Builtin.zeroCells]
  · intro i h1 h2
    simp [Builtin.zeroCells, Nat.mod_one]
theorem run_zeros_room (W : World) (g k cap n : Nat) (cur : Array Value) (hg : W.heap[g]? = some (.cells cur 42 (0, 0))) (h1 : 1 ≤ n) (h2 : n ≤ 100) (hr : k + n ≤ cap) (hc : cur.size = cap) :
    (Builtin.append_ #[41, 3] 41 #[.slice (some ⟨g, 0, none⟩) k cap, .int .i64 n]).run Try.prog W =
      .ok (.slice (some ⟨g, 0, none⟩) (k + n) cap) (W.setRow g (cur.toList.take k ++ List.replicate n (Value.int .u64 0) ++ cur.toList.drop (k + n)).toArray) := by
  obtain ⟨i, hi, he⟩ := Option.map_eq_some_iff.1 info49
  simp only [Prod.mk.injEq] at he
  obtain ⟨hz, hs, hb⟩ := he
  have hw : IntKind.i64.wrap (n : Int) = n := by rw [IntKind.wrap_i64]; omega
  have hst := run_storeCells_at Try.prog g k 42 (List.replicate n (Value.int .u64 0)) 0 cur W hg (by simp; omega) (fun u hu => by rw [List.eq_of_mem_replicate hu]; rfl)
  simp only [Nat.add_zero] at hst
  have hn : n ≠ 0 := by omega
  have hn0 : ¬ ((n : Int) < 0) := by omega
  have h48 : ¬ (281474976710656 < (n : Int) * 8) := by omega
  simp [Builtin.append_, run_underlying Try.underlying41, run_underlying Try.underlying3, sizeOf, typeInfo, zeroValue, hi, hz, hs, hb, hw, hn0, h48, hn, hr, Addr.add_lit, asInt, asIntOf, Value.cells, zero_cells, hst]
theorem run_zeros_grow (W : World) (base : Option Addr) (k cap n : Nat) (olds : List Value) (hold : (Builtin.firstCells 1 k (.slice base k cap)).run Try.prog W.drew = .ok olds.toArray W.drew) (h1 : 1 ≤ n) (h2 : n ≤ 100) (hk : k ≤ 10000) (hg : cap < k + n) :
    (Builtin.append_ #[41, 3] 41 #[.slice base k cap, .int .i64 n]).run Try.prog W =
      .ok (.slice (some ⟨W.heap.size, 0, none⟩) (k + n) (grownCap W (k + n) cap 42)) (W.drew.alloc (.cells (olds.toArray ++ (List.replicate n (Value.int .u64 0)).toArray ++ Builtin.zeroCells #[Value.int .u64 0] (grownCap W (k + n) cap 42 - (k + n))) 42)) := by
  obtain ⟨i, hi, he⟩ := Option.map_eq_some_iff.1 info49
  simp only [Prod.mk.injEq] at he
  obtain ⟨hz, hs, hb⟩ := he
  have hw : IntKind.i64.wrap (n : Int) = n := by rw [IntKind.wrap_i64]; omega
  have hn : n ≠ 0 := by omega
  have hn0 : ¬ ((n : Int) < 0) := by omega
  have h48 : ¬ (281474976710656 < (n : Int) * 8) := by omega
  have hr : ¬ (k + n ≤ cap) := by omega
  have h63' : ¬ (9223372036854775807 < ((k : Int) + (n : Int))) := by omega
  have h48' : ¬ (281474976710656 < Builtin.nextslicecap (k + n) cap * 8) := by
    have := growslice_fits (need := k + n) (old := cap) (bytes := 8) hg (by omega)
    omega
  simp [Builtin.append_, run_underlying Try.underlying41, run_underlying Try.underlying3, sizeOf, typeInfo, zeroValue, hi, hz, hs, hb, hw, hn0, h48, hn, hr, h63', h48', Question.forced, asInt, asIntOf, Value.cells, zero_cells, hold, newRow, grownCap]
theorem ap_zeros {W : World} {base : Nat} {v : Value} {k : Nat} {xs : List Value} (h : W.ownsRow base 42 1 v k xs) (hb : base ≤ W.heap.size) (hk : k ≤ 10000) (n : Nat) (h1 : 1 ≤ n) (h2 : n ≤ 100) :
    ∃ v' w', (Builtin.append_ #[41, 3] 41 #[v, .int .i64 n]).run Try.prog W = .ok v' w' ∧ w'.ownsRow base 42 1 v' (k + n) (xs ++ List.replicate n (.int .u64 0)) ∧ Below base W w' := by
  have hlen : (xs ++ List.replicate n (Value.int .u64 0)).length = (k + n) * 1 := by rw [List.length_append, h.1, List.length_replicate]; omega
  have grown : ∀ old : Nat, old < k + n → (W.drew.alloc (.cells (xs.toArray ++ (List.replicate n (Value.int .u64 0)).toArray ++ Builtin.zeroCells #[Value.int .u64 0] (grownCap W (k + n) old 42 - (k + n))) 42)).ownsRow base 42 1 (.slice (some ⟨W.heap.size, 0, none⟩) (k + n) (grownCap W (k + n) old 42)) (k + n) (xs ++ List.replicate n (.int .u64 0)) ∧
      Below base W (W.drew.alloc (.cells (xs.toArray ++ (List.replicate n (Value.int .u64 0)).toArray ++ Builtin.zeroCells #[Value.int .u64 0] (grownCap W (k + n) old 42 - (k + n))) 42)) := by
    intro old ho
    have hge := grownCap_ge W (k + n) old 42
    have hcm : grownCap W (k + n) old 42 ≤ maxLen := grownCap_le_maxLen W (k + n) old 42 (by simp only [maxLen]; omega)
    have hx := h.1
    refine ⟨⟨hlen, .inr ⟨W.heap.size, _, _, rfl, hb, heap_alloc_new W.drew _, hge, hcm, ?_, ?_⟩⟩, (belN (Below.refl base W) 1).alloc hb _⟩
    · simp only [Array.size_append, List.size_toArray, size_zeroCells, List.length_replicate, hx]
      show k * 1 + n + _ * 1 = _
      omega
    · simp only [Array.toList_append, List.append_assoc]
      rw [← List.append_assoc, ← hlen]
      exact List.take_left
  obtain ⟨hl, hc⟩ := h
  rcases hc with ⟨rfl, rfl⟩ | ⟨g, cap, cur, rfl, hbg, hg, hkc, hcm, hcs, htk⟩
  · have hx : xs = [] := List.eq_nil_of_length_eq_zero (by simpa using hl)
    subst hx
    have hr := run_zeros_grow W none 0 0 n [] (run_firstCells_none W.drew 1 0 0 0) h1 h2 (by omega) (by omega)
    obtain ⟨g1, g2⟩ := grown 0 (by omega)
    exact ⟨_, _, hr, g1, g2⟩
  · by_cases hroom : k + n ≤ cap
    · have hr := run_zeros_room W g k cap n cur hg h1 h2 hroom (by omega)
      refine ⟨_, _, hr, ⟨hlen, .inr ⟨g, cap, _, rfl, hbg, setRow_heap W g cur _ 42 _ hg, hroom, hcm, ?_, ?_⟩⟩, ⟨rfl, rfl, rfl, by simp, fun q hq => setRow_other W g q _ (fun c => by subst c; omega)⟩⟩
      · simp only [List.size_toArray, List.length_append, List.length_take, List.length_drop, Array.length_toList, List.length_replicate]
        omega
      · simp only [Nat.mul_one] at htk ⊢
        rw [htk, ← Nat.mul_one (k + n), ← hlen]
        exact List.take_left
    · have holds : ∀ (j : Nat) (y : Value), xs[j]? = some y → W.cell? ((⟨g, 0, none⟩ : Addr).add j) = some y := World.ownsRow.cells (w := W) (base := base) (e := 42) (size := 1) (n := k) ⟨hl, .inr ⟨g, cap, cur, rfl, hbg, hg, hkc, hcm, hcs, htk⟩⟩ rfl
      have hr := run_zeros_grow W (some ⟨g, 0, none⟩) k cap n xs (run_firstCells_some W.drew 1 k ⟨g, 0, none⟩ k cap xs hl (by simpa using holds)) h1 h2 hk (by omega)
      obtain ⟨g1, g2⟩ := grown cap (by omega)
      exact ⟨_, _, hr, g1, g2⟩
end Go.Proofs.Ytflgggfomhifeaa
