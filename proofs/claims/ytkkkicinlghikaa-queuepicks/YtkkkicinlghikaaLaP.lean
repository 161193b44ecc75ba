/- Append by a known run. No program is named here. -/
import Derived.Test.YtkkkicinlghikaaMem2
import Derived.ArgAppend
namespace Go.Proofs.Ytkkkicinlghikaa
open Go.RowKit
theorem wp_append_run {P : Program} (w : World) {o : Oper} {a : Act} {K : Act → World → Prop} {Q : Exit → Act → World → Prop} (d s : Operand) (t t' : TypeId)
    (ho : o.op = .call { callee := .builtin .append, args := #[d, s], argTypes := #[t, t'] }) (v u : Value) (hd : a.eval d = v) (hs : a.eval s = u) {v' : Value} {w' : World}
    (hr : (Builtin.append_ #[t, t'] o.type #[v, u]).run P w = .ok v' w') (h : K (a.put o.dst v') w') : o.wp P a w K Q := by
  unfold Oper.wp execOp
  simp only [ho, resolve, invoke, builtin, Sem.run_bind, Sem.run_pure, Result.andThen_ok, List.map_toArray, List.map_cons, List.map_nil, hd, hs, hr]
  exact h
theorem wpList_append_run {P : Program} (w : World) {ops : Array Oper} {rest : List Oper} {o : Oper} {a : Act} {Q : Exit → Act → World → Prop} (hgd : o.guard = none) (d s : Operand) (t t' : TypeId)
    (ho : o.op = .call { callee := .builtin .append, args := #[d, s], argTypes := #[t, t'] }) (v u : Value) (hd : a.eval d = v) (hs : a.eval s = u) {v' : Value} {w' : World}
    (hr : (Builtin.append_ #[t, t'] o.type #[v, u]).run P w = .ok v' w') (h : wpList P ops Q rest (a.put o.dst v') w') : wpList P ops Q (o :: rest) a w :=
  wpList_plain hgd fun _ hK => wp_append_run w d s t t' ho v u hd hs hr (hK _ _ h)
theorem owns_blocks {A B : World} {base : Nat} {e : TypeId} {size : Nat} {v : Value} {k : Nat} {xs : List Value} (h : A.ownsRow base e size v k xs) (hk : ∀ g, v.ownBlock = some g → B.heap[g]? = A.heap[g]?) : B.ownsRow base e size v k xs := by
  obtain ⟨h1, h2⟩ := h
  refine ⟨h1, ?_⟩
  rcases h2 with c | ⟨g, cap, cur, rfl, hb, hg, rest⟩
  · exact .inl c
  · exact .inr ⟨g, cap, cur, rfl, hb, (hk g rfl).trans hg, rest⟩
theorem append_one {P : Program} (w : World) (t e : TypeId) (i : TypeInfo) (z : Value) (bytes : Nat) (ht : P.underlying t = some (.slice e)) (hi : P.info? e = some i) (hz : i.zero = some z) (hs : i.size = 1) (hb : i.bytes = bytes) (hzs : z.cells.size = 1) (hby : bytes ≤ 24)
    (v : Value) (k : Nat) (xs : List Value) (hown : w.ownsRow 0 e 1 v k xs) (q : Nat) (u : Value) (hq : w.cell? ⟨q, 0, none⟩ = some u) (h1 : u.oneCell' = true) (hk : k ≤ 100000) :
    ∃ v' w', (Builtin.append_ #[t, t] t #[v, .slice (some ⟨q, 0, none⟩) 1 1]).run P w = .ok v' w' ∧ w'.ownsRow 0 e 1 v' (k + 1) (xs ++ [u]) ∧ w.grownBy w' v.ownBlock ∧ (v'.ownBlock = v.ownBlock ∨ ∀ p, v'.ownBlock = some p → w.heap.size ≤ p ∧ p < w'.heap.size) := by
  have hnews : ∀ (j : Nat) (y : Value), [u][j]? = some y → w.cell? ((⟨q, 0, none⟩ : Addr).add j) = some y := fun j y hy => by
    match j, hy with
    | 0, hy => cases hy; exact hq
  have hone : ∀ y ∈ [u], y.oneCell' = true := fun y hy => by
    simp only [List.mem_cons, List.not_mem_nil, or_false] at hy
    exact hy ▸ h1
  have hml : k + 1 ≤ maxLen := by simp only [maxLen]; omega
  have hbb : (k + 1) * bytes ≤ 140737488355328 := by
    have := Nat.mul_le_mul (show k + 1 ≤ 100001 by omega) hby
    omega
  have fresh : ∀ v' (w' : World), w'.ownsRow w.heap.size e 1 v' (k + 1) (xs ++ [u]) → w'.ownsRow 0 e 1 v' (k + 1) (xs ++ [u]) ∧ ∀ p, v'.ownBlock = some p → w.heap.size ≤ p ∧ p < w'.heap.size := fun v' w' h => by
    obtain ⟨h1, h2⟩ := h
    rcases h2 with ⟨rfl, c⟩ | ⟨g, cap, cur, rfl, hb, hg, rest⟩
    · omega
    · refine ⟨⟨h1, .inr ⟨g, cap, cur, rfl, Nat.zero_le _, hg, rest⟩⟩, fun p hp => ?_⟩
      have e : g = p := by simpa [Value.ownBlock] using hp
      exact e ▸ ⟨hb, (Array.getElem?_eq_some_iff.1 hg).1⟩
  obtain ⟨hl, hc⟩ := hown
  rcases hc with ⟨rfl, rfl⟩ | ⟨g, cap, cur, rfl, _, hg, hkc, hcm, hcs, htk⟩
  · have hx : xs = [] := List.eq_nil_of_length_eq_zero (by simpa using hl)
    subst hx
    obtain ⟨v', w', hr, ho, hgr, _⟩ := run_append_own (P := P) w w.heap.size t t e i z 1 bytes ht hi hz hs hb hzs (by omega) (.slice none 0 0) 0 [] (World.ownsRow_nil _ _ _ _) ⟨q, 0, none⟩ 1 1 [u] rfl hnews hone (by simp only [maxLen]; omega) (by omega) (Nat.le_refl _)
    obtain ⟨f1, f2⟩ := fresh v' w' (by simpa using ho)
    exact ⟨v', w', hr, by simpa using f1, hgr, .inr f2⟩
  · by_cases hroom : k + 1 ≤ cap
    · have hr := run_append_room (P := P) w t t e i ht hi g k cap cur hg ⟨q, 0, none⟩ 1 1 [u] (by rw [hs]; rfl) hnews hone hroom (by rw [hs, hcs]; simp; omega)
      refine ⟨_, _, hr, ⟨by simp [hl], .inr ⟨g, cap, _, rfl, Nat.zero_le _, setRow_heap w g cur _ e _ hg, hroom, hcm, ?_, ?_⟩⟩, ⟨rfl, rfl, rfl, by simp, fun j _ hj => setRow_other w g j _ (fun c => hj (by simp [Value.ownBlock, c]))⟩, .inl rfl⟩
      · simp only [List.size_toArray, List.length_append, List.length_take, List.length_drop, Array.length_toList, hs, hcs]
        simp
        omega
      · simp only [hs, Nat.mul_one] at htk ⊢
        rw [htk]
        have e : (xs ++ [u]).length = k + 1 := by simp [hl]
        show List.take (k + 1) (xs ++ [u] ++ _) = _
        rw [← e]
        exact List.take_left
    · have holds : ∀ (j : Nat) (y : Value), xs[j]? = some y → w.cell? ((⟨g, 0, none⟩ : Addr).add j) = some y := World.ownsRow.cells (w := w) (base := 0) (e := e) (size := 1) (n := k) ⟨hl, .inr ⟨g, cap, cur, rfl, Nat.zero_le _, hg, hkc, hcm, hcs, htk⟩⟩ rfl
      obtain ⟨v', w', hr, ho, hgr⟩ := run_append_arg_grows (P := P) w t t e i z 1 bytes ht hi hz hs hb hzs (by omega) ⟨g, 0, none⟩ k cap xs (by simpa using hl) holds ⟨q, 0, none⟩ 1 1 [u] rfl hnews (by omega) hml hbb
      obtain ⟨f1, f2⟩ := fresh v' w' ho
      exact ⟨v', w', hr, f1, ⟨hgr.os, hgr.tape, hgr.output, hgr.size, fun j hj _ => hgr.block j hj (by simp)⟩, .inr f2⟩
end Go.Proofs.Ytkkkicinlghikaa
