/- What a snapshot tells: copies of its words. -/
import Derived.Test.YtflgggfomhifeaaSnG
import Derived.Test.YtflgggfomhifeaaLaP
namespace Go.Proofs.Ytflgggfomhifeaa
open Go.RowKit

/-- Words at the head of a block. -/
structure Orw (w : World) (q cap : Nat) (ws : List Int) : Prop where
  blk : ∃ vs : List Value, w.heap[q]? = some (.cells vs.toArray 42) ∧ vs.length = cap ∧ ∀ (i : Nat) (v : Int), ws[i]? = some v → vs[i]? = some (.int .u64 v)
  le : ws.length ≤ cap
  mx : cap ≤ maxLen
section
variable {w w' : World} {q cap : Nat} {ws : List Int}
theorem Orw.blk' (h : Orw w q cap ws) : ∃ vs, Blk w q vs ∧ vs.length = cap ∧ ∀ (i : Nat) (v : Int), ws[i]? = some v → vs[i]? = some (.int .u64 v) := by
  obtain ⟨vs, h1, h2⟩ := h.blk
  exact ⟨vs, ⟨42, h1⟩, h2⟩
theorem Orw.lt (h : Orw w q cap ws) : q < w.heap.size := by
  obtain ⟨vs, h, _⟩ := h.blk'
  exact h.lt
theorem Orw.of_block (h : Orw w q cap ws) (e : w'.heap[q]? = w.heap[q]?) : Orw w' q cap ws := by
  obtain ⟨vs, h1, h2⟩ := h.blk
  exact ⟨⟨vs, e.trans h1, h2⟩, h.le, h.mx⟩
theorem Orw.low (h : Orw w q cap ws) (u : Below w.heap.size w w') : Orw w' q cap ws := h.of_block (u.block q h.lt)
theorem Orw.cell (h : Orw w q cap ws) {i : Nat} {v : Int} (hv : ws[i]? = some v) : w.cell? ⟨q, i, none⟩ = some (.int .u64 v) := by
  obtain ⟨vs, h1, _, h2⟩ := h.blk'
  exact h1.cell (h2 i v hv)
theorem Orw.frozen (h : Orw w q cap ws) (i : Nat) : w.frozen? ⟨q, i, none⟩ = false := by
  obtain ⟨vs, h1, _⟩ := h.blk'
  exact h1.frozen i
theorem Orw.put (h : Orw w q cap ws) (i : Nat) (v : Int) : Orw (w.setCell ⟨q, i, none⟩ (.int .u64 v)) q cap (ws.set i v) := by
  obtain ⟨vs, h1, h2, h3⟩ := h.blk
  refine ⟨⟨vs.set i (.int .u64 v), by simp [World.setCell, Array.getElem?_modify, h1], by rw [List.length_set]; exact h2, fun j u hu => ?_⟩, by rw [List.length_set]; exact h.le, h.mx⟩
  have hl : j < ws.length := by
    have := lt_of_some hu
    rw [List.length_set] at this
    exact this
  by_cases c : i = j
  · subst c
    rw [List.getElem?_set_self hl] at hu
    rw [List.getElem?_set_self (by have := h.le; omega)]
    cases hu
    rfl
  · rw [List.getElem?_set_ne c] at hu ⊢
    exact h3 j u hu
theorem Orw.setFar (h : Orw w q cap ws) {p : Addr} (hp : q ≠ p.block) (u : Value) : Orw (w.setCell p u) q cap ws := h.of_block (Below.heap_setCell _ _ _ _ hp)
theorem Orw.owns (h : Orw w q cap ws) {base : Nat} (hb : base ≤ q) {n : Nat} (hn : ws.length = n) : w.ownsRow base 42 1 (.slice (some ⟨q, 0, none⟩) n cap) n (ws.map (Value.int .u64)) := by
  obtain ⟨vs, h1, h2, h3⟩ := h.blk
  have hle := h.le
  refine ⟨by simp [hn], .inr ⟨q, cap, vs.toArray, rfl, hb, h1, by omega, h.mx, by simp [h2], ?_⟩⟩
  refine List.ext_getElem? (fun i => ?_)
  rw [List.getElem?_take]
  split
  · rename_i c
    have hl : i < ws.length := by omega
    have e := h3 i _ (List.getElem?_eq_getElem hl)
    simpa [hl] using e
  · rename_i c
    exact (List.getElem?_eq_none_iff.2 (by rw [List.length_map]; omega)).symm
end
theorem orw_of {W : World} {base : Nat} {v : Value} {n : Nat} {ws : List Int} (hn : 1 ≤ n) (h : W.ownsRow base 42 1 v n (ws.map (Value.int .u64))) :
    ∃ q cap, v = .slice (some ⟨q, 0, none⟩) n cap ∧ base ≤ q ∧ Orw W q cap ws := by
  obtain ⟨h1, ⟨_, c⟩ | ⟨g, cap, cur, rfl, hb, hg, hk, hm, hs, ht⟩⟩ := h
  · omega
  · refine ⟨g, cap, rfl, hb, ⟨cur.toList, by simpa using hg, by simpa using hs, fun i v k => ?_⟩, by simp at h1; omega, hm⟩
    have e : (ws.map (Value.int .u64))[i]? = some (.int .u64 v) := by rw [List.getElem?_map, k]; rfl
    rw [← ht, List.getElem?_take] at e
    split at e
    · exact e
    · cases e
def OwPost (n : Nat) (ws : List Int) (w : World) (e : Ending) (w' : World) : Prop :=
  ∃ q cap, e = .returned (.slice (some ⟨q, 0, none⟩) n cap) ∧ w.heap.size ≤ q ∧ Orw w' q cap ws ∧ Below w.heap.size w w'
set_option maxRecDepth 100000 in
theorem nown_any (g off n c : Nat) (ws : List Int) (w : World) (hn : ws.length = n) (h1 : 1 ≤ n) (h2 : n ≤ 10000)
    (hc : ∀ (i : Nat) (v : Int), ws[i]? = some v → w.cell? ⟨g, off + i, none⟩ = some (.int .u64 v)) :
    Calls Try.prog 44 #[.slice (some ⟨g, off, none⟩) n c] w (OwPost n ws w) := by
  obtain ⟨i, hi, he⟩ := Option.map_eq_some_iff.1 info49
  simp only [Prod.mk.injEq] at he
  obtain ⟨hz, hs, hb⟩ := he
  obtain ⟨v', w', hr, ho, hg⟩ := run_append_arg_grows (P := Try.prog) (ty := 41) w 41 42 i _ 1 8 Try.underlying41 hi hz hs hb rfl (by omega) ⟨g, off, none⟩ 0 0 [] rfl (fun j u hu => by simp at hu) ⟨g, off, none⟩ n c (ws.map (Value.int .u64)) (by simp [hn]) (fun j u hu => by
    rw [List.getElem?_map] at hu
    obtain ⟨v, hv, rfl⟩ := Option.map_eq_some_iff.1 hu
    have e : (⟨g, off, none⟩ : Addr).add j = ⟨g, off + j, none⟩ := by unfold Addr.add; split <;> simp_all
    rw [e]
    exact hc j v hv) (by omega) (by simp only [maxLen]; omega) (by omega)
  have Hr := Lib.hid hr
  have hbw : Below w.heap.size w w' := ⟨hg.os, hg.tape, hg.output, hg.size, fun k hk => hg.block k hk (by simp)⟩
  rw [Nat.zero_add, List.nil_append] at ho
  obtain ⟨q, cap, rfl, hq, hO⟩ := orw_of h1 ho
  have HO := Lib.hid (And.intro hq (And.intro hO hbw))
  clear hr ho hg hbw hq hO hn h1 h2 hc hi hz hs hb
  go_enter Try.func44, Try.ntmps44
  go_wp2_with (at_builtin; refine wpList_append_run _ rfl _ _ 41 41 rfl _ _ rfl rfl Hr.out ?_)
  go_ret
  exact ⟨q, cap, rfl, HO.out⟩
/-- What a snapshot that is done tells. -/
def NgPost (n : Nat) (SS : List Sp) (x : NSt) (w : World) (e : Ending) (w' : World) : Prop :=
  ∃ q1 c1 q2 c2, e = .returned (.tuple #[.slice (some ⟨q1, 0, none⟩) n c1, .slice (some ⟨q2, 0, none⟩) SS.length c2]) ∧ w.heap.size ≤ q1 ∧ w.heap.size ≤ q2 ∧ q1 ≠ q2 ∧
    Orw w' q1 c1 (x.tl.drop SS.length) ∧ Orw w' q2 c2 (x.tl.take SS.length) ∧ Below w.heap.size w w'
section
variable {w : World} {o gs g : Nat} {SS : List Sp} {x : NSt}
/-- What Got reads. -/
def RG (o gs g c ln len cap : Nat) (w' : World) : Prop := w'.cell? ⟨o, 0, none⟩ = some (.slice (some ⟨gs, 0, none⟩) ln c) ∧ w'.cell? ⟨o, 8, none⟩ = some (.slice (some ⟨g, 0, none⟩) len cap)
set_option maxRecDepth 100000 in
set_option maxHeartbeats 1000000 in
theorem ngot_ok (h : NAt w o gs g SS x) (k : x.how = 1) (n : Nat) (hl : x.tl.length = SS.length + n) (h1 : 1 ≤ n) (h2 : 1 ≤ SS.length) (h3 : n ≤ 4096) (h4 : SS.length ≤ 64) (hr : x.tl.length ≤ room SS) :
    Calls Try.prog 19 #[.pointer (some ⟨o, 0, none⟩)] w (NgPost n SS x w) := by
  have c0 := h.cell (i := 1) (v := .int .i64 x.how) (fun _ => rfl)
  have lo := h.lto
  rw [k] at c0
  obtain ⟨c, hc⟩ := h.cells
  obtain ⟨ln, hln⟩ : ∃ ln, SS.length = ln := ⟨_, rfl⟩
  obtain ⟨len, hlen⟩ : ∃ len, x.tl.length = len := ⟨_, rfl⟩
  obtain ⟨cap, hcap⟩ : ∃ cap, room SS = cap := ⟨_, rfl⟩
  have hRG : ∀ W, Blk W o (ndc SS gs c g x) → RG o gs g c ln len cap W := fun W hW => by
    subst hln hlen hcap
    exact ⟨hW.cell rfl, hW.cell rfl⟩
  rw [hlen, hln] at hl
  rw [hlen, hcap] at hr
  rw [hln] at h2 h4
  have HRG := Lib.hid hRG
  have Hc := Lib.hid hc
  have hq : RG o gs g c ln len cap w.drew := hRG _ hc.drew
  have b1 : (ln : Int) ≤ len := by omega
  have b2 : (len : Int) ≤ cap := by omega
  have b3 : (ln : Int) ≤ cap := by omega
  have Ho1 := Lib.hid (fun W (kk : NAt W o gs g SS x) (a c' : Nat) (ea : a = ln) => nown_any g a n c' (x.tl.drop SS.length) W (by rw [List.length_drop, hlen, hln]; omega) h1 (by omega) (fun i v hv => by
    rw [List.getElem?_drop, hln] at hv
    rw [ea]
    exact kk.word hv))
  have Ho2 := Lib.hid (fun W (kk : NAt W o gs g SS x) (c' : Nat) => nown_any g 0 ln c' (x.tl.take SS.length) W (by rw [List.length_take, hlen, hln]; omega) h2 (by omega) (fun i v hv => by
    rw [List.getElem?_take] at hv
    split at hv
    · rw [Nat.zero_add]; exact kk.word hv
    · cases hv))
  have H := Lib.hid h
  have Hln := Lib.hid hln
  have hsub : len - ln = n := by omega
  have Hsub := Lib.hid (And.intro hsub hl)
  have hcl : ¬ cap = ln := by omega
  clear h hc hRG hln hlen hcap k h1 h2 h3 h4 hr hl hsub
  go_enter Try.func19, Try.ntmps19
  go_wp2_with fail
  refine wp_region_held_drew (S := RG o gs g c ln len cap) (by kernel_rfl) (hq) (fun hHeld => ?_)
  refine wpAnyH_take (i := 0) (v := ?v1) rfl (by kernel_rfl) (by kernel_rfl) (by kernel_rfl) (fun _ _ _ h => h) (Or.inl ⟨by rfl, ?y1⟩) hHeld ?r1
  case y1 => (intro w hSw; obtain ⟨q0, q1⟩ := hSw; go_simp; try with_reducible rfl)
  simp only [List.getElem_toArray, List.getElem_cons_zero, Act.put, List.setIfInBounds_toArray, List.set_cons_zero, List.set_cons_succ]
  refine wpAnyH_take (i := 1) (v := ?v2) rfl (by kernel_rfl) (by kernel_rfl) (by kernel_rfl) (fun _ _ _ h => h) (Or.inl ⟨by rfl, ?y2⟩) hHeld ?r2
  case y2 => (intro w hSw; obtain ⟨q0, q1⟩ := hSw; go_simp; try with_reducible rfl)
  simp only [List.getElem_toArray, List.getElem_cons_zero, List.getElem_cons_succ, Act.put, List.setIfInBounds_toArray, List.set_cons_zero, List.set_cons_succ]
  refine wpAnyH_take (i := 2) (v := ?v3) rfl (by kernel_rfl) (by kernel_rfl) (by kernel_rfl) (fun _ _ _ h => h) (Or.inl ⟨by rfl, ?y3⟩) hHeld ?r3
  case y3 => (intro w hSw; obtain ⟨q0, q1⟩ := hSw; go_simp; try with_reducible rfl)
  simp only [List.getElem_toArray, List.getElem_cons_zero, List.getElem_cons_succ, Act.put, List.setIfInBounds_toArray, List.set_cons_zero, List.set_cons_succ]
  refine wpAnyH_take (i := 3) (v := ?v4) rfl (by kernel_rfl) (by kernel_rfl) (by kernel_rfl) (fun _ _ _ h => h) (Or.inl ⟨by rfl, ?y4⟩) hHeld ?r4
  case y4 => (intro w hSw; obtain ⟨q0, q1⟩ := hSw; go_simp; try with_reducible rfl)
  simp only [List.getElem_toArray, List.getElem_cons_zero, List.getElem_cons_succ, Act.put, List.setIfInBounds_toArray, List.set_cons_zero, List.set_cons_succ]
  refine wpAnyH_take (i := 4) (v := ?v5) rfl (by kernel_rfl) (by kernel_rfl) (by kernel_rfl) (fun _ _ _ h => h) (Or.inl ⟨by rfl, ?y5⟩) hHeld ?r5
  case y5 => (intro w hSw; obtain ⟨q0, q1⟩ := hSw; go_simp; try with_reducible rfl)
  simp only [List.getElem_toArray, List.getElem_cons_zero, List.getElem_cons_succ, Act.put, List.setIfInBounds_toArray, List.set_cons_zero, List.set_cons_succ]
  refine wpAnyH_take (i := 5) (v := ?v6) rfl (by kernel_rfl) (by kernel_rfl) (by kernel_rfl) (fun _ _ _ h => h) (Or.inl ⟨by rfl, ?y6⟩) hHeld ?r6
  case y6 => (intro w hSw; obtain ⟨q0, q1⟩ := hSw; go_simp; try with_reducible rfl)
  simp only [List.getElem_toArray, List.getElem_cons_zero, List.getElem_cons_succ, Act.put, List.setIfInBounds_toArray, List.set_cons_zero, List.set_cons_succ]
  refine wpAnyH_take (i := 6) (v := ?v7) rfl (by kernel_rfl) (by kernel_rfl) (by kernel_rfl) (fun _ _ _ h => h) (Or.inl ⟨by rfl, ?y7⟩) hHeld ?r7
  case y7 => (intro w hSw; obtain ⟨q0, q1⟩ := hSw; go_simp; try with_reducible rfl)
  simp only [List.getElem_toArray, List.getElem_cons_zero, List.getElem_cons_succ, Act.put, List.setIfInBounds_toArray, List.set_cons_zero, List.set_cons_succ]
  refine wpAnyH_take (i := 7) (v := ?v8) rfl (by kernel_rfl) (by kernel_rfl) (by kernel_rfl) (fun _ _ _ h => h) (Or.inl ⟨by rfl, ?y8⟩) hHeld ?r8
  case y8 => (intro w hSw; obtain ⟨q0, q1⟩ := hSw; go_simp; try with_reducible rfl)
  simp only [List.getElem_toArray, List.getElem_cons_zero, List.getElem_cons_succ, Act.put, List.setIfInBounds_toArray, List.set_cons_zero, List.set_cons_succ]
  refine wpAnyH_take (i := 8) (v := ?v9) rfl (by kernel_rfl) (by kernel_rfl) (by kernel_rfl) (fun _ _ _ h => h) (Or.inl ⟨by rfl, ?y9⟩) hHeld ?r9
  case y9 => (intro w hSw; obtain ⟨q0, q1⟩ := hSw; go_simp; try with_reducible rfl)
  simp only [List.getElem_toArray, List.getElem_cons_zero, List.getElem_cons_succ, Act.put, List.setIfInBounds_toArray, List.set_cons_zero, List.set_cons_succ]
  refine wpAnyH_take (i := 9) (v := ?v10) rfl (by kernel_rfl) (by kernel_rfl) (by kernel_rfl) (fun _ _ _ h => h) (Or.inl ⟨by rfl, ?y10⟩) hHeld ?r10
  case y10 => (intro w hSw; obtain ⟨q0, q1⟩ := hSw; go_simp; try with_reducible rfl)
  simp only [List.getElem_toArray, List.getElem_cons_zero, List.getElem_cons_succ, Act.put, List.setIfInBounds_toArray, List.set_cons_zero, List.set_cons_succ]
  refine wpAnyH_take (i := 11) (v := ?v11) rfl (by kernel_rfl) (by kernel_rfl) (by kernel_rfl) (fun _ _ _ h => h) (Or.inl ⟨by rfl, ?y11⟩) hHeld ?r11
  case y11 => (intro w hSw; obtain ⟨q0, q1⟩ := hSw; go_simp; try with_reducible rfl)
  simp only [List.getElem_toArray, List.getElem_cons_zero, List.getElem_cons_succ, Act.put, List.setIfInBounds_toArray, List.set_cons_zero, List.set_cons_succ]
  refine wpAnyH_take (i := 12) (v := ?v12) rfl (by kernel_rfl) (by kernel_rfl) (by kernel_rfl) (fun _ _ _ h => h) (Or.inl ⟨by rfl, ?y12⟩) hHeld ?r12
  case y12 => (intro w hSw; obtain ⟨q0, q1⟩ := hSw; go_simp; try with_reducible rfl)
  simp only [List.getElem_toArray, List.getElem_cons_zero, List.getElem_cons_succ, Act.put, List.setIfInBounds_toArray, List.set_cons_zero, List.set_cons_succ]
  refine wpAnyH_take (i := 13) (v := ?v13) rfl (by kernel_rfl) (by kernel_rfl) (by kernel_rfl) (fun _ _ _ h => h) (Or.inl ⟨by rfl, ?y13⟩) hHeld ?r13
  case y13 => (intro w hSw; obtain ⟨q0, q1⟩ := hSw; go_simp; try with_reducible rfl)
  simp only [List.getElem_toArray, List.getElem_cons_zero, List.getElem_cons_succ, Act.put, List.setIfInBounds_toArray, List.set_cons_zero, List.set_cons_succ]
  refine wpAnyH_take (i := 14) (v := ?v14) rfl (by kernel_rfl) (by kernel_rfl) (by kernel_rfl) (fun _ _ _ h => h) (Or.inl ⟨by rfl, ?y14⟩) hHeld ?r14
  case y14 => (intro w hSw; obtain ⟨q0, q1⟩ := hSw; go_simp; try with_reducible rfl)
  simp only [List.getElem_toArray, List.getElem_cons_zero, List.getElem_cons_succ, Act.put, List.setIfInBounds_toArray, List.set_cons_zero, List.set_cons_succ]
  refine wpAnyH_take (i := 15) (v := ?v15) rfl (by kernel_rfl) (by kernel_rfl) (by kernel_rfl) (fun _ _ _ h => h) (Or.inl ⟨by rfl, ?y15⟩) hHeld ?r15
  case y15 => (intro w hSw; obtain ⟨q0, q1⟩ := hSw; go_simp; try with_reducible rfl)
  simp only [List.getElem_toArray, List.getElem_cons_zero, List.getElem_cons_succ, Act.put, List.setIfInBounds_toArray, List.set_cons_zero, List.set_cons_succ]
  refine wpAnyH_take (i := 16) (v := ?v16) rfl (by kernel_rfl) (by kernel_rfl) (by kernel_rfl) (fun _ _ _ h => h) (Or.inl ⟨by rfl, ?y16⟩) hHeld ?r16
  case y16 => (intro w hSw; obtain ⟨q0, q1⟩ := hSw; go_simp; try with_reducible rfl)
  simp only [List.getElem_toArray, List.getElem_cons_zero, List.getElem_cons_succ, Act.put, List.setIfInBounds_toArray, List.set_cons_zero, List.set_cons_succ]
  refine wpAnyH_take (i := 17) (v := ?v17) rfl (by kernel_rfl) (by kernel_rfl) (by kernel_rfl) (fun _ _ _ h => h) (Or.inl ⟨by rfl, ?y17⟩) hHeld ?r17
  case y17 => (intro w hSw; obtain ⟨q0, q1⟩ := hSw; go_simp; try with_reducible rfl)
  simp only [List.getElem_toArray, List.getElem_cons_zero, List.getElem_cons_succ, Act.put, List.setIfInBounds_toArray, List.set_cons_zero, List.set_cons_succ]
  refine wpAnyH_take (i := 18) (v := ?v18) rfl (by kernel_rfl) (by kernel_rfl) (by kernel_rfl) (fun _ _ _ h => h) (Or.inl ⟨by rfl, ?y18⟩) hHeld ?r18
  case y18 => (intro w hSw; obtain ⟨q0, q1⟩ := hSw; go_simp; try with_reducible rfl)
  simp only [List.getElem_toArray, List.getElem_cons_zero, List.getElem_cons_succ, Act.put, List.setIfInBounds_toArray, List.set_cons_zero, List.set_cons_succ]
  refine wpAnyH_take (i := 19) (v := ?v19) rfl (by kernel_rfl) (by kernel_rfl) (by kernel_rfl) (fun _ _ _ h => h) (Or.inl ⟨by rfl, ?y19⟩) hHeld ?r19
  case y19 => (intro w hSw; obtain ⟨q0, q1⟩ := hSw; go_simp; try with_reducible rfl)
  simp only [List.getElem_toArray, List.getElem_cons_zero, List.getElem_cons_succ, Act.put, List.setIfInBounds_toArray, List.set_cons_zero, List.set_cons_succ]
  refine wpAnyH_take (i := 20) (v := ?v20) rfl (by kernel_rfl) (by kernel_rfl) (by kernel_rfl) (fun _ _ _ h => h) (Or.inl ⟨by rfl, ?y20⟩) hHeld ?r20
  case y20 => (intro w hSw; obtain ⟨q0, q1⟩ := hSw; go_simp; try with_reducible rfl)
  simp only [List.getElem_toArray, List.getElem_cons_zero, List.getElem_cons_succ, Act.put, List.setIfInBounds_toArray, List.set_cons_zero, List.set_cons_succ]
  refine wpAnyH_ready (rs := [10]) (by kernel_rfl) (by simp) (AllReadyH.cons rfl (fun K hK => ?_) AllReadyH.nil)
  go_simp
  simp only [Hsub.out.1]
  refine (Ho1.out _ H.out.drew _ _ (by simp)).mono ?_
  rintro e v3 ⟨p1, e1, rfl, hp1, hO1, hb3⟩
  have hq3 : RG o gs g c ln len cap v3 := HRG.out _ (Hc.out.drew.low hb3)
  have H3 := Lib.hid (And.intro hp1 (And.intro hO1 (And.intro ((belN (Below.refl w.heap.size w) 1).trans hb3) (H.out.drew.below hb3))))
  clear hb3 hp1 hO1 hq
  go_wp2_with fail
  refine hK.out _ _ (hq3) (fun hHeld => ?_)
  clear hK K
  refine wpAnyH_ready (rs := [21]) (by kernel_rfl) (by simp) (AllReadyH.cons rfl (fun K hK => ?_) AllReadyH.nil)
  go_simp
  refine (Ho2.out _ H3.out.2.2.2 _).mono ?_
  rintro e v4 ⟨p2, e2, rfl, hp2, hO2, hb4⟩
  have hq4 : RG o gs g c ln len cap v4 := ⟨(World.cell?_of_block (hb4.block o H3.out.2.2.2.lto)).trans hq3.1, (World.cell?_of_block (hb4.block o H3.out.2.2.2.lto)).trans hq3.2⟩
  have H4 := Lib.hid (And.intro hp2 (And.intro hO2 hb4))
  clear hb4 hp2 hO2 hq3
  go_wp2_with fail
  refine hK.out _ _ (hq4) (fun hHeld => ?_)
  clear hK K
  refine wpAnyH_take (i := 22) (v := ?v23) rfl (by kernel_rfl) (by kernel_rfl) (by kernel_rfl) (fun _ _ _ h => h) (Or.inl ⟨by rfl, ?y23⟩) hHeld ?r23
  case y23 => (intro w hSw; obtain ⟨q0, q1⟩ := hSw; go_simp; try with_reducible rfl)
  simp only [List.getElem_toArray, List.getElem_cons_zero, List.getElem_cons_succ, Act.put, List.setIfInBounds_toArray, List.set_cons_zero, List.set_cons_succ]
  refine wpAnyH_take (i := 23) (v := ?v24) rfl (by kernel_rfl) (by kernel_rfl) (by kernel_rfl) (fun _ _ _ h => h) (Or.inl ⟨by rfl, ?y24⟩) hHeld ?r24
  case y24 => (intro w hSw; obtain ⟨q0, q1⟩ := hSw; go_simp; try with_reducible rfl)
  simp only [List.getElem_toArray, List.getElem_cons_zero, List.getElem_cons_succ, Act.put, List.setIfInBounds_toArray, List.set_cons_zero, List.set_cons_succ]
  refine wpAnyH_done (by kernel_rfl) ?_ _
  go_wp2
  go_ret2
  obtain ⟨a1, a2, a3, _⟩ := H3.out
  obtain ⟨b1, b2, b3⟩ := H4.out
  refine ⟨p1, e1, p2, e2, ?_, a1, Nat.le_trans a3.size b1, (by have := a2.lt; omega), a2.low b3, b2, a3.trans (b3.mono a3.size)⟩
  rw [Hln.out]
  rfl
end
end Go.Proofs.Ytflgggfomhifeaa
