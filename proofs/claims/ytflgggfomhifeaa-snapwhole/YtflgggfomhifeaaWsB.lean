/- SnapWhole: what its walk leans on, and the inputs that it leaves. -/
import Derived.Test.YtflgggfomhifeaaWsM
import Derived.Test.YtflgggfomhifeaaLayW
import Derived.Test.YtflgggfomhifeaaAwk
import Derived.Test.YtflgggfomhifeaaSnP
import Derived.Test.YtflgggfomhifeaaStp
import Derived.Deep.RegionHeld3
import Derived.BigQuiet
namespace Go.Proofs.Ytflgggfomhifeaa
open Go.RowKit

theorem info41 : (Try.prog.info? 41).map (fun i => (i.zero, i.size, i.bytes)) = some (some (.slice none 0 0), 1, 24) := by kernel_rfl
theorem info65 : (Try.prog.info? 65).map (fun i => (i.zero, i.size, i.bytes)) = some (some (.pointer none), 1, 8) := by kernel_rfl
theorem info3 : (Try.prog.info? 3).map (fun i => (i.zero, i.size, i.bytes)) = some (some (.int .i64 0), 1, 8) := by kernel_rfl
theorem info59 : (Try.prog.info? 59).map (fun i => (i.zero, i.size, i.bytes)) = some (some (.slice none 0 0), 1, 24) := by kernel_rfl
theorem made_nils (n : Nat) : madeCells #[.slice none 0 0] n = (vals n (fun _ => .slice none 0 0)).toArray := by
  apply Array.ext
  · simp [madeCells, vals]
  · intro i h1 h2
    simp [madeCells, vals, Nat.mod_one]
theorem make_nils (n : Nat) (h : n ≤ 1000) (w : World) :
    (Instr.makeSlice 62 (.int .i64 n) (.int .i64 n)).run Try.prog w = .ok (.slice (some ⟨w.heap.size, 0, none⟩) n n) (w.alloc (.cells (vals n (fun _ => .slice none 0 0)).toArray 41)) := by
  obtain ⟨i, hi, he⟩ := Option.map_eq_some_iff.1 info41
  simp only [Prod.mk.injEq] at he
  obtain ⟨hz, hs, hb⟩ := he
  have hr := run_make (P := Try.prog) w 62 41 i _ Try.underlying62 hi hz .i64 .i64 n n (by omega) (by omega) (by rw [hb]; omega) (by omega)
  rw [hs] at hr
  simp only [Int.toNat_natCast, Nat.mul_one] at hr
  rw [show (Value.slice none 0 0).cells = #[Value.slice none 0 0] from rfl, made_nils] at hr
  exact hr
theorem made_ptrs (n : Nat) : madeCells #[.pointer none] n = (ptrs n (fun _ => none)).toArray := by
  apply Array.ext
  · simp [madeCells, ptrs]
  · intro i h1 h2
    simp [madeCells, ptrs, ptr, Nat.mod_one]
theorem make_ptr (n : Nat) (h : n ≤ 1000) (w : World) :
    (Instr.makeSlice 63 (.int .i64 n) (.int .i64 n)).run Try.prog w = .ok (.slice (some ⟨w.heap.size, 0, none⟩) n n) (w.alloc (.cells (ptrs n (fun _ => none)).toArray 65)) := by
  obtain ⟨i, hi, he⟩ := Option.map_eq_some_iff.1 info65
  simp only [Prod.mk.injEq] at he
  obtain ⟨hz, hs, hb⟩ := he
  have hr := run_make (P := Try.prog) w 63 65 i _ Try.underlying63 hi hz .i64 .i64 n n (by omega) (by omega) (by rw [hb]; omega) (by omega)
  rw [hs] at hr
  simp only [Int.toNat_natCast, Nat.mul_one] at hr
  rw [show (Value.pointer none).cells = #[Value.pointer none] from rfl, made_ptrs] at hr
  exact hr
theorem zeros_u64s (n : Nat) : zeros n = (u64s n (fun _ => 0)).toArray := by
  unfold zeros u64s
  congr 1
  refine List.ext_getElem? (fun i => ?_)
  by_cases h : i < n <;> simp [h]
theorem make_mine (n : Nat) (h : n ≤ 1000) (w : World) :
    (Instr.makeSlice 41 (.int .i64 n) (.int .i64 n)).run Try.prog w = .ok (.slice (some ⟨w.heap.size, 0, none⟩) n n) (w.alloc (.cells (u64s n (fun _ => 0)).toArray 42)) := by
  have := make_u64 n n (by omega) (Int.le_refl _) (by omega) w
  rw [Int.toNat_natCast, zeros_u64s] at this
  exact this
theorem ap_i64 {W : World} {base : Nat} {v : Value} {k : Nat} {xs : List Value} (h : W.ownsRow base 3 1 v k xs) (hb : base ≤ W.heap.size) (hk : k ≤ 10000) (u : Int) :
    ∃ v' w', (Builtin.append_ #[59, 59] 59 #[v, .slice (some ⟨W.heap.size, 0, none⟩) 1 1]).run Try.prog (W.alloc (.cells #[.int .i64 u] 3)) = .ok v' w' ∧ w'.ownsRow base 3 1 v' (k + 1) (xs ++ [.int .i64 u]) ∧ Below base W w' := by
  obtain ⟨i, hi, he⟩ := Option.map_eq_some_iff.1 info3
  simp only [Prod.mk.injEq] at he
  obtain ⟨hz, hs, hbb⟩ := he
  have hA : (W.alloc (.cells #[.int .i64 u] 3)).ownsRow base 3 1 v k xs := owns_blocks h (fun g hg => Below.heap_alloc _ _ _ (h.lt g hg).2)
  have hB := Blk.new W #[.int .i64 u] 3
  obtain ⟨v', w', hr, ho, hg, _⟩ := run_append_own (P := Try.prog) (W.alloc (.cells #[.int .i64 u] 3)) base 59 59 3 i _ 1 8 Try.underlying59 hi hz hs hbb rfl (by omega) v k xs hA ⟨W.heap.size, 0, none⟩ 1 1 [.int .i64 u] rfl (fun j y hu => by
    match j, hu with
    | 0, hu => cases hu; exact hB.cell rfl) (fun y hu => by
    simp only [List.mem_cons, List.not_mem_nil, or_false] at hu
    subst hu
    rfl) (by simp only [maxLen]; omega) (by omega) (by simp; omega)
  refine ⟨v', w', hr, ho, ?_⟩
  have h2 : Below base (W.alloc (.cells #[.int .i64 u] 3)) w' := ⟨hg.os, hg.tape, hg.output, hg.size, fun q hq => hg.block q (by simp; omega) (fun c => by have := (h.lt q c.symm).1; omega)⟩
  exact ((Below.refl base W).alloc hb _).trans h2
theorem ap_row {W : World} {V : Value} {k : Nat} {xs : List Value} (h : W.ownsRow 0 59 1 V k xs) (hk : k ≤ 100000) (v : Value) (h1 : v.oneCell' = true) :
    ∃ V' W', (Builtin.append_ #[64, 64] 64 #[V, .slice (some ⟨W.heap.size, 0, none⟩) 1 1]).run Try.prog (W.alloc (.cells #[v] 59)) = .ok V' W' ∧ W'.ownsRow 0 59 1 V' (k + 1) (xs ++ [v]) ∧ (W.alloc (.cells #[v] 59)).grownBy W' V.ownBlock ∧ (V'.ownBlock = V.ownBlock ∨ ∀ p, V'.ownBlock = some p → W.heap.size ≤ p ∧ p < W'.heap.size) := by
  obtain ⟨i, hi, he⟩ := Option.map_eq_some_iff.1 info59
  simp only [Prod.mk.injEq] at he
  obtain ⟨hz, hs, hb⟩ := he
  have hA := owns_blocks (B := W.alloc (.cells #[v] 59)) h (fun g hg => Below.heap_alloc _ _ _ (h.lt g hg).2)
  obtain ⟨V', W', r1, r2, r3, r4⟩ := append_one (P := Try.prog) (W.alloc (.cells #[v] 59)) 64 59 i (.slice none 0 0) 24 Try.underlying64 hi hz hs hb rfl (by omega) V k xs hA W.heap.size v ((Blk.new W #[v] 59).cell rfl) h1 hk
  refine ⟨V', W', r1, r2, r3, ?_⟩
  rcases r4 with c | c
  · exact .inl c
  · exact .inr fun p hp => by have := c p hp; simp at this; omega
theorem ap_done {W : World} {V : Value} {k : Nat} {xs : List Value} (h : W.ownsRow 0 42 1 V k xs) (hk : k ≤ 100000) (v : Int) :
    ∃ V' W', (Builtin.append_ #[41, 41] 41 #[V, .slice (some ⟨W.heap.size, 0, none⟩) 1 1]).run Try.prog (W.alloc (.cells #[.int .u64 v] 42)) = .ok V' W' ∧ W'.ownsRow 0 42 1 V' (k + 1) (xs ++ [.int .u64 v]) ∧ (W.alloc (.cells #[.int .u64 v] 42)).grownBy W' V.ownBlock ∧ (V'.ownBlock = V.ownBlock ∨ ∀ p, V'.ownBlock = some p → W.heap.size ≤ p ∧ p < W'.heap.size) := by
  obtain ⟨i, hi, he⟩ := Option.map_eq_some_iff.1 info49
  simp only [Prod.mk.injEq] at he
  obtain ⟨hz, hs, hb⟩ := he
  have hA := owns_blocks (B := W.alloc (.cells #[.int .u64 v] 42)) h (fun g hg => Below.heap_alloc _ _ _ (h.lt g hg).2)
  obtain ⟨V', W', r1, r2, r3, r4⟩ := append_one (P := Try.prog) (W.alloc (.cells #[.int .u64 v] 42)) 41 42 i (.int .u64 0) 8 Try.underlying41 hi hz hs hb rfl (by omega) V k xs hA W.heap.size (.int .u64 v) ((Blk.new W #[.int .u64 v] 42).cell rfl) rfl hk
  refine ⟨V', W', r1, r2, r3, ?_⟩
  rcases r4 with c | c
  · exact .inl c
  · exact .inr fun p hp => by have := c p hp; simp at this; omega
/-- A row that grew. -/
theorem trn_grown {w A B : World} {s : Ww} {i : Wt} {V : Value} (hV : ∀ k, V.ownBlock = some k → s.own i k) {o : Obj} (hg : (A.alloc o).grownBy B V.ownBlock) : TrnW w s (fun j => j = i) A B :=
  ⟨hg.os, hg.tape, hg.output, by have := hg.size; simp at this; omega, fun k hk hn => (hg.block k (by simp; omega) (fun c => hn (.inl ⟨i, rfl, hV k c.symm⟩))).trans (Below.heap_alloc _ _ _ hk)⟩
def sptr : Option (Nat × Nat × Nat × NSt) → Value
  | none => .pointer none
  | some (p, _) => .pointer (some ⟨p, 0, none⟩)
/-- What is always so. -/
structure WsP (l : List Tp) (tr nxt : Int) (M : Nat → Int) (D : Nat → List Int) (all frm t : Int) (O : Option (Nat × Nat × Nat × NSt)) (N : List (List Int)) (q : Nat) : Prop where
  nx : U64 nxt
  m : ∀ j, U64 (M j)
  d : ∀ j v, v ∈ D j → U64 v
  d1 : ∀ j, 1 ≤ (D j).length
  dq : ∀ j, (D j).length ≤ q + 1
  a0 : 0 ≤ all
  a1 : all ≤ q
  f0 : 0 ≤ frm
  f1 : frm ≤ all
  t0 : 0 ≤ t
  t1 : t ≤ q
  nq : N.length ≤ q
  sn : ∀ p gs g x, O = some (p, gs, g, x) → ∃ G a0 cb, SI l tr D N all frm x G a0 cb
theorem WsP.next {l : List Tp} {tr nxt all frm t : Int} {M : Nat → Int} {D : Nat → List Int} {O : Option (Nat × Nat × Nat × NSt)} {N : List (List Int)} {q : Nat} (h : WsP l tr nxt M D all frm t O N q) {t' : Int} (h0 : t ≤ t') (h1 : t' ≤ t + 1) : WsP l tr nxt M D all frm t' O N (q + 1) := by
  obtain ⟨a, b, c, d1, d2, e0, e1, f0, f1, g0, g1, n, s⟩ := h
  exact ⟨a, b, c, d1, fun j => by have := d2 j; omega, e0, by omega, f0, f1, by omega, by omega, by omega, s⟩
theorem WsP.grow {l : List Tp} {tr nxt all frm t : Int} {M : Nat → Int} {D : Nat → List Int} {O : Option (Nat × Nat × Nat × NSt)} {N : List (List Int)} {q : Nat} (h : WsP l tr nxt M D all frm t O N q) {t' : Int} (h0 : t ≤ t') (h1 : t' ≤ t + 1) (k : Nat) : WsP l tr nxt M (updD D k (D k ++ [M k])) (all + 1) frm t' O N (q + 1) := by
  obtain ⟨a, b, c, d1, d2, e0, e1, f0, f1, g0, g1, n, s⟩ := h
  refine ⟨a, b, fun j v hv => ?_, fun j => ?_, fun j => ?_, by omega, by omega, f0, by omega, by omega, by omega, by omega, fun p gs g x hx => ?_⟩
  · by_cases e : j = k
    · subst e
      rw [updD_self] at hv
      rcases List.mem_append.1 hv with q | q
      · exact c j v q
      · rw [List.mem_singleton.1 q]; exact b j
    · rw [updD_ne _ _ e] at hv
      exact c j v hv
  · by_cases e : j = k
    · subst e; rw [updD_self]; simp
    · rw [updD_ne _ _ e]; exact d1 j
  · by_cases e : j = k
    · subst e; rw [updD_self, List.length_append]; have := d2 j; simp; omega
    · rw [updD_ne _ _ e]; have := d2 j; omega
  · obtain ⟨G, a0, cb, hS⟩ := s p gs g x hx
    exact ⟨G, a0, cb, hS.grow k (M k)⟩
/-- The main loop's head. -/
def WsRel (w : World) (b bg sa ob dn mn : Nat) (l : List Tp) (fi tr : Int) (pn : Nat) (nx o nw al fr i : Value) (wr : World) : Prop :=
  ∃ (q : Nat) (X : Ops) (M : Nat → Int) (D : Nat → List Int) (DV : Nat → Value) (zs : List Int) (t : Int) (O : Option (Nat × Nat × Nat × NSt)) (NV : Value) (N : List (List Int)) (NR : List (Nat × Nat)) (nxt all frm : Int),
    i = .int .i64 q ∧ q ≤ pn ∧ nx = .int .u64 nxt ∧ o = sptr O ∧ nw = NV ∧ al = .int .i64 all ∧ fr = .int .i64 frm ∧
    WsM w l fi tr ⟨b, bg, sa, ob, dn, mn, w.heap.size, X, M, D, DV, zs, t, O, NV, N, NR⟩ wr ∧ TWW l zs D M X ∧ WsP l tr nxt M D all frm t O N q
/-- The head of the loop that lays what was published. -/
def WsInB (L dn j : Nat) (w2 wr : World) : Prop := j ≤ L ∧ Blk wr dn (vals L (dv0 dn j)) ∧ (∀ k, k < j → wr.heap[dn + 1 + k]? = some (.cells #[.int .u64 0] 42)) ∧ wr.heap.size = dn + 1 + j ∧ Below dn w2 wr
def WsIni (L dn : Nat) (w2 : World) (i : Value) (wr : World) : Prop := ∃ j : Nat, i = .int .i64 j ∧ WsInB L dn j w2 wr
theorem dv0_zero (dn L : Nat) : vals L (fun _ => .slice none 0 0) = vals L (dv0 dn 0) := by
  unfold vals dv0
  simp
theorem dv0_next (dn j : Nat) : updD (dv0 dn j) j (.slice (some ⟨dn + 1 + j, 0, none⟩) 1 1) = dv0 dn (j + 1) := by
  funext i
  unfold updD dv0
  by_cases e : i = j
  · subst e
    rw [if_pos rfl, if_pos (by omega)]
  · rw [if_neg e]
    by_cases c : i < j
    · rw [if_pos c, if_pos (by omega)]
    · rw [if_neg c, if_neg (by omega)]
theorem WsInB.step {L dn j : Nat} {w2 wr : World} (h : WsInB L dn j w2 wr) (hj : j < L) :
    WsInB L dn (j + 1) w2 ((wr.alloc (.cells #[.int .u64 0] 42)).setCell ⟨dn, j, none⟩ (.slice (some ⟨wr.heap.size, 0, none⟩) 1 1)) := by
  obtain ⟨_, h2, h3, h4, h5⟩ := h
  refine ⟨hj, ?_, fun k hk => ?_, by simp [World.setCell, h4]; omega, ?_⟩
  · have := (h2.alloc (.cells #[.int .u64 0] 42)).put j (.slice (some ⟨wr.heap.size, 0, none⟩) 1 1)
    rw [vals_set, h4, dv0_next] at this
    rw [h4]
    exact this
  · have hne : dn + 1 + k ≠ (⟨dn, j, none⟩ : Addr).block := by show dn + 1 + k ≠ dn; omega
    rw [Below.heap_setCell _ _ _ _ hne]
    by_cases c : k = j
    · subst c
      rw [← h4]
      exact heap_alloc_new wr _
    · rw [Below.heap_alloc _ _ _ (by omega)]
      exact h3 k (by omega)
  · exact (h5.alloc (by omega) _).setCell (Nat.le_refl _) _
theorem WsInB.zero {L : Nat} {w2 : World} : WsInB L w2.heap.size 0 w2 (w2.alloc (.cells (vals L (fun _ => .slice none 0 0)).toArray 41)) := by
  refine ⟨Nat.zero_le _, ?_, fun k hk => by omega, by simp, (Below.refl _ w2).alloc (Nat.le_refl _) _⟩
  rw [dv0_zero w2.heap.size]
  exact Blk.new w2 _ _
section
variable {l : List Tp} {tr nxt all frm t : Int} {M : Nat → Int} {D : Nat → List Int} {O : Option (Nat × Nat × Nat × NSt)} {N : List (List Int)} {q : Nat}
theorem WsP.zero (h : U64 nxt) : WsP l tr nxt (fun _ => 0) (fun _ => [0]) 0 0 0 none [] 0 :=
  ⟨h, fun _ => u64_zero, fun _ v hv => by rw [List.mem_singleton.1 hv]; exact u64_zero, fun _ => Nat.le_refl _, fun _ => Nat.le_refl _, Int.le_refl _, Int.le_refl _, Int.le_refl _, Int.le_refl _, Int.le_refl _, Int.le_refl _, Nat.le_refl _, fun p gs g x hx => by cases hx⟩
theorem WsP.mine (h : WsP l tr nxt M D all frm t O N q) {m : Int} (hm : U64 m) (k : Nat) : WsP l tr m (updD M k m) D all frm t O N q :=
  ⟨hm, fun j => by
    by_cases e : j = k
    · subst e; rw [updD_self]; exact hm
    · rw [updD_ne _ _ e]; exact h.m j, h.d, h.d1, h.dq, h.a0, h.a1, h.f0, h.f1, h.t0, h.t1, h.nq, h.sn⟩
theorem WsP.new (h : WsP l tr nxt M D all frm t O N q) (hl : okL l) (t1 : 1 ≤ tr) (t2 : tr ≤ 16) (p gs g : Nat) : WsP l tr nxt M D all all t (some (p, gs, g, nst0 tr)) [] q :=
  ⟨h.nx, h.m, h.d, h.d1, h.dq, h.a0, h.a1, h.a0, Int.le_refl _, h.t0, h.t1, Nat.zero_le _, fun p' gs' g' x hx => by cases hx; exact ⟨_, _, _, si_start hl t1 t2⟩⟩
theorem WsP.busy (h : WsP l tr nxt M D all frm t O N q) (p gs g : Nat) {r : NSt} {c : List Int} (hS : ∃ G a0 cb, SI l tr D (N ++ [c]) all frm r G a0 cb) : WsP l tr nxt M D all frm (t + 1) (some (p, gs, g, r)) (N ++ [c]) (q + 1) := by
  obtain ⟨a, b, c', d1, d2, e0, e1, f0, f1, g0, g1, n, s⟩ := h
  exact ⟨a, b, c', d1, fun j => by have := d2 j; omega, e0, by omega, f0, f1, by omega, by omega, by simp; omega, fun p' gs' g' x hx => by cases hx; exact hS⟩
theorem WsP.ended (h : WsP l tr nxt M D all frm t O N q) (c : List Int) : WsP l tr nxt M D all frm (t + 1) none (N ++ [c]) (q + 1) := by
  obtain ⟨a, b, c', d1, d2, e0, e1, f0, f1, g0, g1, n, s⟩ := h
  exact ⟨a, b, c', d1, fun j => by have := d2 j; omega, e0, by omega, f0, f1, by omega, by omega, by simp; omega, fun p' gs' g' x hx => by cases hx⟩
end
/-- What New of a publishing reads. -/
def RT1 (sa lb loff k B n d : Nat) (w' : World) : Prop :=
  (w'.cell? ⟨sa, k * 5, none⟩ = some (.int .i64 (B : Int)) ∧ w'.cell? ⟨sa, k * 5 + 1, none⟩ = some (.int .i64 ((B : Int) + 1)) ∧ w'.cell? ⟨sa, k * 5 + 2, none⟩ = some (.int .i64 ((B : Int) + 2)) ∧ w'.cell? ⟨sa, k * 5 + 3, none⟩ = some (.int .i64 (n : Int)) ∧ w'.cell? ⟨sa, k * 5 + 4, none⟩ = some (.int .i64 (d : Int))) ∧
  w'.cell? ⟨lb, loff + k * 2, none⟩ = some (.int .i64 (n : Int))
theorem SpB.cells1 {sa : Nat} {l : List Sp} {w : World} (h : SpB sa l w) {k B n d : Nat} (hS : l[k]? = some (spB B n d)) :
    w.cell? ⟨sa, k * 5, none⟩ = some (.int .i64 (B : Int)) ∧ w.cell? ⟨sa, k * 5 + 1, none⟩ = some (.int .i64 ((B : Int) + 1)) ∧ w.cell? ⟨sa, k * 5 + 2, none⟩ = some (.int .i64 ((B : Int) + 2)) ∧ w.cell? ⟨sa, k * 5 + 3, none⟩ = some (.int .i64 (n : Int)) ∧ w.cell? ⟨sa, k * 5 + 4, none⟩ = some (.int .i64 (d : Int)) :=
  ⟨h.spot hS 0 _ rfl, h.spot hS 1 _ rfl, h.spot hS 2 _ rfl, h.spot hS 3 _ rfl, h.spot hS 4 _ rfl⟩
def RA0 (mn k : Nat) (m : Int) (w' : World) : Prop := w'.cell? ⟨mn, k, none⟩ = some (.int .u64 m)
/-- The head of the loop that counts. -/
def NowRel (wa : World) (l : List Tp) (D : Nat → List Int) (v i : Value) (wr : World) : Prop :=
  ∃ j : Nat, i = .int .i64 j ∧ j ≤ l.length ∧ wr.ownsRow wa.heap.size 3 1 v j (((cnt l D).take j).map (Value.int .i64)) ∧ Below wa.heap.size wa wr
theorem now_row {W : World} {base L : Nat} {v : Value} {r : List Int} (h : W.ownsRow base 3 1 v L (r.map (Value.int .i64))) (h1 : 1 ≤ L) : ∃ q c, v = .slice (some ⟨q, 0, none⟩) L c ∧ base ≤ q ∧ Rwi W q r := by
  rcases h.2 with ⟨_, c⟩ | ⟨g, cap, cur, rfl, hb, hg, _, _, _, ht⟩
  · omega
  · refine ⟨g, cap, rfl, hb, cur.toList, ⟨3, hg⟩, fun j e he => ?_⟩
    have hu : (r.map (Value.int .i64))[j]? = some (.int .i64 e) := by rw [List.getElem?_map, he]; rfl
    rw [← ht, List.getElem?_take] at hu
    split at hu
    · exact hu
    · cases hu
set_option maxRecDepth 100000 in
set_option maxHeartbeats 2000000 in
theorem whole_bad (a : Option Addr) (l : List Tp) (cap : Nat) (fi tr : Int) (pa : Option Addr) (pn pc : Nat) (w : World) (hT : Tps w.heap.size w a l) (h : ¬ okL l) : Calls Try.prog 4 #[.slice a l.length cap, .agg #[.int .u64 fi, .int .i64 tr], .slice pa pn pc] w (Ret (.bool true) w) := by
  have hbl := (Below.refl w.heap.size w).alloc (Nat.le_refl _) (.cells #[.int .u64 fi, .int .i64 tr] 58)
  have Hly := Lib.hid (lay_bad a cap l (w.alloc (.cells #[.int .u64 fi, .int .i64 tr] 58)) ((hT.below hbl).mono' hbl.size) h)
  have H0 := Lib.hid hbl
  clear h hT hbl
  generalize l.length = ln at *
  go_enter Try.func4, Try.ntmps4
  go_wp2_with fail
  refine Hly.out.mono ?_
  rintro e w2 ⟨rfl, hb2⟩
  have H2 := Lib.hid (H0.out.trans (hb2.mono H0.out.size))
  clear hb2
  go_wp2_with fail
  refine (awake_any _).mono ?_
  rintro e w3 ⟨rfl, hu3⟩
  have H3 := Lib.hid (H2.out.trans (hu3.mono H2.out.size))
  clear hu3
  go_wp2
  go_ret
  exact ⟨rfl, H3.out⟩
set_option maxRecDepth 100000 in
set_option maxHeartbeats 4000000 in
theorem whole_many (a : Option Addr) (l : List Tp) (cap : Nat) (fi tr : Int) (pa : Option Addr) (pn pc : Nat) (w : World) (hT : Tps w.heap.size w a l) (h : okL l) (hp : ¬ (1 ≤ tr ∧ tr ≤ 16 ∧ pn ≤ 400)) : Calls Try.prog 4 #[.slice a l.length cap, .agg #[.int .u64 fi, .int .i64 tr], .slice pa pn pc] w (Ret (.bool true) w) := by
  have hbl := (Below.refl w.heap.size w).alloc (Nat.le_refl _) (.cells #[.int .u64 fi, .int .i64 tr] 58)
  have Hly := Lib.hid (lay_ok a cap l (w.alloc (.cells #[.int .u64 fi, .int .i64 tr] 58)) ((hT.below hbl).mono' hbl.size) h)
  have H0 := Lib.hid (And.intro hbl (Blk.new w #[.int .u64 fi, .int .i64 tr] 58))
  clear h hT hbl
  rcases (show tr < 1 ∨ (1 ≤ tr ∧ 16 < tr) ∨ (1 ≤ tr ∧ tr ≤ 16 ∧ 400 < (pn : Int)) by omega) with k1 | ⟨k1, k2⟩ | ⟨k1, k2, k3⟩
  all_goals
    clear hp
    go_enter Try.func4, Try.ntmps4
    go_wp2_with fail
    refine Hly.out.mono ?_
    rintro e w2 ⟨sa, cs, b, bg, hsa, hb, hbg, hnb, hng, rfl, hsp, hk, hu⟩
    have H2 := Lib.hid (H0.out.1.trans (hu.mono H0.out.1.size))
    have hX := H0.out.2.low hu
    have c1 := hX.cell (i := 1) rfl
    have lx := hX.lt
    clear hsa hb hbg hnb hng hsp hk hu Hly hX
    go_wp2_with fail
    refine (awake_any _).mono ?_
    rintro e w3 ⟨rfl, hu3⟩
    have H3 := Lib.hid (H2.out.trans (hu3.mono H2.out.size))
    clear hu3
    go_wp2
    go_ret
    exact ⟨rfl, H3.out⟩
end Go.Proofs.Ytflgggfomhifeaa
