/- The walk of the law ConfigLess. -/
import Derived.Test.YthdchoagdipplaaDoorAwk
import Derived.Test.YthdchoagdipplaaDoorLsM
import Derived.Test.YthdchoagdipplaaDoorChecksW
import Derived.Test.YthdchoagdipplaaDoorRdT
import Derived.Deep.RegionHeld3
import Derived.Laws.AppendOwn
import Derived.OwnWalk
namespace Go.Proofs.YthdchoagdipplaaDoor
open Go.RowKit

theorem tcl_cells {W : World} {b : Nat} : ∀ (l : List Tp) (off : Nat), (∀ k t, l[k]? = some t → W.cell? ⟨b, off + k * 3, none⟩ = some (.string t.1) ∧ W.cell? ⟨b, off + k * 3 + 1, none⟩ = some (.int .i64 t.2.1) ∧ W.cell? ⟨b, off + k * 3 + 2, none⟩ = some (.int .i64 t.2.2)) →
    ∀ (j : Nat) (u : Value), (tcl l)[j]? = some u → W.cell? ⟨b, off + j, none⟩ = some u
  | [], off, _, j, u, hj => by simp [tcl] at hj
  | t :: r, off, h, j, u, hj => by
    obtain ⟨h0, h1, h2⟩ := h 0 t rfl
    have e : tcl (t :: r) = .string t.1 :: .int .i64 t.2.1 :: .int .i64 t.2.2 :: tcl r := rfl
    rw [e] at hj
    match j, hj with
    | 0, hj => simp at hj; subst hj; simpa using h0
    | 1, hj => simp at hj; subst hj; simpa using h1
    | 2, hj => simp at hj; subst hj; simpa using h2
    | j + 3, hj =>
      have := tcl_cells r (off + 3) (fun k v hv => by
        have := h (k + 1) v (by simpa using hv)
        rw [show off + (k + 1) * 3 = off + 3 + k * 3 by omega] at this
        exact this) j u (by simpa using hj)
      rw [show off + 3 + j = off + (j + 3) by omega] at this
      exact this
theorem tcl_one (l : List Tp) : ∀ u ∈ tcl l, u.oneCell' = true := fun u hu => by
  unfold tcl at hu
  rw [List.mem_flatMap] at hu
  obtain ⟨t, _, hu⟩ := hu
  simp [tcells] at hu
  rcases hu with rfl | rfl | rfl <;> rfl
theorem Tps.flat {n : Nat} {W : World} {b off : Nat} {l : List Tp} (h : Tps n W (some ⟨b, off, none⟩) l) (m : Nat) (r : Nat) : ∀ (j : Nat) (u : Value), (tcl ((l.drop m).take r))[j]? = some u → W.cell? ⟨b, off + m * 3 + j, none⟩ = some u :=
  tcl_cells ((l.drop m).take r) (off + m * 3) (fun k t ht => by
    have hk : l[m + k]? = some t := by
      by_cases hkr : k < r
      · rw [List.getElem?_take_of_lt hkr, List.getElem?_drop] at ht
        exact ht
      · rw [List.getElem?_eq_none (by simp; omega)] at ht
        cases ht
    obtain ⟨b', off', e, _, c0, c1, c2⟩ := h (m + k) t hk
    cases e
    rw [show off + (m + k) * 3 = off + m * 3 + k * 3 by omega] at c0 c1 c2
    exact ⟨c0, c1, c2⟩)
theorem Bx.dr {w : World} {c : Nat} {T R L : Int} {a : Option Addr} {cap : Nat} {l : List Tp} {W : World} (h : Bx w c T R L a cap l W) : Bx w c T R L a cap l W.drew :=
  ⟨h.1, h.2.1, h.2.2.1, belN h.2.2.2 1⟩
theorem addr_plus (b off k : Nat) : (⟨b, off, none⟩ : Addr).add k = ⟨b, off + k, none⟩ := by
  unfold Addr.add
  split <;> simp_all
theorem owns_less {W : World} {base : Nat} {v : Value} {l : List Tp} {ix : Nat} (hix : ix < l.length) (h : W.ownsRow base 45 3 v (0 + ix + (l.length - (ix + 1))) ([] ++ tcl (l.take ix) ++ tcl (l.drop (ix + 1)))) : W.ownsRow base 45 3 v (less l ix).length (tcl (less l ix)) := by
  have e1 : (less l ix).length = 0 + ix + (l.length - (ix + 1)) := by have := less_len hix; omega
  have e2 : tcl (less l ix) = [] ++ tcl (l.take ix) ++ tcl (l.drop (ix + 1)) := by simp [tcl, less]
  rw [e1, e2]
  exact h
theorem owns_more {W : World} {base : Nat} {v : Value} {l : List Tp} {t : Tp} (h : W.ownsRow base 45 3 v (0 + l.length + 1) ([] ++ tcl l ++ tcells t)) : W.ownsRow base 45 3 v (l ++ [t]).length (tcl (l ++ [t])) := by
  have e1 : (l ++ [t]).length = 0 + l.length + 1 := by simp
  rw [e1, tcl_snoc]
  exact h
theorem mem_less {l : List Tp} {ix : Nat} {u : Tp} (h : u ∈ less l ix) : u ∈ l := by
  unfold less at h
  rcases List.mem_append.1 h with h | h
  · exact List.mem_of_mem_take h
  · exact List.mem_of_mem_drop h
theorem same_less {T R L : Int} {l : List Tp} {ix : Nat} (hix : ix < l.length) : smB T R L T R L l (less l ix) = false := by
  unfold smB
  rw [decide_eq_false (fun e : l = less l ix => by
    have := less_len hix
    rw [← e] at this
    omega)]
  simp
theorem more_two {T : Int} {l : List Tp} {R L : Int} {i : Nat} {t : Tp} (h : (chk T l R L).2 = 0) (ht : l[i]? = some t) : ∃ x y : Int, chk T (l ++ [t]) R L = (x, y) ∧ (64 < l.length + 1 → x = -1 ∧ y = 12) ∧ (¬ 64 < l.length + 1 → x = l.length ∧ y = 15) := by
  rw [more_chk h ht]
  by_cases h64 : 64 < l.length + 1
  · exact ⟨-1, 12, by rw [if_pos h64], fun _ => ⟨rfl, rfl⟩, fun h => absurd h64 h⟩
  · exact ⟨l.length, 15, by rw [if_neg h64], fun h => absurd h h64, fun _ => ⟨rfl, rfl⟩⟩
/-- A config's block, another's, and a topic's name. -/
def CDN (c d : Nat) (vs us : List Value) (p : Addr) (nm : ByteArray) (w : World) : Prop := Blk w c vs ∧ Blk w d us ∧ w.cell? p = some (.string nm)
/-- A config's block, and a topic's name. -/
def CN (c : Nat) (vs : List Value) (p : Addr) (nm : ByteArray) (w : World) : Prop := Blk w c vs ∧ w.cell? p = some (.string nm)

set_option maxRecDepth 100000 in
set_option maxHeartbeats 8000000 in
theorem less_far (T R L : Int) (a : Option Addr) (cap : Nat) (l : List Tp) (ix : Nat) (t : Tp) (w : World) (hT : Tps w.heap.size w a l) (hM : ML w) (hcap : l.length ≤ cap) (hcx : ¬ cap = ix + 1) (hf : few l = true) (hy : (chk T l R L).2 = 0) (hix : ix < l.length) (ht : l[ix]? = some t) :
    Calls Tryd.prog 9 #[cfg T a l.length cap R L, .int .i64 ix] w (Ret (.bool true) w) := by
  have hs := few_size hf
  have hz := chk_zero hy
  have hl80 := (few_spec hf).1
  obtain ⟨i0, hi, hz0, hz1, hz2⟩ := info_parts info45
  have X0 := Lib.hid (Bx.new w T R L a cap l hT hM)
  have c0 := X0.out.1.cell (i := 0) rfl
  have c1 := X0.out.1.cell (i := 1) rfl
  have c2 := X0.out.1.cell (i := 2) rfl
  have c3 := X0.out.1.cell (i := 3) rfl
  have HTW := Lib.hid (And.intro hT hM)
  obtain ⟨b, off, rfl, hbl, u0, u1, u2⟩ := hT ix t ht
  clear hM hT u0 u1 u2
  have k0 : decide ((ix : Int) < 0) = false := decide_eq_false (by omega)
  have k1 : decide ((l.length : Int) ≤ (ix : Int)) = false := decide_eq_false (by omega)
  have k2 : (ix : Int) < (l.length : Int) := by omega
  have heq : ∀ w, (Op.equalIn 10000 29 (.agg #[.int .i64 0, .int .i64 0]) (.agg #[.int .i64 0, .int .i64 0])).run Tryd.prog w = .ok true w := fun w => by
    rw [eq29]
    rfl
  obtain ⟨fi1, fi2⟩ := find_own hy ht
  have fi3 := find_less hy ht
  have HM := Lib.hid (And.intro hy (And.intro ht (And.intro hz (And.intro fi1 (And.intro fi2 fi3)))))
  have HS := Lib.hid hs
  clear hy ht hz fi1 fi2 fi3 hs
  go_enter Tryd.func9, Tryd.ntmps9
  go_wp2_with fail
  generalize w.alloc (.cells #[.int .i64 T, .slice (some ⟨b, off, none⟩) l.length cap, .int .i64 R, .int .i64 L] 24) = W at *
  refine (few_any T R L (some ⟨b, off, none⟩) cap l W X0.out.2.1).mono ?_
  rintro e W1 ⟨rfl, hb1⟩
  rw [hf]
  have X1 := Lib.hid (X0.out.next hb1)
  clear X0 hb1 c0 c1 c2 c3 hf
  have c0 := X1.out.1.cell (i := 0) rfl
  have c1 := X1.out.1.cell (i := 1) rfl
  have c2 := X1.out.1.cell (i := 2) rfl
  have c3 := X1.out.1.cell (i := 3) rfl
  go_wp2_with fail
  refine (check_any T R L (some ⟨b, off, none⟩) cap l W1 X1.out.2.1 HS.out).mono ?_
  rintro e W2 ⟨rfl, hb2⟩
  rw [HM.out.2.2.1]
  have X2 := Lib.hid (X1.out.next hb2)
  clear X1 hb2 c0 c1 c2 c3
  have c0 := X2.out.1.cell (i := 0) rfl
  have c1 := X2.out.1.cell (i := 1) rfl
  have c2 := X2.out.1.cell (i := 2) rfl
  have c3 := X2.out.1.cell (i := 3) rfl
  obtain ⟨b', off', e', hbl2, u0, u1, u2⟩ := X2.out.2.1 ix t HM.out.2.1
  cases e'
  go_wp2_with fail
  refine wp_region_held_drew (S := CN w.heap.size (cfl T (some ⟨b, off, none⟩) l.length cap R L) ⟨b, off + ix * 3, none⟩ t.1) (by kernel_rfl) (⟨X2.out.1, u0⟩) (fun hHeld => ?_)
  refine wpAnyH_take (i := 0) (v := ?v25) rfl (by kernel_rfl) (by kernel_rfl) (by kernel_rfl) (fun _ _ _ h => h) (Or.inl ⟨by rfl, ?y25⟩) hHeld ?r25
  case y25 => (intro w hSw; obtain ⟨hc, hn⟩ := hSw; have c0 := hc.cell (i := 0) rfl; have c1 := hc.cell (i := 1) rfl; have c2 := hc.cell (i := 2) rfl; have c3 := hc.cell (i := 3) rfl; clear hc; go_simp; try with_reducible rfl)
  simp only [List.getElem_toArray, List.getElem_cons_zero, Act.put, List.setIfInBounds_toArray, List.set_cons_zero, List.set_cons_succ]
  refine wpAnyH_take (i := 1) (v := ?v26) rfl (by kernel_rfl) (by kernel_rfl) (by kernel_rfl) (fun _ _ _ h => h) (Or.inl ⟨by rfl, ?y26⟩) hHeld ?r26
  case y26 => (intro w hSw; obtain ⟨hc, hn⟩ := hSw; have c0 := hc.cell (i := 0) rfl; have c1 := hc.cell (i := 1) rfl; have c2 := hc.cell (i := 2) rfl; have c3 := hc.cell (i := 3) rfl; clear hc; go_simp; try with_reducible rfl)
  simp only [List.getElem_toArray, List.getElem_cons_zero, List.getElem_cons_succ, Act.put, List.setIfInBounds_toArray, List.set_cons_zero, List.set_cons_succ]
  refine wpAnyH_take (i := 2) (v := ?v27) rfl (by kernel_rfl) (by kernel_rfl) (by kernel_rfl) (fun _ _ _ h => h) (Or.inl ⟨by rfl, ?y27⟩) hHeld ?r27
  case y27 => (intro w hSw; obtain ⟨hc, hn⟩ := hSw; have c0 := hc.cell (i := 0) rfl; have c1 := hc.cell (i := 1) rfl; have c2 := hc.cell (i := 2) rfl; have c3 := hc.cell (i := 3) rfl; clear hc; go_simp; try with_reducible rfl)
  simp only [List.getElem_toArray, List.getElem_cons_zero, List.getElem_cons_succ, Act.put, List.setIfInBounds_toArray, List.set_cons_zero, List.set_cons_succ]
  refine wpAnyH_take (i := 3) (v := ?v28) rfl (by kernel_rfl) (by kernel_rfl) (by kernel_rfl) (fun _ _ _ h => h) (Or.inl ⟨by rfl, ?y28⟩) hHeld ?r28
  case y28 => (intro w hSw; obtain ⟨hc, hn⟩ := hSw; have c0 := hc.cell (i := 0) rfl; have c1 := hc.cell (i := 1) rfl; have c2 := hc.cell (i := 2) rfl; have c3 := hc.cell (i := 3) rfl; clear hc; go_simp; try with_reducible rfl)
  simp only [List.getElem_toArray, List.getElem_cons_zero, List.getElem_cons_succ, Act.put, List.setIfInBounds_toArray, List.set_cons_zero, List.set_cons_succ]
  refine wpAnyH_take (i := 4) (v := ?v29) rfl (by kernel_rfl) (by kernel_rfl) (by kernel_rfl) (fun _ _ _ h => h) (Or.inl ⟨by rfl, ?y29⟩) hHeld ?r29
  case y29 => (intro w hSw; obtain ⟨hc, hn⟩ := hSw; have c0 := hc.cell (i := 0) rfl; have c1 := hc.cell (i := 1) rfl; have c2 := hc.cell (i := 2) rfl; have c3 := hc.cell (i := 3) rfl; clear hc; go_simp; try with_reducible rfl)
  simp only [List.getElem_toArray, List.getElem_cons_zero, List.getElem_cons_succ, Act.put, List.setIfInBounds_toArray, List.set_cons_zero, List.set_cons_succ]
  refine wpAnyH_take (i := 5) (v := ?v30) rfl (by kernel_rfl) (by kernel_rfl) (by kernel_rfl) (fun _ _ _ h => h) (Or.inl ⟨by rfl, ?y30⟩) hHeld ?r30
  case y30 => (intro w hSw; obtain ⟨hc, hn⟩ := hSw; have c0 := hc.cell (i := 0) rfl; have c1 := hc.cell (i := 1) rfl; have c2 := hc.cell (i := 2) rfl; have c3 := hc.cell (i := 3) rfl; clear hc; go_simp; try with_reducible rfl)
  simp only [List.getElem_toArray, List.getElem_cons_zero, List.getElem_cons_succ, Act.put, List.setIfInBounds_toArray, List.set_cons_zero, List.set_cons_succ]
  refine wpAnyH_take (i := 6) (v := ?v31) rfl (by kernel_rfl) (by kernel_rfl) (by kernel_rfl) (fun _ _ _ h => h) (Or.inl ⟨by rfl, ?y31⟩) hHeld ?r31
  case y31 => (intro w hSw; obtain ⟨hc, hn⟩ := hSw; have c0 := hc.cell (i := 0) rfl; have c1 := hc.cell (i := 1) rfl; have c2 := hc.cell (i := 2) rfl; have c3 := hc.cell (i := 3) rfl; clear hc; go_simp; try with_reducible rfl)
  simp only [List.getElem_toArray, List.getElem_cons_zero, List.getElem_cons_succ, Act.put, List.setIfInBounds_toArray, List.set_cons_zero, List.set_cons_succ]
  refine wpAnyH_ready (rs := [7]) (by kernel_rfl) (by simp) (AllReadyH.cons rfl (fun K hK => ?_) AllReadyH.nil)
  go_simp
  refine (find_any T R L (some ⟨b, off, none⟩) cap l t.1 _ (show Tps W2.drew.heap.size W2.drew (some ⟨b, off, none⟩) l from X2.out.2.1) (by omega)).mono ?_
  rintro e W3 ⟨rfl, hb3⟩
  rw [HM.out.2.2.2.1, HM.out.2.2.2.2.1]
  have X3 := Lib.hid (X2.out.dr.next hb3)
  have n3 := (hb3.cell (p := ⟨b, off + ix * 3, none⟩) hbl2).trans u0
  clear hb3
  go_wp2_with fail
  refine hK.out _ _ (⟨X3.out.1, n3⟩) (fun hHeld => ?_)
  clear hK K
  refine wpAnyH_take (i := 8) (v := ?v33) rfl (by kernel_rfl) (by kernel_rfl) (by kernel_rfl) (fun _ _ _ h => h) (Or.inl ⟨by rfl, ?y33⟩) hHeld ?r33
  case y33 => (intro w hSw; obtain ⟨hc, hn⟩ := hSw; have c0 := hc.cell (i := 0) rfl; have c1 := hc.cell (i := 1) rfl; have c2 := hc.cell (i := 2) rfl; have c3 := hc.cell (i := 3) rfl; clear hc; go_simp; try with_reducible rfl)
  simp only [List.getElem_toArray, List.getElem_cons_zero, List.getElem_cons_succ, Act.put, List.setIfInBounds_toArray, List.set_cons_zero, List.set_cons_succ]
  refine wpAnyH_take (i := 9) (v := ?v34) rfl (by kernel_rfl) (by kernel_rfl) (by kernel_rfl) (fun _ _ _ h => h) (Or.inl ⟨by rfl, ?y34⟩) hHeld ?r34
  case y34 => (intro w hSw; obtain ⟨hc, hn⟩ := hSw; have c0 := hc.cell (i := 0) rfl; have c1 := hc.cell (i := 1) rfl; have c2 := hc.cell (i := 2) rfl; have c3 := hc.cell (i := 3) rfl; clear hc; go_simp; try with_reducible rfl)
  simp only [List.getElem_toArray, List.getElem_cons_zero, List.getElem_cons_succ, Act.put, List.setIfInBounds_toArray, List.set_cons_zero, List.set_cons_succ]
  refine wpAnyH_take (i := 10) (v := ?v35) rfl (by kernel_rfl) (by kernel_rfl) (by kernel_rfl) (fun _ _ _ h => h) (Or.inl ⟨by rfl, ?y35⟩) hHeld ?r35
  case y35 => (intro w hSw; obtain ⟨hc, hn⟩ := hSw; have c0 := hc.cell (i := 0) rfl; have c1 := hc.cell (i := 1) rfl; have c2 := hc.cell (i := 2) rfl; have c3 := hc.cell (i := 3) rfl; clear hc; go_simp; try with_reducible rfl)
  simp only [List.getElem_toArray, List.getElem_cons_zero, List.getElem_cons_succ, Act.put, List.setIfInBounds_toArray, List.set_cons_zero, List.set_cons_succ]
  refine wpAnyH_take (i := 11) (v := ?v36) rfl (by kernel_rfl) (by kernel_rfl) (by kernel_rfl) (fun _ _ _ h => h) (Or.inl ⟨by rfl, ?y36⟩) hHeld ?r36
  case y36 => (intro w hSw; obtain ⟨hc, hn⟩ := hSw; have c0 := hc.cell (i := 0) rfl; have c1 := hc.cell (i := 1) rfl; have c2 := hc.cell (i := 2) rfl; have c3 := hc.cell (i := 3) rfl; clear hc; go_simp; try with_reducible rfl)
  simp only [List.getElem_toArray, List.getElem_cons_zero, List.getElem_cons_succ, Act.put, List.setIfInBounds_toArray, List.set_cons_zero, List.set_cons_succ]
  refine wpAnyH_take (i := 12) (v := ?v37) rfl (by kernel_rfl) (by kernel_rfl) (by kernel_rfl) (fun _ _ _ h => h) (Or.inl ⟨by rfl, ?y37⟩) hHeld ?r37
  case y37 => (intro w hSw; obtain ⟨hc, hn⟩ := hSw; have c0 := hc.cell (i := 0) rfl; have c1 := hc.cell (i := 1) rfl; have c2 := hc.cell (i := 2) rfl; have c3 := hc.cell (i := 3) rfl; clear hc; go_simp; try with_reducible rfl)
  simp only [List.getElem_toArray, List.getElem_cons_zero, List.getElem_cons_succ, Act.put, List.setIfInBounds_toArray, List.set_cons_zero, List.set_cons_succ]
  refine wpAnyH_done (by kernel_rfl) ?_ _
  clear c0 c1 c2 c3 u0 u1 u2 hbl2 X2
  have c0 := X3.out.1.cell (i := 0) rfl
  have c1 := X3.out.1.cell (i := 1) rfl
  have c2 := X3.out.1.cell (i := 2) rfl
  have c3 := X3.out.1.cell (i := 3) rfl
  have n1 : ∀ (j : Nat) (u : Value), (tcl (l.take ix))[j]? = some u → W3.cell? ((⟨b, off, none⟩ : Addr).add j) = some u := fun j u hj => by
    rw [addr_plus]
    have := X3.out.2.1.flat 0 ix j u (by simpa using hj)
    simpa using this
  have N1 := Lib.hid n1
  have n2f : ∀ W : World, Tps W.heap.size W (some ⟨b, off, none⟩) l → ∀ (j : Nat) (u : Value), (tcl (l.drop (ix + 1)))[j]? = some u → W.cell? ((⟨b, off + (ix + 1) * 3, none⟩ : Addr).add j) = some u := fun W hW j u hj => by
    rw [addr_plus]
    exact hW.flat (ix + 1) l.length j u (by rw [List.take_of_length_le (by simp)]; exact hj)
  have N2f := Lib.hid n2f
  clear n2f
  have hlt : (tcl (l.take ix)).length = ix * 3 := by rw [tcl_len, List.length_take]; omega
  have hl2 : (tcl (l.drop (ix + 1))).length = (l.length - (ix + 1)) * 3 := by rw [tcl_len, List.length_drop]
  have hic : (ix : Int) ≤ (cap : Nat) := by omega
  have hic2 : (ix : Int) + 1 ≤ (l.length : Int) := by omega
  have hic3 : (l.length : Int) ≤ ((cap : Nat) : Int) := by omega
  have hml : ∀ m, m ≤ 100 → m ≤ maxLen := fun m hm => Nat.le_trans hm (by decide)
  have Hml := Lib.hid hml
  have Hlt := Lib.hid hlt
  have Hl2 := Lib.hid hl2
  clear hml hlt hl2 n1 n3
  go_wp2_with (first | (at_builtin; refine wpList_append_own _ rfl _ _ 22 rfl W3.heap.size 45 i0 (.agg #[.string ⟨#[]⟩, .int .i64 0, .int .i64 0]) 3 32 Tryd.underlying22 hi hz0 hz1 hz2 rfl (by decide) (.slice none 0 0) 0 [] rfl (World.ownsRow_nil _ _ _ _) ⟨b, off, none⟩ ix cap (tcl (l.take ix)) rfl Hlt.out N1.out (tcl_one _) (Hml.out _ (by omega)) (by omega) (Nat.le_refl _) ?_; intro v4 W4 ho4 hg4 _; have hb4 : Below W3.heap.size W3 W4 := (Below.refl _ _).grown hg4 (Nat.le_refl _) (fun q e => by cases e); have X4 := Lib.hid (X3.out.next hb4); have e1 := X4.out.1.cell (i := 1) rfl; have N2 := N2f.out W4 X4.out.2.1; clear c0 c1 c2 c3) | (at_builtin; refine wpList_append_own _ rfl _ _ 22 rfl W3.heap.size 45 i0 (.agg #[.string ⟨#[]⟩, .int .i64 0, .int .i64 0]) 3 32 Tryd.underlying22 hi hz0 hz1 hz2 rfl (by decide) v4 (0 + ix) ([] ++ tcl (l.take ix)) rfl ho4 ⟨b, off + (ix + 1) * 3, none⟩ _ _ (tcl (l.drop (ix + 1))) rfl Hl2.out N2 (tcl_one _) (Hml.out _ (by omega)) (by omega) hb4.size ?_; intro v5 W5 ho5 hg5 _; have hb5 : Below W3.heap.size W3 W5 := hb4.grown hg5 hb4.size (fun q e => (ho4.lt q e).1); have X5 := Lib.hid (X3.out.next hb5); obtain ⟨a5, c5, rfl, hT5⟩ := owns_tps (owns_less hix ho5); have HT5 := Lib.hid hT5; have f0 := X5.out.1.cell (i := 0) rfl; have f1 := X5.out.1.cell (i := 1) rfl; have f2 := X5.out.1.cell (i := 2) rfl; have f3 := X5.out.1.cell (i := 3) rfl; clear ho5 hg5 ho4 hg4 hb4 X4 e1 N2 hT5))
  
  have X6 := Lib.hid (X5.out.alloc (.cells #[.int .i64 T, .slice a5 (less l ix).length c5, .int .i64 R, .int .i64 L] 24))
  have D6 := Lib.hid (Blk.new W5 #[.int .i64 T, .slice a5 (less l ix).length c5, .int .i64 R, .int .i64 L] 24)
  have T6 := Lib.hid (HT5.out.next ((Below.refl W5.heap.size W5).alloc (Nat.le_refl _) (.cells #[.int .i64 T, .slice a5 (less l ix).length c5, .int .i64 R, .int .i64 L] 24)))
  clear f0 f1 f2 f3 X5 HT5 hb5 N1 N2f Hlt Hl2 X3
  generalize hDE : W5.heap.size = D at *
  generalize W5.alloc (.cells #[.int .i64 T, .slice a5 (less l ix).length c5, .int .i64 R, .int .i64 L] 24) = W6 at *
  clear hDE
  refine (check_any T R L a5 c5 (less l ix) W6 T6.out (fun u hu => HS.out u (mem_less hu))).mono ?_
  rintro e W7 ⟨rfl, hb7⟩
  by_cases h2 : 2 ≤ l.length
  · rw [less_chk HM.out.1 hix h2]
    have X8 := Lib.hid ((X6.out.next hb7).alloc (.cells #[.int .i64 0, .int .i64 0] 29))
    have D8 := Lib.hid ((D6.out.low hb7).alloc (.cells #[.int .i64 0, .int .i64 0] 29))
    have T8 := Lib.hid ((T6.out.next hb7).next ((Below.refl W7.heap.size W7).alloc (Nat.le_refl _) (.cells #[.int .i64 0, .int .i64 0] 29)))
    have F8 := Lib.hid (Blk.new W7 #[.int .i64 0, .int .i64 0] 29)
    have hFC : w.heap.size < W7.heap.size := (X6.out.next hb7).1.lt
    clear X6 D6 T6 hb7
    generalize hFE : W7.heap.size = F at *
    have c0 := X8.out.1.cell (i := 0) rfl
    have c1 := X8.out.1.cell (i := 1) rfl
    have c2 := X8.out.1.cell (i := 2) rfl
    have c3 := X8.out.1.cell (i := 3) rfl
    have d0 := D8.out.cell (i := 0) rfl
    have d1 := D8.out.cell (i := 1) rfl
    have d2 := D8.out.cell (i := 2) rfl
    have d3 := D8.out.cell (i := 3) rfl
    have f0 := F8.out.cell (i := 0) rfl
    have f1 := F8.out.cell (i := 1) rfl
    have nz : (((less l ix).length : Int) == 0) = false := by
      rw [beq_eq_false_iff_ne]
      have := less_len hix
      omega
    go_wp2_with fail
    generalize W7.alloc (.cells #[.int .i64 0, .int .i64 0] 29) = W8 at *
    clear hFE
    refine (same_any T R L T R L (some ⟨b, off, none⟩) a5 cap c5 l (less l ix) W8 X8.out.2.1 T8.out (by omega)).mono ?_
    rintro e W9 ⟨rfl, hb9⟩
    rw [same_less hix]
    have X9 := Lib.hid (X8.out.next hb9)
    have D9 := Lib.hid (D8.out.low hb9)
    have T9 := Lib.hid (T8.out.next hb9)
    have F9 := Lib.hid (F8.out.low hb9)
    have Xt := Lib.hid (And.intro HTW.out.1 HTW.out.2)
    clear X8 D8 T8 F8 hb9 c0 c1 c2 c3 d0 d1 d2 d3 f0 f1 nz
    obtain ⟨b3, off3, e3, hbl3, u0, _, _⟩ := X9.out.2.1 ix t HM.out.2.1
    cases e3
    go_wp2_with fail
    refine wp_region_held_drew (S := CDN w.heap.size D (cfl T (some ⟨b, off, none⟩) l.length cap R L) (cfl T a5 (less l ix).length c5 R L) ⟨b, off + ix * 3, none⟩ t.1) (by kernel_rfl) (⟨X9.out.1, D9.out, u0⟩) (fun hHeld => ?_)
    refine wpAnyH_take (i := 0) (v := ?v1) rfl (by kernel_rfl) (by kernel_rfl) (by kernel_rfl) (fun _ _ _ h => h) (Or.inl ⟨by rfl, ?y1⟩) hHeld ?r1
    case y1 => (intro w hSw; obtain ⟨hc, hd, hn⟩ := hSw; have c0 := hc.cell (i := 0) rfl; have c1 := hc.cell (i := 1) rfl; have c2 := hc.cell (i := 2) rfl; have c3 := hc.cell (i := 3) rfl; have d0 := hd.cell (i := 0) rfl; have d1 := hd.cell (i := 1) rfl; have d2 := hd.cell (i := 2) rfl; have d3 := hd.cell (i := 3) rfl; clear hc hd; go_simp; try with_reducible rfl)
    simp only [List.getElem_toArray, List.getElem_cons_zero, Act.put, List.setIfInBounds_toArray, List.set_cons_zero, List.set_cons_succ]
    refine wpAnyH_take (i := 1) (v := ?v2) rfl (by kernel_rfl) (by kernel_rfl) (by kernel_rfl) (fun _ _ _ h => h) (Or.inl ⟨by rfl, ?y2⟩) hHeld ?r2
    case y2 => (intro w hSw; obtain ⟨hc, hd, hn⟩ := hSw; have c0 := hc.cell (i := 0) rfl; have c1 := hc.cell (i := 1) rfl; have c2 := hc.cell (i := 2) rfl; have c3 := hc.cell (i := 3) rfl; have d0 := hd.cell (i := 0) rfl; have d1 := hd.cell (i := 1) rfl; have d2 := hd.cell (i := 2) rfl; have d3 := hd.cell (i := 3) rfl; clear hc hd; go_simp; try with_reducible rfl)
    simp only [List.getElem_toArray, List.getElem_cons_zero, List.getElem_cons_succ, Act.put, List.setIfInBounds_toArray, List.set_cons_zero, List.set_cons_succ]
    refine wpAnyH_take (i := 2) (v := ?v3) rfl (by kernel_rfl) (by kernel_rfl) (by kernel_rfl) (fun _ _ _ h => h) (Or.inl ⟨by rfl, ?y3⟩) hHeld ?r3
    case y3 => (intro w hSw; obtain ⟨hc, hd, hn⟩ := hSw; have c0 := hc.cell (i := 0) rfl; have c1 := hc.cell (i := 1) rfl; have c2 := hc.cell (i := 2) rfl; have c3 := hc.cell (i := 3) rfl; have d0 := hd.cell (i := 0) rfl; have d1 := hd.cell (i := 1) rfl; have d2 := hd.cell (i := 2) rfl; have d3 := hd.cell (i := 3) rfl; clear hc hd; go_simp; try with_reducible rfl)
    simp only [List.getElem_toArray, List.getElem_cons_zero, List.getElem_cons_succ, Act.put, List.setIfInBounds_toArray, List.set_cons_zero, List.set_cons_succ]
    refine wpAnyH_take (i := 3) (v := ?v4) rfl (by kernel_rfl) (by kernel_rfl) (by kernel_rfl) (fun _ _ _ h => h) (Or.inl ⟨by rfl, ?y4⟩) hHeld ?r4
    case y4 => (intro w hSw; obtain ⟨hc, hd, hn⟩ := hSw; have c0 := hc.cell (i := 0) rfl; have c1 := hc.cell (i := 1) rfl; have c2 := hc.cell (i := 2) rfl; have c3 := hc.cell (i := 3) rfl; have d0 := hd.cell (i := 0) rfl; have d1 := hd.cell (i := 1) rfl; have d2 := hd.cell (i := 2) rfl; have d3 := hd.cell (i := 3) rfl; clear hc hd; go_simp; try with_reducible rfl)
    simp only [List.getElem_toArray, List.getElem_cons_zero, List.getElem_cons_succ, Act.put, List.setIfInBounds_toArray, List.set_cons_zero, List.set_cons_succ]
    refine wpAnyH_take (i := 4) (v := ?v5) rfl (by kernel_rfl) (by kernel_rfl) (by kernel_rfl) (fun _ _ _ h => h) (Or.inl ⟨by rfl, ?y5⟩) hHeld ?r5
    case y5 => (intro w hSw; obtain ⟨hc, hd, hn⟩ := hSw; have c0 := hc.cell (i := 0) rfl; have c1 := hc.cell (i := 1) rfl; have c2 := hc.cell (i := 2) rfl; have c3 := hc.cell (i := 3) rfl; have d0 := hd.cell (i := 0) rfl; have d1 := hd.cell (i := 1) rfl; have d2 := hd.cell (i := 2) rfl; have d3 := hd.cell (i := 3) rfl; clear hc hd; go_simp; try with_reducible rfl)
    simp only [List.getElem_toArray, List.getElem_cons_zero, List.getElem_cons_succ, Act.put, List.setIfInBounds_toArray, List.set_cons_zero, List.set_cons_succ]
    refine wpAnyH_take (i := 5) (v := ?v6) rfl (by kernel_rfl) (by kernel_rfl) (by kernel_rfl) (fun _ _ _ h => h) (Or.inl ⟨by rfl, ?y6⟩) hHeld ?r6
    case y6 => (intro w hSw; obtain ⟨hc, hd, hn⟩ := hSw; have c0 := hc.cell (i := 0) rfl; have c1 := hc.cell (i := 1) rfl; have c2 := hc.cell (i := 2) rfl; have c3 := hc.cell (i := 3) rfl; have d0 := hd.cell (i := 0) rfl; have d1 := hd.cell (i := 1) rfl; have d2 := hd.cell (i := 2) rfl; have d3 := hd.cell (i := 3) rfl; clear hc hd; go_simp; try with_reducible rfl)
    simp only [List.getElem_toArray, List.getElem_cons_zero, List.getElem_cons_succ, Act.put, List.setIfInBounds_toArray, List.set_cons_zero, List.set_cons_succ]
    refine wpAnyH_take (i := 6) (v := ?v7) rfl (by kernel_rfl) (by kernel_rfl) (by kernel_rfl) (fun _ _ _ h => h) (Or.inl ⟨by rfl, ?y7⟩) hHeld ?r7
    case y7 => (intro w hSw; obtain ⟨hc, hd, hn⟩ := hSw; have c0 := hc.cell (i := 0) rfl; have c1 := hc.cell (i := 1) rfl; have c2 := hc.cell (i := 2) rfl; have c3 := hc.cell (i := 3) rfl; have d0 := hd.cell (i := 0) rfl; have d1 := hd.cell (i := 1) rfl; have d2 := hd.cell (i := 2) rfl; have d3 := hd.cell (i := 3) rfl; clear hc hd; go_simp; try with_reducible rfl)
    simp only [List.getElem_toArray, List.getElem_cons_zero, List.getElem_cons_succ, Act.put, List.setIfInBounds_toArray, List.set_cons_zero, List.set_cons_succ]
    refine wpAnyH_ready (rs := [7]) (by kernel_rfl) (by simp) (AllReadyH.cons rfl (fun K hK => ?_) AllReadyH.nil)
    go_simp
    refine (find_any T R L a5 c5 (less l ix) t.1 _ (show Tps W9.drew.heap.size W9.drew a5 (less l ix) from T9.out) (by have := less_len hix; omega)).mono ?_
    rintro e Wq ⟨rfl, hbq⟩
    rw [HM.out.2.2.2.2.2]
    have Xq := Lib.hid (X9.out.dr.next hbq)
    have hFq := Lib.hid ((show Blk W9.drew F _ from F9.out).low hbq)
    have hDq := (show Blk W9.drew D _ from D9.out).low hbq
    have nq3 := (hbq.cell (p := ⟨b, off + ix * 3, none⟩) hbl3).trans u0
    clear hbq
    go_wp2_with fail
    refine hK.out _ _ (⟨Xq.out.1, hDq, nq3⟩) (fun hHeld => ?_)
    clear hK K
    refine wpAnyH_take (i := 8) (v := ?v9) rfl (by kernel_rfl) (by kernel_rfl) (by kernel_rfl) (fun _ _ _ h => h) (Or.inl ⟨by rfl, ?y9⟩) hHeld ?r9
    case y9 => (intro w hSw; obtain ⟨hc, hd, hn⟩ := hSw; have c0 := hc.cell (i := 0) rfl; have c1 := hc.cell (i := 1) rfl; have c2 := hc.cell (i := 2) rfl; have c3 := hc.cell (i := 3) rfl; have d0 := hd.cell (i := 0) rfl; have d1 := hd.cell (i := 1) rfl; have d2 := hd.cell (i := 2) rfl; have d3 := hd.cell (i := 3) rfl; clear hc hd; go_simp; try with_reducible rfl)
    simp only [List.getElem_toArray, List.getElem_cons_zero, List.getElem_cons_succ, Act.put, List.setIfInBounds_toArray, List.set_cons_zero, List.set_cons_succ]
    refine wpAnyH_take (i := 9) (v := ?v10) rfl (by kernel_rfl) (by kernel_rfl) (by kernel_rfl) (fun _ _ _ h => h) (Or.inl ⟨by rfl, ?y10⟩) hHeld ?r10
    case y10 => (intro w hSw; obtain ⟨hc, hd, hn⟩ := hSw; have c0 := hc.cell (i := 0) rfl; have c1 := hc.cell (i := 1) rfl; have c2 := hc.cell (i := 2) rfl; have c3 := hc.cell (i := 3) rfl; have d0 := hd.cell (i := 0) rfl; have d1 := hd.cell (i := 1) rfl; have d2 := hd.cell (i := 2) rfl; have d3 := hd.cell (i := 3) rfl; clear hc hd; go_simp; try with_reducible rfl)
    simp only [List.getElem_toArray, List.getElem_cons_zero, List.getElem_cons_succ, Act.put, List.setIfInBounds_toArray, List.set_cons_zero, List.set_cons_succ]
    refine wpAnyH_take (i := 10) (v := ?v11) rfl (by kernel_rfl) (by kernel_rfl) (by kernel_rfl) (fun _ _ _ h => h) (Or.inl ⟨by rfl, ?y11⟩) hHeld ?r11
    case y11 => (intro w hSw; obtain ⟨hc, hd, hn⟩ := hSw; have c0 := hc.cell (i := 0) rfl; have c1 := hc.cell (i := 1) rfl; have c2 := hc.cell (i := 2) rfl; have c3 := hc.cell (i := 3) rfl; have d0 := hd.cell (i := 0) rfl; have d1 := hd.cell (i := 1) rfl; have d2 := hd.cell (i := 2) rfl; have d3 := hd.cell (i := 3) rfl; clear hc hd; go_simp; try with_reducible rfl)
    simp only [List.getElem_toArray, List.getElem_cons_zero, List.getElem_cons_succ, Act.put, List.setIfInBounds_toArray, List.set_cons_zero, List.set_cons_succ]
    refine wpAnyH_take (i := 11) (v := ?v12) rfl (by kernel_rfl) (by kernel_rfl) (by kernel_rfl) (fun _ _ _ h => h) (Or.inl ⟨by rfl, ?y12⟩) hHeld ?r12
    case y12 => (intro w hSw; obtain ⟨hc, hd, hn⟩ := hSw; have c0 := hc.cell (i := 0) rfl; have c1 := hc.cell (i := 1) rfl; have c2 := hc.cell (i := 2) rfl; have c3 := hc.cell (i := 3) rfl; have d0 := hd.cell (i := 0) rfl; have d1 := hd.cell (i := 1) rfl; have d2 := hd.cell (i := 2) rfl; have d3 := hd.cell (i := 3) rfl; clear hc hd; go_simp; try with_reducible rfl)
    simp only [List.getElem_toArray, List.getElem_cons_zero, List.getElem_cons_succ, Act.put, List.setIfInBounds_toArray, List.set_cons_zero, List.set_cons_succ]
    refine wpAnyH_done (by kernel_rfl) ?_ _
    clear u0 hbl3
    have c0 := Xq.out.1.cell (i := 0) rfl
    have c1 := Xq.out.1.cell (i := 1) rfl
    have c2 := Xq.out.1.cell (i := 2) rfl
    have c3 := Xq.out.1.cell (i := 3) rfl
    have na : ∀ (j : Nat) (u : Value), (tcl l)[j]? = some u → Wq.cell? ((⟨b, off, none⟩ : Addr).add j) = some u := fun j u hj => by
      rw [addr_plus]
      have := Xq.out.2.1.flat 0 l.length j u (by rw [List.drop_zero, List.take_of_length_le (Nat.le_refl _)]; exact hj)
      simpa using this
    have Na := Lib.hid na
    clear na nq3 hDq
    go_wp2_with (first | (at_builtin; refine wpList_append_own _ rfl _ _ 22 rfl Wq.heap.size 45 i0 (.agg #[.string ⟨#[]⟩, .int .i64 0, .int .i64 0]) 3 32 Tryd.underlying22 hi hz0 hz1 hz2 rfl (by decide) (.slice none 0 0) 0 [] rfl (World.ownsRow_nil _ _ _ _) ⟨b, off, none⟩ l.length cap (tcl l) rfl (tcl_len l) Na.out (tcl_one _) (Hml.out _ (by omega)) (by omega) (Nat.le_refl _) ?_; intro v6 Wr ho6 hg6 _; have hb6 : Below Wq.heap.size Wq Wr := (Below.refl _ _).grown hg6 (Nat.le_refl _) (fun q e => by cases e); have Xr := Lib.hid (Xq.out.next hb6); have e1 := Xr.out.1.cell (i := 1) rfl; obtain ⟨b4, off4, e4, _, p0, p1, p2⟩ := Xr.out.2.1 ix t HM.out.2.1; cases e4; clear c0 c1 c2 c3) | (at_builtin; refine wpList_append_own _ rfl _ _ 22 rfl Wq.heap.size 45 i0 (.agg #[.string ⟨#[]⟩, .int .i64 0, .int .i64 0]) 3 32 Tryd.underlying22 hi hz0 hz1 hz2 rfl (by decide) v6 (0 + l.length) ([] ++ tcl l) rfl (ho6.alloc _) ⟨Wr.heap.size, 0, none⟩ 1 1 (tcells t) rfl rfl (World.news_of_block (cs := #[.string t.1, .int .i64 t.2.1, .int .i64 t.2.2]) (t := 45) (fr := (0, 0)) (heap_alloc_new Wr _)) (by simp [tcells, Value.oneCell']) (Hml.out _ (by omega)) (by omega) (by have := hb6.size; simp; omega) ?_; intro v7 Ws ho7 hg7 _; have hb7 : Below Wq.heap.size Wq Ws := (hb6.alloc hb6.size _).grown hg7 (by have := hb6.size; simp; omega) (fun q e => (ho6.lt q e).1); have Xs := Lib.hid (Xq.out.next hb7); obtain ⟨a7, c7, rfl, hT7⟩ := owns_tps (owns_more ho7); have HT7 := Lib.hid hT7; have hFs := Lib.hid (hFq.out.low hb7); have f0 := Xs.out.1.cell (i := 0) rfl; have f1 := Xs.out.1.cell (i := 1) rfl; have f2 := Xs.out.1.cell (i := 2) rfl; have f3 := Xs.out.1.cell (i := 3) rfl; clear ho7 hg7 ho6 hg6 hb6 Xr e1 p0 p1 p2 hT7))
    have hX8 := Lib.hid (Xs.out.alloc (.cells #[.int .i64 T, .slice a7 (l.length + 1) c7, .int .i64 R, .int .i64 L] 24))
    have hT8 := Lib.hid (HT7.out.next ((Below.refl Ws.heap.size Ws).alloc (Nat.le_refl _) (.cells #[.int .i64 T, .slice a7 (l.length + 1) c7, .int .i64 R, .int .i64 L] 24)))
    have hF8 := Lib.hid (hFs.out.alloc (.cells #[.int .i64 T, .slice a7 (l.length + 1) c7, .int .i64 R, .int .i64 L] 24))
    clear f0 f1 f2 f3 Xs HT7 hFs hb7
    generalize Ws.alloc (.cells #[.int .i64 T, .slice a7 (l.length + 1) c7, .int .i64 R, .int .i64 L] 24) = Wt at *
    have hck := check_any T R L a7 c7 (l ++ [t]) Wt hT8.out (fun u hu => by
      rcases List.mem_append.1 hu with h | h
      · exact HS.out u h
      · obtain rfl : u = t := by simpa using h
        exact HS.out u (List.mem_of_getElem? HM.out.2.1))
    have hle : (l ++ [t]).length = l.length + 1 := by simp
    rw [hle] at hck
    refine hck.mono ?_
    clear hck hle
    rintro e Wv ⟨rfl, hbv⟩
    obtain ⟨x, y, hxy, hx1, hx2⟩ := more_two HM.out.1 HM.out.2.1
    rw [hxy]
    clear hxy
    have Xv := Lib.hid (hX8.out.next hbv)
    have hFv := hF8.out.low hbv
    have HBv := Lib.hid Xv.out.2.2.2
    have hml2 : ((l ++ [t]).length : Int) = (l.length : Int) + 1 := by simp
    clear hX8 hT8 hF8 hbv
    by_cases h64 : 64 < l.length + 1
    · have hq1 : (x == -1) = true := by rw [(hx1 h64).1]; rfl
      have hq2 : (y == 12) = true := by rw [(hx1 h64).2]; rfl
      clear hx1 hx2
      have q64 : decide ((64 : Int) < ((l ++ [t]).length : Int)) = true := decide_eq_true (by rw [hml2]; omega)
      have q64' : decide ((64 : Int) < (l.length : Int) + 1) = true := decide_eq_true (by omega)
      have hF12 := Lib.hid ((hFv.put 0 (.int .i64 x)).put 1 (.int .i64 y))
      have XF : Hid (Bx w w.heap.size T R L (some ⟨b, off, none⟩) cap l ((Wv.setCell ⟨F, 0, none⟩ (.int .i64 x)).setCell ⟨F, 1, none⟩ (.int .i64 y))) := Lib.hid ⟨(Xv.out.1.setFar (p := ⟨F, 0, none⟩) (by show w.heap.size ≠ F; omega) _).setFar (p := ⟨F, 1, none⟩) (by show w.heap.size ≠ F; omega) _, (Xt.out.1.below ((HBv.out.setCell (p := ⟨F, 0, none⟩) (by show w.heap.size ≤ F; omega) (.int .i64 x)).setCell (p := ⟨F, 1, none⟩) (by show w.heap.size ≤ F; omega) (.int .i64 y))).mono (by have := HBv.out.size; simp [World.setCell]; omega), Xt.out.2.below ((HBv.out.setCell (p := ⟨F, 0, none⟩) (by show w.heap.size ≤ F; omega) (.int .i64 x)).setCell (p := ⟨F, 1, none⟩) (by show w.heap.size ≤ F; omega) (.int .i64 y)) Xt.out.2.lt, (HBv.out.setCell (p := ⟨F, 0, none⟩) (by show w.heap.size ≤ F; omega) (.int .i64 x)).setCell (p := ⟨F, 1, none⟩) (by show w.heap.size ≤ F; omega) (.int .i64 y)⟩
      have z0 := hFv.frozen 0
      have z1 := hFv.frozen 1
      have g0 := hFv.cell (i := 0) rfl
      have g1 := hFv.cell (i := 1) rfl
      have w0 := hF12.out.cell (i := 0) rfl
      have w1 := hF12.out.cell (i := 1) rfl
      have k1x := XF.out.1.cell (i := 1) rfl
      clear hFv Xv HBv
      go_wp2_with fail
      refine (awake_any _ XF.out.2.2.1).mono ?_
      rintro e Wz ⟨rfl, hbz⟩
      have hfin := Lib.hid (XF.out.next hbz).2.2.2
      clear hbz
      go_wp2
      go_ret
      exact ⟨rfl, hfin.out⟩
    · have hq1 : (x == (l.length : Int)) = true := by rw [(hx2 h64).1]; simp
      have hq2 : (y == 15) = true := by rw [(hx2 h64).2]; rfl
      clear hx1 hx2
      have q64 : decide ((64 : Int) < ((l ++ [t]).length : Int)) = false := decide_eq_false (by rw [hml2]; omega)
      have q64' : decide ((64 : Int) < (l.length : Int) + 1) = false := decide_eq_false (by omega)
      have hF12 := Lib.hid ((hFv.put 0 (.int .i64 x)).put 1 (.int .i64 y))
      have XF : Hid (Bx w w.heap.size T R L (some ⟨b, off, none⟩) cap l ((Wv.setCell ⟨F, 0, none⟩ (.int .i64 x)).setCell ⟨F, 1, none⟩ (.int .i64 y))) := Lib.hid ⟨(Xv.out.1.setFar (p := ⟨F, 0, none⟩) (by show w.heap.size ≠ F; omega) _).setFar (p := ⟨F, 1, none⟩) (by show w.heap.size ≠ F; omega) _, (Xt.out.1.below ((HBv.out.setCell (p := ⟨F, 0, none⟩) (by show w.heap.size ≤ F; omega) (.int .i64 x)).setCell (p := ⟨F, 1, none⟩) (by show w.heap.size ≤ F; omega) (.int .i64 y))).mono (by have := HBv.out.size; simp [World.setCell]; omega), Xt.out.2.below ((HBv.out.setCell (p := ⟨F, 0, none⟩) (by show w.heap.size ≤ F; omega) (.int .i64 x)).setCell (p := ⟨F, 1, none⟩) (by show w.heap.size ≤ F; omega) (.int .i64 y)) Xt.out.2.lt, (HBv.out.setCell (p := ⟨F, 0, none⟩) (by show w.heap.size ≤ F; omega) (.int .i64 x)).setCell (p := ⟨F, 1, none⟩) (by show w.heap.size ≤ F; omega) (.int .i64 y)⟩
      have z0 := hFv.frozen 0
      have z1 := hFv.frozen 1
      have g0 := hFv.cell (i := 0) rfl
      have g1 := hFv.cell (i := 1) rfl
      have w0 := hF12.out.cell (i := 0) rfl
      have w1 := hF12.out.cell (i := 1) rfl
      have k1x := XF.out.1.cell (i := 1) rfl
      clear hFv Xv HBv
      go_wp2_with fail
      refine (awake_any _ XF.out.2.2.1).mono ?_
      rintro e Wz ⟨rfl, hbz⟩
      have hfin := Lib.hid (XF.out.next hbz).2.2.2
      clear hbz
      go_wp2
      go_ret
      exact ⟨rfl, hfin.out⟩
  
  · have hls : less l ix = [] := List.eq_nil_of_length_eq_zero (by have := less_len hix; omega)
    rw [show chk T (less l ix) R L = (-1, 12) by rw [hls]; exact none_chk HM.out.1]
    have X8 := Lib.hid ((X6.out.next hb7).alloc (.cells #[.int .i64 (-1), .int .i64 12] 29))
    have D8 := Lib.hid ((D6.out.low hb7).alloc (.cells #[.int .i64 (-1), .int .i64 12] 29))
    have T8 := Lib.hid ((T6.out.next hb7).next ((Below.refl W7.heap.size W7).alloc (Nat.le_refl _) (.cells #[.int .i64 (-1), .int .i64 12] 29)))
    have F8 := Lib.hid (Blk.new W7 #[.int .i64 (-1), .int .i64 12] 29)
    have hFC : w.heap.size < W7.heap.size := (X6.out.next hb7).1.lt
    clear X6 D6 T6 hb7
    generalize hFE : W7.heap.size = F at *
    have f0 := F8.out.cell (i := 0) rfl
    have f1 := F8.out.cell (i := 1) rfl
    have nz : (((less l ix).length : Int) == 0) = true := by rw [hls]; rfl
    have Xt := Lib.hid (And.intro HTW.out.1 HTW.out.2)
    clear hls
    go_wp2_with fail
    generalize W7.alloc (.cells #[.int .i64 (-1), .int .i64 12] 29) = W8 at *
    clear hFE f0 f1 nz
    obtain ⟨b3, off3, e3, hbl3, u0, _, _⟩ := X8.out.2.1 ix t HM.out.2.1
    cases e3
    refine wp_region_held_drew (S := CDN w.heap.size D (cfl T (some ⟨b, off, none⟩) l.length cap R L) (cfl T a5 (less l ix).length c5 R L) ⟨b, off + ix * 3, none⟩ t.1) (by kernel_rfl) (⟨X8.out.1, D8.out, u0⟩) (fun hHeld => ?_)
    refine wpAnyH_take (i := 0) (v := ?v13) rfl (by kernel_rfl) (by kernel_rfl) (by kernel_rfl) (fun _ _ _ h => h) (Or.inl ⟨by rfl, ?y13⟩) hHeld ?r13
    case y13 => (intro w hSw; obtain ⟨hc, hd, hn⟩ := hSw; have c0 := hc.cell (i := 0) rfl; have c1 := hc.cell (i := 1) rfl; have c2 := hc.cell (i := 2) rfl; have c3 := hc.cell (i := 3) rfl; have d0 := hd.cell (i := 0) rfl; have d1 := hd.cell (i := 1) rfl; have d2 := hd.cell (i := 2) rfl; have d3 := hd.cell (i := 3) rfl; clear hc hd; go_simp; try with_reducible rfl)
    simp only [List.getElem_toArray, List.getElem_cons_zero, Act.put, List.setIfInBounds_toArray, List.set_cons_zero, List.set_cons_succ]
    refine wpAnyH_take (i := 1) (v := ?v14) rfl (by kernel_rfl) (by kernel_rfl) (by kernel_rfl) (fun _ _ _ h => h) (Or.inl ⟨by rfl, ?y14⟩) hHeld ?r14
    case y14 => (intro w hSw; obtain ⟨hc, hd, hn⟩ := hSw; have c0 := hc.cell (i := 0) rfl; have c1 := hc.cell (i := 1) rfl; have c2 := hc.cell (i := 2) rfl; have c3 := hc.cell (i := 3) rfl; have d0 := hd.cell (i := 0) rfl; have d1 := hd.cell (i := 1) rfl; have d2 := hd.cell (i := 2) rfl; have d3 := hd.cell (i := 3) rfl; clear hc hd; go_simp; try with_reducible rfl)
    simp only [List.getElem_toArray, List.getElem_cons_zero, List.getElem_cons_succ, Act.put, List.setIfInBounds_toArray, List.set_cons_zero, List.set_cons_succ]
    refine wpAnyH_take (i := 2) (v := ?v15) rfl (by kernel_rfl) (by kernel_rfl) (by kernel_rfl) (fun _ _ _ h => h) (Or.inl ⟨by rfl, ?y15⟩) hHeld ?r15
    case y15 => (intro w hSw; obtain ⟨hc, hd, hn⟩ := hSw; have c0 := hc.cell (i := 0) rfl; have c1 := hc.cell (i := 1) rfl; have c2 := hc.cell (i := 2) rfl; have c3 := hc.cell (i := 3) rfl; have d0 := hd.cell (i := 0) rfl; have d1 := hd.cell (i := 1) rfl; have d2 := hd.cell (i := 2) rfl; have d3 := hd.cell (i := 3) rfl; clear hc hd; go_simp; try with_reducible rfl)
    simp only [List.getElem_toArray, List.getElem_cons_zero, List.getElem_cons_succ, Act.put, List.setIfInBounds_toArray, List.set_cons_zero, List.set_cons_succ]
    refine wpAnyH_take (i := 3) (v := ?v16) rfl (by kernel_rfl) (by kernel_rfl) (by kernel_rfl) (fun _ _ _ h => h) (Or.inl ⟨by rfl, ?y16⟩) hHeld ?r16
    case y16 => (intro w hSw; obtain ⟨hc, hd, hn⟩ := hSw; have c0 := hc.cell (i := 0) rfl; have c1 := hc.cell (i := 1) rfl; have c2 := hc.cell (i := 2) rfl; have c3 := hc.cell (i := 3) rfl; have d0 := hd.cell (i := 0) rfl; have d1 := hd.cell (i := 1) rfl; have d2 := hd.cell (i := 2) rfl; have d3 := hd.cell (i := 3) rfl; clear hc hd; go_simp; try with_reducible rfl)
    simp only [List.getElem_toArray, List.getElem_cons_zero, List.getElem_cons_succ, Act.put, List.setIfInBounds_toArray, List.set_cons_zero, List.set_cons_succ]
    refine wpAnyH_take (i := 4) (v := ?v17) rfl (by kernel_rfl) (by kernel_rfl) (by kernel_rfl) (fun _ _ _ h => h) (Or.inl ⟨by rfl, ?y17⟩) hHeld ?r17
    case y17 => (intro w hSw; obtain ⟨hc, hd, hn⟩ := hSw; have c0 := hc.cell (i := 0) rfl; have c1 := hc.cell (i := 1) rfl; have c2 := hc.cell (i := 2) rfl; have c3 := hc.cell (i := 3) rfl; have d0 := hd.cell (i := 0) rfl; have d1 := hd.cell (i := 1) rfl; have d2 := hd.cell (i := 2) rfl; have d3 := hd.cell (i := 3) rfl; clear hc hd; go_simp; try with_reducible rfl)
    simp only [List.getElem_toArray, List.getElem_cons_zero, List.getElem_cons_succ, Act.put, List.setIfInBounds_toArray, List.set_cons_zero, List.set_cons_succ]
    refine wpAnyH_take (i := 5) (v := ?v18) rfl (by kernel_rfl) (by kernel_rfl) (by kernel_rfl) (fun _ _ _ h => h) (Or.inl ⟨by rfl, ?y18⟩) hHeld ?r18
    case y18 => (intro w hSw; obtain ⟨hc, hd, hn⟩ := hSw; have c0 := hc.cell (i := 0) rfl; have c1 := hc.cell (i := 1) rfl; have c2 := hc.cell (i := 2) rfl; have c3 := hc.cell (i := 3) rfl; have d0 := hd.cell (i := 0) rfl; have d1 := hd.cell (i := 1) rfl; have d2 := hd.cell (i := 2) rfl; have d3 := hd.cell (i := 3) rfl; clear hc hd; go_simp; try with_reducible rfl)
    simp only [List.getElem_toArray, List.getElem_cons_zero, List.getElem_cons_succ, Act.put, List.setIfInBounds_toArray, List.set_cons_zero, List.set_cons_succ]
    refine wpAnyH_take (i := 6) (v := ?v19) rfl (by kernel_rfl) (by kernel_rfl) (by kernel_rfl) (fun _ _ _ h => h) (Or.inl ⟨by rfl, ?y19⟩) hHeld ?r19
    case y19 => (intro w hSw; obtain ⟨hc, hd, hn⟩ := hSw; have c0 := hc.cell (i := 0) rfl; have c1 := hc.cell (i := 1) rfl; have c2 := hc.cell (i := 2) rfl; have c3 := hc.cell (i := 3) rfl; have d0 := hd.cell (i := 0) rfl; have d1 := hd.cell (i := 1) rfl; have d2 := hd.cell (i := 2) rfl; have d3 := hd.cell (i := 3) rfl; clear hc hd; go_simp; try with_reducible rfl)
    simp only [List.getElem_toArray, List.getElem_cons_zero, List.getElem_cons_succ, Act.put, List.setIfInBounds_toArray, List.set_cons_zero, List.set_cons_succ]
    refine wpAnyH_ready (rs := [7]) (by kernel_rfl) (by simp) (AllReadyH.cons rfl (fun K hK => ?_) AllReadyH.nil)
    go_simp
    refine (find_any T R L a5 c5 (less l ix) t.1 _ (show Tps W8.drew.heap.size W8.drew a5 (less l ix) from T8.out) (by have := less_len hix; omega)).mono ?_
    rintro e Wq ⟨rfl, hbq⟩
    rw [HM.out.2.2.2.2.2]
    have Xq := Lib.hid (X8.out.dr.next hbq)
    have hFq := Lib.hid ((show Blk W8.drew F _ from F8.out).low hbq)
    have hDq := (show Blk W8.drew D _ from D8.out).low hbq
    have nq3 := (hbq.cell (p := ⟨b, off + ix * 3, none⟩) hbl3).trans u0
    clear hbq
    go_wp2_with fail
    refine hK.out _ _ (⟨Xq.out.1, hDq, nq3⟩) (fun hHeld => ?_)
    clear hK K
    refine wpAnyH_take (i := 8) (v := ?v21) rfl (by kernel_rfl) (by kernel_rfl) (by kernel_rfl) (fun _ _ _ h => h) (Or.inl ⟨by rfl, ?y21⟩) hHeld ?r21
    case y21 => (intro w hSw; obtain ⟨hc, hd, hn⟩ := hSw; have c0 := hc.cell (i := 0) rfl; have c1 := hc.cell (i := 1) rfl; have c2 := hc.cell (i := 2) rfl; have c3 := hc.cell (i := 3) rfl; have d0 := hd.cell (i := 0) rfl; have d1 := hd.cell (i := 1) rfl; have d2 := hd.cell (i := 2) rfl; have d3 := hd.cell (i := 3) rfl; clear hc hd; go_simp; try with_reducible rfl)
    simp only [List.getElem_toArray, List.getElem_cons_zero, List.getElem_cons_succ, Act.put, List.setIfInBounds_toArray, List.set_cons_zero, List.set_cons_succ]
    refine wpAnyH_take (i := 9) (v := ?v22) rfl (by kernel_rfl) (by kernel_rfl) (by kernel_rfl) (fun _ _ _ h => h) (Or.inl ⟨by rfl, ?y22⟩) hHeld ?r22
    case y22 => (intro w hSw; obtain ⟨hc, hd, hn⟩ := hSw; have c0 := hc.cell (i := 0) rfl; have c1 := hc.cell (i := 1) rfl; have c2 := hc.cell (i := 2) rfl; have c3 := hc.cell (i := 3) rfl; have d0 := hd.cell (i := 0) rfl; have d1 := hd.cell (i := 1) rfl; have d2 := hd.cell (i := 2) rfl; have d3 := hd.cell (i := 3) rfl; clear hc hd; go_simp; try with_reducible rfl)
    simp only [List.getElem_toArray, List.getElem_cons_zero, List.getElem_cons_succ, Act.put, List.setIfInBounds_toArray, List.set_cons_zero, List.set_cons_succ]
    refine wpAnyH_take (i := 10) (v := ?v23) rfl (by kernel_rfl) (by kernel_rfl) (by kernel_rfl) (fun _ _ _ h => h) (Or.inl ⟨by rfl, ?y23⟩) hHeld ?r23
    case y23 => (intro w hSw; obtain ⟨hc, hd, hn⟩ := hSw; have c0 := hc.cell (i := 0) rfl; have c1 := hc.cell (i := 1) rfl; have c2 := hc.cell (i := 2) rfl; have c3 := hc.cell (i := 3) rfl; have d0 := hd.cell (i := 0) rfl; have d1 := hd.cell (i := 1) rfl; have d2 := hd.cell (i := 2) rfl; have d3 := hd.cell (i := 3) rfl; clear hc hd; go_simp; try with_reducible rfl)
    simp only [List.getElem_toArray, List.getElem_cons_zero, List.getElem_cons_succ, Act.put, List.setIfInBounds_toArray, List.set_cons_zero, List.set_cons_succ]
    refine wpAnyH_take (i := 11) (v := ?v24) rfl (by kernel_rfl) (by kernel_rfl) (by kernel_rfl) (fun _ _ _ h => h) (Or.inl ⟨by rfl, ?y24⟩) hHeld ?r24
    case y24 => (intro w hSw; obtain ⟨hc, hd, hn⟩ := hSw; have c0 := hc.cell (i := 0) rfl; have c1 := hc.cell (i := 1) rfl; have c2 := hc.cell (i := 2) rfl; have c3 := hc.cell (i := 3) rfl; have d0 := hd.cell (i := 0) rfl; have d1 := hd.cell (i := 1) rfl; have d2 := hd.cell (i := 2) rfl; have d3 := hd.cell (i := 3) rfl; clear hc hd; go_simp; try with_reducible rfl)
    simp only [List.getElem_toArray, List.getElem_cons_zero, List.getElem_cons_succ, Act.put, List.setIfInBounds_toArray, List.set_cons_zero, List.set_cons_succ]
    refine wpAnyH_done (by kernel_rfl) ?_ _
    clear u0 hbl3
    have c0 := Xq.out.1.cell (i := 0) rfl
    have c1 := Xq.out.1.cell (i := 1) rfl
    have c2 := Xq.out.1.cell (i := 2) rfl
    have c3 := Xq.out.1.cell (i := 3) rfl
    have na : ∀ (j : Nat) (u : Value), (tcl l)[j]? = some u → Wq.cell? ((⟨b, off, none⟩ : Addr).add j) = some u := fun j u hj => by
      rw [addr_plus]
      have := Xq.out.2.1.flat 0 l.length j u (by rw [List.drop_zero, List.take_of_length_le (Nat.le_refl _)]; exact hj)
      simpa using this
    have Na := Lib.hid na
    clear na nq3 hDq
    go_wp2_with (first | (at_builtin; refine wpList_append_own _ rfl _ _ 22 rfl Wq.heap.size 45 i0 (.agg #[.string ⟨#[]⟩, .int .i64 0, .int .i64 0]) 3 32 Tryd.underlying22 hi hz0 hz1 hz2 rfl (by decide) (.slice none 0 0) 0 [] rfl (World.ownsRow_nil _ _ _ _) ⟨b, off, none⟩ l.length cap (tcl l) rfl (tcl_len l) Na.out (tcl_one _) (Hml.out _ (by omega)) (by omega) (Nat.le_refl _) ?_; intro v6 Wr ho6 hg6 _; have hb6 : Below Wq.heap.size Wq Wr := (Below.refl _ _).grown hg6 (Nat.le_refl _) (fun q e => by cases e); have Xr := Lib.hid (Xq.out.next hb6); have e1 := Xr.out.1.cell (i := 1) rfl; obtain ⟨b4, off4, e4, _, p0, p1, p2⟩ := Xr.out.2.1 ix t HM.out.2.1; cases e4; clear c0 c1 c2 c3) | (at_builtin; refine wpList_append_own _ rfl _ _ 22 rfl Wq.heap.size 45 i0 (.agg #[.string ⟨#[]⟩, .int .i64 0, .int .i64 0]) 3 32 Tryd.underlying22 hi hz0 hz1 hz2 rfl (by decide) v6 (0 + l.length) ([] ++ tcl l) rfl (ho6.alloc _) ⟨Wr.heap.size, 0, none⟩ 1 1 (tcells t) rfl rfl (World.news_of_block (cs := #[.string t.1, .int .i64 t.2.1, .int .i64 t.2.2]) (t := 45) (fr := (0, 0)) (heap_alloc_new Wr _)) (by simp [tcells, Value.oneCell']) (Hml.out _ (by omega)) (by omega) (by have := hb6.size; simp; omega) ?_; intro v7 Ws ho7 hg7 _; have hb7 : Below Wq.heap.size Wq Ws := (hb6.alloc hb6.size _).grown hg7 (by have := hb6.size; simp; omega) (fun q e => (ho6.lt q e).1); have Xs := Lib.hid (Xq.out.next hb7); obtain ⟨a7, c7, rfl, hT7⟩ := owns_tps (owns_more ho7); have HT7 := Lib.hid hT7; have hFs := Lib.hid (hFq.out.low hb7); have f0 := Xs.out.1.cell (i := 0) rfl; have f1 := Xs.out.1.cell (i := 1) rfl; have f2 := Xs.out.1.cell (i := 2) rfl; have f3 := Xs.out.1.cell (i := 3) rfl; clear ho7 hg7 ho6 hg6 hb6 Xr e1 p0 p1 p2 hT7))
    have hX8 := Lib.hid (Xs.out.alloc (.cells #[.int .i64 T, .slice a7 (l.length + 1) c7, .int .i64 R, .int .i64 L] 24))
    have hT8 := Lib.hid (HT7.out.next ((Below.refl Ws.heap.size Ws).alloc (Nat.le_refl _) (.cells #[.int .i64 T, .slice a7 (l.length + 1) c7, .int .i64 R, .int .i64 L] 24)))
    have hF8 := Lib.hid (hFs.out.alloc (.cells #[.int .i64 T, .slice a7 (l.length + 1) c7, .int .i64 R, .int .i64 L] 24))
    clear f0 f1 f2 f3 Xs HT7 hFs hb7
    generalize Ws.alloc (.cells #[.int .i64 T, .slice a7 (l.length + 1) c7, .int .i64 R, .int .i64 L] 24) = Wt at *
    have hck := check_any T R L a7 c7 (l ++ [t]) Wt hT8.out (fun u hu => by
      rcases List.mem_append.1 hu with h | h
      · exact HS.out u h
      · obtain rfl : u = t := by simpa using h
        exact HS.out u (List.mem_of_getElem? HM.out.2.1))
    have hle : (l ++ [t]).length = l.length + 1 := by simp
    rw [hle] at hck
    refine hck.mono ?_
    clear hck hle
    rintro e Wv ⟨rfl, hbv⟩
    obtain ⟨x, y, hxy, hx1, hx2⟩ := more_two HM.out.1 HM.out.2.1
    rw [hxy]
    clear hxy
    have Xv := Lib.hid (hX8.out.next hbv)
    have hFv := hF8.out.low hbv
    have HBv := Lib.hid Xv.out.2.2.2
    have hml2 : ((l ++ [t]).length : Int) = (l.length : Int) + 1 := by simp
    clear hX8 hT8 hF8 hbv
    by_cases h64 : 64 < l.length + 1
    · exact absurd h64 (by omega)
    · have hq1 : (x == (l.length : Int)) = true := by rw [(hx2 h64).1]; simp
      have hq2 : (y == 15) = true := by rw [(hx2 h64).2]; rfl
      clear hx1 hx2
      have q64 : decide ((64 : Int) < ((l ++ [t]).length : Int)) = false := decide_eq_false (by rw [hml2]; omega)
      have q64' : decide ((64 : Int) < (l.length : Int) + 1) = false := decide_eq_false (by omega)
      have hF12 := Lib.hid ((hFv.put 0 (.int .i64 x)).put 1 (.int .i64 y))
      have XF : Hid (Bx w w.heap.size T R L (some ⟨b, off, none⟩) cap l ((Wv.setCell ⟨F, 0, none⟩ (.int .i64 x)).setCell ⟨F, 1, none⟩ (.int .i64 y))) := Lib.hid ⟨(Xv.out.1.setFar (p := ⟨F, 0, none⟩) (by show w.heap.size ≠ F; omega) _).setFar (p := ⟨F, 1, none⟩) (by show w.heap.size ≠ F; omega) _, (Xt.out.1.below ((HBv.out.setCell (p := ⟨F, 0, none⟩) (by show w.heap.size ≤ F; omega) (.int .i64 x)).setCell (p := ⟨F, 1, none⟩) (by show w.heap.size ≤ F; omega) (.int .i64 y))).mono (by have := HBv.out.size; simp [World.setCell]; omega), Xt.out.2.below ((HBv.out.setCell (p := ⟨F, 0, none⟩) (by show w.heap.size ≤ F; omega) (.int .i64 x)).setCell (p := ⟨F, 1, none⟩) (by show w.heap.size ≤ F; omega) (.int .i64 y)) Xt.out.2.lt, (HBv.out.setCell (p := ⟨F, 0, none⟩) (by show w.heap.size ≤ F; omega) (.int .i64 x)).setCell (p := ⟨F, 1, none⟩) (by show w.heap.size ≤ F; omega) (.int .i64 y)⟩
      have z0 := hFv.frozen 0
      have z1 := hFv.frozen 1
      have g0 := hFv.cell (i := 0) rfl
      have g1 := hFv.cell (i := 1) rfl
      have w0 := hF12.out.cell (i := 0) rfl
      have w1 := hF12.out.cell (i := 1) rfl
      have k1x := XF.out.1.cell (i := 1) rfl
      clear hFv Xv HBv
      go_wp2_with fail
      refine (awake_any _ XF.out.2.2.1).mono ?_
      rintro e Wz ⟨rfl, hbz⟩
      have hfin := Lib.hid (XF.out.next hbz).2.2.2
      clear hbz
      go_wp2
      go_ret
      exact ⟨rfl, hfin.out⟩

set_option maxRecDepth 100000 in
set_option maxHeartbeats 8000000 in
theorem less_end (T R L : Int) (a : Option Addr)  (l : List Tp) (ix : Nat) (t : Tp) (w : World) (hT : Tps w.heap.size w a l) (hM : ML w) (hcap : l.length ≤ (ix + 1))  (hf : few l = true) (hy : (chk T l R L).2 = 0) (hix : ix < l.length) (ht : l[ix]? = some t) :
    Calls Tryd.prog 9 #[cfg T a l.length (ix + 1) R L, .int .i64 ix] w (Ret (.bool true) w) := by
  have hs := few_size hf
  have hz := chk_zero hy
  have hl80 := (few_spec hf).1
  obtain ⟨i0, hi, hz0, hz1, hz2⟩ := info_parts info45
  have X0 := Lib.hid (Bx.new w T R L a (ix + 1) l hT hM)
  have c0 := X0.out.1.cell (i := 0) rfl
  have c1 := X0.out.1.cell (i := 1) rfl
  have c2 := X0.out.1.cell (i := 2) rfl
  have c3 := X0.out.1.cell (i := 3) rfl
  have HTW := Lib.hid (And.intro hT hM)
  obtain ⟨b, off, rfl, hbl, u0, u1, u2⟩ := hT ix t ht
  clear hM hT u0 u1 u2
  have k0 : decide ((ix : Int) < 0) = false := decide_eq_false (by omega)
  have k1 : decide ((l.length : Int) ≤ (ix : Int)) = false := decide_eq_false (by omega)
  have k2 : (ix : Int) < (l.length : Int) := by omega
  have heq : ∀ w, (Op.equalIn 10000 29 (.agg #[.int .i64 0, .int .i64 0]) (.agg #[.int .i64 0, .int .i64 0])).run Tryd.prog w = .ok true w := fun w => by
    rw [eq29]
    rfl
  obtain ⟨fi1, fi2⟩ := find_own hy ht
  have fi3 := find_less hy ht
  have HM := Lib.hid (And.intro hy (And.intro ht (And.intro hz (And.intro fi1 (And.intro fi2 fi3)))))
  have HS := Lib.hid hs
  clear hy ht hz fi1 fi2 fi3 hs
  go_enter Tryd.func9, Tryd.ntmps9
  go_wp2_with fail
  generalize w.alloc (.cells #[.int .i64 T, .slice (some ⟨b, off, none⟩) l.length (ix + 1), .int .i64 R, .int .i64 L] 24) = W at *
  refine (few_any T R L (some ⟨b, off, none⟩) (ix + 1) l W X0.out.2.1).mono ?_
  rintro e W1 ⟨rfl, hb1⟩
  rw [hf]
  have X1 := Lib.hid (X0.out.next hb1)
  clear X0 hb1 c0 c1 c2 c3 hf
  have c0 := X1.out.1.cell (i := 0) rfl
  have c1 := X1.out.1.cell (i := 1) rfl
  have c2 := X1.out.1.cell (i := 2) rfl
  have c3 := X1.out.1.cell (i := 3) rfl
  go_wp2_with fail
  refine (check_any T R L (some ⟨b, off, none⟩) (ix + 1) l W1 X1.out.2.1 HS.out).mono ?_
  rintro e W2 ⟨rfl, hb2⟩
  rw [HM.out.2.2.1]
  have X2 := Lib.hid (X1.out.next hb2)
  clear X1 hb2 c0 c1 c2 c3
  have c0 := X2.out.1.cell (i := 0) rfl
  have c1 := X2.out.1.cell (i := 1) rfl
  have c2 := X2.out.1.cell (i := 2) rfl
  have c3 := X2.out.1.cell (i := 3) rfl
  obtain ⟨b', off', e', hbl2, u0, u1, u2⟩ := X2.out.2.1 ix t HM.out.2.1
  cases e'
  go_wp2_with fail
  refine wp_region_held_drew (S := CN w.heap.size (cfl T (some ⟨b, off, none⟩) l.length (ix + 1) R L) ⟨b, off + ix * 3, none⟩ t.1) (by kernel_rfl) (⟨X2.out.1, u0⟩) (fun hHeld => ?_)
  refine wpAnyH_take (i := 0) (v := ?v62) rfl (by kernel_rfl) (by kernel_rfl) (by kernel_rfl) (fun _ _ _ h => h) (Or.inl ⟨by rfl, ?y62⟩) hHeld ?r62
  case y62 => (intro w hSw; obtain ⟨hc, hn⟩ := hSw; have c0 := hc.cell (i := 0) rfl; have c1 := hc.cell (i := 1) rfl; have c2 := hc.cell (i := 2) rfl; have c3 := hc.cell (i := 3) rfl; clear hc; go_simp; try with_reducible rfl)
  simp only [List.getElem_toArray, List.getElem_cons_zero, Act.put, List.setIfInBounds_toArray, List.set_cons_zero, List.set_cons_succ]
  refine wpAnyH_take (i := 1) (v := ?v63) rfl (by kernel_rfl) (by kernel_rfl) (by kernel_rfl) (fun _ _ _ h => h) (Or.inl ⟨by rfl, ?y63⟩) hHeld ?r63
  case y63 => (intro w hSw; obtain ⟨hc, hn⟩ := hSw; have c0 := hc.cell (i := 0) rfl; have c1 := hc.cell (i := 1) rfl; have c2 := hc.cell (i := 2) rfl; have c3 := hc.cell (i := 3) rfl; clear hc; go_simp; try with_reducible rfl)
  simp only [List.getElem_toArray, List.getElem_cons_zero, List.getElem_cons_succ, Act.put, List.setIfInBounds_toArray, List.set_cons_zero, List.set_cons_succ]
  refine wpAnyH_take (i := 2) (v := ?v64) rfl (by kernel_rfl) (by kernel_rfl) (by kernel_rfl) (fun _ _ _ h => h) (Or.inl ⟨by rfl, ?y64⟩) hHeld ?r64
  case y64 => (intro w hSw; obtain ⟨hc, hn⟩ := hSw; have c0 := hc.cell (i := 0) rfl; have c1 := hc.cell (i := 1) rfl; have c2 := hc.cell (i := 2) rfl; have c3 := hc.cell (i := 3) rfl; clear hc; go_simp; try with_reducible rfl)
  simp only [List.getElem_toArray, List.getElem_cons_zero, List.getElem_cons_succ, Act.put, List.setIfInBounds_toArray, List.set_cons_zero, List.set_cons_succ]
  refine wpAnyH_take (i := 3) (v := ?v65) rfl (by kernel_rfl) (by kernel_rfl) (by kernel_rfl) (fun _ _ _ h => h) (Or.inl ⟨by rfl, ?y65⟩) hHeld ?r65
  case y65 => (intro w hSw; obtain ⟨hc, hn⟩ := hSw; have c0 := hc.cell (i := 0) rfl; have c1 := hc.cell (i := 1) rfl; have c2 := hc.cell (i := 2) rfl; have c3 := hc.cell (i := 3) rfl; clear hc; go_simp; try with_reducible rfl)
  simp only [List.getElem_toArray, List.getElem_cons_zero, List.getElem_cons_succ, Act.put, List.setIfInBounds_toArray, List.set_cons_zero, List.set_cons_succ]
  refine wpAnyH_take (i := 4) (v := ?v66) rfl (by kernel_rfl) (by kernel_rfl) (by kernel_rfl) (fun _ _ _ h => h) (Or.inl ⟨by rfl, ?y66⟩) hHeld ?r66
  case y66 => (intro w hSw; obtain ⟨hc, hn⟩ := hSw; have c0 := hc.cell (i := 0) rfl; have c1 := hc.cell (i := 1) rfl; have c2 := hc.cell (i := 2) rfl; have c3 := hc.cell (i := 3) rfl; clear hc; go_simp; try with_reducible rfl)
  simp only [List.getElem_toArray, List.getElem_cons_zero, List.getElem_cons_succ, Act.put, List.setIfInBounds_toArray, List.set_cons_zero, List.set_cons_succ]
  refine wpAnyH_take (i := 5) (v := ?v67) rfl (by kernel_rfl) (by kernel_rfl) (by kernel_rfl) (fun _ _ _ h => h) (Or.inl ⟨by rfl, ?y67⟩) hHeld ?r67
  case y67 => (intro w hSw; obtain ⟨hc, hn⟩ := hSw; have c0 := hc.cell (i := 0) rfl; have c1 := hc.cell (i := 1) rfl; have c2 := hc.cell (i := 2) rfl; have c3 := hc.cell (i := 3) rfl; clear hc; go_simp; try with_reducible rfl)
  simp only [List.getElem_toArray, List.getElem_cons_zero, List.getElem_cons_succ, Act.put, List.setIfInBounds_toArray, List.set_cons_zero, List.set_cons_succ]
  refine wpAnyH_take (i := 6) (v := ?v68) rfl (by kernel_rfl) (by kernel_rfl) (by kernel_rfl) (fun _ _ _ h => h) (Or.inl ⟨by rfl, ?y68⟩) hHeld ?r68
  case y68 => (intro w hSw; obtain ⟨hc, hn⟩ := hSw; have c0 := hc.cell (i := 0) rfl; have c1 := hc.cell (i := 1) rfl; have c2 := hc.cell (i := 2) rfl; have c3 := hc.cell (i := 3) rfl; clear hc; go_simp; try with_reducible rfl)
  simp only [List.getElem_toArray, List.getElem_cons_zero, List.getElem_cons_succ, Act.put, List.setIfInBounds_toArray, List.set_cons_zero, List.set_cons_succ]
  refine wpAnyH_ready (rs := [7]) (by kernel_rfl) (by simp) (AllReadyH.cons rfl (fun K hK => ?_) AllReadyH.nil)
  go_simp
  refine (find_any T R L (some ⟨b, off, none⟩) (ix + 1) l t.1 _ (show Tps W2.drew.heap.size W2.drew (some ⟨b, off, none⟩) l from X2.out.2.1) (by omega)).mono ?_
  rintro e W3 ⟨rfl, hb3⟩
  rw [HM.out.2.2.2.1, HM.out.2.2.2.2.1]
  have X3 := Lib.hid (X2.out.dr.next hb3)
  have n3 := (hb3.cell (p := ⟨b, off + ix * 3, none⟩) hbl2).trans u0
  clear hb3
  go_wp2_with fail
  refine hK.out _ _ (⟨X3.out.1, n3⟩) (fun hHeld => ?_)
  clear hK K
  refine wpAnyH_take (i := 8) (v := ?v70) rfl (by kernel_rfl) (by kernel_rfl) (by kernel_rfl) (fun _ _ _ h => h) (Or.inl ⟨by rfl, ?y70⟩) hHeld ?r70
  case y70 => (intro w hSw; obtain ⟨hc, hn⟩ := hSw; have c0 := hc.cell (i := 0) rfl; have c1 := hc.cell (i := 1) rfl; have c2 := hc.cell (i := 2) rfl; have c3 := hc.cell (i := 3) rfl; clear hc; go_simp; try with_reducible rfl)
  simp only [List.getElem_toArray, List.getElem_cons_zero, List.getElem_cons_succ, Act.put, List.setIfInBounds_toArray, List.set_cons_zero, List.set_cons_succ]
  refine wpAnyH_take (i := 9) (v := ?v71) rfl (by kernel_rfl) (by kernel_rfl) (by kernel_rfl) (fun _ _ _ h => h) (Or.inl ⟨by rfl, ?y71⟩) hHeld ?r71
  case y71 => (intro w hSw; obtain ⟨hc, hn⟩ := hSw; have c0 := hc.cell (i := 0) rfl; have c1 := hc.cell (i := 1) rfl; have c2 := hc.cell (i := 2) rfl; have c3 := hc.cell (i := 3) rfl; clear hc; go_simp; try with_reducible rfl)
  simp only [List.getElem_toArray, List.getElem_cons_zero, List.getElem_cons_succ, Act.put, List.setIfInBounds_toArray, List.set_cons_zero, List.set_cons_succ]
  refine wpAnyH_take (i := 10) (v := ?v72) rfl (by kernel_rfl) (by kernel_rfl) (by kernel_rfl) (fun _ _ _ h => h) (Or.inl ⟨by rfl, ?y72⟩) hHeld ?r72
  case y72 => (intro w hSw; obtain ⟨hc, hn⟩ := hSw; have c0 := hc.cell (i := 0) rfl; have c1 := hc.cell (i := 1) rfl; have c2 := hc.cell (i := 2) rfl; have c3 := hc.cell (i := 3) rfl; clear hc; go_simp; try with_reducible rfl)
  simp only [List.getElem_toArray, List.getElem_cons_zero, List.getElem_cons_succ, Act.put, List.setIfInBounds_toArray, List.set_cons_zero, List.set_cons_succ]
  refine wpAnyH_take (i := 11) (v := ?v73) rfl (by kernel_rfl) (by kernel_rfl) (by kernel_rfl) (fun _ _ _ h => h) (Or.inl ⟨by rfl, ?y73⟩) hHeld ?r73
  case y73 => (intro w hSw; obtain ⟨hc, hn⟩ := hSw; have c0 := hc.cell (i := 0) rfl; have c1 := hc.cell (i := 1) rfl; have c2 := hc.cell (i := 2) rfl; have c3 := hc.cell (i := 3) rfl; clear hc; go_simp; try with_reducible rfl)
  simp only [List.getElem_toArray, List.getElem_cons_zero, List.getElem_cons_succ, Act.put, List.setIfInBounds_toArray, List.set_cons_zero, List.set_cons_succ]
  refine wpAnyH_take (i := 12) (v := ?v74) rfl (by kernel_rfl) (by kernel_rfl) (by kernel_rfl) (fun _ _ _ h => h) (Or.inl ⟨by rfl, ?y74⟩) hHeld ?r74
  case y74 => (intro w hSw; obtain ⟨hc, hn⟩ := hSw; have c0 := hc.cell (i := 0) rfl; have c1 := hc.cell (i := 1) rfl; have c2 := hc.cell (i := 2) rfl; have c3 := hc.cell (i := 3) rfl; clear hc; go_simp; try with_reducible rfl)
  simp only [List.getElem_toArray, List.getElem_cons_zero, List.getElem_cons_succ, Act.put, List.setIfInBounds_toArray, List.set_cons_zero, List.set_cons_succ]
  refine wpAnyH_done (by kernel_rfl) ?_ _
  clear c0 c1 c2 c3 u0 u1 u2 hbl2 X2
  have c0 := X3.out.1.cell (i := 0) rfl
  have c1 := X3.out.1.cell (i := 1) rfl
  have c2 := X3.out.1.cell (i := 2) rfl
  have c3 := X3.out.1.cell (i := 3) rfl
  have n1 : ∀ (j : Nat) (u : Value), (tcl (l.take ix))[j]? = some u → W3.cell? ((⟨b, off, none⟩ : Addr).add j) = some u := fun j u hj => by
    rw [addr_plus]
    have := X3.out.2.1.flat 0 ix j u (by simpa using hj)
    simpa using this
  have N1 := Lib.hid n1
  have n2f : ∀ W : World, Tps W.heap.size W (some ⟨b, off, none⟩) l → ∀ (j : Nat) (u : Value), (tcl (l.drop (ix + 1)))[j]? = some u → W.cell? ((⟨b, off, none⟩ : Addr).add j) = some u := fun W hW j u hj => by
    rw [List.drop_of_length_le (by omega)] at hj
    simp [tcl] at hj
  have N2f := Lib.hid n2f
  clear n2f
  have hlt : (tcl (l.take ix)).length = ix * 3 := by rw [tcl_len, List.length_take]; omega
  have hl2 : (tcl (l.drop (ix + 1))).length = 0 * 3 := by rw [tcl_len, List.length_drop]; omega
  have hic : (ix : Int) ≤ ((ix + 1) : Nat) := by omega
  have hic2 : (ix : Int) + 1 ≤ (l.length : Int) := by omega
  have hic3 : (l.length : Int) ≤ (((ix + 1) : Nat) : Int) := by omega
  have hml : ∀ m, m ≤ 100 → m ≤ maxLen := fun m hm => Nat.le_trans hm (by decide)
  have Hml := Lib.hid hml
  have Hlt := Lib.hid hlt
  have Hl2 := Lib.hid hl2
  clear hml hlt hl2 n1 n3
  go_wp2_with (first | (at_builtin; refine wpList_append_own _ rfl _ _ 22 rfl W3.heap.size 45 i0 (.agg #[.string ⟨#[]⟩, .int .i64 0, .int .i64 0]) 3 32 Tryd.underlying22 hi hz0 hz1 hz2 rfl (by decide) (.slice none 0 0) 0 [] rfl (World.ownsRow_nil _ _ _ _) ⟨b, off, none⟩ ix (ix + 1) (tcl (l.take ix)) rfl Hlt.out N1.out (tcl_one _) (Hml.out _ (by omega)) (by omega) (Nat.le_refl _) ?_; intro v4 W4 ho4 hg4 _; have hb4 : Below W3.heap.size W3 W4 := (Below.refl _ _).grown hg4 (Nat.le_refl _) (fun q e => by cases e); have X4 := Lib.hid (X3.out.next hb4); have e1 := X4.out.1.cell (i := 1) rfl; have N2 := N2f.out W4 X4.out.2.1; clear c0 c1 c2 c3) | (at_builtin; refine wpList_append_own _ rfl _ _ 22 rfl W3.heap.size 45 i0 (.agg #[.string ⟨#[]⟩, .int .i64 0, .int .i64 0]) 3 32 Tryd.underlying22 hi hz0 hz1 hz2 rfl (by decide) v4 (0 + ix) ([] ++ tcl (l.take ix)) rfl ho4 ⟨b, off, none⟩ _ _ (tcl (l.drop (ix + 1))) rfl Hl2.out N2 (tcl_one _) (Hml.out _ (by omega)) (by omega) hb4.size ?_; intro v5 W5 ho5 hg5 _; have hb5 : Below W3.heap.size W3 W5 := hb4.grown hg5 hb4.size (fun q e => (ho4.lt q e).1); have X5 := Lib.hid (X3.out.next hb5); obtain ⟨a5, c5, rfl, hT5⟩ := owns_tps (owns_less hix (by rw [show l.length - (ix + 1) = 0 by omega]; exact ho5)); have HT5 := Lib.hid hT5; have f0 := X5.out.1.cell (i := 0) rfl; have f1 := X5.out.1.cell (i := 1) rfl; have f2 := X5.out.1.cell (i := 2) rfl; have f3 := X5.out.1.cell (i := 3) rfl; clear ho5 hg5 ho4 hg4 hb4 X4 e1 N2 hT5))
  
  have X6 := Lib.hid (X5.out.alloc (.cells #[.int .i64 T, .slice a5 (less l ix).length c5, .int .i64 R, .int .i64 L] 24))
  have D6 := Lib.hid (Blk.new W5 #[.int .i64 T, .slice a5 (less l ix).length c5, .int .i64 R, .int .i64 L] 24)
  have T6 := Lib.hid (HT5.out.next ((Below.refl W5.heap.size W5).alloc (Nat.le_refl _) (.cells #[.int .i64 T, .slice a5 (less l ix).length c5, .int .i64 R, .int .i64 L] 24)))
  clear f0 f1 f2 f3 X5 HT5 hb5 N1 N2f Hlt Hl2 X3
  generalize hDE : W5.heap.size = D at *
  generalize W5.alloc (.cells #[.int .i64 T, .slice a5 (less l ix).length c5, .int .i64 R, .int .i64 L] 24) = W6 at *
  clear hDE
  refine (check_any T R L a5 c5 (less l ix) W6 T6.out (fun u hu => HS.out u (mem_less hu))).mono ?_
  rintro e W7 ⟨rfl, hb7⟩
  by_cases h2 : 2 ≤ l.length
  · rw [less_chk HM.out.1 hix h2]
    have X8 := Lib.hid ((X6.out.next hb7).alloc (.cells #[.int .i64 0, .int .i64 0] 29))
    have D8 := Lib.hid ((D6.out.low hb7).alloc (.cells #[.int .i64 0, .int .i64 0] 29))
    have T8 := Lib.hid ((T6.out.next hb7).next ((Below.refl W7.heap.size W7).alloc (Nat.le_refl _) (.cells #[.int .i64 0, .int .i64 0] 29)))
    have F8 := Lib.hid (Blk.new W7 #[.int .i64 0, .int .i64 0] 29)
    have hFC : w.heap.size < W7.heap.size := (X6.out.next hb7).1.lt
    clear X6 D6 T6 hb7
    generalize hFE : W7.heap.size = F at *
    have c0 := X8.out.1.cell (i := 0) rfl
    have c1 := X8.out.1.cell (i := 1) rfl
    have c2 := X8.out.1.cell (i := 2) rfl
    have c3 := X8.out.1.cell (i := 3) rfl
    have d0 := D8.out.cell (i := 0) rfl
    have d1 := D8.out.cell (i := 1) rfl
    have d2 := D8.out.cell (i := 2) rfl
    have d3 := D8.out.cell (i := 3) rfl
    have f0 := F8.out.cell (i := 0) rfl
    have f1 := F8.out.cell (i := 1) rfl
    have nz : (((less l ix).length : Int) == 0) = false := by
      rw [beq_eq_false_iff_ne]
      have := less_len hix
      omega
    go_wp2_with fail
    generalize W7.alloc (.cells #[.int .i64 0, .int .i64 0] 29) = W8 at *
    clear hFE
    refine (same_any T R L T R L (some ⟨b, off, none⟩) a5 (ix + 1) c5 l (less l ix) W8 X8.out.2.1 T8.out (by omega)).mono ?_
    rintro e W9 ⟨rfl, hb9⟩
    rw [same_less hix]
    have X9 := Lib.hid (X8.out.next hb9)
    have D9 := Lib.hid (D8.out.low hb9)
    have T9 := Lib.hid (T8.out.next hb9)
    have F9 := Lib.hid (F8.out.low hb9)
    have Xt := Lib.hid (And.intro HTW.out.1 HTW.out.2)
    clear X8 D8 T8 F8 hb9 c0 c1 c2 c3 d0 d1 d2 d3 f0 f1 nz
    obtain ⟨b3, off3, e3, hbl3, u0, _, _⟩ := X9.out.2.1 ix t HM.out.2.1
    cases e3
    go_wp2_with fail
    refine wp_region_held_drew (S := CDN w.heap.size D (cfl T (some ⟨b, off, none⟩) l.length (ix + 1) R L) (cfl T a5 (less l ix).length c5 R L) ⟨b, off + ix * 3, none⟩ t.1) (by kernel_rfl) (⟨X9.out.1, D9.out, u0⟩) (fun hHeld => ?_)
    refine wpAnyH_take (i := 0) (v := ?v38) rfl (by kernel_rfl) (by kernel_rfl) (by kernel_rfl) (fun _ _ _ h => h) (Or.inl ⟨by rfl, ?y38⟩) hHeld ?r38
    case y38 => (intro w hSw; obtain ⟨hc, hd, hn⟩ := hSw; have c0 := hc.cell (i := 0) rfl; have c1 := hc.cell (i := 1) rfl; have c2 := hc.cell (i := 2) rfl; have c3 := hc.cell (i := 3) rfl; have d0 := hd.cell (i := 0) rfl; have d1 := hd.cell (i := 1) rfl; have d2 := hd.cell (i := 2) rfl; have d3 := hd.cell (i := 3) rfl; clear hc hd; go_simp; try with_reducible rfl)
    simp only [List.getElem_toArray, List.getElem_cons_zero, Act.put, List.setIfInBounds_toArray, List.set_cons_zero, List.set_cons_succ]
    refine wpAnyH_take (i := 1) (v := ?v39) rfl (by kernel_rfl) (by kernel_rfl) (by kernel_rfl) (fun _ _ _ h => h) (Or.inl ⟨by rfl, ?y39⟩) hHeld ?r39
    case y39 => (intro w hSw; obtain ⟨hc, hd, hn⟩ := hSw; have c0 := hc.cell (i := 0) rfl; have c1 := hc.cell (i := 1) rfl; have c2 := hc.cell (i := 2) rfl; have c3 := hc.cell (i := 3) rfl; have d0 := hd.cell (i := 0) rfl; have d1 := hd.cell (i := 1) rfl; have d2 := hd.cell (i := 2) rfl; have d3 := hd.cell (i := 3) rfl; clear hc hd; go_simp; try with_reducible rfl)
    simp only [List.getElem_toArray, List.getElem_cons_zero, List.getElem_cons_succ, Act.put, List.setIfInBounds_toArray, List.set_cons_zero, List.set_cons_succ]
    refine wpAnyH_take (i := 2) (v := ?v40) rfl (by kernel_rfl) (by kernel_rfl) (by kernel_rfl) (fun _ _ _ h => h) (Or.inl ⟨by rfl, ?y40⟩) hHeld ?r40
    case y40 => (intro w hSw; obtain ⟨hc, hd, hn⟩ := hSw; have c0 := hc.cell (i := 0) rfl; have c1 := hc.cell (i := 1) rfl; have c2 := hc.cell (i := 2) rfl; have c3 := hc.cell (i := 3) rfl; have d0 := hd.cell (i := 0) rfl; have d1 := hd.cell (i := 1) rfl; have d2 := hd.cell (i := 2) rfl; have d3 := hd.cell (i := 3) rfl; clear hc hd; go_simp; try with_reducible rfl)
    simp only [List.getElem_toArray, List.getElem_cons_zero, List.getElem_cons_succ, Act.put, List.setIfInBounds_toArray, List.set_cons_zero, List.set_cons_succ]
    refine wpAnyH_take (i := 3) (v := ?v41) rfl (by kernel_rfl) (by kernel_rfl) (by kernel_rfl) (fun _ _ _ h => h) (Or.inl ⟨by rfl, ?y41⟩) hHeld ?r41
    case y41 => (intro w hSw; obtain ⟨hc, hd, hn⟩ := hSw; have c0 := hc.cell (i := 0) rfl; have c1 := hc.cell (i := 1) rfl; have c2 := hc.cell (i := 2) rfl; have c3 := hc.cell (i := 3) rfl; have d0 := hd.cell (i := 0) rfl; have d1 := hd.cell (i := 1) rfl; have d2 := hd.cell (i := 2) rfl; have d3 := hd.cell (i := 3) rfl; clear hc hd; go_simp; try with_reducible rfl)
    simp only [List.getElem_toArray, List.getElem_cons_zero, List.getElem_cons_succ, Act.put, List.setIfInBounds_toArray, List.set_cons_zero, List.set_cons_succ]
    refine wpAnyH_take (i := 4) (v := ?v42) rfl (by kernel_rfl) (by kernel_rfl) (by kernel_rfl) (fun _ _ _ h => h) (Or.inl ⟨by rfl, ?y42⟩) hHeld ?r42
    case y42 => (intro w hSw; obtain ⟨hc, hd, hn⟩ := hSw; have c0 := hc.cell (i := 0) rfl; have c1 := hc.cell (i := 1) rfl; have c2 := hc.cell (i := 2) rfl; have c3 := hc.cell (i := 3) rfl; have d0 := hd.cell (i := 0) rfl; have d1 := hd.cell (i := 1) rfl; have d2 := hd.cell (i := 2) rfl; have d3 := hd.cell (i := 3) rfl; clear hc hd; go_simp; try with_reducible rfl)
    simp only [List.getElem_toArray, List.getElem_cons_zero, List.getElem_cons_succ, Act.put, List.setIfInBounds_toArray, List.set_cons_zero, List.set_cons_succ]
    refine wpAnyH_take (i := 5) (v := ?v43) rfl (by kernel_rfl) (by kernel_rfl) (by kernel_rfl) (fun _ _ _ h => h) (Or.inl ⟨by rfl, ?y43⟩) hHeld ?r43
    case y43 => (intro w hSw; obtain ⟨hc, hd, hn⟩ := hSw; have c0 := hc.cell (i := 0) rfl; have c1 := hc.cell (i := 1) rfl; have c2 := hc.cell (i := 2) rfl; have c3 := hc.cell (i := 3) rfl; have d0 := hd.cell (i := 0) rfl; have d1 := hd.cell (i := 1) rfl; have d2 := hd.cell (i := 2) rfl; have d3 := hd.cell (i := 3) rfl; clear hc hd; go_simp; try with_reducible rfl)
    simp only [List.getElem_toArray, List.getElem_cons_zero, List.getElem_cons_succ, Act.put, List.setIfInBounds_toArray, List.set_cons_zero, List.set_cons_succ]
    refine wpAnyH_take (i := 6) (v := ?v44) rfl (by kernel_rfl) (by kernel_rfl) (by kernel_rfl) (fun _ _ _ h => h) (Or.inl ⟨by rfl, ?y44⟩) hHeld ?r44
    case y44 => (intro w hSw; obtain ⟨hc, hd, hn⟩ := hSw; have c0 := hc.cell (i := 0) rfl; have c1 := hc.cell (i := 1) rfl; have c2 := hc.cell (i := 2) rfl; have c3 := hc.cell (i := 3) rfl; have d0 := hd.cell (i := 0) rfl; have d1 := hd.cell (i := 1) rfl; have d2 := hd.cell (i := 2) rfl; have d3 := hd.cell (i := 3) rfl; clear hc hd; go_simp; try with_reducible rfl)
    simp only [List.getElem_toArray, List.getElem_cons_zero, List.getElem_cons_succ, Act.put, List.setIfInBounds_toArray, List.set_cons_zero, List.set_cons_succ]
    refine wpAnyH_ready (rs := [7]) (by kernel_rfl) (by simp) (AllReadyH.cons rfl (fun K hK => ?_) AllReadyH.nil)
    go_simp
    refine (find_any T R L a5 c5 (less l ix) t.1 _ (show Tps W9.drew.heap.size W9.drew a5 (less l ix) from T9.out) (by have := less_len hix; omega)).mono ?_
    rintro e Wq ⟨rfl, hbq⟩
    rw [HM.out.2.2.2.2.2]
    have Xq := Lib.hid (X9.out.dr.next hbq)
    have hFq := Lib.hid ((show Blk W9.drew F _ from F9.out).low hbq)
    have hDq := (show Blk W9.drew D _ from D9.out).low hbq
    have nq3 := (hbq.cell (p := ⟨b, off + ix * 3, none⟩) hbl3).trans u0
    clear hbq
    go_wp2_with fail
    refine hK.out _ _ (⟨Xq.out.1, hDq, nq3⟩) (fun hHeld => ?_)
    clear hK K
    refine wpAnyH_take (i := 8) (v := ?v46) rfl (by kernel_rfl) (by kernel_rfl) (by kernel_rfl) (fun _ _ _ h => h) (Or.inl ⟨by rfl, ?y46⟩) hHeld ?r46
    case y46 => (intro w hSw; obtain ⟨hc, hd, hn⟩ := hSw; have c0 := hc.cell (i := 0) rfl; have c1 := hc.cell (i := 1) rfl; have c2 := hc.cell (i := 2) rfl; have c3 := hc.cell (i := 3) rfl; have d0 := hd.cell (i := 0) rfl; have d1 := hd.cell (i := 1) rfl; have d2 := hd.cell (i := 2) rfl; have d3 := hd.cell (i := 3) rfl; clear hc hd; go_simp; try with_reducible rfl)
    simp only [List.getElem_toArray, List.getElem_cons_zero, List.getElem_cons_succ, Act.put, List.setIfInBounds_toArray, List.set_cons_zero, List.set_cons_succ]
    refine wpAnyH_take (i := 9) (v := ?v47) rfl (by kernel_rfl) (by kernel_rfl) (by kernel_rfl) (fun _ _ _ h => h) (Or.inl ⟨by rfl, ?y47⟩) hHeld ?r47
    case y47 => (intro w hSw; obtain ⟨hc, hd, hn⟩ := hSw; have c0 := hc.cell (i := 0) rfl; have c1 := hc.cell (i := 1) rfl; have c2 := hc.cell (i := 2) rfl; have c3 := hc.cell (i := 3) rfl; have d0 := hd.cell (i := 0) rfl; have d1 := hd.cell (i := 1) rfl; have d2 := hd.cell (i := 2) rfl; have d3 := hd.cell (i := 3) rfl; clear hc hd; go_simp; try with_reducible rfl)
    simp only [List.getElem_toArray, List.getElem_cons_zero, List.getElem_cons_succ, Act.put, List.setIfInBounds_toArray, List.set_cons_zero, List.set_cons_succ]
    refine wpAnyH_take (i := 10) (v := ?v48) rfl (by kernel_rfl) (by kernel_rfl) (by kernel_rfl) (fun _ _ _ h => h) (Or.inl ⟨by rfl, ?y48⟩) hHeld ?r48
    case y48 => (intro w hSw; obtain ⟨hc, hd, hn⟩ := hSw; have c0 := hc.cell (i := 0) rfl; have c1 := hc.cell (i := 1) rfl; have c2 := hc.cell (i := 2) rfl; have c3 := hc.cell (i := 3) rfl; have d0 := hd.cell (i := 0) rfl; have d1 := hd.cell (i := 1) rfl; have d2 := hd.cell (i := 2) rfl; have d3 := hd.cell (i := 3) rfl; clear hc hd; go_simp; try with_reducible rfl)
    simp only [List.getElem_toArray, List.getElem_cons_zero, List.getElem_cons_succ, Act.put, List.setIfInBounds_toArray, List.set_cons_zero, List.set_cons_succ]
    refine wpAnyH_take (i := 11) (v := ?v49) rfl (by kernel_rfl) (by kernel_rfl) (by kernel_rfl) (fun _ _ _ h => h) (Or.inl ⟨by rfl, ?y49⟩) hHeld ?r49
    case y49 => (intro w hSw; obtain ⟨hc, hd, hn⟩ := hSw; have c0 := hc.cell (i := 0) rfl; have c1 := hc.cell (i := 1) rfl; have c2 := hc.cell (i := 2) rfl; have c3 := hc.cell (i := 3) rfl; have d0 := hd.cell (i := 0) rfl; have d1 := hd.cell (i := 1) rfl; have d2 := hd.cell (i := 2) rfl; have d3 := hd.cell (i := 3) rfl; clear hc hd; go_simp; try with_reducible rfl)
    simp only [List.getElem_toArray, List.getElem_cons_zero, List.getElem_cons_succ, Act.put, List.setIfInBounds_toArray, List.set_cons_zero, List.set_cons_succ]
    refine wpAnyH_done (by kernel_rfl) ?_ _
    clear u0 hbl3
    have c0 := Xq.out.1.cell (i := 0) rfl
    have c1 := Xq.out.1.cell (i := 1) rfl
    have c2 := Xq.out.1.cell (i := 2) rfl
    have c3 := Xq.out.1.cell (i := 3) rfl
    have na : ∀ (j : Nat) (u : Value), (tcl l)[j]? = some u → Wq.cell? ((⟨b, off, none⟩ : Addr).add j) = some u := fun j u hj => by
      rw [addr_plus]
      have := Xq.out.2.1.flat 0 l.length j u (by rw [List.drop_zero, List.take_of_length_le (Nat.le_refl _)]; exact hj)
      simpa using this
    have Na := Lib.hid na
    clear na nq3 hDq
    go_wp2_with (first | (at_builtin; refine wpList_append_own _ rfl _ _ 22 rfl Wq.heap.size 45 i0 (.agg #[.string ⟨#[]⟩, .int .i64 0, .int .i64 0]) 3 32 Tryd.underlying22 hi hz0 hz1 hz2 rfl (by decide) (.slice none 0 0) 0 [] rfl (World.ownsRow_nil _ _ _ _) ⟨b, off, none⟩ l.length (ix + 1) (tcl l) rfl (tcl_len l) Na.out (tcl_one _) (Hml.out _ (by omega)) (by omega) (Nat.le_refl _) ?_; intro v6 Wr ho6 hg6 _; have hb6 : Below Wq.heap.size Wq Wr := (Below.refl _ _).grown hg6 (Nat.le_refl _) (fun q e => by cases e); have Xr := Lib.hid (Xq.out.next hb6); have e1 := Xr.out.1.cell (i := 1) rfl; obtain ⟨b4, off4, e4, _, p0, p1, p2⟩ := Xr.out.2.1 ix t HM.out.2.1; cases e4; clear c0 c1 c2 c3) | (at_builtin; refine wpList_append_own _ rfl _ _ 22 rfl Wq.heap.size 45 i0 (.agg #[.string ⟨#[]⟩, .int .i64 0, .int .i64 0]) 3 32 Tryd.underlying22 hi hz0 hz1 hz2 rfl (by decide) v6 (0 + l.length) ([] ++ tcl l) rfl (ho6.alloc _) ⟨Wr.heap.size, 0, none⟩ 1 1 (tcells t) rfl rfl (World.news_of_block (cs := #[.string t.1, .int .i64 t.2.1, .int .i64 t.2.2]) (t := 45) (fr := (0, 0)) (heap_alloc_new Wr _)) (by simp [tcells, Value.oneCell']) (Hml.out _ (by omega)) (by omega) (by have := hb6.size; simp; omega) ?_; intro v7 Ws ho7 hg7 _; have hb7 : Below Wq.heap.size Wq Ws := (hb6.alloc hb6.size _).grown hg7 (by have := hb6.size; simp; omega) (fun q e => (ho6.lt q e).1); have Xs := Lib.hid (Xq.out.next hb7); obtain ⟨a7, c7, rfl, hT7⟩ := owns_tps (owns_more ho7); have HT7 := Lib.hid hT7; have hFs := Lib.hid (hFq.out.low hb7); have f0 := Xs.out.1.cell (i := 0) rfl; have f1 := Xs.out.1.cell (i := 1) rfl; have f2 := Xs.out.1.cell (i := 2) rfl; have f3 := Xs.out.1.cell (i := 3) rfl; clear ho7 hg7 ho6 hg6 hb6 Xr e1 p0 p1 p2 hT7))
    have hX8 := Lib.hid (Xs.out.alloc (.cells #[.int .i64 T, .slice a7 (l.length + 1) c7, .int .i64 R, .int .i64 L] 24))
    have hT8 := Lib.hid (HT7.out.next ((Below.refl Ws.heap.size Ws).alloc (Nat.le_refl _) (.cells #[.int .i64 T, .slice a7 (l.length + 1) c7, .int .i64 R, .int .i64 L] 24)))
    have hF8 := Lib.hid (hFs.out.alloc (.cells #[.int .i64 T, .slice a7 (l.length + 1) c7, .int .i64 R, .int .i64 L] 24))
    clear f0 f1 f2 f3 Xs HT7 hFs hb7
    generalize Ws.alloc (.cells #[.int .i64 T, .slice a7 (l.length + 1) c7, .int .i64 R, .int .i64 L] 24) = Wt at *
    have hck := check_any T R L a7 c7 (l ++ [t]) Wt hT8.out (fun u hu => by
      rcases List.mem_append.1 hu with h | h
      · exact HS.out u h
      · obtain rfl : u = t := by simpa using h
        exact HS.out u (List.mem_of_getElem? HM.out.2.1))
    have hle : (l ++ [t]).length = l.length + 1 := by simp
    rw [hle] at hck
    refine hck.mono ?_
    clear hck hle
    rintro e Wv ⟨rfl, hbv⟩
    obtain ⟨x, y, hxy, hx1, hx2⟩ := more_two HM.out.1 HM.out.2.1
    rw [hxy]
    clear hxy
    have Xv := Lib.hid (hX8.out.next hbv)
    have hFv := hF8.out.low hbv
    have HBv := Lib.hid Xv.out.2.2.2
    have hml2 : ((l ++ [t]).length : Int) = (l.length : Int) + 1 := by simp
    clear hX8 hT8 hF8 hbv
    by_cases h64 : 64 < l.length + 1
    · have hq1 : (x == -1) = true := by rw [(hx1 h64).1]; rfl
      have hq2 : (y == 12) = true := by rw [(hx1 h64).2]; rfl
      clear hx1 hx2
      have q64 : decide ((64 : Int) < ((l ++ [t]).length : Int)) = true := decide_eq_true (by rw [hml2]; omega)
      have q64' : decide ((64 : Int) < (l.length : Int) + 1) = true := decide_eq_true (by omega)
      have hF12 := Lib.hid ((hFv.put 0 (.int .i64 x)).put 1 (.int .i64 y))
      have XF : Hid (Bx w w.heap.size T R L (some ⟨b, off, none⟩) (ix + 1) l ((Wv.setCell ⟨F, 0, none⟩ (.int .i64 x)).setCell ⟨F, 1, none⟩ (.int .i64 y))) := Lib.hid ⟨(Xv.out.1.setFar (p := ⟨F, 0, none⟩) (by show w.heap.size ≠ F; omega) _).setFar (p := ⟨F, 1, none⟩) (by show w.heap.size ≠ F; omega) _, (Xt.out.1.below ((HBv.out.setCell (p := ⟨F, 0, none⟩) (by show w.heap.size ≤ F; omega) (.int .i64 x)).setCell (p := ⟨F, 1, none⟩) (by show w.heap.size ≤ F; omega) (.int .i64 y))).mono (by have := HBv.out.size; simp [World.setCell]; omega), Xt.out.2.below ((HBv.out.setCell (p := ⟨F, 0, none⟩) (by show w.heap.size ≤ F; omega) (.int .i64 x)).setCell (p := ⟨F, 1, none⟩) (by show w.heap.size ≤ F; omega) (.int .i64 y)) Xt.out.2.lt, (HBv.out.setCell (p := ⟨F, 0, none⟩) (by show w.heap.size ≤ F; omega) (.int .i64 x)).setCell (p := ⟨F, 1, none⟩) (by show w.heap.size ≤ F; omega) (.int .i64 y)⟩
      have z0 := hFv.frozen 0
      have z1 := hFv.frozen 1
      have g0 := hFv.cell (i := 0) rfl
      have g1 := hFv.cell (i := 1) rfl
      have w0 := hF12.out.cell (i := 0) rfl
      have w1 := hF12.out.cell (i := 1) rfl
      have k1x := XF.out.1.cell (i := 1) rfl
      clear hFv Xv HBv
      go_wp2_with fail
      refine (awake_any _ XF.out.2.2.1).mono ?_
      rintro e Wz ⟨rfl, hbz⟩
      have hfin := Lib.hid (XF.out.next hbz).2.2.2
      clear hbz
      go_wp2
      go_ret
      exact ⟨rfl, hfin.out⟩
    · have hq1 : (x == (l.length : Int)) = true := by rw [(hx2 h64).1]; simp
      have hq2 : (y == 15) = true := by rw [(hx2 h64).2]; rfl
      clear hx1 hx2
      have q64 : decide ((64 : Int) < ((l ++ [t]).length : Int)) = false := decide_eq_false (by rw [hml2]; omega)
      have q64' : decide ((64 : Int) < (l.length : Int) + 1) = false := decide_eq_false (by omega)
      have hF12 := Lib.hid ((hFv.put 0 (.int .i64 x)).put 1 (.int .i64 y))
      have XF : Hid (Bx w w.heap.size T R L (some ⟨b, off, none⟩) (ix + 1) l ((Wv.setCell ⟨F, 0, none⟩ (.int .i64 x)).setCell ⟨F, 1, none⟩ (.int .i64 y))) := Lib.hid ⟨(Xv.out.1.setFar (p := ⟨F, 0, none⟩) (by show w.heap.size ≠ F; omega) _).setFar (p := ⟨F, 1, none⟩) (by show w.heap.size ≠ F; omega) _, (Xt.out.1.below ((HBv.out.setCell (p := ⟨F, 0, none⟩) (by show w.heap.size ≤ F; omega) (.int .i64 x)).setCell (p := ⟨F, 1, none⟩) (by show w.heap.size ≤ F; omega) (.int .i64 y))).mono (by have := HBv.out.size; simp [World.setCell]; omega), Xt.out.2.below ((HBv.out.setCell (p := ⟨F, 0, none⟩) (by show w.heap.size ≤ F; omega) (.int .i64 x)).setCell (p := ⟨F, 1, none⟩) (by show w.heap.size ≤ F; omega) (.int .i64 y)) Xt.out.2.lt, (HBv.out.setCell (p := ⟨F, 0, none⟩) (by show w.heap.size ≤ F; omega) (.int .i64 x)).setCell (p := ⟨F, 1, none⟩) (by show w.heap.size ≤ F; omega) (.int .i64 y)⟩
      have z0 := hFv.frozen 0
      have z1 := hFv.frozen 1
      have g0 := hFv.cell (i := 0) rfl
      have g1 := hFv.cell (i := 1) rfl
      have w0 := hF12.out.cell (i := 0) rfl
      have w1 := hF12.out.cell (i := 1) rfl
      have k1x := XF.out.1.cell (i := 1) rfl
      clear hFv Xv HBv
      go_wp2_with fail
      refine (awake_any _ XF.out.2.2.1).mono ?_
      rintro e Wz ⟨rfl, hbz⟩
      have hfin := Lib.hid (XF.out.next hbz).2.2.2
      clear hbz
      go_wp2
      go_ret
      exact ⟨rfl, hfin.out⟩
  
  · have hls : less l ix = [] := List.eq_nil_of_length_eq_zero (by have := less_len hix; omega)
    rw [show chk T (less l ix) R L = (-1, 12) by rw [hls]; exact none_chk HM.out.1]
    have X8 := Lib.hid ((X6.out.next hb7).alloc (.cells #[.int .i64 (-1), .int .i64 12] 29))
    have D8 := Lib.hid ((D6.out.low hb7).alloc (.cells #[.int .i64 (-1), .int .i64 12] 29))
    have T8 := Lib.hid ((T6.out.next hb7).next ((Below.refl W7.heap.size W7).alloc (Nat.le_refl _) (.cells #[.int .i64 (-1), .int .i64 12] 29)))
    have F8 := Lib.hid (Blk.new W7 #[.int .i64 (-1), .int .i64 12] 29)
    have hFC : w.heap.size < W7.heap.size := (X6.out.next hb7).1.lt
    clear X6 D6 T6 hb7
    generalize hFE : W7.heap.size = F at *
    have f0 := F8.out.cell (i := 0) rfl
    have f1 := F8.out.cell (i := 1) rfl
    have nz : (((less l ix).length : Int) == 0) = true := by rw [hls]; rfl
    have Xt := Lib.hid (And.intro HTW.out.1 HTW.out.2)
    clear hls
    go_wp2_with fail
    generalize W7.alloc (.cells #[.int .i64 (-1), .int .i64 12] 29) = W8 at *
    clear hFE f0 f1 nz
    obtain ⟨b3, off3, e3, hbl3, u0, _, _⟩ := X8.out.2.1 ix t HM.out.2.1
    cases e3
    refine wp_region_held_drew (S := CDN w.heap.size D (cfl T (some ⟨b, off, none⟩) l.length (ix + 1) R L) (cfl T a5 (less l ix).length c5 R L) ⟨b, off + ix * 3, none⟩ t.1) (by kernel_rfl) (⟨X8.out.1, D8.out, u0⟩) (fun hHeld => ?_)
    refine wpAnyH_take (i := 0) (v := ?v50) rfl (by kernel_rfl) (by kernel_rfl) (by kernel_rfl) (fun _ _ _ h => h) (Or.inl ⟨by rfl, ?y50⟩) hHeld ?r50
    case y50 => (intro w hSw; obtain ⟨hc, hd, hn⟩ := hSw; have c0 := hc.cell (i := 0) rfl; have c1 := hc.cell (i := 1) rfl; have c2 := hc.cell (i := 2) rfl; have c3 := hc.cell (i := 3) rfl; have d0 := hd.cell (i := 0) rfl; have d1 := hd.cell (i := 1) rfl; have d2 := hd.cell (i := 2) rfl; have d3 := hd.cell (i := 3) rfl; clear hc hd; go_simp; try with_reducible rfl)
    simp only [List.getElem_toArray, List.getElem_cons_zero, Act.put, List.setIfInBounds_toArray, List.set_cons_zero, List.set_cons_succ]
    refine wpAnyH_take (i := 1) (v := ?v51) rfl (by kernel_rfl) (by kernel_rfl) (by kernel_rfl) (fun _ _ _ h => h) (Or.inl ⟨by rfl, ?y51⟩) hHeld ?r51
    case y51 => (intro w hSw; obtain ⟨hc, hd, hn⟩ := hSw; have c0 := hc.cell (i := 0) rfl; have c1 := hc.cell (i := 1) rfl; have c2 := hc.cell (i := 2) rfl; have c3 := hc.cell (i := 3) rfl; have d0 := hd.cell (i := 0) rfl; have d1 := hd.cell (i := 1) rfl; have d2 := hd.cell (i := 2) rfl; have d3 := hd.cell (i := 3) rfl; clear hc hd; go_simp; try with_reducible rfl)
    simp only [List.getElem_toArray, List.getElem_cons_zero, List.getElem_cons_succ, Act.put, List.setIfInBounds_toArray, List.set_cons_zero, List.set_cons_succ]
    refine wpAnyH_take (i := 2) (v := ?v52) rfl (by kernel_rfl) (by kernel_rfl) (by kernel_rfl) (fun _ _ _ h => h) (Or.inl ⟨by rfl, ?y52⟩) hHeld ?r52
    case y52 => (intro w hSw; obtain ⟨hc, hd, hn⟩ := hSw; have c0 := hc.cell (i := 0) rfl; have c1 := hc.cell (i := 1) rfl; have c2 := hc.cell (i := 2) rfl; have c3 := hc.cell (i := 3) rfl; have d0 := hd.cell (i := 0) rfl; have d1 := hd.cell (i := 1) rfl; have d2 := hd.cell (i := 2) rfl; have d3 := hd.cell (i := 3) rfl; clear hc hd; go_simp; try with_reducible rfl)
    simp only [List.getElem_toArray, List.getElem_cons_zero, List.getElem_cons_succ, Act.put, List.setIfInBounds_toArray, List.set_cons_zero, List.set_cons_succ]
    refine wpAnyH_take (i := 3) (v := ?v53) rfl (by kernel_rfl) (by kernel_rfl) (by kernel_rfl) (fun _ _ _ h => h) (Or.inl ⟨by rfl, ?y53⟩) hHeld ?r53
    case y53 => (intro w hSw; obtain ⟨hc, hd, hn⟩ := hSw; have c0 := hc.cell (i := 0) rfl; have c1 := hc.cell (i := 1) rfl; have c2 := hc.cell (i := 2) rfl; have c3 := hc.cell (i := 3) rfl; have d0 := hd.cell (i := 0) rfl; have d1 := hd.cell (i := 1) rfl; have d2 := hd.cell (i := 2) rfl; have d3 := hd.cell (i := 3) rfl; clear hc hd; go_simp; try with_reducible rfl)
    simp only [List.getElem_toArray, List.getElem_cons_zero, List.getElem_cons_succ, Act.put, List.setIfInBounds_toArray, List.set_cons_zero, List.set_cons_succ]
    refine wpAnyH_take (i := 4) (v := ?v54) rfl (by kernel_rfl) (by kernel_rfl) (by kernel_rfl) (fun _ _ _ h => h) (Or.inl ⟨by rfl, ?y54⟩) hHeld ?r54
    case y54 => (intro w hSw; obtain ⟨hc, hd, hn⟩ := hSw; have c0 := hc.cell (i := 0) rfl; have c1 := hc.cell (i := 1) rfl; have c2 := hc.cell (i := 2) rfl; have c3 := hc.cell (i := 3) rfl; have d0 := hd.cell (i := 0) rfl; have d1 := hd.cell (i := 1) rfl; have d2 := hd.cell (i := 2) rfl; have d3 := hd.cell (i := 3) rfl; clear hc hd; go_simp; try with_reducible rfl)
    simp only [List.getElem_toArray, List.getElem_cons_zero, List.getElem_cons_succ, Act.put, List.setIfInBounds_toArray, List.set_cons_zero, List.set_cons_succ]
    refine wpAnyH_take (i := 5) (v := ?v55) rfl (by kernel_rfl) (by kernel_rfl) (by kernel_rfl) (fun _ _ _ h => h) (Or.inl ⟨by rfl, ?y55⟩) hHeld ?r55
    case y55 => (intro w hSw; obtain ⟨hc, hd, hn⟩ := hSw; have c0 := hc.cell (i := 0) rfl; have c1 := hc.cell (i := 1) rfl; have c2 := hc.cell (i := 2) rfl; have c3 := hc.cell (i := 3) rfl; have d0 := hd.cell (i := 0) rfl; have d1 := hd.cell (i := 1) rfl; have d2 := hd.cell (i := 2) rfl; have d3 := hd.cell (i := 3) rfl; clear hc hd; go_simp; try with_reducible rfl)
    simp only [List.getElem_toArray, List.getElem_cons_zero, List.getElem_cons_succ, Act.put, List.setIfInBounds_toArray, List.set_cons_zero, List.set_cons_succ]
    refine wpAnyH_take (i := 6) (v := ?v56) rfl (by kernel_rfl) (by kernel_rfl) (by kernel_rfl) (fun _ _ _ h => h) (Or.inl ⟨by rfl, ?y56⟩) hHeld ?r56
    case y56 => (intro w hSw; obtain ⟨hc, hd, hn⟩ := hSw; have c0 := hc.cell (i := 0) rfl; have c1 := hc.cell (i := 1) rfl; have c2 := hc.cell (i := 2) rfl; have c3 := hc.cell (i := 3) rfl; have d0 := hd.cell (i := 0) rfl; have d1 := hd.cell (i := 1) rfl; have d2 := hd.cell (i := 2) rfl; have d3 := hd.cell (i := 3) rfl; clear hc hd; go_simp; try with_reducible rfl)
    simp only [List.getElem_toArray, List.getElem_cons_zero, List.getElem_cons_succ, Act.put, List.setIfInBounds_toArray, List.set_cons_zero, List.set_cons_succ]
    refine wpAnyH_ready (rs := [7]) (by kernel_rfl) (by simp) (AllReadyH.cons rfl (fun K hK => ?_) AllReadyH.nil)
    go_simp
    refine (find_any T R L a5 c5 (less l ix) t.1 _ (show Tps W8.drew.heap.size W8.drew a5 (less l ix) from T8.out) (by have := less_len hix; omega)).mono ?_
    rintro e Wq ⟨rfl, hbq⟩
    rw [HM.out.2.2.2.2.2]
    have Xq := Lib.hid (X8.out.dr.next hbq)
    have hFq := Lib.hid ((show Blk W8.drew F _ from F8.out).low hbq)
    have hDq := (show Blk W8.drew D _ from D8.out).low hbq
    have nq3 := (hbq.cell (p := ⟨b, off + ix * 3, none⟩) hbl3).trans u0
    clear hbq
    go_wp2_with fail
    refine hK.out _ _ (⟨Xq.out.1, hDq, nq3⟩) (fun hHeld => ?_)
    clear hK K
    refine wpAnyH_take (i := 8) (v := ?v58) rfl (by kernel_rfl) (by kernel_rfl) (by kernel_rfl) (fun _ _ _ h => h) (Or.inl ⟨by rfl, ?y58⟩) hHeld ?r58
    case y58 => (intro w hSw; obtain ⟨hc, hd, hn⟩ := hSw; have c0 := hc.cell (i := 0) rfl; have c1 := hc.cell (i := 1) rfl; have c2 := hc.cell (i := 2) rfl; have c3 := hc.cell (i := 3) rfl; have d0 := hd.cell (i := 0) rfl; have d1 := hd.cell (i := 1) rfl; have d2 := hd.cell (i := 2) rfl; have d3 := hd.cell (i := 3) rfl; clear hc hd; go_simp; try with_reducible rfl)
    simp only [List.getElem_toArray, List.getElem_cons_zero, List.getElem_cons_succ, Act.put, List.setIfInBounds_toArray, List.set_cons_zero, List.set_cons_succ]
    refine wpAnyH_take (i := 9) (v := ?v59) rfl (by kernel_rfl) (by kernel_rfl) (by kernel_rfl) (fun _ _ _ h => h) (Or.inl ⟨by rfl, ?y59⟩) hHeld ?r59
    case y59 => (intro w hSw; obtain ⟨hc, hd, hn⟩ := hSw; have c0 := hc.cell (i := 0) rfl; have c1 := hc.cell (i := 1) rfl; have c2 := hc.cell (i := 2) rfl; have c3 := hc.cell (i := 3) rfl; have d0 := hd.cell (i := 0) rfl; have d1 := hd.cell (i := 1) rfl; have d2 := hd.cell (i := 2) rfl; have d3 := hd.cell (i := 3) rfl; clear hc hd; go_simp; try with_reducible rfl)
    simp only [List.getElem_toArray, List.getElem_cons_zero, List.getElem_cons_succ, Act.put, List.setIfInBounds_toArray, List.set_cons_zero, List.set_cons_succ]
    refine wpAnyH_take (i := 10) (v := ?v60) rfl (by kernel_rfl) (by kernel_rfl) (by kernel_rfl) (fun _ _ _ h => h) (Or.inl ⟨by rfl, ?y60⟩) hHeld ?r60
    case y60 => (intro w hSw; obtain ⟨hc, hd, hn⟩ := hSw; have c0 := hc.cell (i := 0) rfl; have c1 := hc.cell (i := 1) rfl; have c2 := hc.cell (i := 2) rfl; have c3 := hc.cell (i := 3) rfl; have d0 := hd.cell (i := 0) rfl; have d1 := hd.cell (i := 1) rfl; have d2 := hd.cell (i := 2) rfl; have d3 := hd.cell (i := 3) rfl; clear hc hd; go_simp; try with_reducible rfl)
    simp only [List.getElem_toArray, List.getElem_cons_zero, List.getElem_cons_succ, Act.put, List.setIfInBounds_toArray, List.set_cons_zero, List.set_cons_succ]
    refine wpAnyH_take (i := 11) (v := ?v61) rfl (by kernel_rfl) (by kernel_rfl) (by kernel_rfl) (fun _ _ _ h => h) (Or.inl ⟨by rfl, ?y61⟩) hHeld ?r61
    case y61 => (intro w hSw; obtain ⟨hc, hd, hn⟩ := hSw; have c0 := hc.cell (i := 0) rfl; have c1 := hc.cell (i := 1) rfl; have c2 := hc.cell (i := 2) rfl; have c3 := hc.cell (i := 3) rfl; have d0 := hd.cell (i := 0) rfl; have d1 := hd.cell (i := 1) rfl; have d2 := hd.cell (i := 2) rfl; have d3 := hd.cell (i := 3) rfl; clear hc hd; go_simp; try with_reducible rfl)
    simp only [List.getElem_toArray, List.getElem_cons_zero, List.getElem_cons_succ, Act.put, List.setIfInBounds_toArray, List.set_cons_zero, List.set_cons_succ]
    refine wpAnyH_done (by kernel_rfl) ?_ _
    clear u0 hbl3
    have c0 := Xq.out.1.cell (i := 0) rfl
    have c1 := Xq.out.1.cell (i := 1) rfl
    have c2 := Xq.out.1.cell (i := 2) rfl
    have c3 := Xq.out.1.cell (i := 3) rfl
    have na : ∀ (j : Nat) (u : Value), (tcl l)[j]? = some u → Wq.cell? ((⟨b, off, none⟩ : Addr).add j) = some u := fun j u hj => by
      rw [addr_plus]
      have := Xq.out.2.1.flat 0 l.length j u (by rw [List.drop_zero, List.take_of_length_le (Nat.le_refl _)]; exact hj)
      simpa using this
    have Na := Lib.hid na
    clear na nq3 hDq
    go_wp2_with (first | (at_builtin; refine wpList_append_own _ rfl _ _ 22 rfl Wq.heap.size 45 i0 (.agg #[.string ⟨#[]⟩, .int .i64 0, .int .i64 0]) 3 32 Tryd.underlying22 hi hz0 hz1 hz2 rfl (by decide) (.slice none 0 0) 0 [] rfl (World.ownsRow_nil _ _ _ _) ⟨b, off, none⟩ l.length (ix + 1) (tcl l) rfl (tcl_len l) Na.out (tcl_one _) (Hml.out _ (by omega)) (by omega) (Nat.le_refl _) ?_; intro v6 Wr ho6 hg6 _; have hb6 : Below Wq.heap.size Wq Wr := (Below.refl _ _).grown hg6 (Nat.le_refl _) (fun q e => by cases e); have Xr := Lib.hid (Xq.out.next hb6); have e1 := Xr.out.1.cell (i := 1) rfl; obtain ⟨b4, off4, e4, _, p0, p1, p2⟩ := Xr.out.2.1 ix t HM.out.2.1; cases e4; clear c0 c1 c2 c3) | (at_builtin; refine wpList_append_own _ rfl _ _ 22 rfl Wq.heap.size 45 i0 (.agg #[.string ⟨#[]⟩, .int .i64 0, .int .i64 0]) 3 32 Tryd.underlying22 hi hz0 hz1 hz2 rfl (by decide) v6 (0 + l.length) ([] ++ tcl l) rfl (ho6.alloc _) ⟨Wr.heap.size, 0, none⟩ 1 1 (tcells t) rfl rfl (World.news_of_block (cs := #[.string t.1, .int .i64 t.2.1, .int .i64 t.2.2]) (t := 45) (fr := (0, 0)) (heap_alloc_new Wr _)) (by simp [tcells, Value.oneCell']) (Hml.out _ (by omega)) (by omega) (by have := hb6.size; simp; omega) ?_; intro v7 Ws ho7 hg7 _; have hb7 : Below Wq.heap.size Wq Ws := (hb6.alloc hb6.size _).grown hg7 (by have := hb6.size; simp; omega) (fun q e => (ho6.lt q e).1); have Xs := Lib.hid (Xq.out.next hb7); obtain ⟨a7, c7, rfl, hT7⟩ := owns_tps (owns_more ho7); have HT7 := Lib.hid hT7; have hFs := Lib.hid (hFq.out.low hb7); have f0 := Xs.out.1.cell (i := 0) rfl; have f1 := Xs.out.1.cell (i := 1) rfl; have f2 := Xs.out.1.cell (i := 2) rfl; have f3 := Xs.out.1.cell (i := 3) rfl; clear ho7 hg7 ho6 hg6 hb6 Xr e1 p0 p1 p2 hT7))
    have hX8 := Lib.hid (Xs.out.alloc (.cells #[.int .i64 T, .slice a7 (l.length + 1) c7, .int .i64 R, .int .i64 L] 24))
    have hT8 := Lib.hid (HT7.out.next ((Below.refl Ws.heap.size Ws).alloc (Nat.le_refl _) (.cells #[.int .i64 T, .slice a7 (l.length + 1) c7, .int .i64 R, .int .i64 L] 24)))
    have hF8 := Lib.hid (hFs.out.alloc (.cells #[.int .i64 T, .slice a7 (l.length + 1) c7, .int .i64 R, .int .i64 L] 24))
    clear f0 f1 f2 f3 Xs HT7 hFs hb7
    generalize Ws.alloc (.cells #[.int .i64 T, .slice a7 (l.length + 1) c7, .int .i64 R, .int .i64 L] 24) = Wt at *
    have hck := check_any T R L a7 c7 (l ++ [t]) Wt hT8.out (fun u hu => by
      rcases List.mem_append.1 hu with h | h
      · exact HS.out u h
      · obtain rfl : u = t := by simpa using h
        exact HS.out u (List.mem_of_getElem? HM.out.2.1))
    have hle : (l ++ [t]).length = l.length + 1 := by simp
    rw [hle] at hck
    refine hck.mono ?_
    clear hck hle
    rintro e Wv ⟨rfl, hbv⟩
    obtain ⟨x, y, hxy, hx1, hx2⟩ := more_two HM.out.1 HM.out.2.1
    rw [hxy]
    clear hxy
    have Xv := Lib.hid (hX8.out.next hbv)
    have hFv := hF8.out.low hbv
    have HBv := Lib.hid Xv.out.2.2.2
    have hml2 : ((l ++ [t]).length : Int) = (l.length : Int) + 1 := by simp
    clear hX8 hT8 hF8 hbv
    by_cases h64 : 64 < l.length + 1
    · exact absurd h64 (by omega)
    · have hq1 : (x == (l.length : Int)) = true := by rw [(hx2 h64).1]; simp
      have hq2 : (y == 15) = true := by rw [(hx2 h64).2]; rfl
      clear hx1 hx2
      have q64 : decide ((64 : Int) < ((l ++ [t]).length : Int)) = false := decide_eq_false (by rw [hml2]; omega)
      have q64' : decide ((64 : Int) < (l.length : Int) + 1) = false := decide_eq_false (by omega)
      have hF12 := Lib.hid ((hFv.put 0 (.int .i64 x)).put 1 (.int .i64 y))
      have XF : Hid (Bx w w.heap.size T R L (some ⟨b, off, none⟩) (ix + 1) l ((Wv.setCell ⟨F, 0, none⟩ (.int .i64 x)).setCell ⟨F, 1, none⟩ (.int .i64 y))) := Lib.hid ⟨(Xv.out.1.setFar (p := ⟨F, 0, none⟩) (by show w.heap.size ≠ F; omega) _).setFar (p := ⟨F, 1, none⟩) (by show w.heap.size ≠ F; omega) _, (Xt.out.1.below ((HBv.out.setCell (p := ⟨F, 0, none⟩) (by show w.heap.size ≤ F; omega) (.int .i64 x)).setCell (p := ⟨F, 1, none⟩) (by show w.heap.size ≤ F; omega) (.int .i64 y))).mono (by have := HBv.out.size; simp [World.setCell]; omega), Xt.out.2.below ((HBv.out.setCell (p := ⟨F, 0, none⟩) (by show w.heap.size ≤ F; omega) (.int .i64 x)).setCell (p := ⟨F, 1, none⟩) (by show w.heap.size ≤ F; omega) (.int .i64 y)) Xt.out.2.lt, (HBv.out.setCell (p := ⟨F, 0, none⟩) (by show w.heap.size ≤ F; omega) (.int .i64 x)).setCell (p := ⟨F, 1, none⟩) (by show w.heap.size ≤ F; omega) (.int .i64 y)⟩
      have z0 := hFv.frozen 0
      have z1 := hFv.frozen 1
      have g0 := hFv.cell (i := 0) rfl
      have g1 := hFv.cell (i := 1) rfl
      have w0 := hF12.out.cell (i := 0) rfl
      have w1 := hF12.out.cell (i := 1) rfl
      have k1x := XF.out.1.cell (i := 1) rfl
      clear hFv Xv HBv
      go_wp2_with fail
      refine (awake_any _ XF.out.2.2.1).mono ?_
      rintro e Wz ⟨rfl, hbz⟩
      have hfin := Lib.hid (XF.out.next hbz).2.2.2
      clear hbz
      go_wp2
      go_ret
      exact ⟨rfl, hfin.out⟩

set_option maxHeartbeats 1000000 in
theorem less_none (T R L : Int) (a : Option Addr) (cap : Nat) (l : List Tp) (i : Int) (w : World) (hT : Tps w.heap.size w a l) (hM : ML w) (h : few l = false ∨ (chk T l R L).2 ≠ 0 ∨ i < 0 ∨ (l.length : Int) ≤ i) : Calls Tryd.prog 9 #[cfg T a l.length cap R L, .int .i64 i] w (Ret (.bool true) w) := by
  have X0 := Lib.hid (Bx.new w T R L a cap l hT hM)
  have c0 := X0.out.1.cell (i := 0) rfl
  have c1 := X0.out.1.cell (i := 1) rfl
  have c2 := X0.out.1.cell (i := 2) rfl
  have c3 := X0.out.1.cell (i := 3) rfl
  clear hM hT
  go_enter Tryd.func9, Tryd.ntmps9
  go_wp2_with fail
  generalize w.alloc (.cells #[.int .i64 T, .slice a l.length cap, .int .i64 R, .int .i64 L] 24) = W at *
  refine (few_any T R L a cap l W X0.out.2.1).mono ?_
  rintro e W1 ⟨rfl, hb1⟩
  have X1 := Lib.hid (X0.out.next hb1)
  clear X0 hb1 c0 c1 c2 c3
  have c0 := X1.out.1.cell (i := 0) rfl
  have c1 := X1.out.1.cell (i := 1) rfl
  have c2 := X1.out.1.cell (i := 2) rfl
  have c3 := X1.out.1.cell (i := 3) rfl
  by_cases hf : few l = true
  · have hs := few_size hf
    rw [hf]
    have h' : (chk T l R L).2 ≠ 0 ∨ i < 0 ∨ (l.length : Int) ≤ i := by
      rcases h with h | h
      · rw [hf] at h; cases h
      · exact h
    clear hf h
    go_wp2_with fail
    refine (check_any T R L a cap l W1 X1.out.2.1 hs).mono ?_
    rintro e W2 ⟨rfl, hb2⟩
    have X2 := Lib.hid (X1.out.next hb2)
    clear X1 hb2 c0 c1 c2 c3 hs
    have hcz : (chk T l R L).2 = 0 → chk T l R L = (0, 0) := chk_zero
    have c1 := X2.out.1.cell (i := 1) rfl
    generalize chk T l R L = xy at *
    obtain ⟨x, y⟩ := xy
    simp only at h' hcz
    by_cases hy : y = 0
    · have hxy := hcz hy
      simp only [Prod.mk.injEq] at hxy
      obtain ⟨rfl, rfl⟩ := hxy
      have heq : ∀ w, (Op.equalIn 10000 29 (.agg #[.int .i64 0, .int .i64 0]) (.agg #[.int .i64 0, .int .i64 0])).run Tryd.prog w = .ok true w := fun w => by
        rw [eq29]
        rfl
      by_cases hi : i < 0
      · have k0 : decide (i < 0) = true := decide_eq_true hi
        clear h' hcz hy hi
        go_wp2_with fail
        refine (awake_any W2 X2.out.2.2.1).mono ?_
        rintro e WZ ⟨rfl, hbz⟩
        have hfin := Lib.hid (X2.out.next hbz).2.2.2
        clear X2 hbz
        go_wp2
        go_ret
        exact ⟨rfl, hfin.out⟩
      · have k0 : decide (i < 0) = false := decide_eq_false hi
        have k1 : decide ((l.length : Int) ≤ i) = true := decide_eq_true (by omega)
        clear h' hcz hy hi
        go_wp2_with fail
        refine (awake_any W2 X2.out.2.2.1).mono ?_
        rintro e WZ ⟨rfl, hbz⟩
        have hfin := Lib.hid (X2.out.next hbz).2.2.2
        clear X2 hbz
        go_wp2
        go_ret
        exact ⟨rfl, hfin.out⟩
    · have heq : ∀ w, (Op.equalIn 10000 29 (.agg #[.int .i64 x, .int .i64 y]) (.agg #[.int .i64 0, .int .i64 0])).run Tryd.prog w = .ok false w := fun w => by
        rw [eq29]
        simp [hy]
      clear h' hcz hy
      go_wp2_with fail
      refine (awake_any W2 X2.out.2.2.1).mono ?_
      rintro e WZ ⟨rfl, hbz⟩
      have hfin := Lib.hid (X2.out.next hbz).2.2.2
      clear X2 hbz
      go_wp2
      go_ret
      exact ⟨rfl, hfin.out⟩
  · have hf' : few l = false := by simpa using hf
    rw [hf']
    clear h hf
    go_wp2_with fail
    refine (awake_any W1 X1.out.2.2.1).mono ?_
    rintro e WZ ⟨rfl, hbz⟩
    have hfin := Lib.hid (X1.out.next hbz).2.2.2
    clear X1 hbz
    go_wp2
    go_ret
    exact ⟨rfl, hfin.out⟩

theorem less_law (T R L : Int) (a : Option Addr) (cap : Nat) (l : List Tp) (i : Int) (w : World) (hT : Tps w.heap.size w a l) (hM : ML w) (hcap : l.length ≤ cap) : Calls Tryd.prog 9 #[cfg T a l.length cap R L, .int .i64 i] w (Ret (.bool true) w) := by
  by_cases hf : few l = true
  · by_cases hy : (chk T l R L).2 = 0
    · by_cases h0 : i < 0
      · exact less_none T R L a cap l i w hT hM (Or.inr (Or.inr (Or.inl h0)))
      · by_cases h1 : (l.length : Int) ≤ i
        · exact less_none T R L a cap l i w hT hM (Or.inr (Or.inr (Or.inr h1)))
        · obtain ⟨ix, rfl⟩ : ∃ n : Nat, i = n := ⟨i.toNat, by omega⟩
          have hix : ix < l.length := by omega
          obtain ⟨t, ht⟩ : ∃ t, l[ix]? = some t := ⟨l[ix], List.getElem?_eq_getElem hix⟩
          by_cases hcx : cap = ix + 1
          · subst hcx
            exact less_end T R L a l ix t w hT hM hcap hf hy hix ht
          · exact less_far T R L a cap l ix t w hT hM hcap hcx hf hy hix ht
    · exact less_none T R L a cap l i w hT hM (Or.inr (Or.inl hy))
  · exact less_none T R L a cap l i w hT hM (Or.inl (by simpa using hf))
end Go.Proofs.YthdchoagdipplaaDoor
