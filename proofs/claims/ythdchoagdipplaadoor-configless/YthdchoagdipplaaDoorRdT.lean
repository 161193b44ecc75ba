/- config.read of a topic's line: its contract. -/
import Derived.Test.YthdchoagdipplaaDoorRdH
import Derived.Deep.AppendLies
import Derived.Deep.RegionLaw
import Derived.Laws.AppendOwn
import Derived.OwnWalk
namespace Go.Proofs.YthdchoagdipplaaDoor
open Go.RowKit

theorem info45 : (Tryd.prog.info? 45).map (fun i => (i.zero, i.size, i.bytes)) = some (some (.agg #[.string ⟨#[]⟩, .int .i64 0, .int .i64 0]), 3, 32) := by kernel_rfl
theorem info_parts {P : Program} {t : TypeId} {z : Value} {n m : Nat} (h : (P.info? t).map (fun i => (i.zero, i.size, i.bytes)) = some (some z, n, m)) :
    ∃ i, P.info? t = some i ∧ i.zero = some z ∧ i.size = n ∧ i.bytes = m := by
  obtain ⟨i, hi, he⟩ := Option.map_eq_some_iff.1 h
  simp only [Prod.mk.injEq] at he
  exact ⟨i, hi, he.1, he.2.1, he.2.2⟩
/-- A row of one's own is a slice. -/
theorem owns_slice {W : World} {base : Nat} {e : TypeId} {size : Nat} {v : Value} {k : Nat} {xs : List Value} (h : W.ownsRow base e size v k xs) :
    ∃ a c, v = .slice a k c ∧ ∀ j u, xs[j]? = some u → ∃ g, a = some ⟨g, 0, none⟩ ∧ base ≤ g ∧ g < W.heap.size ∧ W.cell? ⟨g, j, none⟩ = some u := by
  rcases h.2 with ⟨rfl, rfl⟩ | ⟨g, cap, cur, rfl, hb, hg, _⟩
  · refine ⟨none, 0, rfl, fun j u hu => ?_⟩
    have h0 : xs = [] := by
      have := h.1
      simp at this
      exact this
    rw [h0] at hu
    simp at hu
  · refine ⟨some ⟨g, 0, none⟩, cap, rfl, fun j u hu => ⟨g, rfl, hb, (Array.getElem?_eq_some_iff.1 hg).1, ?_⟩⟩
    have := h.cells (g := g) rfl j u hu
    have e : (⟨g, 0, none⟩ : Addr).add j = ⟨g, j, none⟩ := by unfold Addr.add; split <;> simp_all
    rw [e] at this
    exact this
theorem owns_tps {W : World} {base : Nat} {e : TypeId} {v : Value} {l : List Tp} (h : W.ownsRow base e 3 v l.length (tcl l)) :
    ∃ a c, v = .slice a l.length c ∧ Tps W.heap.size W a l := by
  obtain ⟨a, c, hv, hc⟩ := owns_slice h
  refine ⟨a, c, hv, fun k t ht => ?_⟩
  obtain ⟨g, ha, hb, hl, c1⟩ := hc _ _ (tcl_get l k 0 t (.string t.1) ht rfl)
  obtain ⟨g', ha', _, _, c2⟩ := hc _ _ (tcl_get l k 1 t (.int .i64 t.2.1) ht rfl)
  obtain ⟨g'', ha'', _, _, c3⟩ := hc _ _ (tcl_get l k 2 t (.int .i64 t.2.2) ht rfl)
  rw [ha] at ha' ha''
  cases ha'
  cases ha''
  exact ⟨g, 0, ha, hl, by rw [Nat.zero_add]; exact c1, by rw [Nat.zero_add]; exact c2, by rw [Nat.zero_add]; exact c3⟩
/-- A row of one's own, in a world where its blocks are as they were. -/
theorem owns_keep {A B : World} {base : Nat} {e : TypeId} {size : Nat} {v : Value} {k : Nat} {xs : List Value} (h : A.ownsRow base e size v k xs) (hk : ∀ g, base ≤ g → g < A.heap.size → B.heap[g]? = A.heap[g]?) : B.ownsRow base e size v k xs := by
  refine ⟨h.1, ?_⟩
  rcases h.2 with hn | ⟨g, cap, cur, hv, hb, hg, rest⟩
  · exact .inl hn
  · exact .inr ⟨g, cap, cur, hv, hb, (hk g hb (Array.getElem?_eq_some_iff.1 hg).1).trans hg, rest⟩

abbrev kTo : ByteArray := ⟨#[116, 111, 112, 105, 99]⟩
abbrev kWo : ByteArray := ⟨#[119, 111, 114, 100, 115]⟩
abbrev kDe : ByteArray := ⟨#[100, 101, 112, 116, 104]⟩
/-- What read leaves of a topic's line. -/
def RdT (p : List UInt8) (g : Nat) (T R L : Int) (l : List Tp) (w : World) (e : Ending) (w' : World) : Prop :=
  e = .returned (.bool (tpB p)) ∧ Below g w w' ∧ (tpB p = true → ∃ v, Blk w' g [.int .i64 T, v, .int .i64 R, .int .i64 L] ∧ w'.ownsRow (g + 1) 45 3 v (l.length + 1) (tcl (l ++ [tpV p])))

set_option maxRecDepth 100000 in
set_option maxHeartbeats 4000000 in
theorem read_t (s : ByteArray) (g : Nat) (T R L : Int) (l : List Tp) (v : Value) (w : World) (hs : s.size ≤ 65536) (hl : l.length ≤ 100000) (hM : ML w) (hG : Blk w g [.int .i64 T, v, .int .i64 R, .int .i64 L]) (hO : w.ownsRow (g + 1) 45 3 v l.length (tcl l)) :
    Calls Tryd.prog 40 #[.pointer (some ⟨g, 0, none⟩), .string s, .bool false] w (RdT (bs s) g T R L l w) := by
  obtain ⟨i0, hi, hz0, hz1, hz2⟩ := info_parts info45
  obtain ⟨av, cv, rfl, _⟩ := owns_slice hO
  go_enter Tryd.func40, Tryd.ntmps40
  go_wp2_with fail
  refine (operands_any s kTo kWo kDe w (by omega) hM).mono ?_
  rintro e w1 ⟨x0, x1, x2, rfl, hb, hx, z0, z1, z2⟩
  rw [bs_len] at z0 z1 z2
  have hD := Blk.new (w1.alloc (.cells #[.string x0, .string x1, .string x2] 69)) #[.string x0, .int .i64 0, .int .i64 0] 45
  have hQ := (Blk.new w1 #[.string x0, .string x1, .string x2] 69).alloc (.cells #[.string x0, .int .i64 0, .int .i64 0] 45)
  have hB1 : Below w.heap.size w ((w1.alloc (.cells #[.string x0, .string x1, .string x2] 69)).alloc (.cells #[.string x0, .int .i64 0, .int .i64 0] 45)) := (hb.alloc hb.size _).alloc (by simp; exact Nat.le_succ_of_le hb.size) _
  simp only [World.size_alloc] at hD
  have hDw : w.heap.size ≤ w1.heap.size := hb.size
  have HX := Lib.hid (And.intro hx (And.intro hG hO))
  clear hx hb hG hO
  have hkey : opB (bs kTo) (bs kWo) (bs kDe) (spl 32 (bs s)) = opB kTopic kWords kDepth (spl 32 (bs s)) := rfl
  rw [hkey] at HX ⊢
  clear hkey
  have q0 := hQ.cell (i := 0) rfl
  have q1 := hQ.cell (i := 1) rfl
  have q2 := hQ.cell (i := 2) rfl
  by_cases ho : opB kTopic kWords kDepth (spl 32 (bs s)) = true
  · obtain ⟨e0, e1, e2⟩ := HX.out.1 ho
    have hE : tpB (bs s) = (nuB (bs x1) && nuB (bs x2)) ∧ tpV (bs s) = (x0, (num (bs x1) : Int), (num (bs x2) : Int)) := by
      unfold tpB tpV
      rw [ho, e0, e1, e2, bs_str, bs_str]
      exact ⟨by simp, rfl⟩
    have HE := Lib.hid hE
    rw [ho]
    clear e0 e1 e2 hE ho hM
    have HQ := Lib.hid (And.intro hD (And.intro hQ hB1))
    clear hD hQ hB1
    have hEQ : (w1.alloc (.cells #[.string x0, .string x1, .string x2] 69)).heap.size = w1.heap.size + 1 := by simp
    go_wp2_with fail
    generalize (w1.alloc (.cells #[.string x0, .string x1, .string x2] 69)).alloc (.cells #[.string x0, .int .i64 0, .int .i64 0] 45) = W at *
    generalize hQE : w1.heap.size = Q at *
    by_cases m1 : nuB (bs x1) = true
    · refine (num_ok x1 (Q + 1) 1 _ _ W (by omega) HQ.out.1 rfl m1).mono ?_
      rintro e w2 ⟨rfl, h2⟩
      have hD2 : Blk w2 (Q + 1) _ := h2 ▸ HQ.out.1.put 1 (.int .i64 (num (bs x1)))
      have hQ2 : Blk w2 Q (sl3 x0 x1 x2) := h2 ▸ HQ.out.2.1.setFar (p := ⟨Q + 1, 1, none⟩) (by simp) (.int .i64 (num (bs x1)))
      have hB2 : Below w.heap.size w w2 := h2 ▸ HQ.out.2.2.setCell (p := ⟨Q + 1, 1, none⟩) (by show w.heap.size ≤ Q + 1; omega) (.int .i64 (num (bs x1)))
      clear h2 HQ q0 q1 q2
      have q2 := hQ2.cell (i := 2) rfl
      have HQ := Lib.hid (And.intro hD2 (And.intro hQ2 hB2))
      clear hD2 hQ2 hB2
      go_wp2_with fail
      by_cases m2 : nuB (bs x2) = true
      · refine (num_ok x2 (Q + 1) 2 _ _ w2 (by omega) HQ.out.1 rfl m2).mono ?_
        rintro e w3 ⟨rfl, h3⟩
        have hD3 : Blk w3 (Q + 1) [.string x0, .int .i64 (num (bs x1)), .int .i64 (num (bs x2))] := h3 ▸ HQ.out.1.put 2 (.int .i64 (num (bs x2)))
        have hB3 : Below w.heap.size w w3 := h3 ▸ HQ.out.2.2.setCell (p := ⟨Q + 1, 2, none⟩) (by show w.heap.size ≤ Q + 1; omega) (.int .i64 (num (bs x2)))
        have hG3 := HX.out.2.1.low hB3
        have hO3 := owns_keep (B := w3) HX.out.2.2 (fun j _ hj => hB3.block j hj)
        have hh : Hid (tpB (bs s) = true) := Lib.hid (by rw [HE.out.1, m1, m2]; rfl)
        have d0 := hD3.cell (i := 0) rfl
        have d1 := hD3.cell (i := 1) rfl
        have d2 := hD3.cell (i := 2) rfl
        have g1 := hG3.cell (i := 1) rfl
        have z1' := hG3.frozen 1
        have hBg : Below g w w3 := hB3.mono (Nat.le_of_lt HX.out.2.1.lt)
        have hgl : g < w.heap.size := HX.out.2.1.lt
        have hsz3 := hB3.size
        have HB := Lib.hid (And.intro hD3 (And.intro hG3 (And.intro hO3 hBg)))
        clear h3 HQ hD3 hB3 hG3 hO3 hBg HX q2 m1 m2 hQE
        have hml : l.length + 1 ≤ maxLen := Nat.le_trans (by omega : l.length + 1 ≤ 100001) (by decide)
        generalize num (bs x1) = y1 at *
        generalize num (bs x2) = y2 at *
        have g1a := (HB.out.2.1.alloc (.cells #[.string x0, .int .i64 y1, .int .i64 y2] 45)).cell (i := 1) rfl
        go_wp2_with fail
        go_region_law ((refine step_append_lies _ (by rfl) _ _ _ (by rfl) (g + 1) 45 i0 _ 3 32 Tryd.underlying22 hi hz0 hz1 hz2 rfl (by omega) (.slice av l.length cv) l.length (tcl l) (by rfl) ((HB.out.2.2.1.alloc _).drew) ⟨w3.heap.size, 0, none⟩ 1 1 (tcells (x0, (y1 : Int), (y2 : Int))) (by rfl) (by rfl) (World.news_of_block (cs := #[.string x0, .int .i64 y1, .int .i64 y2]) (t := 45) (fr := (0, 0)) (heap_alloc_new w3 _)) (by simp [tcells, Value.oneCell']) (by omega) hml (by omega) (by simp; omega) (w3.heap.size + 1) (by simp) ?_; intro gg cap' w4 hown' hgrow hat hlt1; have hG4 : Blk w4 g [.int .i64 T, .slice av l.length cv, .int .i64 R, .int .i64 L] := (HB.out.2.1.alloc (.cells #[.string x0, .int .i64 y1, .int .i64 y2] 45)).of_block (hgrow.block g (by simp; omega) (fun e => by have := (HB.out.2.2.1.lt g e.symm).1; omega)); have r1 := hG4.cell (i := 1) rfl; have r2 := hG4.frozen 1))
        all_goals
          have hBd : Below g w ((w3.alloc (.cells #[.string x0, .int .i64 y1, .int .i64 y2] 45)).drew) := belN (HB.out.2.2.2.alloc (by omega) _) 1
          have hB4 : Below g w w4 := hBd.grown hgrow (by simp; omega) (fun q e => by have := (HB.out.2.2.1.lt q e).1; omega)
          have hF := Lib.hid (And.intro hB4 (And.intro hG4 hown'))
          clear hB4 hG4 hown' hgrow hBd hat
          go_wp2
          go_ret
          refine ⟨by rw [hh.out]; rfl, hF.out.1.setCell (p := ⟨g, 1, none⟩) (Nat.le_refl _) _, fun _ => ⟨_, hF.out.2.1.put 1 _, ?_⟩⟩
          rw [HE.out.2, tcl_snoc]
          exact owns_keep hF.out.2.2 (fun j hj _ => Below.heap_setCell _ _ _ _ (by show j ≠ g; omega))
      · have m2' : nuB (bs x2) = false := by simpa using m2
        have hh : Hid (tpB (bs s) = false) := Lib.hid (by rw [HE.out.1, m2']; simp)
        have hbf : Hid (Below g w w2) := Lib.hid (HQ.out.2.2.mono (Nat.le_of_lt HX.out.2.1.lt))
        refine (num_no x2 (Q + 1) 2 _ _ w2 (by omega) HQ.out.1 rfl m2').mono ?_
        rintro e w3 ⟨rfl, rfl⟩
        clear HQ HX q2
        go_wp2
        go_ret
        exact ⟨by rw [hh.out]; rfl, hbf.out, fun h => by rw [hh.out] at h; cases h⟩
    · have m1' : nuB (bs x1) = false := by simpa using m1
      have hh : Hid (tpB (bs s) = false) := Lib.hid (by rw [HE.out.1, m1']; simp)
      have hbf : Hid (Below g w W) := Lib.hid (HQ.out.2.2.mono (Nat.le_of_lt HX.out.2.1.lt))
      refine (num_no x1 (Q + 1) 1 _ _ W (by omega) HQ.out.1 rfl m1').mono ?_
      rintro e w3 ⟨rfl, rfl⟩
      clear HQ HX q0 q1 q2
      go_wp2
      go_ret
      exact ⟨by rw [hh.out]; rfl, hbf.out, fun h => by rw [hh.out] at h; cases h⟩
  · have ho' : opB kTopic kWords kDepth (spl 32 (bs s)) = false := by simpa using ho
    have hh : Hid (tpB (bs s) = false) := Lib.hid (by unfold tpB; rw [ho']; simp)
    have hbf : Hid (Below g w _) := Lib.hid (hB1.mono (Nat.le_of_lt HX.out.2.1.lt))
    rw [ho']
    clear ho ho' HX hD hQ hB1 hM
    go_wp2
    go_ret
    exact ⟨by rw [hh.out]; rfl, hbf.out, fun h => by rw [hh.out] at h; cases h⟩
end Go.Proofs.YthdchoagdipplaaDoor
