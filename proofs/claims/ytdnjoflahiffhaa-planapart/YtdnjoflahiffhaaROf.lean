/- The document's Of: its contract. -/
import Derived.Test.YtdnjoflahiffhaaROfM
import Derived.Test.YtdnjoflahiffhaaRChk
namespace Go.Proofs.Ytdnjoflahiffhaa
open Go.RowKit

set_option maxRecDepth 100000 in
set_option maxHeartbeats 1000000 in
theorem rof_bad (T R L : Int) (a : Option Addr) (cap : Nat) (l : List Tp) (w : World) (hT : Tps w.heap.size w a l) (hs : ∀ t ∈ l, t.1.size ≤ 100000) (hbad : (chk T l R L).2 ≠ 0) :
    Calls Try.prog 12 #[cfg T a l.length cap R L] w (Ret (.tuple #[.pointer none, .int .i64 (chk T l R L).2]) w) := by
  have hC := Blk.new w #[.int .i64 T, .slice a l.length cap, .int .i64 R, .int .i64 L] 24
  have hB := (Below.refl w.heap.size w).alloc (Nat.le_refl _) (.cells #[.int .i64 T, .slice a l.length cap, .int .i64 R, .int .i64 L] 24)
  have c0 := hC.cell (i := 0) rfl
  have c1 := hC.cell (i := 1) rfl
  have c2 := hC.cell (i := 2) rfl
  have c3 := hC.cell (i := 3) rfl
  have HB := Lib.hid hB
  have HT := Lib.hid (And.intro (hT.next hB) hs)
  have Hbad := Lib.hid hbad
  clear hC hB hT hs hbad
  go_enter Try.func12, Try.ntmps12
  go_wp2_with fail
  refine (rcheck_any T R L a cap l _ HT.out.1 HT.out.2).mono ?_
  rintro e w1 ⟨rfl, hb1⟩
  have hB1 := HB.out.trans (hb1.mono HB.out.size)
  generalize hq : chk T l R L = q at *
  obtain ⟨x, y⟩ := q
  have hy : (y != 0) = true := by simpa using Hbad.out
  have hF2 := Blk.new w1 #[.int .i64 x, .int .i64 y] 63
  have hB2 := hB1.alloc hB1.size (.cells #[.int .i64 x, .int .i64 y] 63)
  have q1 := hF2.cell (i := 1) rfl
  have H2 := Lib.hid (belN hB2)
  clear hB1 hb1 hF2 hB2 HB HT c0 c1 c2 c3 Hbad hq
  go_wp2_with fail
  go_quiet (fail)
  go_wp2
  go_ret2
  exact ⟨rfl, H2.out _⟩

/-- At the head of its loop. -/
def RelRo (w : World) (T R L : Int) (a : Option Addr) (cap p : Nat) (l : List Tp) (i : Value) (wr : World) : Prop :=
  ∃ (k : Nat) (u v : Value), k ≤ l.length ∧ i = .int .i64 k ∧ RS w T R L a l.length cap p 0 1 u k (scl (spots (1 + L) (l.take k))) v (wdl L (l.take k)) wr
/-- What it leaves of a config that may be. -/
def ROfPost (L : Int) (l : List Tp) (w : World) (e : Ending) (w' : World) : Prop :=
  ∃ p a cap a' cap', e = .returned (.tuple #[.pointer (some ⟨p, 0, none⟩), .int .i64 0]) ∧ Blk w' p [.int .i64 0, .int .i64 1, .int .i64 L, .slice a l.length cap, .slice a' (wdl L l).length cap'] ∧ Sps w'.heap.size w' a (spots (1 + L) l) ∧ Ints w'.heap.size w' a' (wdl L l) ∧ Below w.heap.size w w'
theorem info41 : (Try.prog.info? 41).map (fun i => (i.zero, i.size, i.bytes)) = some (some (spv 0 0 0 0 0), 5, 40) := by kernel_rfl

set_option maxRecDepth 100000 in
set_option maxHeartbeats 2000000 in
theorem rof_ok (T R L : Int) (a : Option Addr) (cap : Nat) (l : List Tp) (w : World) (hT : Tps w.heap.size w a l) (hs : ∀ t ∈ l, t.1.size ≤ 100000) (hok : (chk T l R L).2 = 0) :
    Calls Try.prog 12 #[cfg T a l.length cap R L] w (ROfPost L l w) := by
  have hC := Blk.new w #[.int .i64 T, .slice a l.length cap, .int .i64 R, .int .i64 L] 24
  have hB := (Below.refl w.heap.size w).alloc (Nat.le_refl _) (.cells #[.int .i64 T, .slice a l.length cap, .int .i64 R, .int .i64 L] 24)
  have c0 := hC.cell (i := 0) rfl
  have c1 := hC.cell (i := 1) rfl
  have c2 := hC.cell (i := 2) rfl
  have c3 := hC.cell (i := 3) rfl
  obtain ⟨hl1, hl64, hL1, hL64, hall⟩ := chk_rng hok
  obtain ⟨i0, hi, hz0, hz1, hz2⟩ := info_parts info41
  have HB := Lib.hid (And.intro hC hB)
  have HT := Lib.hid (And.intro (hT.next hB) (And.intro hs (And.intro (by omega : l.length ≤ 100000) hT)))
  have Hok := Lib.hid (And.intro hok hall)
  clear hC hB hT hs hok hall
  go_enter Try.func12, Try.ntmps12
  go_wp2_with fail
  refine (rcheck_any T R L a cap l _ HT.out.1 HT.out.2.1).mono ?_
  rintro e w1 ⟨rfl, hb1⟩
  have hC1 := HB.out.1.low hb1
  have hB1 := HB.out.2.trans (hb1.mono HB.out.2.size)
  have hT' := HT.out.2.2.2
  have hlt := hC1.lt
  clear c0 c1 c2 c3
  generalize hq : chk T l R L = q at *
  obtain ⟨x, y⟩ := q
  obtain rfl : y = 0 := Hok.out.1
  have hS := ((show RS w T R L a l.length cap (w1.heap.size + 1) 0 0 (.slice none 0 0) 0 [] (.slice none 0 0) [] ((w1.alloc (.cells #[.int .i64 x, .int .i64 0] 63)).alloc (.cells #[.int .i64 0, .int .i64 0, .int .i64 L, .slice none 0 0, .slice none 0 0] 39)) from by
    have b2 := Blk.new (w1.alloc (.cells #[.int .i64 x, .int .i64 0] 63)) #[.int .i64 0, .int .i64 0, .int .i64 L, .slice none 0 0, .slice none 0 0] 39
    simp only [World.size_alloc] at b2
    exact ⟨(hC1.alloc _).alloc _, ⟨b2, World.ownsRow_nil _ _ _ _⟩, World.ownsRow_nil _ _ _ _, fun q e => by simp [Value.ownBlock] at e, (hB1.alloc hB1.size _).alloc (by simp; have := hB1.size; omega) _⟩))
  have HS := Lib.hid hS
  have HTT := Lib.hid hT'
  have Hall := Lib.hid Hok.out.2
  have cc := (hC1.alloc (.cells #[.int .i64 x, .int .i64 0] 63)).cell (i := 3) rfl
  clear hS hT' HT HB hC1 hB1 hb1 Hok hq
  go_wp2_with fail
  generalize ((w1.alloc (.cells #[.int .i64 x, .int .i64 0] 63)).alloc (.cells #[.int .i64 0, .int .i64 0, .int .i64 L, .slice none 0 0, .slice none 0 0] 39)) = W2 at *
  generalize hp : w1.heap.size + 1 = p at *
  have Ho := Lib.hid (show w.heap.size < p by omega)
  clear hp hlt cc
  refine (lay_to (p + 1) p 0 0 L (.slice none 0 0) (.slice none 0 0) [] (-1) 1 1 rfl W2 (by omega) (by have := HS.out.size.2; omega) (by omega) (by simp) 0 rfl HS.out.2.1).mono ?_
  rintro e W3 ⟨rfl, v3, q1, q2, q3⟩
  have H3 := Lib.hid (HS.out.lay Ho.out q1 q2 q3)
  have H4 := Lib.hid ((HS.out.lay Ho.out q1 q2 q3).set0 Ho.out 0)
  have p0 := H3.out.2.1.1.cell (i := 0) rfl
  have z0 := H3.out.2.1.1.frozen 0
  have cl := H4.out.1.cell (i := 3) rfl
  clear HS q1 q2 q3
  go_wp2_with fail
  generalize W3.setCell ⟨p, 0, none⟩ (.int .i64 0) = W4 at *
  clear H3 p0 z0 cl
  refine (lay_to (p + 1) p 0 0 L (.slice none 0 0) v3 ([] ++ List.replicate 1 (-1)) (-2) L L.toNat (by omega) W4 (by omega) (by have := H4.out.size.2; omega) (by omega) (by simp) 1 rfl H4.out.2.1).mono ?_
  rintro e W5 ⟨rfl, v5, q1, q2, q3⟩
  have H5 := Lib.hid (H4.out.lay Ho.out q1 q2 q3)
  have H6 := Lib.hid ((H4.out.lay Ho.out q1 q2 q3).set1 Ho.out 1)
  have p0 := H5.out.2.1.1.cell (i := 1) rfl
  have z0 := H5.out.2.1.1.frozen 1
  clear H4 q1 q2 q3
  go_wp2_with fail
  generalize W5.setCell ⟨p, 1, none⟩ (.int .i64 1) = W6 at *
  clear H5 p0 z0
  go_loopw [6] (RelRo w T R L a cap p l) (fun i _ => l.length - (intOf i).toNat)
  case atStart => exact ⟨0, _, _, by omega, rfl, by
    have := H6.out
    simp only [List.take_zero, wdl, tw, List.append_nil, spots, scl, List.flatMap_nil]
    simpa using this⟩
  case round =>
    clear H6
    obtain ⟨k, u, v, hk, rfl, hS⟩ := hrel
    obtain ⟨av, cv, rfl, _⟩ := owns_slice hS.2.2.1
    have cl := hS.1.cell (i := 1) rfl
    have HS := Lib.hid hS
    clear hS
    by_cases hkl : k < l.length
    · obtain ⟨t, ht⟩ : ∃ t, l[k]? = some t := ⟨l[k], List.getElem?_eq_getElem hkl⟩
      have k0 : (k : Int) < l.length := by omega
      obtain ⟨b, off, rfl, _, u0, u1, u2⟩ := (HTT.out.below HS.out.2.2.2.2) k t ht
      have hokt := Hall.out t (List.mem_of_getElem? ht)
      have hbd := take_bd k hk hl64 (1 + L) Hall.out
      have hm := mul_bd (m := 64) (n := 16) (by have := hokt.1; omega : 0 ≤ t.2.1) hokt.2.1 (by have := hokt.2.2.1; omega : 0 ≤ t.2.2) hokt.2.2.2
      have e2 := (drop_at ht).2
      have e3 := wdl_len (L := L) (l := l.take k) hL1 (fun t ht => Hall.out t (List.mem_of_mem_take ht))
      have e4 := wdl_next (L := L) (l := l.take k) hokt
      rw [List.length_take, Nat.min_eq_left hk] at e4
      have Ht := Lib.hid (And.intro ht (And.intro hokt (And.intro hbd (And.intro hm (And.intro e2 (And.intro e3 e4))))))
      clear ht hokt hbd hm e2 e3 e4
      obtain ⟨nm, wd, dp⟩ := t
      generalize hzz : tot (1 + L) (l.take k) = z0 at *
      have Hz0 := Lib.hid hzz
      clear hzz
      have hD : p < wr.heap.size := HS.out.size.2
      have h1 := (show RR w T R L (some ⟨b, off, none⟩) l.length cap p (.slice av k cv) k (scl (spots (1 + L) (l.take k))) v (wdl L (l.take k)) wr.heap.size nm wd dp 0 0 0 ((wr.alloc (.cells #[.string nm, .int .i64 wd, .int .i64 dp] 58)).alloc (.cells #[.int .i64 0, .int .i64 0, .int .i64 0, .int .i64 wd, .int .i64 dp] 41)) from by
        have b1 := Blk.new wr #[.string nm, .int .i64 wd, .int .i64 dp] 58
        have b2 := Blk.new (wr.alloc (.cells #[.string nm, .int .i64 wd, .int .i64 dp] 58)) #[.int .i64 0, .int .i64 0, .int .i64 0, .int .i64 wd, .int .i64 dp] 41
        simp only [World.size_alloc] at b2
        exact ⟨(HS.out.alloc _).alloc _, b1.alloc _, b2, fun q e => by have := (HS.out.2.1.2.lt q e).2; omega, fun q e => (HS.out.2.2.1.lt q e).2, hD⟩)
      have H1 := Lib.hid h1
      clear h1 hD HS HTT
      generalize wdl L (l.take k) = ws at *
      go_wp2_with fail
      clear u0 u1 u2 cl
      generalize ((wr.alloc (.cells #[.string nm, .int .i64 wd, .int .i64 dp] 58)).alloc (.cells #[.int .i64 0, .int .i64 0, .int .i64 0, .int .i64 wd, .int .i64 dp] 41)) = V1 at *
      generalize wr.heap.size = D at *
      refine (lay_to (p + 1) p 0 1 L (.slice av k cv) v ws k 1 1 rfl V1 (by omega) (by have := H1.out.1.size.2; omega) (by omega) (by have := Ht.out.2.2; omega) z0 Ht.out.2.2.2.2.2.1 H1.out.1.2.1).mono ?_
      rintro e V2 ⟨rfl, v2, q1, q2, q3⟩
      have H2 := Lib.hid (H1.out.lay Ho.out q1 q2 q3)
      clear H1 q1 q2 q3
      have q0 := H2.out.2.2.1.cell (i := 0) rfl
      have f0 := H2.out.2.2.1.frozen 0
      have H3 := Lib.hid (H2.out.put0 Ho.out z0)
      clear H2
      go_wp2_with fail
      clear q0 f0
      generalize V2.setCell ⟨D + 1, 0, none⟩ (.int .i64 z0) = V3 at *
      refine (lay_to (p + 1) p 0 1 L (.slice av k cv) v2 (ws ++ List.replicate 1 (k : Int)) k 1 1 rfl V3 (by omega) (by have := H3.out.1.size.2; omega) (by omega) (by have := Ht.out.2.2; simp; omega) (z0 + 1) (by have := Ht.out.2.2.2.2.2.1; simp; omega) H3.out.1.2.1).mono ?_
      rintro e V4 ⟨rfl, v4, q1, q2, q3⟩
      have H4 := Lib.hid (H3.out.lay Ho.out q1 q2 q3)
      clear H3 q1 q2 q3
      have q0 := H4.out.2.2.1.cell (i := 1) rfl
      have f0 := H4.out.2.2.1.frozen 1
      have H5 := Lib.hid (H4.out.put1 Ho.out (z0 + 1))
      have d1 := H5.out.2.1.cell (i := 1) rfl
      have d2 := H5.out.2.1.cell (i := 2) rfl
      have hw : wrap64 (wd * dp) = wd * dp := by have := Ht.out.2.2.2.1; unfold wrap64; omega
      clear H4
      go_wp2_with fail
      clear q0 f0 d1 d2 hw
      generalize V4.setCell ⟨D + 1, 1, none⟩ (.int .i64 (z0 + 1)) = V5 at *
      refine (lay_to (p + 1) p 0 1 L (.slice av k cv) v4 (ws ++ List.replicate 1 (k : Int) ++ List.replicate 1 (k : Int)) k (wd * dp) (wd * dp).toNat (by have := Ht.out.2.2.2.1; omega) V5 (by omega) (by have := H5.out.1.size.2; omega) (by have := Ht.out.2.2.2.1; omega) (by have := Ht.out.2.2; simp; omega) (z0 + 2) (by have := Ht.out.2.2.2.2.2.1; simp; omega) H5.out.1.2.1).mono ?_
      rintro e V6 ⟨rfl, v6, q1, q2, q3⟩
      have h6 := H5.out.lay Ho.out q1 q2 q3
      rw [Ht.out.2.2.2.2.2.2] at h6
      have H6 := Lib.hid h6
      clear H5 q1 q2 q3 h6
      have q0 := H6.out.2.2.1.cell (i := 2) rfl
      have f0 := H6.out.2.2.1.frozen 2
      have H7 := Lib.hid (H6.out.put2 Ho.out (z0 + 2))
      have s0 := H7.out.2.2.1.cell (i := 0) rfl
      have s1 := H7.out.2.2.1.cell (i := 1) rfl
      have s2 := H7.out.2.2.1.cell (i := 2) rfl
      have s3 := H7.out.2.2.1.cell (i := 3) rfl
      have s4 := H7.out.2.2.1.cell (i := 4) rfl
      have p3 := H7.out.1.2.1.1.cell (i := 3) rfl
      clear H6
      have hml : k + 1 ≤ maxLen := Nat.le_trans (by omega : k + 1 ≤ 65) (by decide)
      obtain ⟨V7, hV7⟩ : ∃ V7, V6.setCell ⟨D + 1, 2, none⟩ (.int .i64 (z0 + 2)) = V7 := ⟨_, rfl⟩
      rw [hV7] at H7 s0 s1 s2 s3 s4 p3
      have hP7 : p < V7.heap.size := H7.out.1.size.2
      have hw7 : w.heap.size ≤ V7.heap.size := H7.out.1.size.1
      have p3a := (H7.out.1.2.1.1.alloc (.cells #[.int .i64 z0, .int .i64 (z0 + 1), .int .i64 (z0 + 2), .int .i64 wd, .int .i64 dp] 41)).cell (i := 3) rfl
      go_wp2_with fail
      clear hV7 q0 f0
      go_region_law ((refine step_append_lies _ (by rfl) _ _ _ (by rfl) (p + 1) 41 i0 _ 5 40 Try.underlying36 hi hz0 hz1 hz2 rfl (by omega) (.slice av k cv) k _ (by rfl) ((H7.out.1.2.2.1.alloc _).drew) ⟨V7.heap.size, 0, none⟩ 1 1 (spc z0 (z0 + 1) (z0 + 2) wd dp) (by rfl) (by rfl) (World.news_of_block (cs := #[.int .i64 z0, .int .i64 (z0 + 1), .int .i64 (z0 + 2), .int .i64 wd, .int .i64 dp]) (t := 41) (fr := (0, 0)) (heap_alloc_new V7 _)) (by simp [Value.oneCell']) (by omega) hml (by omega) (by simp; omega) (V7.heap.size + 1) (by simp) ?_; intro gg cap' w4 hown' hgrow hat hlt1; have hG4 : Blk w4 p [.int .i64 0, .int .i64 1, .int .i64 L, .slice av k cv, v6] := (H7.out.1.2.1.1.alloc (.cells #[.int .i64 z0, .int .i64 (z0 + 1), .int .i64 (z0 + 2), .int .i64 wd, .int .i64 dp] 41)).of_block (hgrow.block p (by simp; omega) (fun e => by have := (H7.out.1.2.2.1.lt p e.symm).1; omega)); have r1 := hG4.cell (i := 3) rfl; have r2 := hG4.frozen 3))
      all_goals
        have hB4 : Below w.heap.size w w4 := Below.grown (belN (H7.out.1.2.2.2.2.alloc hw7 _) 1) hgrow (by show w.heap.size ≤ (V7.alloc _).heap.size; rw [World.size_alloc]; omega) (fun q e => by have := (H7.out.1.2.2.1.lt q e).1; have := Ho.out; omega)
        have hC4 : Blk w4 w.heap.size (cfl T (some ⟨b, off, none⟩) l.length cap R L) := (H7.out.1.1.alloc (.cells #[.int .i64 z0, .int .i64 (z0 + 1), .int .i64 (z0 + 2), .int .i64 wd, .int .i64 dp] 41)).of_block (hgrow.block w.heap.size (H7.out.1.1.alloc _).lt (fun e => by have := (H7.out.1.2.2.1.lt _ e.symm).1; have := Ho.out; omega))
        have hV4 : w4.ownsRow (p + 1) 3 1 v6 _ (icl (wdl L (l.take k ++ [(nm, wd, dp)]))) := World.ownsRow.kept (World.ownsRow.drew (H7.out.1.2.1.2.alloc (.cells #[.int .i64 z0, .int .i64 (z0 + 1), .int .i64 (z0 + 2), .int .i64 wd, .int .i64 dp] 41))) hgrow (by
          cases hq : v6.ownBlock with
          | none => exact .inl rfl
          | some q => exact .inr (fun e => H7.out.1.2.2.2.1 q e.symm hq))
        have hvl := fun q e => (H7.out.1.2.1.2.lt q e)
        have h9 : RS w T R L (some ⟨b, off, none⟩) l.length cap p 0 1 (.slice (some ⟨gg, 0, none⟩) (k + 1) cap') (k + 1) (scl (spots (1 + L) (l.take k)) ++ spc z0 (z0 + 1) (z0 + 2) wd dp) v6 (wdl L (l.take k ++ [(nm, wd, dp)])) (w4.setCell ⟨p, 3, none⟩ (.slice (some ⟨gg, 0, none⟩) (k + 1) cap')) := by
          refine ⟨hC4.setFar (by have := Ho.out; show w.heap.size ≠ p; omega) _, ⟨hG4.put 3 _, owns_far hV4 (fun q e => by have := (hV4.lt q e).1; show q ≠ p; omega) _⟩, owns_far hown' (fun q e => by have := (hown'.lt q e).1; show q ≠ p; omega) _, fun q e e' => ?_, hB4.setCell (by have := Ho.out; show w.heap.size ≤ p; omega) _⟩
          have hqg : q = gg := by simpa [Value.ownBlock] using e.symm
          subst hqg
          rcases hat with h | h
          · exact H7.out.1.2.2.2.1 q h e'
          · have := (hvl q e').2
            omega
        have H9 := Lib.hid h9
        clear h9 hB4 hC4 hV4 hvl hown' hgrow hat hG4 r1 r2 p3 p3a s0 s1 s2 s3 s4
        go_wp2
        go_roundw
        case rel =>
          refine ⟨k + 1, .slice (some ⟨gg, 0, none⟩) (k + 1) cap', v6, by omega, by go_num, ?_⟩
          rw [Ht.out.2.2.2.2.1, spots_snoc, scl_snoc, Hz0.out]
          exact H9.out
        case measure => simp [intOf]; omega
    · have k0 : decide ((k : Int) < (l.length : Int)) = false := decide_eq_false (by omega)
      obtain rfl : k = l.length := by omega
      have h2 := HS.out
      simp only [List.take_length] at h2
      obtain ⟨a1, c1, hv1, hT1⟩ := owns_sps (spots_len l (1 + L)) h2.2.2.1
      obtain ⟨a2, c2, hv2, hT2⟩ := owns_ints h2.2.1.2
      subst hv2
      simp only [Value.slice.injEq] at hv1
      obtain ⟨rfl, _, rfl⟩ := hv1
      have HF := Lib.hid (And.intro h2 (And.intro hT1 hT2))
      clear h2 hT1 hT2 HS
      go_wp2
      go_ret2
      exact ⟨p, av, cv, a2, c2, rfl, HF.out.1.2.1.1, HF.out.2.1, HF.out.2.2, HF.out.1.2.2.2.2⟩
end Go.Proofs.Ytdnjoflahiffhaa
