/- config.Check: its contract. -/
import Derived.Test.YtdnjoflahiffhaaFst
import Derived.StillTailTactics
import Derived.Maps.OwnOps
namespace Go.Proofs.Ytdnjoflahiffhaa
open Go.RowKit Go.Maps

theorem eq29 (a b c d : Int) (w : World) : (Op.equalIn 10000 61 (.agg #[.int .i64 a, .int .i64 b]) (.agg #[.int .i64 c, .int .i64 d])).run Try.prog w = .ok (a == c && b == d) w := by
  have u3 := Try.underlying3
  have a3 := Try.isAgg3
  have z3 := Try.sizeOf3
  have u27 := Try.underlying30
  have a27 := Try.isAgg30
  have z27 := Try.sizeOf30
  have hS : Try.prog.underlying 61 = some (.struct (Try.prog.fieldsOf 61)) := by kernel_rfl
  rw [show (10000 : Nat) = 9999 + 1 from rfl, run_equalIn_agg w 9999 61 _ _ hS (by kernel_rfl)]
  simp only [Program.fieldsOf, Try.underlying61]
  go_simp
  by_cases h1 : a = c <;> by_cases h2 : b = d <;> simp [h1, h2]

abbrev flt (x : Int × Int) : Value := .agg #[.int .i64 x.1, .int .i64 x.2]
theorem four_hd (T : Int) (n : Nat) (R L : Int) : four (rng T 1 8) (if rng n 1 64 ≠ 0 then 12 else 0) (rng R 1 16) (rng L 1 64) = hdE T n R L := by
  unfold four hdE
  by_cases h1 : rng T 1 8 = 0
  · by_cases h2 : rng n 1 64 = 0
    · by_cases h3 : rng R 1 16 = 0
      · simp [h1, h2, h3]
      · simp [h1, h2, rng_ne h3]
    · simp [h1, h2]
  · simp [rng_ne h1]
theorem four_tp (ahead : List Tp) (t : Tp) : four (nmE (bs t.1)) (thE ahead t.1) (rng t.2.1 1 64) (rng t.2.2 2 16) = tpE ahead t := by
  unfold four tpE nmE thE
  by_cases h1 : nmB (bs t.1) = false
  · simp [h1]
  · by_cases h2 : dup ahead t.1 = true
    · simp [h1, h2]
    · by_cases h3 : rng t.2.1 1 64 = 0
      · simp [h1, h2, h3]
      · simp [h1, h2, rng_ne h3]

theorem fl_cases (x e : Int) : ∃ u v : Int, fl x e = .agg #[.int .i64 u, .int .i64 v] ∧ v = e ∧ (v ≠ 0 → u = x) ∧ (v = 0 → u = 0) := by
  unfold fl
  by_cases h : e = 0
  · exact ⟨0, 0, by simp [h], h.symm, fun h => absurd rfl h, fun _ => rfl⟩
  · exact ⟨x, e, by simp [h], rfl, fun _ => rfl, fun h' => absurd h' h⟩
theorem Ahd.alloc {w : World} {m n : Nat} {ahead : List Tp} (h : Ahd w m n ahead) (o : Obj) : Ahd (w.alloc o) m n ahead := by
  obtain ⟨D, ho, hat⟩ := h
  exact ⟨D, ho.alloc o, hat⟩
theorem Ahd.setCell {w : World} {m n : Nat} {ahead : List Tp} (h : Ahd w m n ahead) {p : Addr} (hp : m ≠ p.block) (u : Value) : Ahd (w.setCell p u) m n ahead := by
  obtain ⟨D, ho, hat⟩ := h
  exact ⟨D, ho.setCell hp u, hat⟩
abbrev cfl (T : Int) (a : Option Addr) (len cap : Nat) (R L : Int) : List Value := [.int .i64 T, .slice a len cap, .int .i64 R, .int .i64 L]
abbrev zz : List Value := [.int .i64 0, .int .i64 0]
abbrev clo (f g : Nat) : Value := .func (.func f) #[.pointer (some ⟨g, 0, none⟩)] #[]
/-- The world in which the looks begin. -/
abbrev preW (T R L : Int) (a : Option Addr) (n cap : Nat) (w : World) : World :=
  ((((w.alloc (.cells #[.int .i64 T, .slice a n cap, .int .i64 R, .int .i64 L] 24)).alloc (.cells #[.int .i64 0, .int .i64 0] 61)).alloc (.map #[] 0)).alloc
    (.cells #[.int .i64 T, .slice a n cap, .int .i64 R, .int .i64 L, .int .i64 (-1), .map (some (w.heap.size + 1 + 1))] 77)).alloc
    (.cells #[clo 28 (w.heap.size + 1 + 1 + 1), clo 29 (w.heap.size + 1 + 1 + 1), clo 30 (w.heap.size + 1 + 1 + 1), clo 31 (w.heap.size + 1 + 1 + 1)] 79)
theorem chk_pre (T R L : Int) (a : Option Addr) (n cap : Nat) (w : World) :
    Blk (preW T R L a n cap w) w.heap.size (cfl T a n cap R L) ∧ Blk (preW T R L a n cap w) (w.heap.size + 1) zz ∧ Ahd (preW T R L a n cap w) (w.heap.size + 1 + 1) 0 [] ∧
    Blk (preW T R L a n cap w) (w.heap.size + 1 + 1 + 1) (lk T a n cap R L (-1) (w.heap.size + 1 + 1)) ∧
    Blk (preW T R L a n cap w) (w.heap.size + 1 + 1 + 1 + 1) [clo 28 (w.heap.size + 1 + 1 + 1), clo 29 (w.heap.size + 1 + 1 + 1), clo 30 (w.heap.size + 1 + 1 + 1), clo 31 (w.heap.size + 1 + 1 + 1)] ∧
    Below w.heap.size w (preW T R L a n cap w) ∧ (preW T R L a n cap w).heap.size = w.heap.size + 1 + 1 + 1 + 1 + 1 := by
  have b1 := Blk.new w #[.int .i64 T, .slice a n cap, .int .i64 R, .int .i64 L] 24
  have b2 := Blk.new (w.alloc (.cells #[.int .i64 T, .slice a n cap, .int .i64 R, .int .i64 L] 24)) #[.int .i64 0, .int .i64 0] 61
  have b3 := Ahd.made ((w.alloc (.cells #[.int .i64 T, .slice a n cap, .int .i64 R, .int .i64 L] 24)).alloc (.cells #[.int .i64 0, .int .i64 0] 61))
  have b4 := Blk.new (((w.alloc (.cells #[.int .i64 T, .slice a n cap, .int .i64 R, .int .i64 L] 24)).alloc (.cells #[.int .i64 0, .int .i64 0] 61)).alloc (.map #[] 0)) #[.int .i64 T, .slice a n cap, .int .i64 R, .int .i64 L, .int .i64 (-1), .map (some (w.heap.size + 1 + 1))] 77
  have b5 := Blk.new ((((w.alloc (.cells #[.int .i64 T, .slice a n cap, .int .i64 R, .int .i64 L] 24)).alloc (.cells #[.int .i64 0, .int .i64 0] 61)).alloc (.map #[] 0)).alloc
    (.cells #[.int .i64 T, .slice a n cap, .int .i64 R, .int .i64 L, .int .i64 (-1), .map (some (w.heap.size + 1 + 1))] 77)) #[clo 28 (w.heap.size + 1 + 1 + 1), clo 29 (w.heap.size + 1 + 1 + 1), clo 30 (w.heap.size + 1 + 1 + 1), clo 31 (w.heap.size + 1 + 1 + 1)] 79
  simp only [World.size_alloc] at b2 b3 b4 b5
  refine ⟨(((b1.alloc _).alloc _).alloc _).alloc _, ((b2.alloc _).alloc _).alloc _, (b3.alloc _).alloc _, b4.alloc _, b5, ?_, by simp⟩
  exact (((((Below.refl _ _).alloc (Nat.le_refl _) _).alloc (by simp) _).alloc (by simp; omega) _).alloc (by simp; omega) _).alloc (by simp; omega) _

/-- At the head of Check's loop. -/
def RelCk (w : World) (T R L : Int) (a : Option Addr) (cap : Nat) (l : List Tp) (c r m g F : Nat) (i : Value) (wr : World) : Prop :=
  ∃ (k : Nat) (x y kk : Int), k ≤ l.length ∧ i = .int .i64 k ∧ Blk wr F [.int .i64 x, .int .i64 y] ∧ Blk wr g (lk T a l.length cap R L kk m) ∧ Blk wr c (cfl T a l.length cap R L) ∧ Blk wr r zz ∧ Ahd wr m k (l.take k) ∧
    Below w.heap.size w wr ∧ chk T l R L = (if y = 0 then tps (l.take k) (l.drop k) else (x, y)) ∧ (y = 0 → x = 0) ∧ (y = 0 → l.length ≤ 64)

set_option maxRecDepth 100000 in
set_option maxHeartbeats 2000000 in
theorem check_any (T R L : Int) (a : Option Addr) (cap : Nat) (l : List Tp) (w : World) (hT : Tps w.heap.size w a l) (hs : ∀ t ∈ l, t.1.size ≤ 100000) : Calls Try.prog 19 #[cfg T a l.length cap R L] w (Ret (flt (chk T l R L)) w) := by
  have hmm := @run_makeMap Try.prog
  have hmf : ∀ (fn : Fn) (first cap : Array Value) (w : World), (Instr.makeFunc fn first cap).run Try.prog w = .ok (.func fn first cap) w := fun _ _ _ _ => rfl
  obtain ⟨hC, hR, hM, hG, hQ, hB, hZ⟩ := chk_pre T R L a l.length cap w
  have HF := Lib.hid (And.intro hC (And.intro hR (And.intro hM (And.intro hG (And.intro hQ (And.intro hB hZ))))))
  have HT := Lib.hid (And.intro hT hs)
  clear hC hR hM hG hQ hB hZ hT hs
  go_enter Try.func19, Try.ntmps19
  go_wp2_with fail
  refine (first_a (preW T R L a l.length cap w) _ _ _ (-1) _ _ _ _ HF.out.2.2.2.1 rfl HF.out.2.2.2.2.1
    (fun n => (tasks_any T R L (-1) a l.length cap _ _ _ (blkN (HF.out.2.2.2.1.alloc _) n)).mono (fun e w' ⟨h1, h2⟩ => ⟨h1, 0, h2.symm⟩))
    (fun n => (topics_any T R L (-1) a l.length cap _ _ _ (blkN (HF.out.2.2.2.1.alloc _) n)).mono (fun e w' ⟨h1, h2⟩ => ⟨h1, 0, h2.symm⟩))
    (fun n => (tries_any T R L (-1) a l.length cap _ _ _ (blkN (HF.out.2.2.2.1.alloc _) n)).mono (fun e w' ⟨h1, h2⟩ => ⟨h1, 0, h2.symm⟩))
    (fun n => (log_any T R L (-1) a l.length cap _ _ _ (blkN (HF.out.2.2.2.1.alloc _) n)).mono (fun e w' ⟨h1, h2⟩ => ⟨h1, 0, h2.symm⟩))).mono ?_
  rintro e w1 ⟨rfl, hb1⟩
  rw [four_hd]
  obtain ⟨x0, y0, hfl, hy0, hx1, hx2⟩ := fl_cases (-1) (hdE T l.length R L)
  rw [hfl]
  clear hfl
  have hC1 := HF.out.1.low hb1
  have hR1 := HF.out.2.1.low hb1
  have hM1 := HF.out.2.2.1.low hb1 HF.out.2.2.1.lt
  have hG1 := HF.out.2.2.2.1.low hb1
  have hB1 : Below w.heap.size w w1 := HF.out.2.2.2.2.2.1.trans (hb1.mono HF.out.2.2.2.2.2.1.size)
  have hZ1 : w.heap.size + 1 + 1 + 1 + 1 + 1 ≤ w1.heap.size := by
    rw [← HF.out.2.2.2.2.2.2]
    exact hb1.size
  clear hb1 HF
  have hst : chk T l R L = (if y0 = 0 then tps (l.take 0) (l.drop 0) else (x0, y0)) ∧ (y0 = 0 → x0 = 0) ∧ (y0 = 0 → l.length ≤ 64) := by
    refine ⟨?_, hx2, fun h => ?_⟩
    · unfold chk
      rw [hy0] at hx1 ⊢
      by_cases h : hdE T l.length R L = 0
      · simp [h]
      · rw [if_pos h, if_neg h, hx1 h]
    · rw [hy0] at h
      unfold hdE at h
      split at h
      · omega
      · split at h
        · omega
        · rename_i h2
          have := rng_zero (by simpa using h2 : rng l.length 1 64 = 0)
          omega
  have HS := Lib.hid (And.intro hst (And.intro hC1 (And.intro hR1 (And.intro hM1 (And.intro hG1 hB1)))))
  clear hst hC1 hR1 hM1 hG1 hB1 hy0 hx1 hx2
  have hF0 := Blk.new w1 #[.int .i64 x0, .int .i64 y0] 61
  have HF0 := Lib.hid hF0
  clear hF0
  generalize h1 : w.heap.size + 1 = r at *
  generalize h2 : r + 1 = m at *
  generalize h3 : m + 1 = g at *
  generalize h4 : w1.heap.size = F at *
  have hord : w.heap.size < r ∧ r < m ∧ m < g ∧ g < F := by omega
  have Hord := Lib.hid (And.intro hord h4)
  clear h1 h2 h3 hZ1 hord
  go_wp2_with fail
  clear h4
  go_loopw [5] (RelCk w T R L a cap l w.heap.size r m g F) (fun i _ => l.length - (intOf i).toNat)
  case atStart =>
    refine ⟨0, x0, y0, -1, by omega, rfl, HF0.out, HS.out.2.2.2.2.1.alloc _, HS.out.2.1.alloc _, HS.out.2.2.1.alloc _, HS.out.2.2.2.1.alloc _, HS.out.2.2.2.2.2.alloc ?_ _, HS.out.1.1, HS.out.1.2.1, HS.out.1.2.2⟩
    have := Hord.out
    omega
  case round =>
    clear HS HF0
    obtain ⟨k, x, y, kk, hk, rfl, hF, hG, hC, hR, hM, hB, hst, hx, hlen⟩ := hrel
    by_cases hgo : k < l.length ∧ y = 0
    · obtain ⟨hkl, rfl⟩ := hgo
      obtain rfl := hx rfl
      rw [if_pos rfl] at hst
      obtain ⟨t, ht⟩ : ∃ t, l[k]? = some t := ⟨l[k], List.getElem?_eq_getElem hkl⟩
      have hts : t.1.size ≤ 100000 := HT.out.2 t (List.mem_of_getElem? ht)
      have hl64 := hlen rfl
      have k0 : (k : Int) < l.length := by omega
      have heq := eq29 0 0 0 0
      have f0 := hF.cell (i := 0) rfl
      have f1 := hF.cell (i := 1) rfl
      have c1 := hC.cell (i := 1) rfl
      have z4 := hG.frozen 4
      have g4 := hG.cell (i := 4) rfl
      have HX := Lib.hid (And.intro hF (And.intro hG (And.intro hC (And.intro hR (And.intro hM (And.intro hB (And.intro hst ht)))))))
      clear hF hG hC hR hM hB hst hx hlen ht
      have hB := HX.out.2.2.2.2.2.1
      have hG1 := (HX.out.2.1.put 4 (.int .i64 k)).alloc (.cells #[clo 32 g, clo 33 g, clo 34 g, clo 35 g] 79)
      have hF1 := (HX.out.1.setFar (p := ⟨g, 4, none⟩) (by have := Hord.out; show F ≠ g; omega) (.int .i64 k)).alloc (.cells #[clo 32 g, clo 33 g, clo 34 g, clo 35 g] 79)
      have hC1 := (HX.out.2.2.1.setFar (p := ⟨g, 4, none⟩) (by have := Hord.out; show w.heap.size ≠ g; omega) (.int .i64 k)).alloc (.cells #[clo 32 g, clo 33 g, clo 34 g, clo 35 g] 79)
      have hR1 := (HX.out.2.2.2.1.setFar (p := ⟨g, 4, none⟩) (by have := Hord.out; show r ≠ g; omega) (.int .i64 k)).alloc (.cells #[clo 32 g, clo 33 g, clo 34 g, clo 35 g] 79)
      have hM1 := (HX.out.2.2.2.2.1.setCell (p := ⟨g, 4, none⟩) (by have := Hord.out; show m ≠ g; omega) (.int .i64 k)).alloc (.cells #[clo 32 g, clo 33 g, clo 34 g, clo 35 g] 79)
      have hB1 := (hB.setCell (p := ⟨g, 4, none⟩) (by have := Hord.out; show w.heap.size ≤ g; omega) (.int .i64 k)).alloc (by simp [World.setCell]; exact hB.size) (.cells #[clo 32 g, clo 33 g, clo 34 g, clo 35 g] 79)
      have hQ1 := Blk.new (wr.setCell ⟨g, 4, none⟩ (.int .i64 k)) #[clo 32 g, clo 33 g, clo 34 g, clo 35 g] 79
      rw [show (wr.setCell ⟨g, 4, none⟩ (.int .i64 k)).heap.size = wr.heap.size by simp [World.setCell]] at hQ1
      have HW := Lib.hid (And.intro hF1 (And.intro hG1 (And.intro hC1 (And.intro hR1 (And.intro hM1 (And.intro hB1 hQ1))))))
      clear hF1 hG1 hC1 hR1 hM1 hB1 hQ1 hB
      go_wp2_with fail
      generalize (wr.setCell ⟨g, 4, none⟩ (.int .i64 k)).alloc (.cells #[clo 32 g, clo 33 g, clo 34 g, clo 35 g] 79) = W1 at *
      have hb' := (HW.out.2.2.2.2.2.1.alloc HW.out.2.2.2.2.2.1.size (.cells #[.int .i64 0, .int .i64 0] 61))
      have hT' : ∀ n, Tps ((W1.alloc (.cells #[.int .i64 0, .int .i64 0] 61)).drewN n).heap.size ((W1.alloc (.cells #[.int .i64 0, .int .i64 0] 61)).drewN n) a l := fun n => (HT.out.1.below (belN hb' n)).mono (belN hb' n).size
      have Hb := Lib.hid hT'
      clear hb' hT' f0 f1 c1 z4 g4
      refine (first_b W1 g wr.heap.size _ k (nmE (bs t.1)) (thE (l.take k) t.1) (rng t.2.1 1 64) (rng t.2.2 2 16) HW.out.2.1 rfl HW.out.2.2.2.2.2.2
        (fun n => nam_any T R L a cap m g _ l k t HX.out.2.2.2.2.2.2.2 (blkN (HW.out.2.1.alloc _) n) (Hb.out n) hts)
        (fun n => there_any T R L a cap m g _ l k t HX.out.2.2.2.2.2.2.2 (blkN (HW.out.2.1.alloc _) n) (Hb.out n) k (l.take k) (HW.out.2.2.2.2.1.alloc _) hts)
        (fun n => words_any T R L a cap m g _ l k t HX.out.2.2.2.2.2.2.2 (blkN (HW.out.2.1.alloc _) n) (Hb.out n))
        (fun n => depth_any T R L a cap m g _ l k t HX.out.2.2.2.2.2.2.2 (blkN (HW.out.2.1.alloc _) n) (Hb.out n))).mono ?_
      rintro e w2 ⟨rfl, hb2⟩
      rw [four_tp]
      obtain ⟨x', y', hfl, hy0, hx1, hx2⟩ := fl_cases k (tpE (l.take k) t)
      rw [hfl]
      have hF2 := HW.out.1.low hb2
      have hG2 := HW.out.2.1.low hb2
      have hC2 := HW.out.2.2.1.low hb2
      have hR2 := HW.out.2.2.2.1.low hb2
      have hM2 := HW.out.2.2.2.2.1.low hb2 HW.out.2.2.2.2.1.lt
      have hB2 := HW.out.2.2.2.2.2.1.trans (hb2.mono HW.out.2.2.2.2.2.1.size)
      have hst2 : chk T l R L = (if y' = 0 then tps (l.take (k + 1)) (l.drop (k + 1)) else (x', y')) ∧ (y' = 0 → x' = 0) := by
        refine ⟨?_, hx2⟩
        rw [HX.out.2.2.2.2.2.2.1]
        rw [hy0] at hx1 ⊢
        by_cases h : tpE (l.take k) t = 0
        · rw [if_pos h, tps_at_ok HX.out.2.2.2.2.2.2.2 h]
        · rw [if_neg h, tps_at_bad HX.out.2.2.2.2.2.2.2 h, hx1 h]
      have HS2 := Lib.hid hst2
      have Ht := Lib.hid HX.out.2.2.2.2.2.2.2
      clear hst2 hb2 hfl hy0 hx1 hx2 HX HW Hb
      have hF3 := (hF2.put 0 (.int .i64 x')).put 1 (.int .i64 y')
      have hG3 := (hG2.setFar (p := ⟨F, 0, none⟩) (by have := Hord.out; show g ≠ F; omega) (.int .i64 x')).setFar (p := ⟨F, 1, none⟩) (by have := Hord.out; show g ≠ F; omega) (.int .i64 y')
      have hC3 := (hC2.setFar (p := ⟨F, 0, none⟩) (by have := Hord.out; show w.heap.size ≠ F; omega) (.int .i64 x')).setFar (p := ⟨F, 1, none⟩) (by have := Hord.out; show w.heap.size ≠ F; omega) (.int .i64 y')
      have hR3 := (hR2.setFar (p := ⟨F, 0, none⟩) (by have := Hord.out; show r ≠ F; omega) (.int .i64 x')).setFar (p := ⟨F, 1, none⟩) (by have := Hord.out; show r ≠ F; omega) (.int .i64 y')
      have hM3 := (hM2.setCell (p := ⟨F, 0, none⟩) (by have := Hord.out; show m ≠ F; omega) (.int .i64 x')).setCell (p := ⟨F, 1, none⟩) (by have := Hord.out; show m ≠ F; omega) (.int .i64 y')
      have hB3 := (hB2.setCell (p := ⟨F, 0, none⟩) (by have := Hord.out; show w.heap.size ≤ F; omega) (.int .i64 x')).setCell (p := ⟨F, 1, none⟩) (by have := Hord.out; show w.heap.size ≤ F; omega) (.int .i64 y')
      have z0 := hF2.frozen 0
      have z1 := hF2.frozen 1
      have q0 := hF2.cell (i := 0) rfl
      have q1 := hF2.cell (i := 1) rfl
      have H3 := Lib.hid (And.intro hF3 (And.intro hG3 (And.intro hC3 (And.intro hR3 (And.intro hM3 hB3)))))
      clear hF2 hG2 hC2 hR2 hM2 hB2 hF3 hG3 hC3 hR3 hM3 hB3
      go_wp2_with fail
      generalize (w2.setCell ⟨F, 0, none⟩ (.int .i64 x')).setCell ⟨F, 1, none⟩ (.int .i64 y') = w3 at *
      clear z0 z1 q0 q1
      have c1 := H3.out.2.2.1.cell (i := 1) rfl
      have g5 := H3.out.2.1.cell (i := 5) rfl
      obtain ⟨b, off, rfl, _, u0, _, _⟩ := (HT.out.1.below H3.out.2.2.2.2.2) k t Ht.out
      go_still_tail 10, (by kernel_rfl)
      obtain ⟨D, ho, hat⟩ := H3.out.2.2.2.2.1
      have hml : t.1.size ≤ maxLen := Nat.le_trans hts (by decide)
      have hkm : k < maxLen := Nat.lt_of_lt_of_le (by omega : k < 100) (by decide)
      have Hat := Lib.hid (And.intro hat ho.isMap)
      clear hat
      go_wp2_with (at_mapUpdate; refine wpList_mapUpdate_own _ rfl _ _ _ 75 rfl 9 4 law9 Try.underlying75 _ m k D rfl ho.drew hkm _ _ _ rfl rfl (WideMaps.keyOf_string_mk Try.underlying9 hml) _ [] (plainElem_bool Try.underlying4 true) ?_; intro w4 hown4 hgrow4)
      go_roundw
      case rel =>
        have hlt := H3.out.2.1.lt
        have hltF := H3.out.1.lt
        have ho' := Hord.out
        have hm : Ahd w4 m (k + 1) (l.take (k + 1)) := by
          rw [(drop_at Ht.out).2]
          exact Ahd.of_put Hat.out.1 Hat.out.2 t hown4
        refine ⟨k + 1, x', y', k, by omega, by go_num, H3.out.1.of_block (hgrow4.block F hltF (by simp; omega)), H3.out.2.1.of_block (hgrow4.block g hlt (by simp; omega)), H3.out.2.2.1.of_block (hgrow4.block _ H3.out.2.2.1.lt (by simp; omega)), H3.out.2.2.2.1.of_block (hgrow4.block _ H3.out.2.2.2.1.lt (by simp; omega)), hm, ?_, HS2.out.1, HS2.out.2, fun _ => hl64⟩
        have hd : Below w.heap.size w w3.drew := belN H3.out.2.2.2.2.2 1
        exact hd.grown hgrow4 hd.size (fun j hj => by cases hj; omega)
      case measure => simp [intOf]; omega
    · have hfin : chk T l R L = (x, y) := by
        rw [hst]
        by_cases hy : y = 0
        · have : k = l.length := by
            by_cases h : k < l.length
            · exact absurd ⟨h, hy⟩ hgo
            · omega
          rw [if_pos hy, hx hy, hy, this, tps_end]
        · rw [if_neg hy]
      have hG2 := (hR.put 0 (.int .i64 x)).put 1 (.int .i64 y)
      have hBf := (hB.setCell (p := ⟨r, 0, none⟩) (by have := Hord.out; show w.heap.size ≤ r; omega) (.int .i64 x)).setCell (p := ⟨r, 1, none⟩) (by have := Hord.out; show w.heap.size ≤ r; omega) (.int .i64 y)
      have f0 := hF.cell (i := 0) rfl
      have f1 := hF.cell (i := 1) rfl
      have c1 := hC.cell (i := 1) rfl
      have z0 := hR.frozen 0
      have z1 := hR.frozen 1
      have q0 := hR.cell (i := 0) rfl
      have q1 := hR.cell (i := 1) rfl
      have HX := Lib.hid (And.intro hfin (And.intro hG2 hBf))
      clear hF hG hC hR hM hB hst hx hlen hfin hG2 hBf HT
      by_cases hkl : k < l.length
      · have k0 : decide ((k : Int) < (l.length : Int)) = true := decide_eq_true (by omega)
        have hy : y ≠ 0 := fun h => hgo ⟨hkl, h⟩
        have heq : ∀ w, (Op.equalIn 10000 61 (.agg #[.int .i64 x, .int .i64 y]) (.agg #[.int .i64 0, .int .i64 0])).run Try.prog w = .ok false w := fun w => by
          rw [eq29]
          simp [hy]
        clear hgo hy
        go_wp2
        have d0 := HX.out.2.1.cell (i := 0) rfl
        have d1 := HX.out.2.1.cell (i := 1) rfl
        rw [HX.out.1]
        exact bodyPost_ret (v := .agg #[.int .i64 x, .int .i64 y]) (by simp [results, Try.results19, go_sem, d0, d1]) rfl ⟨rfl, HX.out.2.2⟩
      · have k0 : decide ((k : Int) < (l.length : Int)) = false := decide_eq_false (by omega)
        clear hgo
        go_wp2
        have d0 := HX.out.2.1.cell (i := 0) rfl
        have d1 := HX.out.2.1.cell (i := 1) rfl
        rw [HX.out.1]
        exact bodyPost_ret (v := .agg #[.int .i64 x, .int .i64 y]) (by simp [results, Try.results19, go_sem, d0, d1]) rfl ⟨rfl, HX.out.2.2⟩
end Go.Proofs.Ytdnjoflahiffhaa
