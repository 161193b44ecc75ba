/- The walk of the law PlanFull. -/
import Derived.Test.YtdnjoflahiffhaaBxW
import Derived.Test.YtdnjoflahiffhaaFuM
namespace Go.Proofs.Ytdnjoflahiffhaa
open Go.RowKit

theorem info3f : (Try.prog.info? 3).map (fun i => (i.zero, i.size, i.bytes)) = some (some (.int .i64 0), 1, 8) := by kernel_rfl
theorem made_ints (n : Nat) : madeCells #[.int .i64 0] n = (icl (List.replicate n 0)).toArray := by
  apply Array.ext
  · simp [madeCells, icl]
  · intro i h1 h2
    simp [madeCells, icl, Nat.mod_one]
theorem make_ints (n : Nat) (h : n ≤ 1048576) (w : World) :
    (Instr.makeSlice 37 (.int .i64 n) (.int .i64 n)).run Try.prog w = .ok (.slice (some ⟨w.heap.size, 0, none⟩) n n) (w.alloc (.cells (icl (List.replicate n 0)).toArray 3)) := by
  obtain ⟨i, hi, he⟩ := Option.map_eq_some_iff.1 info3f
  simp only [Prod.mk.injEq] at he
  obtain ⟨hz, hs, hb⟩ := he
  have hr := run_make (P := Try.prog) w 37 3 i _ Try.underlying37 hi hz .i64 .i64 n n (by omega) (by omega) (by rw [hb]; omega) (by omega)
  rw [hs] at hr
  simp only [Int.toNat_natCast, Nat.mul_one] at hr
  rw [show (Value.int .i64 0).cells = #[Value.int .i64 0] from rfl, made_ints] at hr
  exact hr
theorem icl_set (cs : List Int) (j : Nat) (x : Int) : icl (cs.set j x) = (icl cs).set j (.int .i64 x) := by
  unfold icl
  rw [List.map_set]

/-- What the law leans on. -/
def FS (w : World) (T R L : Int) (a : Option Addr) (cap : Nat) (l : List Tp) (P : Nat) (aa : Option Addr) (ca G : Nat) (cs : List Int) (W : World) : Prop :=
  Blk W w.heap.size (cfl T a l.length cap R L) ∧ Blk W P (plc 0 1 L (.slice aa l.length ca) (tot (1 + L) l)) ∧ Sps G W aa (spots (1 + L) l) ∧ Blk W G (icl cs) ∧ Below w.heap.size w W ∧ w.heap.size < P ∧ P < G
section
variable {w : World} {T R L : Int} {a : Option Addr} {cap : Nat} {l : List Tp} {P : Nat} {aa : Option Addr} {ca G : Nat} {cs : List Int} {W W' : World}
theorem FS.next (h : FS w T R L a cap l P aa ca G cs W) (u : Below W.heap.size W W') : FS w T R L a cap l P aa ca G cs W' :=
  ⟨h.1.low u, h.2.1.low u, h.2.2.1.below (u.mono (Nat.le_of_lt h.2.2.2.1.lt)), h.2.2.2.1.low u, h.2.2.2.2.1.trans (u.mono h.2.2.2.2.1.size), h.2.2.2.2.2⟩
theorem FS.put (h : FS w T R L a cap l P aa ca G cs W) (j : Nat) (x : Int) : FS w T R L a cap l P aa ca G (cs.set j x) (W.setCell ⟨G, j, none⟩ (.int .i64 x)) := by
  obtain ⟨h1, h2, h3, h4, h5, h6, h7⟩ := h
  refine ⟨h1.setFar (by show w.heap.size ≠ G; omega) _, h2.setFar (by show P ≠ G; omega) _, h3.below ((Below.refl G W).setCell (by show G ≤ G; omega) _), ?_, h5.setCell (by show w.heap.size ≤ G; omega) _, h6, h7⟩
  rw [icl_set]
  exact h4.put j _
theorem FS.sps (h : FS w T R L a cap l P aa ca G cs W) : Sps W.heap.size W aa (spots (1 + L) l) := h.2.2.1.mono (Nat.le_of_lt h.2.2.2.1.lt)
end
/-- At the head of the first loop. -/
def RelFu (w : World) (T R L : Int) (a : Option Addr) (cap : Nat) (l : List Tp) (P : Nat) (aa : Option Addr) (ca G : Nat) (i6 i7 i8 : Value) (wr : World) : Prop :=
  ∃ k : Nat, k ≤ (wdl L l).length ∧ i6 = .int .i64 (cn L l k (-1)) ∧ i7 = .int .i64 (cn L l k (-2)) ∧ i8 = .int .i64 k ∧ FS w T R L a cap l P aa ca G (cts L l k) wr
def RelFv (W : World) (n : Nat) (i : Value) (wr : World) : Prop := ∃ j m : Nat, j ≤ n ∧ i = .int .i64 j ∧ wr = W.drewN m

set_option maxRecDepth 100000 in
set_option maxHeartbeats 4000000 in
theorem full_law (T R L : Int) (a : Option Addr) (cap : Nat) (l : List Tp) (w : World) (hT : Tps w.heap.size w a l) : Calls Try.prog 7 #[cfg T a l.length cap R L] w (Ret (.bool true) w) := by
  have HT := Lib.hid hT
  have X0 := Lib.hid (Bx.new w T R L a cap l hT)
  have c0 := X0.out.1.cell (i := 0) rfl
  have c1 := X0.out.1.cell (i := 1) rfl
  have c2 := X0.out.1.cell (i := 2) rfl
  have c3 := X0.out.1.cell (i := 3) rfl
  clear hT
  go_enter Try.func7, Try.ntmps7
  go_wp2_with fail
  generalize w.alloc (.cells #[.int .i64 T, .slice a l.length cap, .int .i64 R, .int .i64 L] 24) = W0 at *
  refine (few_any T R L a cap l W0 X0.out.2.1).mono ?_
  rintro e W1 ⟨rfl, hb1⟩
  have X1 := Lib.hid (X0.out.next hb1)
  clear hb1 X0 c0 c1 c2 c3
  by_cases hf : few l = true
  case neg =>
    have hf' : few l = false := by simpa using hf
    rw [hf']
    clear hf hf'
    go_wp2_with fail
    refine (awake_any W1).mono ?_
    rintro e W2 ⟨rfl, hb2⟩
    have X2 := Lib.hid (X1.out.next hb2)
    clear hb2 X1
    go_wp2
    go_ret
    exact ⟨rfl, X2.out.2.2⟩
  rw [hf]
  have Hs := Lib.hid (few_size hf)
  clear hf
  have c0 := X1.out.1.cell (i := 0) rfl
  have c1 := X1.out.1.cell (i := 1) rfl
  have c2 := X1.out.1.cell (i := 2) rfl
  have c3 := X1.out.1.cell (i := 3) rfl
  by_cases hok : (chk T l R L).2 = 0
  case neg =>
    have hy : ((chk T l R L).2 != 0) = true := by simpa using hok
    have Hof := Lib.hid (of_bad T R L a cap l W1 X1.out.2.1 Hs.out hok)
    clear hok
    go_wp2_with fail
    refine Hof.out.mono ?_
    rintro e W2 ⟨rfl, hb2⟩
    have X2 := Lib.hid ((X1.out.next hb2).alloc (.cells #[.int .i64 0, .int .i64 0, .int .i64 0, .slice none 0 0, .int .i64 0] 29))
    clear hb2 X1 c0 c1 c2 c3 Hof
    go_wp2_with fail
    refine (awake_any _).mono ?_
    rintro e W5 ⟨rfl, hb5⟩
    have X5 := Lib.hid (X2.out.next hb5)
    clear hb5 X2
    go_wp2
    go_ret
    exact ⟨rfl, X5.out.2.2⟩
  obtain ⟨hl1, hl64, hL1, hL64, hall⟩ := chk_rng hok
  have hwl := wdl_len hL1 hall
  have Hof := Lib.hid (of_ok T R L a cap l W1 X1.out.2.1 Hs.out hok)
  have Hall := Lib.hid hall
  have Hwl := Lib.hid hwl
  clear hok hall hwl Hs
  go_wp2_with fail
  refine Hof.out.mono ?_
  rintro e W2 ⟨aa, ca, rfl, hS2, hb2⟩
  have hP := Blk.new W2 #[.int .i64 0, .int .i64 1, .int .i64 L, .slice aa l.length ca, .int .i64 (tot (1 + L) l)] 29
  have hbn := (Below.refl W2.heap.size W2).alloc (Nat.le_refl _) (.cells #[.int .i64 0, .int .i64 1, .int .i64 L, .slice aa l.length ca, .int .i64 (tot (1 + L) l)] 29)
  have hlt : w.heap.size < W2.heap.size := Nat.lt_of_lt_of_le X1.out.1.lt hb2.size
  have X2 := Lib.hid (And.intro ((X1.out.next hb2).next hbn) (And.intro hP (And.intro (hS2.next hbn) hlt)))
  clear hb2 X1 c0 c1 c2 c3 Hof hP hS2 hbn hlt
  have p4 := X2.out.2.1.cell (i := 4) rfl
  by_cases hbig : 3000 < tot (1 + L) l
  · have m0 : decide (3000 < tot (1 + L) l) = true := decide_eq_true hbig
    go_wp2_with fail
    refine (awake_any _).mono ?_
    rintro e W5 ⟨rfl, hb5⟩
    have X5 := Lib.hid (X2.out.1.next hb5)
    clear hb5 X2 p4
    go_wp2
    go_ret
    exact ⟨rfl, X5.out.2.2⟩
  have m0 : decide (3000 < tot (1 + L) l) = false := decide_eq_false hbig
  have hpos : 0 ≤ tot (1 + L) l := by have := Hwl.out; omega
  have m1 : decide (tot (1 + L) l < 0) = false := decide_eq_false (by omega)
  have m2 : ((l.length : Int) != (l.length : Int)) = false := by simp
  have p3 := X2.out.2.1.cell (i := 3) rfl
  have c1 := X2.out.1.1.cell (i := 1) rfl
  have hmk := make_ints l.length (by omega)
  go_wp2_with fail
  clear m0 m1 m2 p3 p4 c1 hmk
  have hG := Blk.new (W2.alloc (.cells #[.int .i64 0, .int .i64 1, .int .i64 L, .slice aa l.length ca, .int .i64 (tot (1 + L) l)] 29)) (icl (List.replicate l.length 0)).toArray 3
  have hbg := (Below.refl (W2.alloc (.cells #[.int .i64 0, .int .i64 1, .int .i64 L, .slice aa l.length ca, .int .i64 (tot (1 + L) l)] 29)).heap.size (W2.alloc (.cells #[.int .i64 0, .int .i64 1, .int .i64 L, .slice aa l.length ca, .int .i64 (tot (1 + L) l)] 29))).alloc (Nat.le_refl _) (.cells (icl (List.replicate l.length 0)).toArray 3)
  have hF : FS w T R L a cap l W2.heap.size aa ca (W2.heap.size + 1) (List.replicate l.length 0) ((W2.alloc (.cells #[.int .i64 0, .int .i64 1, .int .i64 L, .slice aa l.length ca, .int .i64 (tot (1 + L) l)] 29)).alloc (.cells (icl (List.replicate l.length 0)).toArray 3)) := by
    rw [World.size_alloc] at hG
    refine ⟨X2.out.1.1.low hbg, X2.out.2.1.low hbg, ?_, hG, X2.out.1.2.2.trans (hbg.mono X2.out.1.2.2.size), X2.out.2.2.2, by omega⟩
    have := (X2.out.2.2.1).below hbg
    rw [World.size_alloc] at this
    exact this
  have HF := Lib.hid hF
  clear hG hbg hF X2
  generalize ((W2.alloc (.cells #[.int .i64 0, .int .i64 1, .int .i64 L, .slice aa l.length ca, .int .i64 (tot (1 + L) l)] 29)).alloc (.cells (icl (List.replicate l.length 0)).toArray 3)) = W3 at *
  generalize W2.heap.size + 1 = G at *
  generalize W2.heap.size = P at *
  have Hw := Lib.hid (fun (p : Int) V h => whose_of hL1 hL64 hl64 Hall.out (tot (1 + L) l) p aa ca V h)
  go_loopw [6, 7, 8] (RelFu w T R L a cap l P aa ca G) (fun _ _ i _ => (wdl L l).length - (intOf i).toNat)
  case atStart => exact ⟨0, by omega, by rw [cn_zero], by rw [cn_zero], rfl, by rw [cts_zero]; exact HF.out⟩
  case round =>
    clear HF
    obtain ⟨k, hk, rfl, rfl, rfl, hF⟩ := hrel
    have p0 := hF.2.1.cell (i := 0) rfl
    have p1 := hF.2.1.cell (i := 1) rfl
    have p2 := hF.2.1.cell (i := 2) rfl
    have p3 := hF.2.1.cell (i := 3) rfl
    have p4 := hF.2.1.cell (i := 4) rfl
    have HF := Lib.hid hF
    clear hF
    by_cases hkl : k < (wdl L l).length
    · have k0 : decide ((k : Int) < tot (1 + L) l) = true := decide_eq_true (by have := Hwl.out; omega)
      obtain ⟨x, hx⟩ : ∃ x, (wdl L l)[k]? = some x := ⟨_, List.getElem?_eq_getElem hkl⟩
      go_wp2_with fail
      refine (Hw.out k wr HF.out.sps).mono ?_
      rintro e W4 ⟨rfl, hb4⟩
      rw [wv_at hx]
      have hF4 := HF.out.next hb4
      have Hx := Lib.hid hx
      have hk3 : k ≤ 3000 := by have := Hwl.out; omega
      have bd1 := cn_bd L l k (-1)
      have bd2 := cn_bd L l k (-2)
      have HF4 := Lib.hid hF4
      have hmem := wdl_mem (List.mem_of_getElem? hx)
      clear hb4 p0 p1 p2 p3 p4 HF hF4 hx
      rcases hmem with rfl | rfl | ⟨j, hj, rfl⟩
      · have n1 := cn_next Hx.out (-1)
        have n2 := cn_next Hx.out (-2)
        have n3 := cts_same Hx.out (by omega)
        have HN := Lib.hid (And.intro n1 (And.intro n2 n3))
        clear n1 n2 n3
        generalize cn L l k (-1) = u1 at *
        generalize cn L l k (-2) = u2 at *
        have b1 : 0 ≤ u1 := bd1.1
        have b2 : u1 ≤ 3000 := by omega
        go_wp2
        go_roundw
        case rel =>
          refine ⟨k + 1, by omega, ?_, ?_, by go_num, ?_⟩
          · rw [HN.out.1]; simp
          · rw [HN.out.2.1, if_neg (by omega), Int.add_zero]
          · rw [HN.out.2.2]; exact HF4.out
        case measure => simp [intOf]; omega
      · have n1 := cn_next Hx.out (-1)
        have n2 := cn_next Hx.out (-2)
        have n3 := cts_same Hx.out (by omega)
        have HN := Lib.hid (And.intro n1 (And.intro n2 n3))
        clear n1 n2 n3
        generalize cn L l k (-1) = u1 at *
        generalize cn L l k (-2) = u2 at *
        have b1 : 0 ≤ u2 := bd2.1
        have b2 : u2 ≤ 3000 := by omega
        go_wp2
        go_roundw
        case rel =>
          refine ⟨k + 1, by omega, ?_, ?_, by go_num, ?_⟩
          · rw [HN.out.1, if_neg (by omega), Int.add_zero]
          · rw [HN.out.2.1]; simp
          · rw [HN.out.2.2]; exact HF4.out
        case measure => simp [intOf]; omega
      · have n1 := cn_next Hx.out (-1)
        have n2 := cn_next Hx.out (-2)
        have n3 := cts_next Hx.out hj
        have bdj := cn_bd L l k (j : Int)
        have gc := HF4.out.2.2.2.1.cell (icl_at (cts_at (L := L) (k := k) hj))
        have gf := HF4.out.2.2.2.1.frozen j
        have HN := Lib.hid (And.intro n1 (And.intro n2 n3))
        have hF5 := HF4.out.put j (cn L l k (j : Int) + 1)
        have HF5 := Lib.hid hF5
        clear n1 n2 n3 hF5 HF4
        generalize cn L l k (-1) = u1 at *
        generalize cn L l k (-2) = u2 at *
        generalize cn L l k (j : Int) = u3 at *
        have b1 : 0 ≤ u3 := bdj.1
        have b2 : u3 ≤ 3000 := by omega
        have e1 : ((j : Int) == -1) = false := by rw [beq_eq_false_iff_ne]; omega
        have e2 : ((j : Int) == -2) = false := by rw [beq_eq_false_iff_ne]; omega
        have e3 : decide ((0 : Int) ≤ (j : Int)) = true := decide_eq_true (by omega)
        have e4 : decide ((j : Int) < (l.length : Int)) = true := decide_eq_true (by omega)
        have e5 : (j : Int) < (l.length : Int) := by omega
        have gc' : W4.cell? ⟨G, 0 + j, none⟩ = some (.int .i64 u3) := by rw [Nat.zero_add]; exact gc
        have gf' : W4.frozen? ⟨G, 0 + j, none⟩ = false := by rw [Nat.zero_add]; exact gf
        go_wp2
        go_roundw
        case rel =>
          refine ⟨k + 1, by omega, ?_, ?_, by go_num, ?_⟩
          · rw [HN.out.1, if_neg (by omega), Int.add_zero]
          · rw [HN.out.2.1, if_neg (by omega), Int.add_zero]
          · rw [HN.out.2.2]
            first | exact HF5.out | (simp only [Nat.zero_add]; exact HF5.out)
        case measure => simp [intOf]; omega
    · have k0 : decide ((k : Int) < tot (1 + L) l) = false := decide_eq_false (by have := Hwl.out; omega)
      obtain rfl : k = (wdl L l).length := by omega
      have e1 := (cn_all L l (-1)).trans (by rw [wdl_reg])
      have e2 := (cn_all L l (-2)).trans (wdl_log hL1)
      have e3 : ∀ (j : Nat) (t : Tp), l[j]? = some t → cn L l (wdl L l).length (j : Int) = 2 + t.2.1 * t.2.2 := fun j t ht => (cn_all L l (j : Int)).trans (wdl_top j t ht (Hall.out t (List.mem_of_getElem? ht)))
      have He := Lib.hid e3
      rw [show cn L l (wdl L l).length (-1) = 1 from e1, e2]
      clear e1 e2 e3 hk hkl
      go_wp2_with fail
      clear p0 p1 p2 p3 p4 k0
      go_loopw [10] (RelFv wr l.length) (fun i _ => l.length - (intOf i).toNat)
      case atStart => exact ⟨0, 0, by omega, rfl, rfl⟩
      case round =>
        obtain ⟨j, m, hj, rfl, rfl⟩ := hrel
        by_cases hjl : j < l.length
        · have j0 : decide ((j : Int) < (l.length : Int)) = true := decide_eq_true (by omega)
          have j1 : (j : Int) < (l.length : Int) := by omega
          obtain ⟨t, ht⟩ : ∃ t, l[j]? = some t := ⟨_, List.getElem?_eq_getElem hjl⟩
          obtain ⟨b, off, rfl, _, u0, u1, u2⟩ := (HT.out.below HF.out.2.2.2.2.1) j t ht
          have gc := HF.out.2.2.2.1.cell (icl_at (cts_at (L := L) (k := (wdl L l).length) hjl))
          rw [He.out j t ht] at gc
          have hokt := Hall.out t (List.mem_of_getElem? ht)
          have hm := mul_bd (m := 64) (n := 16) (by have := hokt.1; omega : 0 ≤ t.2.1) hokt.2.1 (by have := hokt.2.2.1; omega : 0 ≤ t.2.2) hokt.2.2.2
          obtain ⟨nm, wd, dp⟩ := t
          have hm1 : 0 ≤ wd * dp := hm.1
          have hm2 : wd * dp ≤ 1024 := hm.2
          have hw : wrap64 (wd * dp) = wd * dp := by unfold wrap64; omega
          have gc' : wr.cell? ⟨G, 0 + j, none⟩ = some (.int .i64 (2 + wd * dp)) := by rw [Nat.zero_add]; exact gc
          have c1 := HF.out.1.cell (i := 1) rfl
          have q0 : (2 + wd * dp != 2 + wd * dp) = false := by simp
          clear ht hokt hm
          go_wp2_with fail
          go_quiet (fail)
          go_wp2
          go_roundw
          case rel => exact ⟨j + 1, m + _, by omega, by go_num, rfl⟩
          case measure => simp [intOf]; omega
        · obtain rfl : j = l.length := by omega
          have j0 : decide ((l.length : Int) < (l.length : Int)) = false := decide_eq_false (by omega)
          have HF6 := Lib.hid (HF.out.next (belN (Below.refl _ _) m))
          clear HF hjl hj
          generalize wr.drewN m = V at *
          have c3 := HF6.out.1.cell (i := 3) rfl
          have p0 := HF6.out.2.1.cell (i := 0) rfl
          have p1 := HF6.out.2.1.cell (i := 1) rfl
          have p2 := HF6.out.2.1.cell (i := 2) rfl
          have p3 := HF6.out.2.1.cell (i := 3) rfl
          have p4 := HF6.out.2.1.cell (i := 4) rfl
          have qL : (L == L) = true := by simp
          go_wp2_with fail
          clear c3 p0 p1 p2 p3 p4
          refine (Hw.out (-1) V HF6.out.sps).mono ?_
          rintro e V2 ⟨rfl, hb⟩
          rw [wv_neg (by omega)]
          have HF7 := Lib.hid (HF6.out.next hb)
          clear HF6 hb
          have p0 := HF7.out.2.1.cell (i := 0) rfl
          have p1 := HF7.out.2.1.cell (i := 1) rfl
          have p2 := HF7.out.2.1.cell (i := 2) rfl
          have p3 := HF7.out.2.1.cell (i := 3) rfl
          have p4 := HF7.out.2.1.cell (i := 4) rfl
          go_wp2_with fail
          clear p0 p1 p2 p3 p4
          refine (Hw.out (tot (1 + L) l) V2 HF7.out.sps).mono ?_
          rintro e V3 ⟨rfl, hb⟩
          rw [wv_big (by rw [Hwl.out]; omega)]
          have HF8 := Lib.hid (HF7.out.next hb)
          clear HF7 hb
          go_wp2_with fail
          refine (awake_any V3).mono ?_
          rintro e V4 ⟨rfl, hb⟩
          have HF9 := Lib.hid (HF8.out.next hb)
          clear HF8 hb
          go_wp2
          go_ret
          exact ⟨rfl, HF9.out.2.2.2.2.1⟩
end Go.Proofs.Ytdnjoflahiffhaa
