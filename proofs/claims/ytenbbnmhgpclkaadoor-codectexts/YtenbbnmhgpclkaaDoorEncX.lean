/- codec.Encode at the chapter's example: its contract. -/
import Derived.Test.YtenbbnmhgpclkaaDoorEnc
namespace Go.Proofs.YtenbbnmhgpclkaaDoor
open Go.RowKit

theorem info61 : (Tryd.prog.info? 61).map (fun i => (i.zero, i.size, i.bytes)) = some (some (.int .u64 0), 1, 8) := by kernel_rfl
def wzeros (n : Nat) : List Value := List.replicate n (.int .u64 0)
theorem made_words (n : Nat) : madeCells #[.int .u64 0] n = (wzeros n).toArray := by
  apply Array.ext
  · simp [madeCells, wzeros]
  · intro i h1 h2
    simp [madeCells, wzeros, Nat.mod_one]
theorem make_words (n : Nat) (h : n ≤ 1048576) (w : World) :
    (Instr.makeSlice 34 (.int .i64 n) (.int .i64 n)).run Tryd.prog w = .ok (.slice (some ⟨w.heap.size, 0, none⟩) n n) (w.alloc (.cells (wzeros n).toArray 61)) := by
  obtain ⟨i, hi, he⟩ := Option.map_eq_some_iff.1 info61
  simp only [Prod.mk.injEq] at he
  obtain ⟨hz, hs, hb⟩ := he
  have hr := run_make (P := Tryd.prog) w 34 61 i _ Tryd.underlying34 hi hz .i64 .i64 n n (by omega) (by omega) (by rw [hb]; omega) (by omega)
  rw [hs] at hr
  simp only [Int.toNat_natCast, Nat.mul_one] at hr
  rw [show (Value.int .u64 0).cells = #[Value.int .u64 0] from rfl, made_words] at hr
  exact hr

def exP : List (Int × Int) := [(0, 1), (1, 7), (3, 64)]
def exA : List (Int × Int) := [(0, 0), (0, 1), (1, 0)]
def exV : List Value := [.int .i64 1, z0, .int .i64 5, z0, .int .i64 0, zex]
def exX : Nat := 18446744065119617027
def exW : Nat → List Value
  | 0 => [.int .u64 0, .int .u64 0]
  | 1 => [.int .u64 1, .int .u64 0]
  | 2 => [.int .u64 11, .int .u64 0]
  | _ => [.int .u64 11, .int .u64 exX]
theorem ex_places : plErr exP = 0 ∧ plP exP = exA ∧ plN exP = 2 := by decide
theorem ex_pt : pt 0 1 0 1 = 1 ∧ pt 1 7 1 5 = 11 ∧ 1 ≤ mx 1 ∧ 5 ≤ mx 7 := by decide +kernel

/-- What a round of the example does. -/
structure ExRound (k : Nat) (kd n wi bt old new : Nat) (vn : Int) (z : Value) : Prop where
  part : exP[k]? = some ((kd : Int), (n : Int))
  place : exA[k]? = some ((wi : Int), (bt : Int))
  v0 : exV[k * 2]? = some (.int .i64 vn)
  v1 : exV[k * 2 + 1]? = some z
  wi2 : wi < 2
  was : (exW k)[wi]? = some (.int .u64 old)
  now : (exW k).set wi (.int .u64 new) = exW (k + 1)
  one : z.oneCell' = true
  puts : ∀ W, Calls Tryd.prog 36 #[.int .u64 old, .int .i64 kd, fld bt n, val vn z] W (Ret (.tuple #[.int .u64 new, .int .i64 0]) W)
theorem ex_round (k : Nat) (hk : k < 3) : ∃ kd n wi bt old new vn z, ExRound k kd n wi bt old new vn z := by
  obtain ⟨e1, e2, e3, e4⟩ := ex_pt
  match k, hk with
  | 0, _ =>
    refine ⟨0, 1, 0, 0, 0, 1, 1, z0, rfl, rfl, rfl, rfl, by omega, rfl, rfl, rfl, fun W => ?_⟩
    have := put_cnt 0 0 0 1 1 W (by omega) (by omega) (by omega) (by decide) e3 (by omega)
    rw [e1] at this
    exact this
  | 1, _ =>
    refine ⟨1, 7, 0, 1, 1, 11, 5, z0, rfl, rfl, rfl, rfl, by omega, rfl, rfl, rfl, fun W => ?_⟩
    have := put_cnt 1 1 1 7 5 W (by omega) (by omega) (by omega) (by decide) e4 (by omega)
    rw [e2] at this
    exact this
  | 2, _ =>
    refine ⟨3, 64, 1, 0, 0, exX, 0, zex, rfl, rfl, rfl, rfl, by omega, rfl, rfl, rfl, fun W => ?_⟩
    exact put_pnt 0 (fld 0 64) 0 64 W rfl

/-- Three pairs of cells. -/
def S6 (x y z ox oy oz : Nat) (x0 x1 y0 y1 z0 z1 : Value) (w : World) : Prop :=
  w.cell? ⟨x, ox, none⟩ = some x0 ∧ w.cell? ⟨x, ox + 1, none⟩ = some x1 ∧ w.cell? ⟨y, oy, none⟩ = some y0 ∧ w.cell? ⟨y, oy + 1, none⟩ = some y1 ∧ w.cell? ⟨z, oz, none⟩ = some z0 ∧ w.cell? ⟨z, oz + 1, none⟩ = some z1
section
variable {x y z ox oy oz : Nat} {x0 x1 y0 y1 z0 z1 : Value} {w w' : World}
theorem S6.next (h : S6 x y z ox oy oz x0 x1 y0 y1 z0 z1 w) (u : Below w.heap.size w w') : S6 x y z ox oy oz x0 x1 y0 y1 z0 z1 w' := by
  obtain ⟨a, b, c, d, e, f⟩ := h
  exact ⟨(u.cell (p := ⟨x, ox, none⟩) (World.block_lt_of_cell? w _ a)).trans a, (u.cell (p := ⟨x, ox + 1, none⟩) (World.block_lt_of_cell? w _ b)).trans b,
    (u.cell (p := ⟨y, oy, none⟩) (World.block_lt_of_cell? w _ c)).trans c, (u.cell (p := ⟨y, oy + 1, none⟩) (World.block_lt_of_cell? w _ d)).trans d,
    (u.cell (p := ⟨z, oz, none⟩) (World.block_lt_of_cell? w _ e)).trans e, (u.cell (p := ⟨z, oz + 1, none⟩) (World.block_lt_of_cell? w _ f)).trans f⟩
theorem cell_far {w : World} {b g o i : Nat} (u : Value) (h : b ≠ g) : (w.setCell ⟨g, i, none⟩ u).cell? ⟨b, o, none⟩ = w.cell? ⟨b, o, none⟩ :=
  World.cell?_of_block (Below.heap_setCell w ⟨g, i, none⟩ u b h)
theorem S6.set (h : S6 x y z ox oy oz x0 x1 y0 y1 z0 z1 w) {g i : Nat} (u : Value) (hx : x ≠ g) (hy : y ≠ g) (hz : z ≠ g) : S6 x y z ox oy oz x0 x1 y0 y1 z0 z1 (w.setCell ⟨g, i, none⟩ u) := by
  obtain ⟨a, b, c, d, e, f⟩ := h
  exact ⟨(cell_far u hx).trans a, (cell_far u hx).trans b, (cell_far u hy).trans c, (cell_far u hy).trans d, (cell_far u hz).trans e, (cell_far u hz).trans f⟩
end

/-- What Encode leaves. -/
def EncPost (w : World) (e : Ending) (W' : World) : Prop :=
  ∃ g cap, e = .returned (.tuple #[.slice (some ⟨g, 0, none⟩) 2 cap, .int .i64 0]) ∧ Below w.heap.size w W' ∧ Blk W' g (exW 3)
/-- At the head of Encode's loop. -/
def RelE (w1 : World) (s8 s31 : Value) (wr : World) : Prop :=
  ∃ k : Nat, k ≤ 3 ∧ s31 = .int .i64 k ∧ s8 = .int .i64 0 ∧ Blk wr w1.heap.size (exW k) ∧ Below w1.heap.size w1 wr

set_option maxRecDepth 100000 in
set_option maxHeartbeats 4000000 in
theorem encode_ex (a : Option Addr) (cap vb cap2 : Nat) (w : World) (hP : Prs w.heap.size w a exP) (hV : Blk w vb exV) (hK : KD w) :
    Calls Tryd.prog 20 #[.slice a 3 cap, .slice (some ⟨vb, 0, none⟩) 3 cap2] w (EncPost w) := by
  have hmk : ∀ w : World, (Instr.makeSlice 34 (.int .i64 2) (.int .i64 2)).run Tryd.prog w = .ok (.slice (some ⟨w.heap.size, 0, none⟩) 2 2) (w.alloc (.cells (wzeros 2).toArray 61)) := make_words 2 (by omega)
  go_enter Tryd.func20, Tryd.ntmps20
  go_wp2_with fail
  refine (places_any a 3 cap exP w rfl hP hK).mono ?_
  rintro e w1 ⟨a1, c1, rfl, hb1, hA⟩
  obtain ⟨e1, e2, e3⟩ := ex_places
  rw [e2] at hA
  rw [e1, e2, e3]
  have hP1 := hP.next hb1
  have hV1 := hV.low hb1
  clear e1 e2 e3 hP hV hK
  have hB := (Below.refl w1.heap.size w1).alloc (Nat.le_refl _) (.cells (wzeros 2).toArray 61)
  have hN := Blk.new w1 (wzeros 2).toArray 61
  have HN := Lib.hid (And.intro hN hB)
  clear hN hB
  have hvl : vb < w1.heap.size := hV1.lt
  go_wp2
  go_loopw [8, 31] (RelE w1) (fun _ i _ => 3 - (intOf i).toNat)
  case atStart => exact ⟨0, by omega, rfl, rfl, HN.out.1, HN.out.2⟩
  case round =>
    obtain ⟨k, hk, rfl, rfl, hblk, hb⟩ := hrel
    clear HN hmk
    by_cases hlt : k < 3
    · obtain ⟨kd, n, wi, bt, old, new, vn, z, R⟩ := ex_round k hlt
      obtain ⟨pb, poff, rfl, hpl, p0, p1⟩ := hP1 k _ R.part
      obtain ⟨ab, aoff, rfl, hal, a0, a1⟩ := hA k _ R.place
      have p0' : wr.cell? ⟨pb, poff + k * 2, none⟩ = some (.int .i64 kd) := (hb.cell (p := ⟨pb, poff + k * 2, none⟩) hpl).trans p0
      have p1' : wr.cell? ⟨pb, poff + k * 2 + 1, none⟩ = some (.int .i64 n) := (hb.cell (p := ⟨pb, poff + k * 2 + 1, none⟩) hpl).trans p1
      have a0' : wr.cell? ⟨ab, aoff + k * 2, none⟩ = some (.int .i64 wi) := (hb.cell (p := ⟨ab, aoff + k * 2, none⟩) hal).trans a0
      have a1' : wr.cell? ⟨ab, aoff + k * 2 + 1, none⟩ = some (.int .i64 bt) := (hb.cell (p := ⟨ab, aoff + k * 2 + 1, none⟩) hal).trans a1
      have v0' : wr.cell? ⟨vb, k * 2, none⟩ = some (.int .i64 vn) := (hb.cell (p := ⟨vb, k * 2, none⟩) hvl).trans (hV1.cell R.v0)
      have v1' : wr.cell? ⟨vb, k * 2 + 1, none⟩ = some z := (hb.cell (p := ⟨vb, k * 2 + 1, none⟩) hvl).trans (hV1.cell R.v1)
      have HR := Lib.hid (And.intro R hblk)
      have hs := hb.size
      have hal' : ab < wr.heap.size := by omega
      have hpl' : pb < wr.heap.size := by omega
      have hvl' : vb < wr.heap.size := by omega
      have hgl' : w1.heap.size < wr.heap.size := hblk.lt
      have hk3 : (k : Int) < 3 := by omega
      have hlen : exA.length = 3 := rfl
      rw [hlen]
      clear p0 p1 a0 a1 hblk R hlen
      go_wp2_with fail
      have hB1 := hb.alloc hs (.cells #[.int .i64 (kd : Int), .int .i64 (n : Int)] 47)
      have hG1 := HR.out.2.alloc (.cells #[.int .i64 (kd : Int), .int .i64 (n : Int)] 47)
      have hN1 := Blk.new wr #[.int .i64 (kd : Int), .int .i64 (n : Int)] 47
      have hR := HR.out.1
      have hS : S6 wr.heap.size ab vb 0 (aoff + k * 2) (k * 2) (.int .i64 kd) (.int .i64 n) (.int .i64 wi) (.int .i64 bt) (.int .i64 vn) z (wr.alloc (.cells #[.int .i64 (kd : Int), .int .i64 (n : Int)] 47)) := by
        have hu := (Below.refl wr.heap.size wr).alloc (Nat.le_refl _) (.cells #[.int .i64 (kd : Int), .int .i64 (n : Int)] 47)
        exact ⟨hN1.cell (i := 0) rfl, hN1.cell (i := 1) rfl, (hu.cell (p := ⟨ab, aoff + k * 2, none⟩) hal').trans a0', (hu.cell (p := ⟨ab, aoff + k * 2 + 1, none⟩) hal').trans a1', (hu.cell (p := ⟨vb, k * 2, none⟩) hvl').trans v0', (hu.cell (p := ⟨vb, k * 2 + 1, none⟩) hvl').trans v1'⟩
      have HS := Lib.hid (And.intro hR (And.intro hB1 (And.intro hG1 hS)))
      have hwi := hR.wi2
      clear hB1 hG1 hN1 hR hS HR p0' p1' a0' a1' v0' v1' hpl' hb hs
      generalize wr.alloc (.cells #[.int .i64 (kd : Int), .int .i64 (n : Int)] 47) = W1 at *
      have hvne : wr.heap.size ≠ w1.heap.size := by omega
      generalize wr.heap.size = v at *
      have hane : ab ≠ w1.heap.size := by omega
      have hbne : vb ≠ w1.heap.size := by omega
      have gc := HS.out.2.2.1.cell HS.out.1.was
      have gf := HS.out.2.2.1.frozen wi
      have hwi' : (wi : Int) < 2 := by omega
      have hS1 := HS.out.2.2.2
      obtain ⟨s0, s1, s2, s3, s4, s5⟩ := hS1
      simp only [Nat.zero_add] at s1
      clear hgl'
      refine wp_region_held_drew (S := S6 v ab vb 0 (aoff + k * 2) (k * 2) (.int .i64 kd) (.int .i64 n) (.int .i64 wi) (.int .i64 bt) (.int .i64 vn) z) (by kernel_rfl) (HS.out.2.2.2) (fun hHeld => ?_)
      refine wpAnyH_take (i := 0) (v := ?v1) rfl (by kernel_rfl) (by kernel_rfl) (by kernel_rfl) (fun _ _ _ h => h) (Or.inl ⟨by rfl, ?y1⟩) hHeld ?r1
      case y1 => (intro w hSw; have ⟨q0, q1, q2, q3, q4, q5⟩ := hSw; simp only [Nat.zero_add] at q1; go_simp; try with_reducible rfl)
      simp only [List.getElem_toArray, List.getElem_cons_zero, Act.put, List.setIfInBounds_toArray, List.set_cons_zero, List.set_cons_succ]
      refine wpAnyH_take (i := 1) (v := ?v2) rfl (by kernel_rfl) (by kernel_rfl) (by kernel_rfl) (fun _ _ _ h => h) (Or.inl ⟨by rfl, ?y2⟩) hHeld ?r2
      case y2 => (intro w hSw; have ⟨q0, q1, q2, q3, q4, q5⟩ := hSw; simp only [Nat.zero_add] at q1; go_simp; try with_reducible rfl)
      simp only [List.getElem_toArray, List.getElem_cons_zero, List.getElem_cons_succ, Act.put, List.setIfInBounds_toArray, List.set_cons_zero, List.set_cons_succ]
      refine wpAnyH_take (i := 2) (v := ?v3) rfl (by kernel_rfl) (by kernel_rfl) (by kernel_rfl) (fun _ _ _ h => h) (Or.inl ⟨by rfl, ?y3⟩) hHeld ?r3
      case y3 => (intro w hSw; have ⟨q0, q1, q2, q3, q4, q5⟩ := hSw; simp only [Nat.zero_add] at q1; go_simp; try with_reducible rfl)
      simp only [List.getElem_toArray, List.getElem_cons_zero, List.getElem_cons_succ, Act.put, List.setIfInBounds_toArray, List.set_cons_zero, List.set_cons_succ]
      refine wpAnyH_take (i := 3) (v := ?v4) rfl (by kernel_rfl) (by kernel_rfl) (by kernel_rfl) (fun _ _ _ h => h) (Or.inl ⟨by rfl, ?y4⟩) hHeld ?r4
      case y4 => (intro w hSw; have ⟨q0, q1, q2, q3, q4, q5⟩ := hSw; simp only [Nat.zero_add] at q1; go_simp; try with_reducible rfl)
      simp only [List.getElem_toArray, List.getElem_cons_zero, List.getElem_cons_succ, Act.put, List.setIfInBounds_toArray, List.set_cons_zero, List.set_cons_succ]
      refine wpAnyH_take (i := 4) (v := ?v5) rfl (by kernel_rfl) (by kernel_rfl) (by kernel_rfl) (fun _ _ _ h => h) (Or.inl ⟨by rfl, ?y5⟩) hHeld ?r5
      case y5 => (intro w hSw; have ⟨q0, q1, q2, q3, q4, q5⟩ := hSw; simp only [Nat.zero_add] at q1; go_simp; try with_reducible rfl)
      simp only [List.getElem_toArray, List.getElem_cons_zero, List.getElem_cons_succ, Act.put, List.setIfInBounds_toArray, List.set_cons_zero, List.set_cons_succ]
      refine wpAnyH_take (i := 6) (v := ?v6) rfl (by kernel_rfl) (by kernel_rfl) (by kernel_rfl) (fun _ _ _ h => h) (Or.inl ⟨by rfl, ?y6⟩) hHeld ?r6
      case y6 => (intro w hSw; have ⟨q0, q1, q2, q3, q4, q5⟩ := hSw; simp only [Nat.zero_add] at q1; go_simp; try with_reducible rfl)
      simp only [List.getElem_toArray, List.getElem_cons_zero, List.getElem_cons_succ, Act.put, List.setIfInBounds_toArray, List.set_cons_zero, List.set_cons_succ]
      refine wpAnyH_take (i := 7) (v := ?v7) rfl (by kernel_rfl) (by kernel_rfl) (by kernel_rfl) (fun _ _ _ h => h) (Or.inl ⟨by rfl, ?y7⟩) hHeld ?r7
      case y7 => (intro w hSw; have ⟨q0, q1, q2, q3, q4, q5⟩ := hSw; simp only [Nat.zero_add] at q1; go_simp; try with_reducible rfl)
      simp only [List.getElem_toArray, List.getElem_cons_zero, List.getElem_cons_succ, Act.put, List.setIfInBounds_toArray, List.set_cons_zero, List.set_cons_succ]
      refine wpAnyH_take (i := 8) (v := ?v8) rfl (by kernel_rfl) (by kernel_rfl) (by kernel_rfl) (fun _ _ _ h => h) (Or.inl ⟨by rfl, ?y8⟩) hHeld ?r8
      case y8 => (intro w hSw; have ⟨q0, q1, q2, q3, q4, q5⟩ := hSw; simp only [Nat.zero_add] at q1; go_simp; try with_reducible rfl)
      simp only [List.getElem_toArray, List.getElem_cons_zero, List.getElem_cons_succ, Act.put, List.setIfInBounds_toArray, List.set_cons_zero, List.set_cons_succ]
      refine wpAnyH_take (i := 9) (v := ?v9) rfl (by kernel_rfl) (by kernel_rfl) (by kernel_rfl) (fun _ _ _ h => h) (Or.inl ⟨by rfl, ?y9⟩) hHeld ?r9
      case y9 => (intro w hSw; have ⟨q0, q1, q2, q3, q4, q5⟩ := hSw; simp only [Nat.zero_add] at q1; go_simp; try with_reducible rfl)
      simp only [List.getElem_toArray, List.getElem_cons_zero, List.getElem_cons_succ, Act.put, List.setIfInBounds_toArray, List.set_cons_zero, List.set_cons_succ]
      refine wpAnyH_take (i := 10) (v := ?v10) rfl (by kernel_rfl) (by kernel_rfl) (by kernel_rfl) (fun _ _ _ h => h) (Or.inl ⟨by rfl, ?y10⟩) hHeld ?r10
      case y10 => (intro w hSw; have ⟨q0, q1, q2, q3, q4, q5⟩ := hSw; simp only [Nat.zero_add] at q1; go_simp; try with_reducible rfl)
      simp only [List.getElem_toArray, List.getElem_cons_zero, List.getElem_cons_succ, Act.put, List.setIfInBounds_toArray, List.set_cons_zero, List.set_cons_succ]
      refine wpAnyH_take (i := 11) (v := ?v11) rfl (by kernel_rfl) (by kernel_rfl) (by kernel_rfl) (fun _ _ _ h => h) (Or.inl ⟨by rfl, ?y11⟩) hHeld ?r11
      case y11 => (intro w hSw; have ⟨q0, q1, q2, q3, q4, q5⟩ := hSw; simp only [Nat.zero_add] at q1; go_simp; try with_reducible rfl)
      simp only [List.getElem_toArray, List.getElem_cons_zero, List.getElem_cons_succ, Act.put, List.setIfInBounds_toArray, List.set_cons_zero, List.set_cons_succ]
      refine wpAnyH_take (i := 12) (v := ?v12) rfl (by kernel_rfl) (by kernel_rfl) (by kernel_rfl) (fun _ _ _ h => h) (Or.inl ⟨by rfl, ?y12⟩) hHeld ?r12
      case y12 => (intro w hSw; have ⟨q0, q1, q2, q3, q4, q5⟩ := hSw; simp only [Nat.zero_add] at q1; go_simp; try with_reducible rfl)
      simp only [List.getElem_toArray, List.getElem_cons_zero, List.getElem_cons_succ, Act.put, List.setIfInBounds_toArray, List.set_cons_zero, List.set_cons_succ]
      refine wpAnyH_take (i := 14) (v := ?v13) rfl (by kernel_rfl) (by kernel_rfl) (by kernel_rfl) (fun _ _ _ h => h) (Or.inl ⟨by rfl, ?y13⟩) hHeld ?r13
      case y13 => (intro w hSw; have ⟨q0, q1, q2, q3, q4, q5⟩ := hSw; simp only [Nat.zero_add] at q1; go_simp; try with_reducible rfl)
      simp only [List.getElem_toArray, List.getElem_cons_zero, List.getElem_cons_succ, Act.put, List.setIfInBounds_toArray, List.set_cons_zero, List.set_cons_succ]
      refine wpAnyH_take (i := 15) (v := ?v14) rfl (by kernel_rfl) (by kernel_rfl) (by kernel_rfl) (fun _ _ _ h => h) (Or.inl ⟨by rfl, ?y14⟩) hHeld ?r14
      case y14 => (intro w hSw; have ⟨q0, q1, q2, q3, q4, q5⟩ := hSw; simp only [Nat.zero_add] at q1; go_simp; try with_reducible rfl)
      simp only [List.getElem_toArray, List.getElem_cons_zero, List.getElem_cons_succ, Act.put, List.setIfInBounds_toArray, List.set_cons_zero, List.set_cons_succ]
      refine wpAnyH_take (i := 16) (v := ?v15) rfl (by kernel_rfl) (by kernel_rfl) (by kernel_rfl) (fun _ _ _ h => h) (Or.inl ⟨by rfl, ?y15⟩) hHeld ?r15
      case y15 => (intro w hSw; have ⟨q0, q1, q2, q3, q4, q5⟩ := hSw; simp only [Nat.zero_add] at q1; go_simp; try with_reducible rfl)
      simp only [List.getElem_toArray, List.getElem_cons_zero, List.getElem_cons_succ, Act.put, List.setIfInBounds_toArray, List.set_cons_zero, List.set_cons_succ]
      refine wpAnyH_take (i := 17) (v := ?v16) rfl (by kernel_rfl) (by kernel_rfl) (by kernel_rfl) (fun _ _ _ h => h) (Or.inl ⟨by rfl, ?y16⟩) hHeld ?r16
      case y16 => (intro w hSw; have ⟨q0, q1, q2, q3, q4, q5⟩ := hSw; simp only [Nat.zero_add] at q1; go_simp; try with_reducible rfl)
      simp only [List.getElem_toArray, List.getElem_cons_zero, List.getElem_cons_succ, Act.put, List.setIfInBounds_toArray, List.set_cons_zero, List.set_cons_succ]
      refine wpAnyH_ready (rs := [5, 13]) (by kernel_rfl) (by simp) (AllReadyH.cons rfl (fun K hK => ?_) (AllReadyH.cons rfl (fun K hK => ?_) AllReadyH.nil))
      · go_simp
        refine hK.out _ _ (HS.out.2.2.2) (fun hHeld => ?_)
        clear hK K
        refine wpAnyH_ready (rs := [13]) (by kernel_rfl) (by simp) (AllReadyH.cons rfl (fun K hK => ?_) AllReadyH.nil)
        go_simp
        refine (field_any kd n wi bt _).mono ?_
        rintro e w2 ⟨rfl, hb2⟩
        have hS2 := S6.next (w := W1.drew) HS.out.2.2.2 hb2
        have hG2 := HS.out.2.2.1.drew.low hb2
        have gc2 := hG2.cell HS.out.1.was
        have hB2 := HS.out.2.1.drew.trans (hb2.mono HS.out.2.1.size)
        go_wp2_with fail
        refine hK.out _ _ (hS2) (fun hHeld => ?_)
        clear hK K
        refine wpAnyH_ready (rs := [18]) (by kernel_rfl) (by simp) (AllReadyH.cons rfl (fun K hK => ?_) AllReadyH.nil)
        go_simp
        refine (HS.out.1.puts _).mono ?_
        rintro e w3 ⟨rfl, hb3⟩
        have hS3 := S6.next hS2 hb3
        have hG3 := hG2.low hb3
        have gc3 := hG3.cell HS.out.1.was
        have gf3 := hG3.frozen wi
        have hB3 := hB2.trans (hb3.mono hB2.size)
        go_wp2_with fail
        refine hK.out _ _ (hS3) (fun hHeld => ?_)
        clear hK K
        refine wpAnyH_take (i := 19) (v := ?v20) rfl (by kernel_rfl) (by kernel_rfl) (by kernel_rfl) (fun _ _ _ h => h) (Or.inl ⟨by rfl, ?y20⟩) hHeld ?r20
        case y20 => (intro w hSw; have ⟨q0, q1, q2, q3, q4, q5⟩ := hSw; simp only [Nat.zero_add] at q1; go_simp; try with_reducible rfl)
        simp only [List.getElem_toArray, List.getElem_cons_zero, List.getElem_cons_succ, Act.put, List.setIfInBounds_toArray, List.set_cons_zero, List.set_cons_succ]
        refine wpAnyH_take (i := 20) (v := ?v21) rfl (by kernel_rfl) (by kernel_rfl) (by kernel_rfl) (fun _ _ _ h => h) (Or.inl ⟨by rfl, ?y21⟩) hHeld ?r21
        case y21 => (intro w hSw; have ⟨q0, q1, q2, q3, q4, q5⟩ := hSw; simp only [Nat.zero_add] at q1; go_simp; try with_reducible rfl)
        simp only [List.getElem_toArray, List.getElem_cons_zero, List.getElem_cons_succ, Act.put, List.setIfInBounds_toArray, List.set_cons_zero, List.set_cons_succ]
        refine wpAnyH_take (i := 21) (v := ?v22) rfl (by kernel_rfl) (by kernel_rfl) (by kernel_rfl) (fun _ _ _ h => h) (Or.inl ⟨by rfl, ?y22⟩) hHeld ?r22
        case y22 => (intro w hSw; have ⟨q0, q1, q2, q3, q4, q5⟩ := hSw; simp only [Nat.zero_add] at q1; go_simp; try with_reducible rfl)
        simp only [List.getElem_toArray, List.getElem_cons_zero, List.getElem_cons_succ, Act.put, List.setIfInBounds_toArray, List.set_cons_zero, List.set_cons_succ]
        refine wpAnyH_take (i := 22) (v := ?v23) rfl (by kernel_rfl) (by kernel_rfl) (by kernel_rfl) (fun _ _ _ h => h) (Or.inl ⟨by rfl, ?y23⟩) hHeld ?r23
        case y23 => (intro w hSw; have ⟨q0, q1, q2, q3, q4, q5⟩ := hSw; simp only [Nat.zero_add] at q1; go_simp; try with_reducible rfl)
        simp only [List.getElem_toArray, List.getElem_cons_zero, List.getElem_cons_succ, Act.put, List.setIfInBounds_toArray, List.set_cons_zero, List.set_cons_succ]
        refine wpAnyH_ready (rs := [23]) (by kernel_rfl) (by simp) (AllReadyH.cons rfl (fun K hK => ?_) AllReadyH.nil)
        go_simp
        go_wp2_with fail
        refine hK.out _ _ (S6.set hS3 _ hvne hane hbne) (fun hHeld => ?_)
        clear hK K
        refine wpAnyH_take (i := 24) (v := ?v25) rfl (by kernel_rfl) (by kernel_rfl) (by kernel_rfl) (fun _ _ _ h => h) (Or.inl ⟨by rfl, ?y25⟩) hHeld ?r25
        case y25 => (intro w hSw; have ⟨q0, q1, q2, q3, q4, q5⟩ := hSw; simp only [Nat.zero_add] at q1; go_simp; try with_reducible rfl)
        simp only [List.getElem_toArray, List.getElem_cons_zero, List.getElem_cons_succ, Act.put, List.setIfInBounds_toArray, List.set_cons_zero, List.set_cons_succ]
        refine wpAnyH_done (by kernel_rfl) ?_ _
        go_wp2
        go_roundw
        case rel =>
          have hR := HS.out.1
          have hG4 := hG3.put wi (.int .u64 (new : Int))
          rw [hR.now] at hG4
          exact ⟨k + 1, by omega, by go_num, rfl, hG4, hB3.setCell (p := ⟨w1.heap.size, wi, none⟩) (Nat.le_refl _) _⟩
        case measure => simp [intOf]; omega
      · go_simp
        refine (field_any kd n wi bt _).mono ?_
        rintro e w2 ⟨rfl, hb2⟩
        have hS2 := S6.next (w := W1.drew) HS.out.2.2.2 hb2
        have hG2 := HS.out.2.2.1.drew.low hb2
        have gc2 := hG2.cell HS.out.1.was
        have hB2 := HS.out.2.1.drew.trans (hb2.mono HS.out.2.1.size)
        go_wp2_with fail
        refine hK.out _ _ (hS2) (fun hHeld => ?_)
        clear hK K
        refine wpAnyH_ready (rs := [5]) (by kernel_rfl) (by simp) (AllReadyH.cons rfl (fun K hK => ?_) AllReadyH.nil)
        go_simp
        refine hK.out _ _ (hS2) (fun hHeld => ?_)
        clear hK K
        refine wpAnyH_ready (rs := [18]) (by kernel_rfl) (by simp) (AllReadyH.cons rfl (fun K hK => ?_) AllReadyH.nil)
        go_simp
        refine (HS.out.1.puts _).mono ?_
        rintro e w3 ⟨rfl, hb3⟩
        have hS3 := S6.next hS2 hb3
        have hG3 := hG2.low hb3
        have gc3 := hG3.cell HS.out.1.was
        have gf3 := hG3.frozen wi
        have hB3 := hB2.trans (hb3.mono hB2.size)
        go_wp2_with fail
        refine hK.out _ _ (hS3) (fun hHeld => ?_)
        clear hK K
        refine wpAnyH_take (i := 19) (v := ?v28) rfl (by kernel_rfl) (by kernel_rfl) (by kernel_rfl) (fun _ _ _ h => h) (Or.inl ⟨by rfl, ?y28⟩) hHeld ?r28
        case y28 => (intro w hSw; have ⟨q0, q1, q2, q3, q4, q5⟩ := hSw; simp only [Nat.zero_add] at q1; go_simp; try with_reducible rfl)
        simp only [List.getElem_toArray, List.getElem_cons_zero, List.getElem_cons_succ, Act.put, List.setIfInBounds_toArray, List.set_cons_zero, List.set_cons_succ]
        refine wpAnyH_take (i := 20) (v := ?v29) rfl (by kernel_rfl) (by kernel_rfl) (by kernel_rfl) (fun _ _ _ h => h) (Or.inl ⟨by rfl, ?y29⟩) hHeld ?r29
        case y29 => (intro w hSw; have ⟨q0, q1, q2, q3, q4, q5⟩ := hSw; simp only [Nat.zero_add] at q1; go_simp; try with_reducible rfl)
        simp only [List.getElem_toArray, List.getElem_cons_zero, List.getElem_cons_succ, Act.put, List.setIfInBounds_toArray, List.set_cons_zero, List.set_cons_succ]
        refine wpAnyH_take (i := 21) (v := ?v30) rfl (by kernel_rfl) (by kernel_rfl) (by kernel_rfl) (fun _ _ _ h => h) (Or.inl ⟨by rfl, ?y30⟩) hHeld ?r30
        case y30 => (intro w hSw; have ⟨q0, q1, q2, q3, q4, q5⟩ := hSw; simp only [Nat.zero_add] at q1; go_simp; try with_reducible rfl)
        simp only [List.getElem_toArray, List.getElem_cons_zero, List.getElem_cons_succ, Act.put, List.setIfInBounds_toArray, List.set_cons_zero, List.set_cons_succ]
        refine wpAnyH_take (i := 22) (v := ?v31) rfl (by kernel_rfl) (by kernel_rfl) (by kernel_rfl) (fun _ _ _ h => h) (Or.inl ⟨by rfl, ?y31⟩) hHeld ?r31
        case y31 => (intro w hSw; have ⟨q0, q1, q2, q3, q4, q5⟩ := hSw; simp only [Nat.zero_add] at q1; go_simp; try with_reducible rfl)
        simp only [List.getElem_toArray, List.getElem_cons_zero, List.getElem_cons_succ, Act.put, List.setIfInBounds_toArray, List.set_cons_zero, List.set_cons_succ]
        refine wpAnyH_ready (rs := [23]) (by kernel_rfl) (by simp) (AllReadyH.cons rfl (fun K hK => ?_) AllReadyH.nil)
        go_simp
        go_wp2_with fail
        refine hK.out _ _ (S6.set hS3 _ hvne hane hbne) (fun hHeld => ?_)
        clear hK K
        refine wpAnyH_take (i := 24) (v := ?v33) rfl (by kernel_rfl) (by kernel_rfl) (by kernel_rfl) (fun _ _ _ h => h) (Or.inl ⟨by rfl, ?y33⟩) hHeld ?r33
        case y33 => (intro w hSw; have ⟨q0, q1, q2, q3, q4, q5⟩ := hSw; simp only [Nat.zero_add] at q1; go_simp; try with_reducible rfl)
        simp only [List.getElem_toArray, List.getElem_cons_zero, List.getElem_cons_succ, Act.put, List.setIfInBounds_toArray, List.set_cons_zero, List.set_cons_succ]
        refine wpAnyH_done (by kernel_rfl) ?_ _
        go_wp2
        go_roundw
        case rel =>
          have hR := HS.out.1
          have hG4 := hG3.put wi (.int .u64 (new : Int))
          rw [hR.now] at hG4
          exact ⟨k + 1, by omega, by go_num, rfl, hG4, hB3.setCell (p := ⟨w1.heap.size, wi, none⟩) (Nat.le_refl _) _⟩
        case measure => simp [intOf]; omega
    · obtain rfl : k = 3 := by omega
      go_wp2
      go_ret2
      exact ⟨w1.heap.size, 2, rfl, hb1.trans (hb.mono hb1.size), hblk⟩
end Go.Proofs.YtenbbnmhgpclkaaDoor
