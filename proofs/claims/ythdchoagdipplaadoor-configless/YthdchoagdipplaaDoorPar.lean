/- config.Parse: its contract. -/
import Derived.Test.YthdchoagdipplaaDoorRdT
import Derived.Test.YthdchoagdipplaaDoorChk
namespace Go.Proofs.YthdchoagdipplaaDoor
open Go.RowKit

set_option maxHeartbeats 1000000 in
theorem lineOf_any (x y : Int) (w : World) (h : -1 ≤ x ∧ x ≤ 100000) : Calls Tryd.prog 41 #[.agg #[.int .i64 x, .int .i64 y]] w (Ret (.int .i64 (if x = -1 then 1 else x + 2)) w) := by
  have hC := Blk.new w #[.int .i64 x, .int .i64 y] 29
  have hB := (Below.refl w.heap.size w).alloc (Nat.le_refl _) (.cells #[.int .i64 x, .int .i64 y] 29)
  have c0 := hC.cell (i := 0) rfl
  have HB := Lib.hid hB
  clear hB hC
  by_cases hx : x = -1
  · have hx' : (x == -1) = true := by simpa using hx
    rw [if_pos hx]
    have Hx := Lib.hid hx
    clear hx
    go_enter Tryd.func41, Tryd.ntmps41
    go_wp2
    go_ret
    exact ⟨rfl, HB.out⟩
  · have hx' : (x == -1) = false := by simpa using hx
    rw [if_neg hx]
    have hw : IntKind.i64.wrap (x + 2) = x + 2 := IntWalk.i64_in _ (by omega)
    clear hx
    go_enter Tryd.func41, Tryd.ntmps41
    go_wp2
    go_ret
    exact ⟨rfl, HB.out⟩

/-- What Parse leaves. -/
def ParPost (S : List UInt8) (w : World) (e : Ending) (W' : World) : Prop :=
  ∃ a cap, e = .returned (.tuple #[cfg (paT S) a (paL S).length cap (paR S) (paG S), .int .i64 (paN S), .int .i64 (paE S)]) ∧ Below w.heap.size w W' ∧ Tps W'.heap.size W' a (paL S)
theorem ParPost.bad {S : List UInt8} {w W' : World} {x n : Int} (h : paE S = x) (hx : x ≠ 0) (hn : paN S = n) (hb : Below w.heap.size w W') : ParPost S w (.returned (.tuple #[cfg 0 none 0 0 0 0, .int .i64 n, .int .i64 x])) W' := by
  have hne : ¬ paE S = 0 := by rw [h]; exact hx
  have h1 : paT S = 0 := by unfold paT; rw [if_neg hne]
  have h2 : paR S = 0 := by unfold paR; rw [if_neg hne]
  have h3 : paG S = 0 := by unfold paG; rw [if_neg hne]
  have h4 : paL S = [] := by unfold paL; rw [if_neg hne]
  exact ⟨none, 0, by rw [h1, h2, h3, h4, h, hn]; rfl, hb, by rw [h4]; exact Tps.nil _ _ _⟩

def slen : Value → Nat
  | .string b => b.size
  | _ => 0
abbrev zc : List Value := [.int .i64 0, .slice none 0 0, .int .i64 0, .int .i64 0]
/-- How the lines stand that were read. -/
def StPa (S : List UInt8) (g n : Nat) (cur : List UInt8) (wr : World) : Prop :=
  (n = 1 ∧ cur = S ∧ Blk wr g (hcl 0 0 0)) ∨
  (∃ acc v, n = acc.length + 2 ∧ lnN (spl 10 S) = scN n (spl 10 cur) ∧ lnL (spl 10 S) = acc ++ scL (spl 10 cur) ∧ acc.length + cur.length ≤ 65536 ∧ (∀ t ∈ acc, t.1.size ≤ 65536) ∧
    Blk wr g [.int .i64 (hdV (lnH (spl 10 S)) 1), v, .int .i64 (hdV (lnH (spl 10 S)) 3), .int .i64 (hdV (lnH (spl 10 S)) 5)] ∧ wr.ownsRow (g + 1) 45 3 v acc.length (tcl acc))
/-- At the head of Parse's loop. -/
def RelPa (w : World) (S : List UInt8) (r g : Nat) (s0 s6 : Value) (wr : World) : Prop :=
  ∃ (n : Nat) (cur : ByteArray), s0 = .string cur ∧ s6 = .int .i64 n ∧ 1 ≤ n ∧ n ≤ 70000 ∧ cur.size ≤ 65536 ∧ Blk wr r zc ∧ Below w.heap.size w wr ∧ StPa S g n (bs cur) wr

theorem cut_str (s : ByteArray) (w : World) (hs : s.size ≤ 65536) (hM : ML w) :
    Calls Tryd.prog 39 #[.string s, .string ⟨#[10]⟩] w (fun e w' => e = .returned (.tuple #[.string (str (cutA (bs s))), .string (str (cutB (bs s))), .bool (cutM (bs s))]) ∧ ∃ n, w' = w.drewN n) := by
  obtain ⟨m, hm⟩ := hM
  exact Tryd.strings_Cut s ⟨#[10]⟩ m w (by omega) hm

theorem paE_long {S : List UInt8} (h : 65536 < S.length) : paE S = 12 ∧ paN S = 0 := by
  unfold paE paN
  rw [if_pos h, if_pos h]
  exact ⟨rfl, rfl⟩
theorem paE_line {S : List UInt8} {n : Nat} (h : ¬ 65536 < S.length) (h2 : lnN (spl 10 S) = n) (hn : n ≠ 0) : paE S = 11 ∧ paN S = n := by
  unfold paE paN
  rw [if_neg h, if_neg h, h2, if_pos hn, if_pos hn]
  exact ⟨rfl, rfl⟩
theorem paE_chk {S : List UInt8} (h : ¬ 65536 < S.length) (h2 : lnN (spl 10 S) = 0) : paE S = (paC S).2 ∧ paN S = if (paC S).2 = 0 then 0 else if (paC S).1 = -1 then 1 else (paC S).1 + 2 := by
  unfold paE paN
  rw [if_neg h, if_neg h, h2, if_neg (by simp), if_neg (by simp)]
  exact ⟨rfl, rfl⟩

set_option maxRecDepth 100000 in
set_option maxHeartbeats 4000000 in
theorem parse_any (s : ByteArray) (w : World) (hM : ML w) (hs : s.size ≤ 10000000) : Calls Tryd.prog 22 #[.string s] w (ParPost (bs s) w) := by
  have hR := Blk.new w #[.int .i64 0, .slice none 0 0, .int .i64 0, .int .i64 0] 24
  have hB := (Below.refl w.heap.size w).alloc (Nat.le_refl _) (.cells #[.int .i64 0, .slice none 0 0, .int .i64 0, .int .i64 0] 24)
  by_cases hlong : 65536 < s.size
  · have hd : decide ((65536 : Int) < (s.size : Int)) = true := decide_eq_true (by omega)
    have HB := Lib.hid (And.intro hB (And.intro hR (paE_long (S := bs s) (by rw [bs_len]; exact hlong))))
    have y0 := hR.cell (i := 0) rfl
    have y1 := hR.cell (i := 1) rfl
    have y2 := hR.cell (i := 2) rfl
    have y3 := hR.cell (i := 3) rfl
    clear hB hR
    go_enter Tryd.func22, Tryd.ntmps22
    go_wp2
    exact bodyPost_ret (v := .tuple #[cfg 0 none 0 0 0 0, .int .i64 0, .int .i64 12]) (by simp [results, Tryd.results22, go_sem, y0, y1, y2, y3]) rfl (ParPost.bad HB.out.2.2.1 (by decide) HB.out.2.2.2 HB.out.1)
  have hd : decide ((65536 : Int) < (s.size : Int)) = false := decide_eq_false (by omega)
  have hG := Blk.new (w.alloc (.cells #[.int .i64 0, .slice none 0 0, .int .i64 0, .int .i64 0] 24)) #[.int .i64 0, .slice none 0 0, .int .i64 0, .int .i64 0] 24
  have hR1 := hR.alloc (.cells #[.int .i64 0, .slice none 0 0, .int .i64 0, .int .i64 0] 24)
  have hB1 := hB.alloc (by simp) (.cells #[.int .i64 0, .slice none 0 0, .int .i64 0, .int .i64 0] 24)
  simp only [World.size_alloc] at hG
  have HB := Lib.hid (And.intro hG (And.intro hR1 hB1))
  clear hG hR1 hB1 hR hB
  have hnl : ¬ 65536 < (bs s).length := by rw [bs_len]; exact hlong
  have Hnl := Lib.hid hnl
  clear hnl
  go_enter Tryd.func22, Tryd.ntmps22
  go_wp2_with fail
  go_loopw [0, 6] (RelPa w (bs s) w.heap.size (w.heap.size + 1)) (fun s0 _ _ => slen s0)
  case atStart => exact ⟨1, s, rfl, rfl, by omega, by omega, by omega, HB.out.2.1, HB.out.2.2, Or.inl ⟨rfl, rfl, HB.out.1⟩⟩
  case round =>
    clear HB
    obtain ⟨n, cur, rfl, rfl, hn1, hn7, hcs, hR, hB, hst⟩ := hrel
    have hMr := hM.next hB
    obtain ⟨k1, k2, k3, k4⟩ := cut_spl (bs cur)
    rcases hst with ⟨rfl, hcS, hG⟩ | ⟨acc, v, hna, hN, hL, hlen, hsz, hG, hO⟩
    · obtain rfl : cur = s := bs_inj hcS
      clear hcS
      have HX := Lib.hid (And.intro hR (And.intro hB (And.intro hG (And.intro k1 (And.intro k2 (And.intro k3 k4))))))
      clear hR hB hG k1 k2 k3 k4
      go_wp2_with fail
      refine (cut_str cur wr hcs hMr).mono ?_
      rintro e w1 ⟨rfl, nd, rfl⟩
      have hR1 := blkN HX.out.1 nd
      have hB1 := belN HX.out.2.1 nd
      have hG1 := blkN HX.out.2.2.1 nd
      have hM1 : ML (wr.drewN nd) := hM.next hB1
      have k1 := HX.out.2.2.2.1
      have k2 := HX.out.2.2.2.2.1
      have k3 := HX.out.2.2.2.2.2.1
      have k4 := HX.out.2.2.2.2.2.2
      clear HX
      generalize wr.drewN nd = W1 at *
      generalize hAE : cutA (bs cur) = A at *
      generalize hBE : cutB (bs cur) = C at *
      generalize hME : cutM (bs cur) = M at *
      clear hAE hBE hME
      cases M with
      | false =>
        have hE := paE_line (n := 1) Hnl.out (by rw [k1]; rfl) (by decide)
        have HE := Lib.hid hE
        clear hE k1 k2 k3 k4 hG1
        have z0 := hR1.frozen 0
        have z1 := hR1.frozen 1
        have z2 := hR1.frozen 2
        have z3 := hR1.frozen 3
        have y0 := hR1.cell (i := 0) rfl
        have y1 := hR1.cell (i := 1) rfl
        have y2 := hR1.cell (i := 2) rfl
        have y3 := hR1.cell (i := 3) rfl
        have hR5 := (((hR1.put 0 (.int .i64 0)).put 1 (.slice none 0 0)).put 2 (.int .i64 0)).put 3 (.int .i64 0)
        have hB5 := (((hB1.setCell (p := ⟨w.heap.size, 0, none⟩) (Nat.le_refl _) (.int .i64 0)).setCell (p := ⟨w.heap.size, 1, none⟩) (Nat.le_refl _) (.slice none 0 0)).setCell (p := ⟨w.heap.size, 2, none⟩) (Nat.le_refl _) (.int .i64 0)).setCell (p := ⟨w.heap.size, 3, none⟩) (Nat.le_refl _) (.int .i64 0)
        have H5 := Lib.hid (And.intro hR5 hB5)
        clear hR5 hB5 hR1 hB1
        go_wp2
        have d0 := H5.out.1.cell (i := 0) rfl
        have d1 := H5.out.1.cell (i := 1) rfl
        have d2 := H5.out.1.cell (i := 2) rfl
        have d3 := H5.out.1.cell (i := 3) rfl
        exact bodyPost_ret (v := .tuple #[cfg 0 none 0 0 0 0, .int .i64 1, .int .i64 11]) (by simp [results, Tryd.results22, go_sem, d0, d1, d2, d3]) rfl (ParPost.bad HE.out.1 (by decide) HE.out.2 H5.out.2)
      | true =>
        rw [if_pos rfl] at k1
        rw [bs_len] at k2 k3 k4
        have hne := spl_ne 10 C
        obtain ⟨q, rr, hq⟩ : ∃ q rr, spl 10 C = q :: rr := by
          cases h : spl 10 C with
          | nil => exact absurd h hne
          | cons q rr => exact ⟨q, rr, rfl⟩
        have hln : lnN (spl 10 (bs cur)) = (if hdB A = true then scN 2 (spl 10 C) else 1) ∧ lnL (spl 10 (bs cur)) = scL (spl 10 C) ∧ lnH (spl 10 (bs cur)) = A := by
          rw [k1, hq]
          exact ⟨rfl, rfl, rfl⟩
        have k2' := k2 rfl
        have hAs : (str A).size ≤ 65536 := by show A.length ≤ 65536; omega
        have HL := Lib.hid (And.intro hln (And.intro hR1 (And.intro hB1 hG1)))
        clear hln k1 k2 hne hq hR1 hB1 hG1
        go_wp2_with fail
        refine (read_h (str A) (w.heap.size + 1) 0 0 0 W1 hAs hM1 HL.out.2.2.2).mono ?_
        rintro e w2 ⟨rfl, hb2, T', R', L', hG2, hv⟩
        rw [bs_str] at hv ⊢
        have hR2 := HL.out.2.1.below hb2 (by omega)
        have hB2 : Below w.heap.size w w2 := HL.out.2.2.1.trans (hb2.mono (by omega))
        by_cases hh : hdB A = true
        · rw [hh]
          obtain ⟨rfl, rfl, rfl⟩ := hv hh
          have hst : StPa (bs cur) (w.heap.size + 1) 2 (bs (str C)) w2 := by
            refine Or.inr ⟨[], .slice none 0 0, rfl, ?_, ?_, ?_, (fun t ht => by simp at ht), ?_, World.ownsRow_nil _ _ _ _⟩
            · rw [HL.out.1.1, if_pos hh, bs_str]
            · rw [HL.out.1.2.1, bs_str]
              rfl
            · rw [bs_str]
              show 0 + C.length ≤ 65536
              omega
            · rw [HL.out.1.2.2]
              exact hG2
          have HS := Lib.hid (And.intro hst (And.intro hR2 hB2))
          clear hst hR2 hB2 hG2 hv hh HL hb2
          have hm : slen (.string (str C)) < slen (.string cur) := by show C.length < cur.size; exact k2'
          have Hm := Lib.hid hm
          clear hm
          go_wp2
          go_roundw
          case rel => exact ⟨2, str C, rfl, by go_num, by omega, by omega, by show C.length ≤ 65536; omega, HS.out.2.1, HS.out.2.2, HS.out.1⟩
          case measure => exact Hm.out
        · have hh' : hdB A = false := by simpa using hh
          rw [hh']
          have hE := paE_line (n := 1) Hnl.out (by rw [HL.out.1.1, if_neg hh]) (by decide)
          have HE := Lib.hid hE
          clear hE hv hG2 hb2 HL hh hh'
          have z0 := hR2.frozen 0
          have z1 := hR2.frozen 1
          have z2 := hR2.frozen 2
          have z3 := hR2.frozen 3
          have y0 := hR2.cell (i := 0) rfl
          have y1 := hR2.cell (i := 1) rfl
          have y2 := hR2.cell (i := 2) rfl
          have y3 := hR2.cell (i := 3) rfl
          have hR5 := (((hR2.put 0 (.int .i64 0)).put 1 (.slice none 0 0)).put 2 (.int .i64 0)).put 3 (.int .i64 0)
          have hB5 := (((hB2.setCell (p := ⟨w.heap.size, 0, none⟩) (Nat.le_refl _) (.int .i64 0)).setCell (p := ⟨w.heap.size, 1, none⟩) (Nat.le_refl _) (.slice none 0 0)).setCell (p := ⟨w.heap.size, 2, none⟩) (Nat.le_refl _) (.int .i64 0)).setCell (p := ⟨w.heap.size, 3, none⟩) (Nat.le_refl _) (.int .i64 0)
          have H5 := Lib.hid (And.intro hR5 hB5)
          clear hR5 hB5 hR2 hB2
          go_wp2
          have d0 := H5.out.1.cell (i := 0) rfl
          have d1 := H5.out.1.cell (i := 1) rfl
          have d2 := H5.out.1.cell (i := 2) rfl
          have d3 := H5.out.1.cell (i := 3) rfl
          exact bodyPost_ret (v := .tuple #[cfg 0 none 0 0 0 0, .int .i64 1, .int .i64 11]) (by simp [results, Tryd.results22, go_sem, d0, d1, d2, d3]) rfl (ParPost.bad HE.out.1 (by decide) HE.out.2 H5.out.2)
    · have hn1' : ((n : Int) == 1) = false := by rw [beq_eq_false_iff_ne]; omega
      by_cases hc0 : cur.size = 0
      · have he : (cur.toList == ([] : List UInt8)) = true := by rw [empty_eq]; exact decide_eq_true hc0
        have hne : (cur.toList != ([] : List UInt8)) = false := by rw [bne, he]; rfl
        have hcb : bs cur = [] := List.eq_nil_of_length_eq_zero (by rw [bs_len]; exact hc0)
        rw [hcb] at hN hL
        have hN0 : lnN (spl 10 (bs s)) = 0 := hN
        have hL0 : lnL (spl 10 (bs s)) = acc := by rw [hL]; simp [spl, scL]
        obtain ⟨a, cap, rfl, hT⟩ := owns_tps hO
        have hcE : paC (bs s) = chk (hdV (lnH (spl 10 (bs s))) 1) acc (hdV (lnH (spl 10 (bs s))) 3) (hdV (lnH (spl 10 (bs s))) 5) := by unfold paC; rw [hL0]
        have hpe := paE_chk Hnl.out hN0
        have g0 := hG.cell (i := 0) rfl
        have g1 := hG.cell (i := 1) rfl
        have g2 := hG.cell (i := 2) rfl
        have g3 := hG.cell (i := 3) rfl
        have HX := Lib.hid (And.intro hR (And.intro hB (And.intro hG (And.intro hL0 (And.intro hcE (And.intro hpe (And.intro hT (And.intro hsz hO))))))))
        have hal : acc.length ≤ 65536 := by omega
        clear hR hB hG k1 k2 k3 k4 hN hL hN0 hL0 hcE hpe hO hT hsz hlen hna hcb
        have hTe : Hid (paE (bs s) = 0 → paT (bs s) = hdV (lnH (spl 10 (bs s))) 1 ∧ paR (bs s) = hdV (lnH (spl 10 (bs s))) 3 ∧ paG (bs s) = hdV (lnH (spl 10 (bs s))) 5 ∧ paL (bs s) = acc) := Lib.hid (fun h => by
          unfold paT paR paG paL
          rw [if_pos h, if_pos h, if_pos h, if_pos h]
          exact ⟨rfl, rfl, rfl, HX.out.2.2.2.1⟩)
        generalize hdV (lnH (spl 10 (bs s))) 1 = T at *
        generalize hdV (lnH (spl 10 (bs s))) 3 = R at *
        generalize hdV (lnH (spl 10 (bs s))) 5 = L at *
        go_wp2_with fail
        refine (check_any T R L a cap acc wr HX.out.2.2.2.2.2.2.1 (fun t ht => Nat.le_trans (HX.out.2.2.2.2.2.2.2.1 t ht) (by decide))).mono ?_
        rintro e w2 ⟨rfl, hb2⟩
        have hge := chk_ge T acc R L
        have hcz : (chk T acc R L).2 = 0 → chk T acc R L = (0, 0) := chk_zero
        have hpc := HX.out.2.2.2.2.1
        generalize chk T acc R L = xy at *
        obtain ⟨x, y⟩ := xy
        simp only at hge hcz
        have hF := Blk.new w2 #[.int .i64 x, .int .i64 y] 29
        have hR2 := (HX.out.1.low hb2).alloc (.cells #[.int .i64 x, .int .i64 y] 29)
        have hG2 := (HX.out.2.2.1.low hb2).alloc (.cells #[.int .i64 x, .int .i64 y] 29)
        have hBw := HX.out.2.1.trans (hb2.mono HX.out.2.1.size)
        have hB2 := hBw.alloc hBw.size (.cells #[.int .i64 x, .int .i64 y] 29)
        have hO2 := (owns_keep (B := w2) HX.out.2.2.2.2.2.2.2.2 (fun j _ hj => hb2.block j hj)).alloc (.cells #[.int .i64 x, .int .i64 y] 29)
        have hpe := HX.out.2.2.2.2.2.1
        rw [hpc] at hpe
        have f0 := hF.cell (i := 0) rfl
        have f1 := hF.cell (i := 1) rfl
        have hgF : w.heap.size + 1 < w2.heap.size := (HX.out.2.2.1.low hb2).lt
        have H2 := Lib.hid (And.intro hF (And.intro hR2 (And.intro hG2 (And.intro hB2 (And.intro hO2 hpe)))))
        clear hb2 hpc hF hR2 hG2 hBw hB2 hO2 hpe HX g0 g1 g2 g3
        by_cases hy : y = 0
        · have hxy := hcz hy
          simp only [Prod.mk.injEq] at hxy
          obtain ⟨rfl, rfl⟩ := hxy
          have heq : ∀ w, (Op.equalIn 10000 29 (.agg #[.int .i64 0, .int .i64 0]) (.agg #[.int .i64 0, .int .i64 0])).run Tryd.prog w = .ok true w := fun w => by
            rw [eq29]
            rfl
          clear hcz hy hge
          have g0 := H2.out.2.2.1.cell (i := 0) rfl
          have g1 := H2.out.2.2.1.cell (i := 1) rfl
          have g2 := H2.out.2.2.1.cell (i := 2) rfl
          have g3 := H2.out.2.2.1.cell (i := 3) rfl
          have z0 := H2.out.2.1.frozen 0
          have z1 := H2.out.2.1.frozen 1
          have z2 := H2.out.2.1.frozen 2
          have z3 := H2.out.2.1.frozen 3
          have y0 := H2.out.2.1.cell (i := 0) rfl
          have y1 := H2.out.2.1.cell (i := 1) rfl
          have y2 := H2.out.2.1.cell (i := 2) rfl
          have y3 := H2.out.2.1.cell (i := 3) rfl
          go_wp2_with fail
          generalize hWE : w2.alloc (.cells #[.int .i64 0, .int .i64 0] 29) = W at *
          have hR5 := (((H2.out.2.1.put 0 (.int .i64 T)).put 1 (.slice a acc.length cap)).put 2 (.int .i64 R)).put 3 (.int .i64 L)
          have hB5 := (((H2.out.2.2.2.1.setCell (p := ⟨w.heap.size, 0, none⟩) (Nat.le_refl _) (.int .i64 T)).setCell (p := ⟨w.heap.size, 1, none⟩) (Nat.le_refl _) (.slice a acc.length cap)).setCell (p := ⟨w.heap.size, 2, none⟩) (Nat.le_refl _) (.int .i64 R)).setCell (p := ⟨w.heap.size, 3, none⟩) (Nat.le_refl _) (.int .i64 L)
          have hO5 : ((((W.setCell ⟨w.heap.size, 0, none⟩ (.int .i64 T)).setCell ⟨w.heap.size, 1, none⟩ (.slice a acc.length cap)).setCell ⟨w.heap.size, 2, none⟩ (.int .i64 R)).setCell ⟨w.heap.size, 3, none⟩ (.int .i64 L)).ownsRow (w.heap.size + 1 + 1) 45 3 (.slice a acc.length cap) acc.length (tcl acc) :=
            owns_keep H2.out.2.2.2.2.1 (fun j hj _ => by
              rw [Below.heap_setCell _ _ _ _ (by show j ≠ w.heap.size; omega), Below.heap_setCell _ _ _ _ (by show j ≠ w.heap.size; omega), Below.heap_setCell _ _ _ _ (by show j ≠ w.heap.size; omega), Below.heap_setCell _ _ _ _ (by show j ≠ w.heap.size; omega)])
          have H5 := Lib.hid (And.intro hR5 (And.intro hB5 hO5))
          clear hR5 hB5 hO5
          have hE : paE (bs s) = 0 ∧ paN (bs s) = 0 := ⟨H2.out.2.2.2.2.2.1, by rw [H2.out.2.2.2.2.2.2]; simp⟩
          obtain ⟨t1, t2, t3, t4⟩ := hTe.out hE.1
          have d0 := H5.out.1.cell (i := 0) rfl
          have d1 := H5.out.1.cell (i := 1) rfl
          have d2 := H5.out.1.cell (i := 2) rfl
          have d3 := H5.out.1.cell (i := 3) rfl
          obtain ⟨a', c', hv', hT5⟩ := owns_tps H5.out.2.2
          cases hv'
          exact bodyPost_ret (v := .tuple #[cfg T a acc.length cap R L, .int .i64 0, .int .i64 0]) (by simp [results, Tryd.results22, go_sem, d0, d1, d2, d3]) rfl ⟨a, cap, by rw [t1, t2, t3, t4, hE.1, hE.2], H5.out.2.1, by rw [t4]; exact hT5⟩
        · have heq : ∀ w, (Op.equalIn 10000 29 (.agg #[.int .i64 x, .int .i64 y]) (.agg #[.int .i64 0, .int .i64 0])).run Tryd.prog w = .ok false w := fun w => by
            rw [eq29]
            simp [hy]
          have hE := H2.out.2.2.2.2.2
          rw [if_neg hy] at hE
          have HE := Lib.hid (And.intro hE hy)
          have hF := H2.out.1
          have hR2 := H2.out.2.1
          have hB2 := H2.out.2.2.2.1
          clear hcz hy hE H2
          go_wp2_with fail
          generalize hWE : w2.alloc (.cells #[.int .i64 x, .int .i64 y] 29) = W at *
          have hFd : Blk W.drew w2.heap.size [.int .i64 x, .int .i64 y] := hF
          have hRd : Blk W.drew w.heap.size zc := hR2
          have hBd : Below w.heap.size w W.drew := belN hB2 1
          clear hF hR2 hB2 hWE
          generalize w2.heap.size = F at *
          have hx5 : x ≤ 100000 := by omega
          have c0 := hFd.cell (i := 0) rfl
          have c1 := hFd.cell (i := 1) rfl
          obtain ⟨lz, hlz⟩ : ∃ z : Int, (if x = -1 then 1 else x + 2) = z := ⟨_, rfl⟩
          have hln : ∀ w, Calls Tryd.prog 41 #[.agg #[.int .i64 x, .int .i64 y]] w (Ret (.int .i64 lz) w) := fun w => by
            rw [← hlz]
            exact lineOf_any x y w ⟨hge.1, hx5⟩
          rw [hlz] at HE
          have Hln := Lib.hid hln
          clear hlz hln
          go_region_held3 (fun w' => w'.cell? ⟨F, 0, none⟩ = some (.int .i64 x) ∧ w'.cell? ⟨F, 1, none⟩ = some (.int .i64 y))
            (first | exact ⟨c0, c1⟩ | exact ⟨d0, d1⟩ | go_keep)
            (first | (go_at_call 41; refine (Hln.out _).mono ?_; rintro e w4 ⟨rfl, hb4⟩; have hF4 := hFd.low hb4; have hR4 := hRd.low hb4; have hB4 := hBd.trans (hb4.mono hBd.size); have d0 := hF4.cell (i := 0) rfl; have d1 := hF4.cell (i := 1) rfl; have z0 := hR4.frozen 0; have z1 := hR4.frozen 1; have z2 := hR4.frozen 2; have z3 := hR4.frozen 3; have y0 := hR4.cell (i := 0) rfl; have y1 := hR4.cell (i := 1) rfl; have y2 := hR4.cell (i := 2) rfl; have y3 := hR4.cell (i := 3) rfl; have hne4 : w.heap.size ≠ F := by omega))
          have hR5 := (((hR4.put 0 (.int .i64 0)).put 1 (.slice none 0 0)).put 2 (.int .i64 0)).put 3 (.int .i64 0)
          have hB5 := (((hB4.setCell (p := ⟨w.heap.size, 0, none⟩) (Nat.le_refl _) (.int .i64 0)).setCell (p := ⟨w.heap.size, 1, none⟩) (Nat.le_refl _) (.slice none 0 0)).setCell (p := ⟨w.heap.size, 2, none⟩) (Nat.le_refl _) (.int .i64 0)).setCell (p := ⟨w.heap.size, 3, none⟩) (Nat.le_refl _) (.int .i64 0)
          have H5 := Lib.hid (And.intro hR5 hB5)
          clear hR5 hB5 hR4 hB4 hF4 hb4
          go_wp2
          have e0 := H5.out.1.cell (i := 0) rfl
          have e1 := H5.out.1.cell (i := 1) rfl
          have e2 := H5.out.1.cell (i := 2) rfl
          have e3 := H5.out.1.cell (i := 3) rfl
          exact bodyPost_ret (v := .tuple #[cfg 0 none 0 0 0 0, .int .i64 lz, .int .i64 y]) (by simp [results, Tryd.results22, go_sem, e0, e1, e2, e3]) rfl (ParPost.bad HE.out.1.1 HE.out.2 HE.out.1.2 H5.out.2)
      · have he : (cur.toList == ([] : List UInt8)) = false := by rw [empty_eq]; exact decide_eq_false hc0
        have hne : (cur.toList != ([] : List UInt8)) = true := by rw [bne, he]; rfl
        have HX := Lib.hid (And.intro hR (And.intro hB (And.intro hG (And.intro k1 (And.intro k2 (And.intro k3 k4))))))
        have HA := Lib.hid (And.intro hN (And.intro hL (And.intro hsz (And.intro hO hna))))
        clear hR hB hG k1 k2 k3 k4 hN hL hsz hO hna
        go_wp2_with fail
        refine (cut_str cur wr hcs hMr).mono ?_
        rintro e w1 ⟨rfl, nd, rfl⟩
        have hR1 := blkN HX.out.1 nd
        have hB1 := belN HX.out.2.1 nd
        have hG1 := blkN HX.out.2.2.1 nd
        have hO1 : (wr.drewN nd).ownsRow (w.heap.size + 1 + 1) 45 3 v acc.length (tcl acc) := HA.out.2.2.2.1
        have hM1 : ML (wr.drewN nd) := hM.next hB1
        have k1 := HX.out.2.2.2.1
        have k2 := HX.out.2.2.2.2.1
        have k3 := HX.out.2.2.2.2.2.1
        have k4 := HX.out.2.2.2.2.2.2
        clear HX
        generalize wr.drewN nd = W1 at *
        generalize hAE : cutA (bs cur) = A at *
        generalize hBE : cutB (bs cur) = C at *
        generalize hME : cutM (bs cur) = M at *
        clear hAE hBE hME
        rw [bs_len] at hlen
        cases M with
        | false =>
          have hA0 : A = bs cur := by
            rcases spl_idx 10 (bs cur) with ⟨_, h2, _⟩ | ⟨i, _, _, h3, _, _⟩
            · rw [h2] at k1
              simp at k1
              exact k1.symm
            · rw [h3] at k1
              simp at k1
              exact absurd k1.2 (spl_ne 10 _)
          have hE := paE_line (n := n) Hnl.out (by
            rw [HA.out.1, k1, if_neg (by simp)]
            show (if A = [] then 0 else n) = n
            rw [if_neg]
            intro e
            apply hc0
            rw [← bs_len, ← hA0, e]
            rfl) (by omega)
          have HE := Lib.hid hE
          clear hE k1 k2 k3 k4 hG1 hO1 HA hA0
          have z0 := hR1.frozen 0
          have z1 := hR1.frozen 1
          have z2 := hR1.frozen 2
          have z3 := hR1.frozen 3
          have y0 := hR1.cell (i := 0) rfl
          have y1 := hR1.cell (i := 1) rfl
          have y2 := hR1.cell (i := 2) rfl
          have y3 := hR1.cell (i := 3) rfl
          have hR5 := (((hR1.put 0 (.int .i64 0)).put 1 (.slice none 0 0)).put 2 (.int .i64 0)).put 3 (.int .i64 0)
          have hB5 := (((hB1.setCell (p := ⟨w.heap.size, 0, none⟩) (Nat.le_refl _) (.int .i64 0)).setCell (p := ⟨w.heap.size, 1, none⟩) (Nat.le_refl _) (.slice none 0 0)).setCell (p := ⟨w.heap.size, 2, none⟩) (Nat.le_refl _) (.int .i64 0)).setCell (p := ⟨w.heap.size, 3, none⟩) (Nat.le_refl _) (.int .i64 0)
          have H5 := Lib.hid (And.intro hR5 hB5)
          clear hR5 hB5 hR1 hB1
          go_wp2
          have d0 := H5.out.1.cell (i := 0) rfl
          have d1 := H5.out.1.cell (i := 1) rfl
          have d2 := H5.out.1.cell (i := 2) rfl
          have d3 := H5.out.1.cell (i := 3) rfl
          exact bodyPost_ret (v := .tuple #[cfg 0 none 0 0 0 0, .int .i64 n, .int .i64 11]) (by simp [results, Tryd.results22, go_sem, d0, d1, d2, d3]) rfl (ParPost.bad HE.out.1 (by decide) HE.out.2 H5.out.2)
        | true =>
          rw [if_pos rfl] at k1
          rw [bs_len] at k2 k3 k4
          have hne' := spl_ne 10 C
          obtain ⟨q, rr, hq⟩ : ∃ q rr, spl 10 C = q :: rr := by
            cases h : spl 10 C with
            | nil => exact absurd h hne'
            | cons q rr => exact ⟨q, rr, rfl⟩
          have hln : scN n (spl 10 (bs cur)) = (if tpB A = true then scN (n + 1) (spl 10 C) else n) ∧ scL (spl 10 (bs cur)) = tpV A :: scL (spl 10 C) := by
            rw [k1, hq]
            exact ⟨rfl, rfl⟩
          have k2' := k2 rfl
          have hAs : (str A).size ≤ 65536 := by show A.length ≤ 65536; omega
          have HL := Lib.hid (And.intro hln (And.intro hR1 (And.intro hB1 (And.intro hG1 hO1))))
          clear hln k1 k2 hne' hq hR1 hB1 hG1 hO1
          go_wp2_with fail
          refine (read_t (str A) (w.heap.size + 1) _ _ _ acc v W1 hAs (by omega) hM1 HL.out.2.2.2.1 HL.out.2.2.2.2).mono ?_
          rintro e w2 ⟨rfl, hb2, hv⟩
          rw [bs_str] at hv ⊢
          have hR2 := HL.out.2.1.below hb2 (by omega)
          have hB2 : Below w.heap.size w w2 := HL.out.2.2.1.trans (hb2.mono (by omega))
          by_cases hh : tpB A = true
          · rw [hh]
            obtain ⟨v', hG2, hO2⟩ := hv hh
            have hst : StPa (bs s) (w.heap.size + 1) (n + 1) (bs (str C)) w2 := by
              refine Or.inr ⟨acc ++ [tpV A], v', ?_, ?_, ?_, ?_, ?_, hG2, ?_⟩
              · simp
                have := HA.out.2.2.2.2
                omega
              · rw [HA.out.1, HL.out.1.1, if_pos hh, bs_str]
              · rw [HA.out.2.1, HL.out.1.2, bs_str]
                simp
              · rw [bs_str]
                simp
                omega
              · intro t ht
                rcases List.mem_append.1 ht with h | h
                · exact HA.out.2.2.1 t h
                · obtain rfl : t = tpV A := by simpa using h
                  show (wAt (spl 32 A) 1).length ≤ 65536
                  have h1 : (wAt (spl 32 A) 1).length ≤ A.length := by
                    unfold wAt
                    cases hj : (spl 32 A)[1]? with
                    | none => simp
                    | some z => exact spl_mem 32 A z (List.mem_of_getElem? hj)
                  omega
              · rw [List.length_append]
                exact hO2
            have HS := Lib.hid (And.intro hst (And.intro hR2 hB2))
            clear hst hR2 hB2 hG2 hO2 hv hh HL hb2
            have hm : slen (.string (str C)) < slen (.string cur) := by show C.length < cur.size; exact k2'
            have hnl' : n + 1 ≤ 70000 := by
              have := HA.out.2.2.2.2
              omega
            have Hm := Lib.hid hm
            clear hm HA
            go_wp2
            go_roundw
            case rel => exact ⟨n + 1, str C, rfl, by go_num, by omega, hnl', by show C.length ≤ 65536; omega, HS.out.2.1, HS.out.2.2, HS.out.1⟩
            case measure => exact Hm.out
          · have hh' : tpB A = false := by simpa using hh
            rw [hh']
            have hE := paE_line (n := n) Hnl.out (by rw [HA.out.1, HL.out.1.1, if_neg hh]) (by omega)
            have HE := Lib.hid hE
            clear hE hv hb2 HL hh hh' HA
            have z0 := hR2.frozen 0
            have z1 := hR2.frozen 1
            have z2 := hR2.frozen 2
            have z3 := hR2.frozen 3
            have y0 := hR2.cell (i := 0) rfl
            have y1 := hR2.cell (i := 1) rfl
            have y2 := hR2.cell (i := 2) rfl
            have y3 := hR2.cell (i := 3) rfl
            have hR5 := (((hR2.put 0 (.int .i64 0)).put 1 (.slice none 0 0)).put 2 (.int .i64 0)).put 3 (.int .i64 0)
            have hB5 := (((hB2.setCell (p := ⟨w.heap.size, 0, none⟩) (Nat.le_refl _) (.int .i64 0)).setCell (p := ⟨w.heap.size, 1, none⟩) (Nat.le_refl _) (.slice none 0 0)).setCell (p := ⟨w.heap.size, 2, none⟩) (Nat.le_refl _) (.int .i64 0)).setCell (p := ⟨w.heap.size, 3, none⟩) (Nat.le_refl _) (.int .i64 0)
            have H5 := Lib.hid (And.intro hR5 hB5)
            clear hR5 hB5 hR2 hB2
            go_wp2
            have d0 := H5.out.1.cell (i := 0) rfl
            have d1 := H5.out.1.cell (i := 1) rfl
            have d2 := H5.out.1.cell (i := 2) rfl
            have d3 := H5.out.1.cell (i := 3) rfl
            exact bodyPost_ret (v := .tuple #[cfg 0 none 0 0 0 0, .int .i64 n, .int .i64 11]) (by simp [results, Tryd.results22, go_sem, d0, d1, d2, d3]) rfl (ParPost.bad HE.out.1 (by decide) HE.out.2 H5.out.2)
end Go.Proofs.YthdchoagdipplaaDoor
