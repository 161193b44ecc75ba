/- config.operands: its contract. -/
import Derived.Test.YthdchoagdipplaaDoorTxM
import Derived.Test.YthdchoagdipplaaDoorNam
namespace Go.Proofs.YthdchoagdipplaaDoor
open Go.RowKit

/-- A variable of the library that is read. -/
def ML (w : World) : Prop := ∃ m, w.cell? ⟨0, 0, none⟩ = some (.int .i64 m)
theorem ML.lt {w : World} (h : ML w) : 0 < w.heap.size := by
  obtain ⟨m, h⟩ := h
  exact World.block_lt_of_cell? w ⟨0, 0, none⟩ h
theorem ML.below {w w' : World} {B : Nat} (h : ML w) (u : Below B w w') (hB : 0 < B) : ML w' := by
  obtain ⟨m, h⟩ := h
  exact ⟨m, (u.cell (p := ⟨0, 0, none⟩) hB).trans h⟩
theorem ML.next {w w' : World} (h : ML w) (u : Below w.heap.size w w') : ML w' := h.below u h.lt

theorem list6 {α : Type} {l : List α} (h : l.length = 6) : ∃ a b c d e f, l = [a, b, c, d, e, f] := by
  match l, h with
  | [a, b, c, d, e, f], _ => exact ⟨a, b, c, d, e, f, rfl⟩
abbrev st3 (x y z : ByteArray) : Value := .agg #[.string x, .string y, .string z]
abbrev sl3 (x y z : ByteArray) : List Value := [.string x, .string y, .string z]
/-- What operands leaves. -/
def OpPost (k0 k1 k2 : ByteArray) (s : List UInt8) (w : World) (e : Ending) (w' : World) : Prop :=
  ∃ x0 x1 x2, e = .returned (.tuple #[st3 x0 x1 x2, .bool (opB (bs k0) (bs k1) (bs k2) (spl 32 s))]) ∧ Below w.heap.size w w' ∧
    (opB (bs k0) (bs k1) (bs k2) (spl 32 s) = true → x0 = str (wAt (spl 32 s) 1) ∧ x1 = str (wAt (spl 32 s) 3) ∧ x2 = str (wAt (spl 32 s) 5)) ∧ (x0.size ≤ s.length ∧ x1.size ≤ s.length ∧ x2.size ≤ s.length)
/-- At the head of its loop. -/
def RelO (w : World) (k0 k1 k2 a0 a1 a2 a3 a4 a5 : ByteArray) (K r V S : Nat) (i : Value) (wr : World) : Prop :=
  ∃ (k : Nat) (x0 x1 x2 : ByteArray), k ≤ 3 ∧ i = .int .i64 k ∧ Blk wr V (sl3 x0 x1 x2) ∧ Blk wr K (sl3 k0 k1 k2) ∧ Blk wr r (sl3 ⟨#[]⟩ ⟨#[]⟩ ⟨#[]⟩) ∧ Blk wr S [.string a0, .string a1, .string a2, .string a3, .string a4, .string a5] ∧
    Below w.heap.size w wr ∧ (0 < k → x0 = a1 ∧ a0 = k0) ∧ (1 < k → x1 = a3 ∧ a2 = k1) ∧ (2 < k → x2 = a5 ∧ a4 = k2) ∧ (k ≤ 0 → x0 = ⟨#[]⟩) ∧ (k ≤ 1 → x1 = ⟨#[]⟩) ∧ (k ≤ 2 → x2 = ⟨#[]⟩)

abbrev emp : ByteArray := ⟨#[]⟩
abbrev preO (k0 k1 k2 : ByteArray) (w : World) : World :=
  ((w.alloc (.cells #[.string k0, .string k1, .string k2] 69)).alloc (.cells #[.string emp, .string emp, .string emp] 69)).alloc (.cells #[.string emp, .string emp, .string emp] 69)
theorem opr_pre (k0 k1 k2 : ByteArray) (cs : Array Value) (w : World) :
    Blk ((preO k0 k1 k2 w).alloc (.cells cs 9)) w.heap.size (sl3 k0 k1 k2) ∧ Blk ((preO k0 k1 k2 w).alloc (.cells cs 9)) (w.heap.size + 1) (sl3 emp emp emp) ∧ Blk ((preO k0 k1 k2 w).alloc (.cells cs 9)) (w.heap.size + 1 + 1) (sl3 emp emp emp) ∧
    Blk ((preO k0 k1 k2 w).alloc (.cells cs 9)) (w.heap.size + 1 + 1 + 1) cs.toList ∧ Below w.heap.size w (preO k0 k1 k2 w) ∧ Below w.heap.size w ((preO k0 k1 k2 w).alloc (.cells cs 9)) ∧ (preO k0 k1 k2 w).heap.size = w.heap.size + 1 + 1 + 1 := by
  have b1 := Blk.new w #[.string k0, .string k1, .string k2] 69
  have b2 := Blk.new (w.alloc (.cells #[.string k0, .string k1, .string k2] 69)) #[.string emp, .string emp, .string emp] 69
  have b3 := Blk.new ((w.alloc (.cells #[.string k0, .string k1, .string k2] 69)).alloc (.cells #[.string emp, .string emp, .string emp] 69)) #[.string emp, .string emp, .string emp] 69
  have b4 := Blk.new (preO k0 k1 k2 w) cs 9
  simp only [World.size_alloc] at b2 b3 b4
  have hB : Below w.heap.size w (preO k0 k1 k2 w) := (((Below.refl _ _).alloc (Nat.le_refl _) _).alloc (by simp) _).alloc (by simp; omega) _
  exact ⟨((b1.alloc _).alloc _).alloc _, (b2.alloc _).alloc _, b3.alloc _, b4, hB, hB.alloc hB.size _, by simp⟩
theorem opB_len {k0 k1 k2 : List UInt8} {ws : List (List UInt8)} (h : ws.length ≠ 6) : opB k0 k1 k2 ws = false := by
  unfold opB
  rw [decide_eq_false h]
  simp
theorem opB_six {k0 k1 k2 a0 a1 a2 a3 a4 a5 : List UInt8} : opB k0 k1 k2 [a0, a1, a2, a3, a4, a5] = (decide (a0 = k0) && decide (a2 = k1) && decide (a4 = k2)) := by
  simp [opB]
theorem spl_mem (x : UInt8) : ∀ (s : List UInt8) (w : List UInt8), w ∈ spl x s → w.length ≤ s.length
  | [], w, h => by
    simp [spl] at h
    simp [h]
  | c :: r, w, h => by
    unfold spl at h
    split at h
    · rcases List.mem_cons.1 h with rfl | h
      · simp
      · have := spl_mem x r w h
        simp
        omega
    · have hne := spl_ne x r
      cases hs : spl x r with
      | nil => exact absurd hs hne
      | cons v ws =>
        rw [hs] at h
        rcases List.mem_cons.1 h with rfl | h
        · have := spl_mem x r v (by rw [hs]; exact List.mem_cons_self)
          simp
          omega
        · have := spl_mem x r w (by rw [hs]; exact List.mem_cons_of_mem _ h)
          simp
          omega

set_option maxRecDepth 100000 in
set_option maxHeartbeats 4000000 in
theorem operands_any (s k0 k1 k2 : ByteArray) (w : World) (hs : s.size ≤ 100000) (hM : ML w) : Calls Tryd.prog 48 #[.string s, st3 k0 k1 k2] w (OpPost k0 k1 k2 (bs s) w) := by
  obtain ⟨mx, hmx⟩ := hM.below (opr_pre k0 k1 k2 #[] w).2.2.2.2.1 hM.lt
  go_enter Tryd.func48, Tryd.ntmps48
  go_wp2_with fail
  refine (Tryd.strings_Split s ⟨#[32]⟩ mx (preO k0 k1 k2 w) (by omega) hmx (by decide)).mono ?_
  rintro e w' ⟨rfl, rfl⟩
  have hws := split_words s
  have hwl := split_len s
  rw [(opr_pre k0 k1 k2 #[] w).2.2.2.2.2.2]
  have hn : (Lib.splitB ⟨#[32]⟩ 0 (Lib.countB s ⟨#[32]⟩) s).length = Lib.countB s ⟨#[32]⟩ + 1 := by rw [← hwl, ← hws, List.length_map]
  generalize Lib.splitB ⟨#[32]⟩ 0 (Lib.countB s ⟨#[32]⟩) s = ws at *
  generalize Lib.countB s ⟨#[32]⟩ + 1 = n at *
  obtain ⟨hK, hR, hV, hS, _, hB, _⟩ := opr_pre k0 k1 k2 (ws.map Value.string).toArray w
  have hsz : ∀ x ∈ ws, x.size ≤ (bs s).length := fun x hx => by
    rw [← bs_len x]
    exact spl_mem 32 (bs s) _ (by rw [← hws]; exact List.mem_map.2 ⟨x, hx, rfl⟩)
  have Hsz := Lib.hid hsz
  clear hsz
  by_cases h6 : n = 6
  · subst h6
    obtain ⟨a0, a1, a2, a3, a4, a5, rfl⟩ := list6 hn
    have hop : opB (bs k0) (bs k1) (bs k2) (spl 32 (bs s)) = (decide (a0 = k0) && decide (a2 = k1) && decide (a4 = k2)) := by
      rw [← hws]
      simp only [List.map_cons, List.map_nil]
      rw [opB_six]
      congr 1
      · congr 1
        · exact decide_eq_decide.2 ⟨fun e => bs_inj e, fun e => by rw [e]⟩
        · exact decide_eq_decide.2 ⟨fun e => bs_inj e, fun e => by rw [e]⟩
      · exact decide_eq_decide.2 ⟨fun e => bs_inj e, fun e => by rw [e]⟩
    have hwa : str (wAt (spl 32 (bs s)) 1) = a1 ∧ str (wAt (spl 32 (bs s)) 3) = a3 ∧ str (wAt (spl 32 (bs s)) 5) = a5 := by
      rw [← hws]
      exact ⟨str_bs a1, str_bs a3, str_bs a5⟩
    have HO := Lib.hid (And.intro hop hwa)
    simp only [List.map_cons, List.map_nil] at *
    have HB := Lib.hid (And.intro hK (And.intro hR (And.intro hV (And.intro hS hB))))
    clear hop hwa hws hwl hn hK hR hV hS hB
    generalize (preO k0 k1 k2 w).alloc (.cells [Value.string a0, .string a1, .string a2, .string a3, .string a4, .string a5].toArray 9) = W at *
    generalize h1 : w.heap.size + 1 = r at *
    generalize h2 : r + 1 = V at *
    generalize h3 : V + 1 = S at *
    have hord : w.heap.size < r ∧ r < V ∧ V < S := by omega
    have Hord := Lib.hid hord
    clear h1 h2 h3 hord
    go_wp2_with fail
    go_loopw [15] (RelO w k0 k1 k2 a0 a1 a2 a3 a4 a5 w.heap.size r V S) (fun i _ => 3 - (intOf i).toNat)
    case atStart => exact ⟨0, emp, emp, emp, by omega, rfl, HB.out.2.2.1, HB.out.1, HB.out.2.1, HB.out.2.2.2.1, HB.out.2.2.2.2, fun h => by omega, fun h => by omega, fun h => by omega, fun _ => rfl, fun _ => rfl, fun _ => rfl⟩
    case round =>
      clear HB
      obtain ⟨k, x0, x1, x2, hk, rfl, hV, hK, hR, hS, hB, p0, p1, p2, q0, q1, q2⟩ := hrel
      have P := Lib.hid (And.intro p0 (And.intro p1 (And.intro p2 (And.intro q0 (And.intro q1 q2)))))
      clear p0 p1 p2 q0 q1 q2
      match k, hk with
      | 0, hk =>
        have c0 := hS.cell (i := 0) rfl
        have c1 := hS.cell (i := 1) rfl
        have c2 := hK.cell (i := 0) rfl
        by_cases e : a0 = k0
        · have he : (a0.toList == k0.toList) = true := by rw [str_eq]; exact decide_eq_true e
          have hne : (a0.toList != k0.toList) = false := by rw [bne, he]; rfl
          have He := Lib.hid e
          have HX := Lib.hid (And.intro hV (And.intro hK (And.intro hR (And.intro hS hB))))
          have z := hV.frozen 0
          have y := hV.cell (i := 0) rfl
          clear e hV hK hR hS hB
          go_wp2_with fail
          go_quiet (fail)
          have c1' : (wr.drewN nq).cell? ⟨S, 1, none⟩ = some (.string a1) := c1
          have z' : (wr.drewN nq).frozen? ⟨V, 0, none⟩ = false := z
          have y' : (wr.drewN nq).cell? ⟨V, 0, none⟩ = some (.string x0) := y
          clear c0 c1 c2 z y he hne
          go_wp2
          go_roundw
          case rel =>
            have ho := Hord.out
            refine ⟨1, a1, x1, x2, by omega, by go_num, (blkN HX.out.1 nq).put 0 (.string a1), (blkN HX.out.2.1 nq).setFar (p := ⟨V, 0, none⟩) (by show w.heap.size ≠ V; omega) _, (blkN HX.out.2.2.1 nq).setFar (p := ⟨V, 0, none⟩) (by show r ≠ V; omega) _, (blkN HX.out.2.2.2.1 nq).setFar (p := ⟨V, 0, none⟩) (by show S ≠ V; omega) _, (belN HX.out.2.2.2.2 nq).setCell (p := ⟨V, 0, none⟩) (by show w.heap.size ≤ V; omega) _, fun _ => ⟨rfl, He.out⟩, fun h => by omega, fun h => by omega, fun h => by omega, fun _ => P.out.2.2.2.2.1 (by omega), fun _ => P.out.2.2.2.2.2 (by omega)⟩
          case measure => simp [intOf]
        · have he : (a0.toList == k0.toList) = false := by rw [str_eq]; exact decide_eq_false e
          have hne : (a0.toList != k0.toList) = true := by rw [bne, he]; rfl
          have hf : opB (bs k0) (bs k1) (bs k2) (spl 32 (bs s)) = false := by
            rw [HO.out.1, decide_eq_false e]
            simp
          have z0 := hR.frozen 0
          have z1 := hR.frozen 1
          have z2 := hR.frozen 2
          have y0 := hR.cell (i := 0) rfl
          have y1 := hR.cell (i := 1) rfl
          have y2 := hR.cell (i := 2) rfl
          have v0 := hV.cell (i := 0) rfl
          have v1 := hV.cell (i := 1) rfl
          have v2 := hV.cell (i := 2) rfl
          have HX := Lib.hid (And.intro hf (And.intro hR hB))
          clear e hV hK hR hS hB hf
          go_wp2_with fail
          go_quiet (fail)
          clear c0 c1 c2
          go_wp2
          have hG := (((blkN HX.out.2.1 nq).put 0 (.string x0)).put 1 (.string x1)).put 2 (.string x2)
          have d0 := hG.cell (i := 0) rfl
          have d1 := hG.cell (i := 1) rfl
          have d2 := hG.cell (i := 2) rfl
          have ho := Hord.out
          have hBB := (((belN HX.out.2.2 nq).setCell (p := ⟨r, 0, none⟩) (by show w.heap.size ≤ r; omega) (.string x0)).setCell (p := ⟨r, 1, none⟩) (by show w.heap.size ≤ r; omega) (.string x1)).setCell (p := ⟨r, 2, none⟩) (by show w.heap.size ≤ r; omega) (.string x2)
          have e0 : x0.size ≤ (bs s).length := by rw [P.out.2.2.2.1 (by omega)]; exact Nat.zero_le _
          have e1 : x1.size ≤ (bs s).length := by rw [P.out.2.2.2.2.1 (by omega)]; exact Nat.zero_le _
          have e2 : x2.size ≤ (bs s).length := by rw [P.out.2.2.2.2.2 (by omega)]; exact Nat.zero_le _
          exact bodyPost_ret (v := .tuple #[st3 x0 x1 x2, .bool false]) (by simp [results, Tryd.results48, go_sem, d0, d1, d2]) rfl ⟨x0, x1, x2, by rw [HX.out.1], hBB, (fun h => by rw [HX.out.1] at h; cases h), e0, e1, e2⟩
      | 1, hk =>
        have c0 := hS.cell (i := 2) rfl
        have c1 := hS.cell (i := 3) rfl
        have c2 := hK.cell (i := 1) rfl
        by_cases e : a2 = k1
        · have he : (a2.toList == k1.toList) = true := by rw [str_eq]; exact decide_eq_true e
          have hne : (a2.toList != k1.toList) = false := by rw [bne, he]; rfl
          have He := Lib.hid e
          have HX := Lib.hid (And.intro hV (And.intro hK (And.intro hR (And.intro hS hB))))
          have z := hV.frozen 1
          have y := hV.cell (i := 1) rfl
          clear e hV hK hR hS hB
          go_wp2_with fail
          go_quiet (fail)
          have c1' : (wr.drewN nq).cell? ⟨S, 3, none⟩ = some (.string a3) := c1
          have z' : (wr.drewN nq).frozen? ⟨V, 1, none⟩ = false := z
          have y' : (wr.drewN nq).cell? ⟨V, 1, none⟩ = some (.string x1) := y
          clear c0 c1 c2 z y he hne
          go_wp2
          go_roundw
          case rel =>
            have ho := Hord.out
            refine ⟨2, x0, a3, x2, by omega, by go_num, (blkN HX.out.1 nq).put 1 (.string a3), (blkN HX.out.2.1 nq).setFar (p := ⟨V, 1, none⟩) (by show w.heap.size ≠ V; omega) _, (blkN HX.out.2.2.1 nq).setFar (p := ⟨V, 1, none⟩) (by show r ≠ V; omega) _, (blkN HX.out.2.2.2.1 nq).setFar (p := ⟨V, 1, none⟩) (by show S ≠ V; omega) _, (belN HX.out.2.2.2.2 nq).setCell (p := ⟨V, 1, none⟩) (by show w.heap.size ≤ V; omega) _, fun _ => P.out.1 (by omega), fun _ => ⟨rfl, He.out⟩, fun h => by omega, fun h => by omega, fun h => by omega, fun _ => P.out.2.2.2.2.2 (by omega)⟩
          case measure => simp [intOf]
        · have he : (a2.toList == k1.toList) = false := by rw [str_eq]; exact decide_eq_false e
          have hne : (a2.toList != k1.toList) = true := by rw [bne, he]; rfl
          have hf : opB (bs k0) (bs k1) (bs k2) (spl 32 (bs s)) = false := by
            rw [HO.out.1, decide_eq_false e]
            simp
          have z0 := hR.frozen 0
          have z1 := hR.frozen 1
          have z2 := hR.frozen 2
          have y0 := hR.cell (i := 0) rfl
          have y1 := hR.cell (i := 1) rfl
          have y2 := hR.cell (i := 2) rfl
          have v0 := hV.cell (i := 0) rfl
          have v1 := hV.cell (i := 1) rfl
          have v2 := hV.cell (i := 2) rfl
          have HX := Lib.hid (And.intro hf (And.intro hR hB))
          clear e hV hK hR hS hB hf
          go_wp2_with fail
          go_quiet (fail)
          clear c0 c1 c2
          go_wp2
          have hG := (((blkN HX.out.2.1 nq).put 0 (.string x0)).put 1 (.string x1)).put 2 (.string x2)
          have d0 := hG.cell (i := 0) rfl
          have d1 := hG.cell (i := 1) rfl
          have d2 := hG.cell (i := 2) rfl
          have ho := Hord.out
          have hBB := (((belN HX.out.2.2 nq).setCell (p := ⟨r, 0, none⟩) (by show w.heap.size ≤ r; omega) (.string x0)).setCell (p := ⟨r, 1, none⟩) (by show w.heap.size ≤ r; omega) (.string x1)).setCell (p := ⟨r, 2, none⟩) (by show w.heap.size ≤ r; omega) (.string x2)
          have e0 : x0.size ≤ (bs s).length := by rw [(P.out.1 (by omega)).1]; exact Hsz.out a1 (by simp)
          have e1 : x1.size ≤ (bs s).length := by rw [P.out.2.2.2.2.1 (by omega)]; exact Nat.zero_le _
          have e2 : x2.size ≤ (bs s).length := by rw [P.out.2.2.2.2.2 (by omega)]; exact Nat.zero_le _
          exact bodyPost_ret (v := .tuple #[st3 x0 x1 x2, .bool false]) (by simp [results, Tryd.results48, go_sem, d0, d1, d2]) rfl ⟨x0, x1, x2, by rw [HX.out.1], hBB, (fun h => by rw [HX.out.1] at h; cases h), e0, e1, e2⟩
      | 2, hk =>
        have c0 := hS.cell (i := 4) rfl
        have c1 := hS.cell (i := 5) rfl
        have c2 := hK.cell (i := 2) rfl
        by_cases e : a4 = k2
        · have he : (a4.toList == k2.toList) = true := by rw [str_eq]; exact decide_eq_true e
          have hne : (a4.toList != k2.toList) = false := by rw [bne, he]; rfl
          have He := Lib.hid e
          have HX := Lib.hid (And.intro hV (And.intro hK (And.intro hR (And.intro hS hB))))
          have z := hV.frozen 2
          have y := hV.cell (i := 2) rfl
          clear e hV hK hR hS hB
          go_wp2_with fail
          go_quiet (fail)
          have c1' : (wr.drewN nq).cell? ⟨S, 5, none⟩ = some (.string a5) := c1
          have z' : (wr.drewN nq).frozen? ⟨V, 2, none⟩ = false := z
          have y' : (wr.drewN nq).cell? ⟨V, 2, none⟩ = some (.string x2) := y
          clear c0 c1 c2 z y he hne
          go_wp2
          go_roundw
          case rel =>
            have ho := Hord.out
            refine ⟨3, x0, x1, a5, by omega, by go_num, (blkN HX.out.1 nq).put 2 (.string a5), (blkN HX.out.2.1 nq).setFar (p := ⟨V, 2, none⟩) (by show w.heap.size ≠ V; omega) _, (blkN HX.out.2.2.1 nq).setFar (p := ⟨V, 2, none⟩) (by show r ≠ V; omega) _, (blkN HX.out.2.2.2.1 nq).setFar (p := ⟨V, 2, none⟩) (by show S ≠ V; omega) _, (belN HX.out.2.2.2.2 nq).setCell (p := ⟨V, 2, none⟩) (by show w.heap.size ≤ V; omega) _, fun _ => P.out.1 (by omega), fun _ => P.out.2.1 (by omega), fun _ => ⟨rfl, He.out⟩, fun h => by omega, fun h => by omega, fun h => by omega⟩
          case measure => simp [intOf]
        · have he : (a4.toList == k2.toList) = false := by rw [str_eq]; exact decide_eq_false e
          have hne : (a4.toList != k2.toList) = true := by rw [bne, he]; rfl
          have hf : opB (bs k0) (bs k1) (bs k2) (spl 32 (bs s)) = false := by
            rw [HO.out.1, decide_eq_false e]
            simp
          have z0 := hR.frozen 0
          have z1 := hR.frozen 1
          have z2 := hR.frozen 2
          have y0 := hR.cell (i := 0) rfl
          have y1 := hR.cell (i := 1) rfl
          have y2 := hR.cell (i := 2) rfl
          have v0 := hV.cell (i := 0) rfl
          have v1 := hV.cell (i := 1) rfl
          have v2 := hV.cell (i := 2) rfl
          have HX := Lib.hid (And.intro hf (And.intro hR hB))
          clear e hV hK hR hS hB hf
          go_wp2_with fail
          go_quiet (fail)
          clear c0 c1 c2
          go_wp2
          have hG := (((blkN HX.out.2.1 nq).put 0 (.string x0)).put 1 (.string x1)).put 2 (.string x2)
          have d0 := hG.cell (i := 0) rfl
          have d1 := hG.cell (i := 1) rfl
          have d2 := hG.cell (i := 2) rfl
          have ho := Hord.out
          have hBB := (((belN HX.out.2.2 nq).setCell (p := ⟨r, 0, none⟩) (by show w.heap.size ≤ r; omega) (.string x0)).setCell (p := ⟨r, 1, none⟩) (by show w.heap.size ≤ r; omega) (.string x1)).setCell (p := ⟨r, 2, none⟩) (by show w.heap.size ≤ r; omega) (.string x2)
          have e0 : x0.size ≤ (bs s).length := by rw [(P.out.1 (by omega)).1]; exact Hsz.out a1 (by simp)
          have e1 : x1.size ≤ (bs s).length := by rw [(P.out.2.1 (by omega)).1]; exact Hsz.out a3 (by simp)
          have e2 : x2.size ≤ (bs s).length := by rw [P.out.2.2.2.2.2 (by omega)]; exact Nat.zero_le _
          exact bodyPost_ret (v := .tuple #[st3 x0 x1 x2, .bool false]) (by simp [results, Tryd.results48, go_sem, d0, d1, d2]) rfl ⟨x0, x1, x2, by rw [HX.out.1], hBB, (fun h => by rw [HX.out.1] at h; cases h), e0, e1, e2⟩
      | 3, hk =>
        have hf : opB (bs k0) (bs k1) (bs k2) (spl 32 (bs s)) = true := by
          rw [HO.out.1, (P.out.1 (by omega)).2, (P.out.2.1 (by omega)).2, (P.out.2.2.1 (by omega)).2]
          simp
        have z0 := hR.frozen 0
        have z1 := hR.frozen 1
        have z2 := hR.frozen 2
        have y0 := hR.cell (i := 0) rfl
        have y1 := hR.cell (i := 1) rfl
        have y2 := hR.cell (i := 2) rfl
        have v0 := hV.cell (i := 0) rfl
        have v1 := hV.cell (i := 1) rfl
        have v2 := hV.cell (i := 2) rfl
        have HX := Lib.hid (And.intro hf (And.intro hR hB))
        clear hV hK hR hS hB hf
        go_wp2
        have hG := ((HX.out.2.1.put 0 (.string x0)).put 1 (.string x1)).put 2 (.string x2)
        have d0 := hG.cell (i := 0) rfl
        have d1 := hG.cell (i := 1) rfl
        have d2 := hG.cell (i := 2) rfl
        have ho := Hord.out
        have hBB := ((HX.out.2.2.setCell (p := ⟨r, 0, none⟩) (by show w.heap.size ≤ r; omega) (.string x0)).setCell (p := ⟨r, 1, none⟩) (by show w.heap.size ≤ r; omega) (.string x1)).setCell (p := ⟨r, 2, none⟩) (by show w.heap.size ≤ r; omega) (.string x2)
        have g0 := (P.out.1 (by omega)).1
        have g1 := (P.out.2.1 (by omega)).1
        have g2 := (P.out.2.2.1 (by omega)).1
        exact bodyPost_ret (v := .tuple #[st3 x0 x1 x2, .bool true]) (by simp [results, Tryd.results48, go_sem, d0, d1, d2]) rfl ⟨x0, x1, x2, by rw [HX.out.1], hBB, fun _ => ⟨by rw [HO.out.2.1, g0], by rw [HO.out.2.2.1, g1], by rw [HO.out.2.2.2, g2]⟩, by rw [g0]; exact Hsz.out a1 (by simp), by rw [g1]; exact Hsz.out a3 (by simp), by rw [g2]; exact Hsz.out a5 (by simp)⟩
  · have hf : opB (bs k0) (bs k1) (bs k2) (spl 32 (bs s)) = false := opB_len (by rw [hwl]; exact h6)
    have h6' : ((n : Int) != 6) = true := by
      rw [bne_iff_ne]
      omega
    have z0 := hR.frozen 0
    have z1 := hR.frozen 1
    have z2 := hR.frozen 2
    have y0 := hR.cell (i := 0) rfl
    have y1 := hR.cell (i := 1) rfl
    have y2 := hR.cell (i := 2) rfl
    have v0 := hV.cell (i := 0) rfl
    have v1 := hV.cell (i := 1) rfl
    have v2 := hV.cell (i := 2) rfl
    have HX := Lib.hid (And.intro hf (And.intro hR hB))
    clear hV hK hR hS hB hf hws hwl hn h6
    generalize (preO k0 k1 k2 w).alloc (.cells (ws.map Value.string).toArray 9) = W at *
    generalize h1 : w.heap.size + 1 = r at *
    generalize h2 : r + 1 = V at *
    have ho : w.heap.size < r ∧ r < V := by omega
    have Hord := Lib.hid ho
    clear h1 h2 ho
    go_wp2
    have hG := ((HX.out.2.1.put 0 (.string emp)).put 1 (.string emp)).put 2 (.string emp)
    have d0 := hG.cell (i := 0) rfl
    have d1 := hG.cell (i := 1) rfl
    have d2 := hG.cell (i := 2) rfl
    have ho := Hord.out
    have hBB := ((HX.out.2.2.setCell (p := ⟨r, 0, none⟩) (by show w.heap.size ≤ r; omega) (.string emp)).setCell (p := ⟨r, 1, none⟩) (by show w.heap.size ≤ r; omega) (.string emp)).setCell (p := ⟨r, 2, none⟩) (by show w.heap.size ≤ r; omega) (.string emp)
    exact bodyPost_ret (v := .tuple #[st3 emp emp emp, .bool false]) (by simp [results, Tryd.results48, go_sem, d0, d1, d2]) rfl ⟨emp, emp, emp, by rw [HX.out.1], hBB, (fun h => by rw [HX.out.1] at h; cases h), Nat.zero_le _, Nat.zero_le _, Nat.zero_le _⟩
end Go.Proofs.YthdchoagdipplaaDoor
