/- codec.part, and the cut at a blank: their contracts. -/
import Derived.Test.YtenbbnmhgpclkaaDoorSiz
import Derived.Test.YtenbbnmhgpclkaaDoorAwk
namespace Go.Proofs.YtenbbnmhgpclkaaDoor
open Go.RowKit

theorem bs_ext (s : ByteArray) (a b : Nat) : bs (s.extract a b) = ((bs s).take b).drop a := by
  simp [bs, ByteArray.data_extract, List.extract_eq_take_drop, List.drop_take]
theorem ext_size (s : ByteArray) (a b : Nat) : (s.extract a b).size ≤ s.size := by
  rw [← bs_len, ← bs_len, bs_ext]
  simp
  omega
theorem ext_list (s : ByteArray) (q : Nat) : (s.extract 0 q).toList = (bs s).take q := by
  rw [ByteArray.toList_eq]
  have := bs_ext s 0 q
  rw [List.drop_zero] at this
  exact this
theorem ext_rest (s : ByteArray) (q : Nat) : bs (s.extract q s.size) = (bs s).drop q := by
  rw [bs_ext, List.take_of_length_le (by rw [bs_len]; omega)]

/-- At the head of part's loop. -/
def RelK (w : World) (s : List UInt8) (i : Value) (wr : World) : Prop :=
  ∃ k : Nat, k ≤ 4 ∧ i = .int .i64 k ∧ (∀ j, j < k → s.take (lett s) ≠ kName j) ∧ ∃ m, wr = (w.alloc (.cells #[.int .i64 0, .int .i64 0] 47)).drewN m

set_option maxRecDepth 100000 in
set_option maxHeartbeats 2000000 in
theorem part_any (s : ByteArray) (w : World) (hK : KD w) (hs : s.size ≤ 100000) :
    Calls Tryd.prog 34 #[.string s] w (Ret (.tuple #[fld (partV (bs s)).1 (partV (bs s)).2, .int .i64 (partE (bs s))]) w) := by
  have hle : lett (bs s) ≤ s.size := by rw [← bs_len]; exact lett_le _
  go_enter Tryd.func34, Tryd.ntmps34
  go_wp2_with fail
  refine (letters_any s _ hs).mono ?_
  rintro e w' ⟨rfl, rfl⟩
  have hB := (Below.refl w.heap.size w).alloc (Nat.le_refl _) (.cells #[.int .i64 0, .int .i64 0] 47)
  have hN := Blk.new w #[.int .i64 0, .int .i64 0] 47
  have hK0 := hK.next hB
  go_wp2
  go_loopw [8] (RelK w (bs s)) (fun i _ => 4 - (intOf i).toNat)
  case atStart => exact ⟨0, by omega, rfl, fun j hj => by omega, 0, rfl⟩
  case round =>
    obtain ⟨k, hk, rfl, hno, m, rfl⟩ := hrel
    have Hno := Lib.hid (And.intro hno (And.intro hB hN))
    clear hno hB hN
    by_cases hlt : k < 4
    · have t0 := hK0.name hlt
      have t0' : ((w.alloc (.cells #[.int .i64 0, .int .i64 0] 47)).drewN m).cell? ⟨0, k * 3, none⟩ = some (.string (str (kName k))) := t0
      have hk4 : (k : Int) < 4 := by omega
      clear t0
      generalize hWE : (w.alloc (.cells #[.int .i64 0, .int .i64 0] 47)).drewN m = W at *
      have hqs : (lett (bs s) : Int) ≤ s.size := by omega
      have hKW : KD W := by rw [← hWE]; exact hK0
      have hNW : Blk W w.heap.size [.int .i64 0, .int .i64 0] := by rw [← hWE]; exact blkN Hno.out.2.2 m
      have hBW : Below w.heap.size w W := by rw [← hWE]; exact belN Hno.out.2.1 m
      generalize hqE : lett (bs s) = q at *
      have HW := Lib.hid (And.intro hWE (And.intro hqE (And.intro hKW (And.intro hNW hBW))))
      clear hWE hqE hKW hNW hBW hK0
      by_cases hnm : (bs s).take q = kName k
      · have heq : ((str (kName k)).toList == (s.extract 0 q).toList) = true := by rw [str_toList, ext_list, hnm]; simp
        have hpk : partK (bs s) = k := by
          unfold partK
          rw [HW.out.2.1]
          exact (kindOf_lt hlt).2 hnm
        have Hpk := Lib.hid hpk
        clear hpk hnm
        go_wp2_with fail
        go_quiet (fail)
        go_wp2_with fail
        refine (sized_any k hlt (s.extract q s.size) _ (show KD (W.drewN nq) from HW.out.2.2.1) (Nat.le_trans (ext_size _ _ _) hs)).mono ?_
        rintro e w3 ⟨rfl, hb3⟩
        rw [ext_rest]
        have hN3 := (blkN HW.out.2.2.2.1 nq).low hb3
        have hB3 := (belN HW.out.2.2.2.2 nq).trans (hb3.mono (belN HW.out.2.2.2.2 nq).size)
        have z0' := hN3.frozen 0
        have z1' := hN3.frozen 1
        have r0 := hN3.cell (i := 0) rfl
        have r1 := hN3.cell (i := 1) rfl
        have hE : partE (bs s) = szE k ((bs s).drop q) ∧ partV (bs s) = szV k ((bs s).drop q) := by
          unfold partE partV
          rw [Hpk.out, HW.out.2.1, if_neg (by omega), if_neg (by omega)]
          exact ⟨rfl, rfl⟩
        have HE := Lib.hid hE
        clear hE
        generalize szE k ((bs s).drop q) = er at *
        generalize szV k ((bs s).drop q) = pv at *
        obtain ⟨pk, pn⟩ := pv
        go_wp2
        rw [HE.out.1, HE.out.2]
        have hG := (hN3.put 0 (.int .i64 pk)).put 1 (.int .i64 pn)
        have c0 := hG.cell (i := 0) rfl
        have c1 := hG.cell (i := 1) rfl
        have hfin := (hB3.setCell (p := ⟨w.heap.size, 0, none⟩) (Nat.le_refl _) (.int .i64 pk)).setCell (p := ⟨w.heap.size, 1, none⟩) (Nat.le_refl _) (.int .i64 pn)
        exact bodyPost_ret (v := .tuple #[fld pk pn, .int .i64 er]) (by simp [results, Tryd.results34, go_sem, c0, c1]) rfl ⟨rfl, hfin⟩
      · have heq : ((str (kName k)).toList == (s.extract 0 q).toList) = false := by
          rw [str_toList, ext_list, beq_eq_false_iff_ne]
          exact fun e => hnm e.symm
        have Hnm := Lib.hid hnm
        clear hnm
        go_wp2_with fail
        go_quiet (fail)
        go_wp2
        go_roundw
        case rel =>
          refine ⟨k + 1, by omega, by go_num, fun j hj => ?_, m + nq, by rw [← HW.out.1, World.drewN_drewN]⟩
          rw [HW.out.2.1]
          by_cases h : j = k
          · rw [h]
            exact Hnm.out
          · exact Hno.out.1 j (by omega)
        case measure => simp [intOf]; omega
    · obtain rfl : k = 4 := by omega
      have hK4 : partK (bs s) = 4 := kindOf_none Hno.out.1
      have hE : partE (bs s) = 13 ∧ partV (bs s) = (0, 0) := by
        unfold partE partV
        rw [if_pos hK4, if_pos hK4]
        exact ⟨rfl, rfl⟩
      have HE := Lib.hid hE
      clear hE hK4
      have hN3 := blkN Hno.out.2.2 m
      have hB3 := belN Hno.out.2.1 m
      have z0' := hN3.frozen 0
      have z1' := hN3.frozen 1
      have r0 := hN3.cell (i := 0) rfl
      have r1 := hN3.cell (i := 1) rfl
      have HN3 := Lib.hid (And.intro hN3 hB3)
      clear hN3 hB3 hK0
      generalize (w.alloc (.cells #[.int .i64 0, .int .i64 0] 47)).drewN m = W at *
      go_wp2
      rw [HE.out.1, HE.out.2]
      have hG := (HN3.out.1.put 0 (.int .i64 0)).put 1 (.int .i64 0)
      have c0 := hG.cell (i := 0) rfl
      have c1 := hG.cell (i := 1) rfl
      have hfin := (HN3.out.2.setCell (p := ⟨w.heap.size, 0, none⟩) (Nat.le_refl _) (.int .i64 0)).setCell (p := ⟨w.heap.size, 1, none⟩) (Nat.le_refl _) (.int .i64 0)
      exact bodyPost_ret (v := .tuple #[fld 0 0, .int .i64 13]) (by simp [results, Tryd.results34, go_sem, c0, c1]) rfl ⟨rfl, hfin⟩

/-- The cut at the first blank. -/
def cutA (s : ByteArray) : ByteArray := if Lib.indexByte (bs s) 32 = -1 then s else s.extract 0 (Lib.indexByte (bs s) 32).toNat
def cutB (s : ByteArray) : ByteArray := if Lib.indexByte (bs s) 32 = -1 then ⟨#[]⟩ else s.extract ((Lib.indexByte (bs s) 32).toNat + 1) s.size
def cutM (s : ByteArray) : Bool := Lib.indexByte (bs s) 32 != -1
def CutPost (s : ByteArray) (w : World) (e : Ending) (w' : World) : Prop := e = .returned (.tuple #[.string (cutA s), .string (cutB s), .bool (cutM s)]) ∧ ∃ n, w' = w.drewN n
set_option maxHeartbeats 1000000 in
theorem cut_in (s : ByteArray) (w : World) (hs : s.size ≤ 100000) : Calls Tryd.prog 50 #[.string s, .string ⟨#[32]⟩] w (CutPost s w) := by
  rcases spl_idx (bs s) with ⟨h1, _⟩ | ⟨i, h1, h2, _⟩
  · have e : cutA s = s ∧ cutB s = ⟨#[]⟩ ∧ cutM s = false := by simp [cutA, cutB, cutM, h1]
    have He := Lib.hid e
    clear e
    go_enter Tryd.func50, Tryd.ntmps50
    go_wp2_with fail
    refine (Tryd.stringslite_Index_one s 32 w).mono ?_
    rintro e w' ⟨rfl, rfl⟩
    have h1' : Lib.indexByte s.data.toList 32 = -1 := h1
    rw [h1']
    go_wp2
    go_ret3
    exact ⟨by rw [He.out.1, He.out.2.1, He.out.2.2]; rfl, 0, rfl⟩
  · have hne2 : ¬ (i : Int) = -1 := by omega
    have e : cutA s = s.extract 0 i ∧ cutB s = s.extract (i + 1) s.size ∧ cutM s = true := by simp [cutA, cutB, cutM, h1, hne2]
    have He := Lib.hid e
    clear e hne2
    have hi : i < s.size := by rw [← bs_len]; exact h2
    go_enter Tryd.func50, Tryd.ntmps50
    go_wp2_with fail
    refine (Tryd.stringslite_Index_one s 32 w).mono ?_
    rintro e w' ⟨rfl, rfl⟩
    have h1' : Lib.indexByte s.data.toList 32 = i := h1
    rw [h1']
    clear h1 h1' h2
    have hi1 : (i : Int) ≤ s.size := by omega
    have hi2 : (i : Int) + 1 ≤ s.size := by omega
    have hw1 : IntKind.i64.wrap ((i : Int) + 1) = (i : Int) + 1 := IntWalk.i64_in _ (by omega)
    go_wp2_with fail
    go_quiet (fail)
    go_wp2
    go_ret3
    exact ⟨by rw [He.out.1, He.out.2.1, He.out.2.2]; rfl, nq, rfl⟩
theorem cut_any (s : ByteArray) (w : World) (hs : s.size ≤ 100000) : Calls Tryd.prog 33 #[.string s, .string ⟨#[32]⟩] w (CutPost s w) := by
  go_enter Tryd.func33, Tryd.ntmps33
  go_wp2_with fail
  refine (cut_in s w hs).mono ?_
  rintro e w' ⟨rfl, n, rfl⟩
  go_wp2
  go_ret3
  exact ⟨rfl, n, rfl⟩
end Go.Proofs.YtenbbnmhgpclkaaDoor
