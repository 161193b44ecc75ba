/- codec.sized: its contract. -/
import Derived.Test.YtenbbnmhgpclkaaDoorLet
namespace Go.Proofs.YtenbbnmhgpclkaaDoor
open Go.RowKit

theorem bs_nil {s : ByteArray} (h : bs s = []) : s = ⟨#[]⟩ := by
  rw [← str_bs s, h]
  rfl
theorem size_pos {s : ByteArray} (h : bs s ≠ []) : 0 < s.size := by
  rw [← bs_len]
  exact List.length_pos_iff.2 h
theorem toList_ne {s : ByteArray} (h : bs s ≠ []) : s.toList ≠ [] := by
  rw [ByteArray.toList_eq]
  exact h

set_option maxHeartbeats 1000000 in
theorem sized_un (k : Nat) (hk : k < 4) (s : ByteArray) (w : World) (hK : KD w) (ht : tld k = false) :
    Calls Tryd.prog 52 #[.int .i64 k, .string s] w (Ret (.tuple #[fld (szV k (bs s)).1 (szV k (bs s)).2, .int .i64 (szE k (bs s))]) w) := by
  have hnot := hnot
  by_cases h0 : bs s = []
  · have e : szE k (bs s) = 0 ∧ szV k (bs s) = ((k : Int), kLo k) := by simp [szE, szV, ht, h0]
    rw [e.1, e.2]
    rw [bs_nil h0]
    clear e h0
    go_enter Tryd.func52, Tryd.ntmps52
    go_wp2_with fail
    have hb0 := (Below.refl w.heap.size w).alloc (Nat.le_refl _) (.cells #[.int .i64 0, .int .i64 0] 47)
    have hN := Blk.new w #[.int .i64 0, .int .i64 0] 47
    have hK0 := hK.next hb0
    generalize w.alloc (.cells #[.int .i64 0, .int .i64 0] 47) = w0 at *
    refine (told_any k hk w0 hK0).mono ?_
    rintro e w1 ⟨rfl, nd, rfl⟩
    rw [ht]
    have t1 := hK0.lo hk
    have z0' := hN.frozen 0
    have z1' := hN.frozen 1
    have r0 := hN.cell (i := 0) rfl
    have r1 := hN.cell (i := 1) rfl
    have hK3 : (k : Int) < 4 := by omega
    have HN := Lib.hid (And.intro hN hb0)
    clear hN hb0 hK0 hK
    generalize kLo k = lo at *
    go_wp2
    have hG := ((blkN HN.out.1 nd).put 0 (.int .i64 (k : Int))).put 1 (.int .i64 lo)
    have c0 := hG.cell (i := 0) rfl
    have c1 := hG.cell (i := 1) rfl
    have hfin := ((belN HN.out.2 nd).setCell (p := ⟨w.heap.size, 0, none⟩) (Nat.le_refl _) (.int .i64 (k : Int))).setCell (p := ⟨w.heap.size, 1, none⟩) (Nat.le_refl _) (.int .i64 lo)
    exact bodyPost_ret (v := .tuple #[fld (k : Int) lo, .int .i64 0]) (by simp [results, Tryd.results52, go_sem, c0, c1]) rfl ⟨rfl, hfin⟩
  · have e : szE k (bs s) = 11 ∧ szV k (bs s) = (0, 0) := by simp [szE, szV, ht, h0]
    rw [e.1, e.2]
    have hne := toList_ne h0
    have hne2 : (s.toList == []) = false := by simpa using hne
    have hne3 : (s.toList != []) = true := by simpa using hne
    have hne4 : s.toList.isEmpty = false := by simpa using hne
    clear e h0
    go_enter Tryd.func52, Tryd.ntmps52
    go_wp2_with fail
    have hb0 := (Below.refl w.heap.size w).alloc (Nat.le_refl _) (.cells #[.int .i64 0, .int .i64 0] 47)
    have hN := Blk.new w #[.int .i64 0, .int .i64 0] 47
    have hK0 := hK.next hb0
    generalize w.alloc (.cells #[.int .i64 0, .int .i64 0] 47) = w0 at *
    refine (told_any k hk w0 hK0).mono ?_
    rintro e w1 ⟨rfl, nd, rfl⟩
    rw [ht]
    have t1 := hK0.lo hk
    have z0' := hN.frozen 0
    have z1' := hN.frozen 1
    have r0 := hN.cell (i := 0) rfl
    have r1 := hN.cell (i := 1) rfl
    have hK3 : (k : Int) < 4 := by omega
    have HN := Lib.hid (And.intro hN hb0)
    clear hN hb0 hK0 hK
    go_wp2
    have hG := ((blkN HN.out.1 nd).put 0 (.int .i64 0)).put 1 (.int .i64 0)
    have c0 := hG.cell (i := 0) rfl
    have c1 := hG.cell (i := 1) rfl
    have hfin := ((belN HN.out.2 nd).setCell (p := ⟨w.heap.size, 0, none⟩) (Nat.le_refl _) (.int .i64 0)).setCell (p := ⟨w.heap.size, 1, none⟩) (Nat.le_refl _) (.int .i64 0)
    exact bodyPost_ret (v := .tuple #[fld 0 0, .int .i64 11]) (by simp [results, Tryd.results52, go_sem, c0, c1]) rfl ⟨rfl, hfin⟩

theorem fold_lt : ∀ (d : List UInt8) (a : Nat), d.foldl (fun n c => 10 * n + (c.toNat - 48)) a + 1 ≤ (a + 1) * 300 ^ d.length
  | [], a => by simp
  | c :: r, a => by
    have h := fold_lt r (10 * a + (c.toNat - 48))
    have hc : c.toNat < 256 := c.toNat_lt
    have h2 : (10 * a + (c.toNat - 48) + 1) * 300 ^ r.length ≤ ((a + 1) * 300) * 300 ^ r.length := Nat.mul_le_mul_right _ (by omega)
    rw [List.foldl_cons, List.length_cons, Nat.pow_succ]
    calc _ ≤ _ := h
      _ ≤ ((a + 1) * 300) * 300 ^ r.length := h2
      _ = (a + 1) * (300 ^ r.length * 300) := by rw [Nat.mul_assoc, Nat.mul_comm 300]
theorem num_lt (d : List UInt8) (h : d.length ≤ 3) : num d ≤ 27000000 := by
  have h1 := fold_lt d 0
  have h2 : 300 ^ d.length ≤ 300 ^ 3 := Nat.pow_le_pow_right (by omega) h
  unfold num
  omega
theorem head_get {s : ByteArray} (h : 0 < s.size) : (bs s).head? = some s[0] := by
  rw [List.head?_eq_getElem?]
  exact bs_get s 0 h
theorem dBad_no {s : ByteArray} (h0 : bs s ≠ []) (h1 : s.size ≤ 3) (h2 : (bs s).head? ≠ some 48) : dBad (bs s) = (bs s).any (fun c => !isD c) := by
  unfold dBad
  rw [bs_len]
  simp [h0, h2, Nat.not_lt.2 h1]

set_option maxRecDepth 100000 in
set_option maxHeartbeats 2000000 in
theorem sized_told (k : Nat) (hk : k < 4) (s : ByteArray) (w : World) (hK : KD w) (ht : tld k = true) (hs : s.size ≤ 100000) :
    Calls Tryd.prog 52 #[.int .i64 k, .string s] w (Ret (.tuple #[fld (szV k (bs s)).1 (szV k (bs s)).2, .int .i64 (szE k (bs s))]) w) := by
  have hnot := hnot
  have ebad : dBad (bs s) = true → szE k (bs s) = 11 ∧ szV k (bs s) = (0, 0) := fun h => by simp [szE, szV, ht, h]
  by_cases h0 : bs s = []
  · obtain ⟨e1, e2⟩ := ebad (by simp [dBad, h0])
    rw [e1, e2, bs_nil h0]
    clear ebad e1 e2 h0
    go_enter Tryd.func52, Tryd.ntmps52
    go_wp2_with fail
    have hb0 := (Below.refl w.heap.size w).alloc (Nat.le_refl _) (.cells #[.int .i64 0, .int .i64 0] 47)
    have hN := Blk.new w #[.int .i64 0, .int .i64 0] 47
    have hK0 := hK.next hb0
    generalize w.alloc (.cells #[.int .i64 0, .int .i64 0] 47) = w0 at *
    refine (told_any k hk w0 hK0).mono ?_
    rintro e w1 ⟨rfl, nd, rfl⟩
    rw [ht]
    have t1 := hK0.lo hk
    have z0' := hN.frozen 0
    have z1' := hN.frozen 1
    have r0 := hN.cell (i := 0) rfl
    have r1 := hN.cell (i := 1) rfl
    have hK3 : (k : Int) < 4 := by omega
    have HN := Lib.hid (And.intro hN hb0)
    clear hN hb0 hK0 hK
    go_wp2
    have hG := ((blkN HN.out.1 nd).put 0 (.int .i64 0)).put 1 (.int .i64 0)
    have c0 := hG.cell (i := 0) rfl
    have c1 := hG.cell (i := 1) rfl
    have hfin := ((belN HN.out.2 nd).setCell (p := ⟨w.heap.size, 0, none⟩) (Nat.le_refl _) (.int .i64 0)).setCell (p := ⟨w.heap.size, 1, none⟩) (Nat.le_refl _) (.int .i64 0)
    exact bodyPost_ret (v := .tuple #[fld 0 0, .int .i64 11]) (by simp [results, Tryd.results52, go_sem, c0, c1]) rfl ⟨rfl, hfin⟩
  have hp := size_pos h0
  have hne := toList_ne h0
  have hne2 : (s.toList == []) = false := by simpa using hne
  have hne4 : s.toList.isEmpty = false := by simpa using hne
  by_cases h1 : 3 < s.size
  · obtain ⟨e1, e2⟩ := ebad (by unfold dBad; rw [bs_len]; simp [h1])
    rw [e1, e2]
    have hd1 : decide ((3 : Int) < (s.size : Int)) = true := decide_eq_true (by omega)
    clear ebad e1 e2 h0
    go_enter Tryd.func52, Tryd.ntmps52
    go_wp2_with fail
    have hb0 := (Below.refl w.heap.size w).alloc (Nat.le_refl _) (.cells #[.int .i64 0, .int .i64 0] 47)
    have hN := Blk.new w #[.int .i64 0, .int .i64 0] 47
    have hK0 := hK.next hb0
    generalize w.alloc (.cells #[.int .i64 0, .int .i64 0] 47) = w0 at *
    refine (told_any k hk w0 hK0).mono ?_
    rintro e w1 ⟨rfl, nd, rfl⟩
    rw [ht]
    have t1 := hK0.lo hk
    have z0' := hN.frozen 0
    have z1' := hN.frozen 1
    have r0 := hN.cell (i := 0) rfl
    have r1 := hN.cell (i := 1) rfl
    have hK3 : (k : Int) < 4 := by omega
    have HN := Lib.hid (And.intro hN hb0)
    clear hN hb0 hK0 hK
    go_wp2
    have hG := ((blkN HN.out.1 nd).put 0 (.int .i64 0)).put 1 (.int .i64 0)
    have c0 := hG.cell (i := 0) rfl
    have c1 := hG.cell (i := 1) rfl
    have hfin := ((belN HN.out.2 nd).setCell (p := ⟨w.heap.size, 0, none⟩) (Nat.le_refl _) (.int .i64 0)).setCell (p := ⟨w.heap.size, 1, none⟩) (Nat.le_refl _) (.int .i64 0)
    exact bodyPost_ret (v := .tuple #[fld 0 0, .int .i64 11]) (by simp [results, Tryd.results52, go_sem, c0, c1]) rfl ⟨rfl, hfin⟩
  have hd1 : decide ((3 : Int) < (s.size : Int)) = false := decide_eq_false (by omega)
  have hg0 := head_get hp
  by_cases h2 : s[0].toNat = 48
  · have h48 : s[0] = 48 := UInt8.toNat_inj.1 h2
    obtain ⟨e1, e2⟩ := ebad (by unfold dBad; simp [hg0, h48])
    rw [e1, e2]
    have hd2 : ((s[0].toNat : Int) == 48) = true := by rw [h2]; rfl
    clear ebad e1 e2 h0 hg0 h48
    go_enter Tryd.func52, Tryd.ntmps52
    go_wp2_with fail
    have hb0 := (Below.refl w.heap.size w).alloc (Nat.le_refl _) (.cells #[.int .i64 0, .int .i64 0] 47)
    have hN := Blk.new w #[.int .i64 0, .int .i64 0] 47
    have hK0 := hK.next hb0
    generalize w.alloc (.cells #[.int .i64 0, .int .i64 0] 47) = w0 at *
    refine (told_any k hk w0 hK0).mono ?_
    rintro e w1 ⟨rfl, nd, rfl⟩
    rw [ht]
    have t1 := hK0.lo hk
    have z0' := hN.frozen 0
    have z1' := hN.frozen 1
    have r0 := hN.cell (i := 0) rfl
    have r1 := hN.cell (i := 1) rfl
    have hK3 : (k : Int) < 4 := by omega
    have HN := Lib.hid (And.intro hN hb0)
    clear hN hb0 hK0 hK
    go_wp2
    have hG := ((blkN HN.out.1 nd).put 0 (.int .i64 0)).put 1 (.int .i64 0)
    have c0 := hG.cell (i := 0) rfl
    have c1 := hG.cell (i := 1) rfl
    have hfin := ((belN HN.out.2 nd).setCell (p := ⟨w.heap.size, 0, none⟩) (Nat.le_refl _) (.int .i64 0)).setCell (p := ⟨w.heap.size, 1, none⟩) (Nat.le_refl _) (.int .i64 0)
    exact bodyPost_ret (v := .tuple #[fld 0 0, .int .i64 11]) (by simp [results, Tryd.results52, go_sem, c0, c1]) rfl ⟨rfl, hfin⟩
  have h48 : s[0] ≠ 48 := fun e => h2 (by rw [e]; rfl)
  have hdb := dBad_no h0 (by omega) (by rw [hg0]; simpa using h48)
  have hd2 : ((s[0].toNat : Int) == 48) = false := by rw [beq_eq_false_iff_ne]; omega
  have Hd := Lib.hid (And.intro hdb ebad)
  clear hdb ebad hg0 h48 h0
  go_enter Tryd.func52, Tryd.ntmps52
  go_wp2_with fail
  have hb0 := (Below.refl w.heap.size w).alloc (Nat.le_refl _) (.cells #[.int .i64 0, .int .i64 0] 47)
  have hN := Blk.new w #[.int .i64 0, .int .i64 0] 47
  have hK0 := hK.next hb0
  generalize w.alloc (.cells #[.int .i64 0, .int .i64 0] 47) = w0 at *
  refine (told_any k hk w0 hK0).mono ?_
  rintro e w1 ⟨rfl, nd, rfl⟩
  rw [ht]
  have t1 := hK0.lo hk
  have z0' := hN.frozen 0
  have z1' := hN.frozen 1
  have r0 := hN.cell (i := 0) rfl
  have r1 := hN.cell (i := 1) rfl
  have hK3 : (k : Int) < 4 := by omega
  have HN := Lib.hid (And.intro hN hb0)
  clear hN hb0 hK0 hK
  go_wp2
  go_loop [6, 35] (fun n i => ∃ j : Nat, j ≤ s.size ∧ i = .int .i64 j ∧ n = .int .i64 (num ((bs s).take j)) ∧ Hid (((bs s).take j).all isD = true)) (fun _ i => s.size - (intOf i).toNat)
  case atStart => exact ⟨0, by omega, rfl, rfl, Lib.hid (by simp)⟩
  case round =>
    obtain ⟨j, hj, rfl, rfl, hall⟩ := hrel
    have hnum := num_lt ((bs s).take j) (by simp; omega)
    by_cases hlt : j < s.size
    · have hgj := bs_get s j hlt
      have hts : (bs s).take (j + 1) = (bs s).take j ++ [s[j]] := by rw [List.take_add_one, hgj]; rfl
      have hns := num_snoc ((bs s).take j) s[j]
      rw [← hts] at hns
      have hc : s[j].toNat < 256 := s[j].toNat_lt
      have Hts := Lib.hid (And.intro hts (And.intro hns (And.intro hgj hnum)))
      clear hts hns hgj
      by_cases hdg : isD s[j] = true
      · have hd := hdg
        unfold isD at hd
        simp only [Bool.and_eq_true, decide_eq_true_eq] at hd
        obtain ⟨l1, l2⟩ := hd
        have m1 : decide ((s[j].toNat : Int) < 48) = false := decide_eq_false (by omega)
        have m2 : decide ((57 : Int) < (s[j].toNat : Int)) = false := decide_eq_false (by omega)
        have Hdg := Lib.hid hdg
        clear hdg
        obtain ⟨nn, hnn⟩ : ∃ nn, num ((bs s).take j) = nn := ⟨_, rfl⟩
        rw [hnn] at hnum ⊢
        have Hnn := Lib.hid hnn
        clear hnn
        obtain ⟨cc, hcc⟩ : ∃ cc : Nat, s[j].toNat = cc + 48 := ⟨s[j].toNat - 48, by omega⟩
        go_wp2
        go_round
        case rel =>
          refine ⟨j + 1, by omega, by go_num, congrArg (Value.int .i64) ?_, Lib.hid ?_⟩
          · rw [Hts.out.2.1, Hnn.out, hcc]
            omega
          · rw [Hts.out.1, List.all_append, hall.out]
            simp [Hdg.out]
        case measure => simp [intOf]; omega
      · have hd : isD s[j] = false := by simpa using hdg
        have hany : (bs s).any (fun c => !isD c) = true := by
          rw [List.any_eq_true]
          exact ⟨s[j], List.mem_of_getElem? Hts.out.2.2.1, by simp [hd]⟩
        obtain ⟨e1, e2⟩ := Hd.out.2 (by rw [Hd.out.1]; exact hany)
        have He := Lib.hid (And.intro e1 e2)
        clear e1 e2 hany
        unfold isD at hd
        by_cases l1 : s[j].toNat < 48
        · have m1 : decide ((s[j].toNat : Int) < 48) = true := decide_eq_true (by omega)
          clear hd
          go_wp2
          rw [He.out.1, He.out.2]
          have hG := ((blkN HN.out.1 nd).put 0 (.int .i64 0)).put 1 (.int .i64 0)
          have c0 := hG.cell (i := 0) rfl
          have c1 := hG.cell (i := 1) rfl
          have hfin := ((belN HN.out.2 nd).setCell (p := ⟨w.heap.size, 0, none⟩) (Nat.le_refl _) (.int .i64 0)).setCell (p := ⟨w.heap.size, 1, none⟩) (Nat.le_refl _) (.int .i64 0)
          exact bodyPost_ret (v := .tuple #[fld 0 0, .int .i64 11]) (by simp [results, Tryd.results52, go_sem, c0, c1]) rfl ⟨rfl, hfin⟩
        · have m1 : decide ((s[j].toNat : Int) < 48) = false := decide_eq_false (by omega)
          have l2 : 57 < s[j].toNat := by
            by_cases h : s[j].toNat ≤ 57
            · simp [h] at hd
              omega
            · omega
          have m2 : decide ((57 : Int) < (s[j].toNat : Int)) = true := decide_eq_true (by omega)
          clear hd
          go_wp2
          rw [He.out.1, He.out.2]
          have hG := ((blkN HN.out.1 nd).put 0 (.int .i64 0)).put 1 (.int .i64 0)
          have c0 := hG.cell (i := 0) rfl
          have c1 := hG.cell (i := 1) rfl
          have hfin := ((belN HN.out.2 nd).setCell (p := ⟨w.heap.size, 0, none⟩) (Nat.le_refl _) (.int .i64 0)).setCell (p := ⟨w.heap.size, 1, none⟩) (Nat.le_refl _) (.int .i64 0)
          exact bodyPost_ret (v := .tuple #[fld 0 0, .int .i64 11]) (by simp [results, Tryd.results52, go_sem, c0, c1]) rfl ⟨rfl, hfin⟩
    · obtain rfl : j = s.size := by omega
      have hfull : (bs s).take s.size = bs s := List.take_of_length_le (by rw [bs_len]; omega)
      rw [hfull] at hall hnum ⊢
      have e : szE k (bs s) = 0 ∧ szV k (bs s) = ((k : Int), (num (bs s) : Int)) := by
        have h : dBad (bs s) = false := by
          rw [Hd.out.1, List.any_eq_false]
          intro c hcm
          have := List.all_eq_true.1 hall.out c hcm
          simp [this]
        have e0 : szE k (bs s) = 0 := by simp [szE, ht, h]
        exact ⟨e0, by simp [szV, e0, ht]⟩
      have He := Lib.hid e
      clear e
      generalize num (bs s) = nn at *
      go_wp2
      rw [He.out.1, He.out.2]
      have hG := ((blkN HN.out.1 nd).put 0 (.int .i64 (k : Int))).put 1 (.int .i64 (nn : Int))
      have c0 := hG.cell (i := 0) rfl
      have c1 := hG.cell (i := 1) rfl
      have hfin := ((belN HN.out.2 nd).setCell (p := ⟨w.heap.size, 0, none⟩) (Nat.le_refl _) (.int .i64 (k : Int))).setCell (p := ⟨w.heap.size, 1, none⟩) (Nat.le_refl _) (.int .i64 (nn : Int))
      exact bodyPost_ret (v := .tuple #[fld (k : Int) (nn : Int), .int .i64 0]) (by simp [results, Tryd.results52, go_sem, c0, c1]) rfl ⟨rfl, hfin⟩
theorem sized_any (k : Nat) (hk : k < 4) (s : ByteArray) (w : World) (hK : KD w) (hs : s.size ≤ 100000) :
    Calls Tryd.prog 52 #[.int .i64 k, .string s] w (Ret (.tuple #[fld (szV k (bs s)).1 (szV k (bs s)).2, .int .i64 (szE k (bs s))]) w) := by
  cases ht : tld k
  · exact sized_un k hk s w hK ht
  · exact sized_told k hk s w hK ht hs
end Go.Proofs.YtenbbnmhgpclkaaDoor
