/- The document's word: its contract. -/
import Derived.Test.YtenbbnmhgpclkaaDoorPrt
import Derived.Deep.CutBlock
import Derived.Deep.DeepCutAuto
namespace Go.Proofs.YtenbbnmhgpclkaaDoor
open Go.RowKit

/-- Which of the first k kinds has this word, or -1. -/
def kindAt (nm : List UInt8) (k : Nat) : Int := if kindOf nm < k then (kindOf nm : Int) else -1
theorem kindAt_zero (nm : List UInt8) : kindAt nm 0 = -1 := by simp [kindAt]
theorem kindAt_yes {nm : List UInt8} {k : Nat} (hk : k < 4) (h : nm = kName k) : kindAt nm (k + 1) = k := by
  have := (kindOf_lt hk).2 h
  simp [kindAt, this]
theorem kindAt_no {nm : List UInt8} {k : Nat} (hk : k < 4) (h : nm ≠ kName k) : kindAt nm (k + 1) = kindAt nm k := by
  have h2 : kindOf nm ≠ k := fun e => h ((kindOf_lt hk).1 e)
  unfold kindAt
  by_cases h3 : kindOf nm < k
  · rw [if_pos h3, if_pos (by omega)]
  · rw [if_neg h3, if_neg (by omega)]

set_option maxRecDepth 100000 in
set_option maxHeartbeats 2000000 in
theorem word_any (s : ByteArray) (w : World) (hs : s.size ≤ 100000) :
    Calls Tryd.prog 35 #[.string s] w (Ret (.tuple #[fld (partV (bs s)).1 (partV (bs s)).2, .int .i64 (partE (bs s))]) w) := by
  have hle : lett (bs s) ≤ s.size := by rw [← bs_len]; exact lett_le _
  have hB := (Below.refl w.heap.size w).alloc (Nat.le_refl _) (.cells #[.int .i64 0, .int .i64 0] 56)
  have hN := Blk.new w #[.int .i64 0, .int .i64 0] 56
  have HB := Lib.hid (And.intro hN hB)
  clear hB hN
  go_enter Tryd.func35, Tryd.ntmps35
  go_upto_block 0 with fail
  go_cut [4] (fun s4 wx => s4 = .int .i64 (lett (bs s)) ∧ wx = w.alloc (.cells #[.int .i64 0, .int .i64 0] 56))
  case first =>
    go_wp2_with fail
    go_loopg [4] s.size (fun g i wr => ∃ k : Nat, k ≤ lett (bs s) ∧ g = s.size - k ∧ i = .int .i64 k ∧ wr = w.alloc (.cells #[.int .i64 0, .int .i64 0] 56))
    case atStart => exact ⟨0, by omega, by omega, rfl, rfl⟩
    case round =>
      obtain ⟨k, hk, hgk, rfl, rfl⟩ := hrel
      generalize w.alloc (.cells #[.int .i64 0, .int .i64 0] 56) = W at *
      by_cases hlt : k < lett (bs s)
      · have hks : k < s.size := by omega
        have hl := tw_go (bs s) k s[k] hlt (bs_get s k hks)
        unfold isL at hl
        simp only [Bool.and_eq_true, decide_eq_true_eq] at hl
        obtain ⟨l1, l2⟩ := hl
        have m1 : decide ((97 : Int) ≤ (s[k].toNat : Int)) = true := decide_eq_true (by omega)
        have m2 : decide ((s[k].toNat : Int) ≤ (122 : Int)) = true := decide_eq_true (by omega)
        generalize lett (bs s) = q at *
        go_wp2
        go_roundg (s.size - (k + 1))
        case rel => exact ⟨k + 1, by omega, by omega, by go_num, rfl⟩
        case measure => omega
      · obtain rfl : k = lett (bs s) := by omega
        by_cases hks : lett (bs s) < s.size
        · have hl := tw_stop (bs s) (s[lett (bs s)]) (bs_get s _ hks)
          unfold isL at hl
          generalize hqE : lett (bs s) = q at *
          have Hq := Lib.hid hqE
          clear hqE
          by_cases l1 : 97 ≤ s[q].toNat
          · have m1 : decide ((97 : Int) ≤ (s[q].toNat : Int)) = true := decide_eq_true (by omega)
            have l2 : ¬ s[q].toNat ≤ 122 := by
              intro h
              simp [l1, h] at hl
            have m2 : decide ((s[q].toNat : Int) ≤ (122 : Int)) = false := decide_eq_false (by omega)
            clear hl
            go_wp2
            go_meet
            exact ⟨rfl, rfl⟩
          · have m1 : decide ((97 : Int) ≤ (s[q].toNat : Int)) = false := decide_eq_false (by omega)
            clear hl
            go_wp2
            go_meet
            exact ⟨rfl, rfl⟩
        · have hd : decide ((lett (bs s) : Int) < s.size) = false := decide_eq_false (by omega)
          generalize hqE : lett (bs s) = q at *
          have Hq := Lib.hid hqE
          clear hqE
          go_wp2
          go_meet
          exact ⟨rfl, rfl⟩
  case rest =>
    obtain ⟨rfl, rfl⟩ := hcut
    generalize hqE : lett (bs s) = q at *
    generalize hW0 : w.alloc (.cells #[.int .i64 0, .int .i64 0] 56) = W0 at *
    have Hq := Lib.hid (And.intro hqE hW0)
    clear hqE hW0
    go_wp2
    generalize hW1 : W0.alloc (Obj.cells #[Value.string { data := #[102, 108, 97, 103] }, Value.string { data := #[99, 111, 117, 110, 116] }, Value.string { data := #[119, 104, 111, 108, 101] }, Value.string { data := #[112, 111, 105, 110, 116] }] 9) = W1 at *
    have hM : Blk W1 W0.heap.size [.string (str (kName 0)), .string (str (kName 1)), .string (str (kName 2)), .string (str (kName 3))] := by
      rw [← hW1]
      exact Blk.new W0 _ 9
    have hname : ∀ k, k < 4 → W1.cell? ⟨W0.heap.size, k, none⟩ = some (.string (str (kName k))) := by
      intro k hk
      match k, hk with
      | 0, _ => exact hM.cell (i := 0) rfl
      | 1, _ => exact hM.cell (i := 1) rfl
      | 2, _ => exact hM.cell (i := 2) rfl
      | 3, _ => exact hM.cell (i := 3) rfl
    have hNB : Blk W1 w.heap.size [.int .i64 0, .int .i64 0] ∧ Below w.heap.size w W1 := by
      rw [← hW1]
      exact ⟨HB.out.1.alloc _, HB.out.2.alloc HB.out.2.size _⟩
    have HN := Lib.hid (And.intro hNB hname)
    clear hNB hM hname hW1 HB
    generalize W0.heap.size = g0 at *
    go_loopg [5, 7] 4 (fun g s5 s7 wr => ∃ k : Nat, k ≤ 4 ∧ g = 4 - k ∧ s7 = .int .i64 k ∧ s5 = .int .i64 (kindAt ((bs s).take q) k) ∧ ∃ m, wr = W1.drewN m)
    case atStart => exact ⟨0, by omega, by omega, rfl, rfl, 0, rfl⟩
    case round =>
      obtain ⟨k, hk, hgk, rfl, rfl, m, rfl⟩ := hrel
      by_cases hlt : k < 4
      · have t0 : (W1.drewN m).cell? ⟨g0, k, none⟩ = some (.string (str (kName k))) := HN.out.2 k hlt
        have hk4 : (k : Int) < 4 := by omega
        have hqs : (q : Int) ≤ s.size := by omega
        generalize hWE : W1.drewN m = W at *
        have HW := Lib.hid hWE
        clear hWE
        by_cases hnm : (bs s).take q = kName k
        · have heq : ((str (kName k)).toList == (s.extract 0 q).toList) = true := by rw [str_toList, ext_list, hnm]; simp
          have Hk := Lib.hid (kindAt_yes hlt hnm)
          clear hnm
          generalize kindAt ((bs s).take q) k = z at *
          go_wp2_with fail
          go_quiet (fail)
          go_wp2
          go_roundg (4 - (k + 1))
          case rel => exact ⟨k + 1, by omega, by omega, by go_num, by rw [Hk.out], m + nq, by rw [← HW.out, World.drewN_drewN]⟩
          case measure => omega
        · have heq : ((str (kName k)).toList == (s.extract 0 q).toList) = false := by
            rw [str_toList, ext_list, beq_eq_false_iff_ne]
            exact fun e => hnm e.symm
          have Hk := Lib.hid (kindAt_no hlt hnm)
          clear hnm
          generalize kindAt ((bs s).take q) k = z at *
          go_wp2_with fail
          go_quiet (fail)
          go_wp2
          go_roundg (4 - (k + 1))
          case rel => exact ⟨k + 1, by omega, by omega, by go_num, by rw [Hk.out], m + nq, by rw [← HW.out, World.drewN_drewN]⟩
          case measure => omega
      · obtain rfl : k = 4 := by omega
        have hN3 := blkN HN.out.1.1 m
        have hB3 := belN HN.out.1.2 m
        generalize W1.drewN m = W at *
        clear HN
        have HN := Lib.hid (And.intro hN3 hB3)
        have z0' := hN3.frozen 0
        have z1' := hN3.frozen 1
        have r0 := hN3.cell (i := 0) rfl
        have r1 := hN3.cell (i := 1) rfl
        clear hN3 hB3
        by_cases hK4 : partK (bs s) = 4
        · have hE : partE (bs s) = 13 ∧ partV (bs s) = (0, 0) ∧ kindAt ((bs s).take q) 4 = -1 := by
            unfold partE partV kindAt
            have h2 : kindOf ((bs s).take q) = 4 := by rw [← Hq.out.1]; exact hK4
            rw [if_pos hK4, if_pos hK4, h2]
            exact ⟨rfl, rfl, rfl⟩
          rw [hE.2.2]
          have HE := Lib.hid hE
          clear hE hK4
          go_wp2
          rw [HE.out.1, HE.out.2.1]
          have hG := (HN.out.1.put 0 (.int .i64 0)).put 1 (.int .i64 0)
          have c0 := hG.cell (i := 0) rfl
          have c1 := hG.cell (i := 1) rfl
          have hfin := (HN.out.2.setCell (p := ⟨w.heap.size, 0, none⟩) (Nat.le_refl _) (.int .i64 0)).setCell (p := ⟨w.heap.size, 1, none⟩) (Nat.le_refl _) (.int .i64 0)
          exact bodyPost_ret (v := .tuple #[fld 0 0, .int .i64 13]) (by simp [results, Tryd.results35, go_sem, c0, c1]) rfl ⟨rfl, hfin⟩
        · obtain ⟨kk, hkk, hkE⟩ : ∃ kk : Nat, kk < 4 ∧ partK (bs s) = kk := ⟨partK (bs s), by have := kindOf_le ((bs s).take (lett (bs s))); unfold partK at hK4 ⊢; omega, rfl⟩
          have hE : partE (bs s) = szE kk ((bs s).drop q) ∧ partV (bs s) = szV kk ((bs s).drop q) ∧ kindAt ((bs s).take q) 4 = kk := by
            unfold partE partV kindAt
            have h2 : kindOf ((bs s).take q) = kk := by rw [← Hq.out.1]; exact hkE
            rw [if_neg hK4, if_neg hK4, h2, hkE, if_pos hkk, Hq.out.1]
            exact ⟨rfl, rfl, rfl⟩
          rw [hE.2.2]
          have hqs : (q : Int) ≤ s.size := by omega
          have hds := ext_size s q s.size
          have hdl := ext_rest s q
          rw [← hdl] at hE
          have HE := Lib.hid (And.intro hE.1 hE.2.1)
          clear hE hK4 hkE hgk hdl Hq
          go_upto_region 14 with fail
          generalize s.extract q s.size = d at *
          have hdz : d.size ≤ 100000 := by omega
          clear hds hqs hle hs
          by_cases ht : tld kk = true
          · have hk12 : kk = 1 ∨ kk = 2 := by
              match kk, hkk with
              | 0, _ => simp [tld] at ht
              | 1, _ => simp
              | 2, _ => simp
              | 3, _ => simp [tld] at ht
            have p0 : ((kk : Int) == 0) = false := by rw [beq_eq_false_iff_ne]; omega
            have p3 : ((kk : Int) == 3) = false := by rw [beq_eq_false_iff_ne]; omega
            have ebad : dBad (bs d) = true → szE kk (bs d) = 11 ∧ szV kk (bs d) = (0, 0) := fun h => by simp [szE, szV, ht, h]
            clear hk12
            by_cases h0 : bs d = []
            · obtain ⟨e1, e2⟩ := ebad (by simp [dBad, h0])
              have HE2 := Lib.hid (And.intro (HE.out.1.trans e1) (HE.out.2.trans e2))
              obtain rfl := bs_nil h0
              clear ebad e1 e2 h0 HE
              go_wp2
              rw [HE2.out.1, HE2.out.2]
              have hG := (HN.out.1.put 0 (.int .i64 0)).put 1 (.int .i64 0)
              have c0 := hG.cell (i := 0) rfl
              have c1 := hG.cell (i := 1) rfl
              have hfin := (HN.out.2.setCell (p := ⟨w.heap.size, 0, none⟩) (Nat.le_refl _) (.int .i64 0)).setCell (p := ⟨w.heap.size, 1, none⟩) (Nat.le_refl _) (.int .i64 0)
              exact bodyPost_ret (v := .tuple #[fld 0 0, .int .i64 11]) (by simp [results, Tryd.results35, go_sem, c0, c1]) rfl ⟨rfl, hfin⟩
            have hp := size_pos h0
            have hne := toList_ne h0
            have hne2 : (d.toList == []) = false := by simpa using hne
            have hne4 : d.toList.isEmpty = false := by simpa using hne
            by_cases h1 : 3 < d.size
            · obtain ⟨e1, e2⟩ := ebad (by unfold dBad; rw [bs_len]; simp [h1])
              have HE2 := Lib.hid (And.intro (HE.out.1.trans e1) (HE.out.2.trans e2))
              have hd1 : decide ((3 : Int) < (d.size : Int)) = true := decide_eq_true (by omega)
              clear ebad e1 e2 h0 HE
              go_wp2
              rw [HE2.out.1, HE2.out.2]
              have hG := (HN.out.1.put 0 (.int .i64 0)).put 1 (.int .i64 0)
              have c0 := hG.cell (i := 0) rfl
              have c1 := hG.cell (i := 1) rfl
              have hfin := (HN.out.2.setCell (p := ⟨w.heap.size, 0, none⟩) (Nat.le_refl _) (.int .i64 0)).setCell (p := ⟨w.heap.size, 1, none⟩) (Nat.le_refl _) (.int .i64 0)
              exact bodyPost_ret (v := .tuple #[fld 0 0, .int .i64 11]) (by simp [results, Tryd.results35, go_sem, c0, c1]) rfl ⟨rfl, hfin⟩
            have hd1 : decide ((3 : Int) < (d.size : Int)) = false := decide_eq_false (by omega)
            have hg0 := head_get hp
            by_cases h2 : d[0].toNat = 48
            · have h48 : d[0] = 48 := UInt8.toNat_inj.1 h2
              obtain ⟨e1, e2⟩ := ebad (by unfold dBad; simp [hg0, h48])
              have HE2 := Lib.hid (And.intro (HE.out.1.trans e1) (HE.out.2.trans e2))
              have hd2 : ((d[0].toNat : Int) == 48) = true := by rw [h2]; rfl
              clear ebad e1 e2 h0 HE hg0 h48
              go_wp2
              rw [HE2.out.1, HE2.out.2]
              have hG := (HN.out.1.put 0 (.int .i64 0)).put 1 (.int .i64 0)
              have c0 := hG.cell (i := 0) rfl
              have c1 := hG.cell (i := 1) rfl
              have hfin := (HN.out.2.setCell (p := ⟨w.heap.size, 0, none⟩) (Nat.le_refl _) (.int .i64 0)).setCell (p := ⟨w.heap.size, 1, none⟩) (Nat.le_refl _) (.int .i64 0)
              exact bodyPost_ret (v := .tuple #[fld 0 0, .int .i64 11]) (by simp [results, Tryd.results35, go_sem, c0, c1]) rfl ⟨rfl, hfin⟩
            have h48 : d[0] ≠ 48 := fun e => h2 (by rw [e]; rfl)
            have hdb := dBad_no h0 (by omega) (by rw [hg0]; simpa using h48)
            have hd2 : ((d[0].toNat : Int) == 48) = false := by rw [beq_eq_false_iff_ne]; omega
            have Hd := Lib.hid (And.intro hdb (And.intro ebad ht))
            clear hdb ebad hg0 h48 h0 ht
            go_wp2
            go_loopg [11, 12] d.size (fun g n i wr => ∃ j : Nat, j ≤ d.size ∧ g = d.size - j ∧ i = .int .i64 j ∧ n = .int .i64 (num ((bs d).take j)) ∧ Hid (((bs d).take j).all isD = true) ∧ wr = W)
            case atStart => exact ⟨0, by omega, by omega, rfl, rfl, Lib.hid (by simp), rfl⟩
            case round =>
              obtain ⟨j, hj, hgj0, rfl, rfl, hall, rfl⟩ := hrel
              have hnum := num_lt ((bs d).take j) (by simp; omega)
              by_cases hlt2 : j < d.size
              · have hgj := bs_get d j hlt2
                have hts : (bs d).take (j + 1) = (bs d).take j ++ [d[j]] := by rw [List.take_add_one, hgj]; rfl
                have hns := num_snoc ((bs d).take j) d[j]
                rw [← hts] at hns
                have hc : d[j].toNat < 256 := d[j].toNat_lt
                have Hts := Lib.hid (And.intro hts (And.intro hns (And.intro hgj hnum)))
                clear hts hns hgj
                by_cases hdg : isD d[j] = true
                · have hd := hdg
                  unfold isD at hd
                  simp only [Bool.and_eq_true, decide_eq_true_eq] at hd
                  obtain ⟨l1, l2⟩ := hd
                  have m1 : decide ((d[j].toNat : Int) < 48) = false := decide_eq_false (by omega)
                  have m2 : decide ((57 : Int) < (d[j].toNat : Int)) = false := decide_eq_false (by omega)
                  have Hdg := Lib.hid hdg
                  clear hdg
                  obtain ⟨nn, hnn⟩ : ∃ nn, num ((bs d).take j) = nn := ⟨_, rfl⟩
                  rw [hnn] at hnum ⊢
                  have Hnn := Lib.hid hnn
                  clear hnn
                  obtain ⟨cc, hcc⟩ : ∃ cc : Nat, d[j].toNat = cc + 48 := ⟨d[j].toNat - 48, by omega⟩
                  go_wp2
                  go_roundg (d.size - (j + 1))
                  case rel =>
                    refine ⟨j + 1, by omega, by omega, by go_num, congrArg (Value.int .i64) ?_, Lib.hid ?_, rfl⟩
                    · rw [Hts.out.2.1, Hnn.out, hcc]
                      omega
                    · rw [Hts.out.1, List.all_append, hall.out]
                      simp [Hdg.out]
                  case measure => omega
                · have hd : isD d[j] = false := by simpa using hdg
                  have hany : (bs d).any (fun c => !isD c) = true := by
                    rw [List.any_eq_true]
                    exact ⟨d[j], List.mem_of_getElem? Hts.out.2.2.1, by simp [hd]⟩
                  obtain ⟨e1, e2⟩ := Hd.out.2.1 (by rw [Hd.out.1]; exact hany)
                  have HE2 := Lib.hid (And.intro (HE.out.1.trans e1) (HE.out.2.trans e2))
                  clear e1 e2 hany HE
                  unfold isD at hd
                  by_cases l1 : d[j].toNat < 48
                  · have m1 : decide ((d[j].toNat : Int) < 48) = true := decide_eq_true (by omega)
                    clear hd
                    go_wp2
                    rw [HE2.out.1, HE2.out.2]
                    have hG := (HN.out.1.put 0 (.int .i64 0)).put 1 (.int .i64 0)
                    have c0 := hG.cell (i := 0) rfl
                    have c1 := hG.cell (i := 1) rfl
                    have hfin := (HN.out.2.setCell (p := ⟨w.heap.size, 0, none⟩) (Nat.le_refl _) (.int .i64 0)).setCell (p := ⟨w.heap.size, 1, none⟩) (Nat.le_refl _) (.int .i64 0)
                    exact bodyPost_ret (v := .tuple #[fld 0 0, .int .i64 11]) (by simp [results, Tryd.results35, go_sem, c0, c1]) rfl ⟨rfl, hfin⟩
                  · have m1 : decide ((d[j].toNat : Int) < 48) = false := decide_eq_false (by omega)
                    have l2 : 57 < d[j].toNat := by
                      by_cases h : d[j].toNat ≤ 57
                      · simp [h] at hd
                        omega
                      · omega
                    have m2 : decide ((57 : Int) < (d[j].toNat : Int)) = true := decide_eq_true (by omega)
                    clear hd
                    go_wp2
                    rw [HE2.out.1, HE2.out.2]
                    have hG := (HN.out.1.put 0 (.int .i64 0)).put 1 (.int .i64 0)
                    have c0 := hG.cell (i := 0) rfl
                    have c1 := hG.cell (i := 1) rfl
                    have hfin := (HN.out.2.setCell (p := ⟨w.heap.size, 0, none⟩) (Nat.le_refl _) (.int .i64 0)).setCell (p := ⟨w.heap.size, 1, none⟩) (Nat.le_refl _) (.int .i64 0)
                    exact bodyPost_ret (v := .tuple #[fld 0 0, .int .i64 11]) (by simp [results, Tryd.results35, go_sem, c0, c1]) rfl ⟨rfl, hfin⟩
              · obtain rfl : j = d.size := by omega
                have hfull : (bs d).take d.size = bs d := List.take_of_length_le (by rw [bs_len]; omega)
                rw [hfull] at hall hnum ⊢
                have e : szE kk (bs d) = 0 ∧ szV kk (bs d) = ((kk : Int), (num (bs d) : Int)) := by
                  have h : dBad (bs d) = false := by
                    rw [Hd.out.1, List.any_eq_false]
                    intro c hcm
                    have := List.all_eq_true.1 hall.out c hcm
                    simp [this]
                  have e0 : szE kk (bs d) = 0 := by simp [szE, Hd.out.2.2, h]
                  exact ⟨e0, by simp [szV, e0, Hd.out.2.2]⟩
                have HE2 := Lib.hid (And.intro (HE.out.1.trans e.1) (HE.out.2.trans e.2))
                clear e HE
                generalize num (bs d) = nn at *
                go_wp2
                rw [HE2.out.1, HE2.out.2]
                have hG := (HN.out.1.put 0 (.int .i64 (kk : Int))).put 1 (.int .i64 (nn : Int))
                have c0 := hG.cell (i := 0) rfl
                have c1 := hG.cell (i := 1) rfl
                have hfin := (HN.out.2.setCell (p := ⟨w.heap.size, 0, none⟩) (Nat.le_refl _) (.int .i64 (kk : Int))).setCell (p := ⟨w.heap.size, 1, none⟩) (Nat.le_refl _) (.int .i64 (nn : Int))
                exact bodyPost_ret (v := .tuple #[fld (kk : Int) (nn : Int), .int .i64 0]) (by simp [results, Tryd.results35, go_sem, c0, c1]) rfl ⟨rfl, hfin⟩
          · have ht' : tld kk = false := by simpa using ht
            have hk03 : kk = 0 ∨ kk = 3 := by
              match kk, hkk with
              | 0, _ => simp
              | 1, _ => simp [tld] at ht
              | 2, _ => simp [tld] at ht
              | 3, _ => simp
            by_cases h0 : bs d = []
            · have e : szE kk (bs d) = 0 ∧ szV kk (bs d) = ((kk : Int), kLo kk) := by simp [szE, szV, ht', h0]
              have HE2 := Lib.hid (And.intro (HE.out.1.trans e.1) (HE.out.2.trans e.2))
              obtain rfl := bs_nil h0
              clear e h0 HE ht ht'
              rcases hk03 with rfl | rfl
              · go_wp2_with fail
                refine (span_any 0 (by omega) _).mono ?_
                rintro e w3 ⟨rfl, rfl⟩
                go_wp2
                rw [HE2.out.1, HE2.out.2]
                have hG := (HN.out.1.put 0 (.int .i64 0)).put 1 (.int .i64 (kLo 0))
                have c0 := hG.cell (i := 0) rfl
                have c1 := hG.cell (i := 1) rfl
                have hfin := (HN.out.2.setCell (p := ⟨w.heap.size, 0, none⟩) (Nat.le_refl _) (.int .i64 0)).setCell (p := ⟨w.heap.size, 1, none⟩) (Nat.le_refl _) (.int .i64 (kLo 0))
                exact bodyPost_ret (v := .tuple #[fld 0 (kLo 0), .int .i64 0]) (by simp [results, Tryd.results35, go_sem, c0, c1]) rfl ⟨rfl, hfin⟩
              · go_wp2_with fail
                refine (span_any 3 (by omega) _).mono ?_
                rintro e w3 ⟨rfl, rfl⟩
                go_wp2
                rw [HE2.out.1, HE2.out.2]
                have hG := (HN.out.1.put 0 (.int .i64 3)).put 1 (.int .i64 (kLo 3))
                have c0 := hG.cell (i := 0) rfl
                have c1 := hG.cell (i := 1) rfl
                have hfin := (HN.out.2.setCell (p := ⟨w.heap.size, 0, none⟩) (Nat.le_refl _) (.int .i64 3)).setCell (p := ⟨w.heap.size, 1, none⟩) (Nat.le_refl _) (.int .i64 (kLo 3))
                exact bodyPost_ret (v := .tuple #[fld 3 (kLo 3), .int .i64 0]) (by simp [results, Tryd.results35, go_sem, c0, c1]) rfl ⟨rfl, hfin⟩
            · have e : szE kk (bs d) = 11 ∧ szV kk (bs d) = (0, 0) := by simp [szE, szV, ht', h0]
              have HE2 := Lib.hid (And.intro (HE.out.1.trans e.1) (HE.out.2.trans e.2))
              have hne := toList_ne h0
              have hne2 : (d.toList == []) = false := by simpa using hne
              have hne3 : (d.toList != []) = true := by simpa using hne
              have hne4 : d.toList.isEmpty = false := by simpa using hne
              clear e h0 HE ht ht'
              rcases hk03 with rfl | rfl
              · go_wp2
                rw [HE2.out.1, HE2.out.2]
                have hG := (HN.out.1.put 0 (.int .i64 0)).put 1 (.int .i64 0)
                have c0 := hG.cell (i := 0) rfl
                have c1 := hG.cell (i := 1) rfl
                have hfin := (HN.out.2.setCell (p := ⟨w.heap.size, 0, none⟩) (Nat.le_refl _) (.int .i64 0)).setCell (p := ⟨w.heap.size, 1, none⟩) (Nat.le_refl _) (.int .i64 0)
                exact bodyPost_ret (v := .tuple #[fld 0 0, .int .i64 11]) (by simp [results, Tryd.results35, go_sem, c0, c1]) rfl ⟨rfl, hfin⟩
              · go_wp2
                rw [HE2.out.1, HE2.out.2]
                have hG := (HN.out.1.put 0 (.int .i64 0)).put 1 (.int .i64 0)
                have c0 := hG.cell (i := 0) rfl
                have c1 := hG.cell (i := 1) rfl
                have hfin := (HN.out.2.setCell (p := ⟨w.heap.size, 0, none⟩) (Nat.le_refl _) (.int .i64 0)).setCell (p := ⟨w.heap.size, 1, none⟩) (Nat.le_refl _) (.int .i64 0)
                exact bodyPost_ret (v := .tuple #[fld 0 0, .int .i64 11]) (by simp [results, Tryd.results35, go_sem, c0, c1]) rfl ⟨rfl, hfin⟩
end Go.Proofs.YtenbbnmhgpclkaaDoor
