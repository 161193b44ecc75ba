/- config.Name, and the document's: their contracts. -/
import Derived.Test.YtdnjoflahiffhaaCfgM
import Derived.Test.YtdnjoflahiffhaaChecked
import Derived.BigQuiet
namespace Go.Proofs.Ytdnjoflahiffhaa
open Go.RowKit

theorem dig_any (x : UInt8) (w : World) : Calls Try.prog 41 #[.int .u8 x.toNat] w (fun e w' => e = .returned (.bool (isD x)) ∧ w = w') := by
  by_cases h1 : 48 ≤ x.toNat
  · have m1 : decide ((48 : Int) ≤ (x.toNat : Int)) = true := decide_eq_true (by omega)
    have e : isD x = decide ((x.toNat : Int) ≤ 57) := by
      simp [isD, h1]
      omega
    rw [e]
    go_enter Try.func41, Try.ntmps41
    go_wp2
    go_ret
    exact ⟨rfl, rfl⟩
  · have m1 : decide ((48 : Int) ≤ (x.toNat : Int)) = false := decide_eq_false (by omega)
    have e : isD x = false := by
      simp [isD, h1]
    rw [e]
    go_enter Try.func41, Try.ntmps41
    go_wp2
    go_ret
    exact ⟨rfl, rfl⟩
theorem let_any (x : UInt8) (w : World) : Calls Try.prog 42 #[.int .u8 x.toNat] w (fun e w' => e = .returned (.bool (isL x)) ∧ w = w') := by
  by_cases h1 : 97 ≤ x.toNat
  · have m1 : decide ((97 : Int) ≤ (x.toNat : Int)) = true := decide_eq_true (by omega)
    have e : isL x = decide ((x.toNat : Int) ≤ 122) := by
      simp [isL, h1]
      omega
    rw [e]
    go_enter Try.func42, Try.ntmps42
    go_wp2
    go_ret
    exact ⟨rfl, rfl⟩
  · have m1 : decide ((97 : Int) ≤ (x.toNat : Int)) = false := decide_eq_false (by omega)
    have e : isL x = false := by
      simp [isL, h1]
    rw [e]
    go_enter Try.func42, Try.ntmps42
    go_wp2
    go_ret
    exact ⟨rfl, rfl⟩

theorem empty_eq {s : ByteArray} : (s.toList == ([] : List UInt8)) = decide (s.size = 0) := by
  have := str_eq s ⟨#[]⟩
  rw [show (⟨#[]⟩ : ByteArray).toList = [] by rw [ByteArray.toList_eq]] at this
  rw [this]
  by_cases h : s.size = 0
  · have : s = ⟨#[]⟩ := bs_inj (List.eq_nil_of_length_eq_zero (by rw [bs_len]; exact h))
    rw [decide_eq_true this, decide_eq_true h]
  · have : s ≠ ⟨#[]⟩ := fun e => h (by rw [e]; rfl)
    simp [h, this]
set_option maxHeartbeats 1000000 in
theorem name_any (s : ByteArray) (w : World) (hs : s.size ≤ 100000) : Calls Try.prog 40 #[.string s] w (fun e w' => e = .returned (.bool (nmB (bs s))) ∧ w = w') := by
  by_cases h0 : s.size = 0
  · have he : (s.toList == ([] : List UInt8)) = true := by rw [empty_eq]; exact decide_eq_true h0
    have hn : nmB (bs s) = false := by
      rw [List.eq_nil_of_length_eq_zero (l := bs s) (by rw [bs_len]; exact h0)]; rfl
    rw [hn]
    clear hn
    go_enter Try.func40, Try.ntmps40
    go_wp2
    go_ret
    exact ⟨rfl, rfl⟩
  have he : (s.toList == ([] : List UInt8)) = false := by rw [empty_eq]; exact decide_eq_false h0
  by_cases h1 : 16 < s.size
  · have hd : decide ((16 : Int) < (s.size : Int)) = true := decide_eq_true (by omega)
    rw [nmB_long (by rw [bs_len]; exact h1)]
    go_enter Try.func40, Try.ntmps40
    go_wp2
    go_ret
    exact ⟨rfl, rfl⟩
  have hd : decide ((16 : Int) < (s.size : Int)) = false := decide_eq_false (by omega)
  have hlt : 0 < s.size := by omega
  have hg0 := bs_get s 0 hlt
  by_cases h2 : isD s[0] = true
  · rw [nmB_dig hg0 h2]
    go_enter Try.func40, Try.ntmps40
    go_wp2_with fail
    refine (dig_any _ w).mono ?_
    rintro e w' ⟨rfl, rfl⟩
    rw [h2]
    go_wp2
    go_ret
    exact ⟨rfl, rfl⟩
  have h2' : isD s[0] = false := by simpa using h2
  clear h2
  go_enter Try.func40, Try.ntmps40
  go_wp2_with fail
  refine (dig_any _ w).mono ?_
  rintro e w' ⟨rfl, rfl⟩
  rw [h2']
  go_wp2
  go_loop [18] (fun i => ∃ k : Nat, k ≤ s.size ∧ i = .int .i64 k ∧ ∀ (j : Nat) (d : UInt8), j < k → (bs s)[j]? = some d → (isL d || isD d) = true) (fun i => s.size - (intOf i).toNat)
  case atStart => exact ⟨0, by omega, rfl, fun j d hj => by omega⟩
  case round =>
    obtain ⟨k, hk, rfl, hall⟩ := hrel
    have Ha := Lib.hid hall
    clear hall
    by_cases hks : k < s.size
    · have hgk := bs_get s k hks
      have Hg := Lib.hid (And.intro hgk hg0)
      clear hgk hg0
      by_cases hl : isL s[k] = true
      · go_wp2_with fail
        refine (let_any _ w).mono ?_
        rintro e w' ⟨rfl, rfl⟩
        rw [hl]
        go_wp2
        go_round
        case rel =>
          refine ⟨k + 1, by omega, by go_num, fun j d hj hd => ?_⟩
          by_cases hjk : j < k
          · exact Ha.out j d hjk hd
          · obtain rfl : j = k := by omega
            rw [Hg.out.1] at hd
            cases hd
            simp [hl]
        case measure => simp [intOf]; omega
      · have hl' : isL s[k] = false := by simpa using hl
        clear hl
        by_cases hdg : isD s[k] = true
        · go_wp2_with fail
          refine (let_any _ w).mono ?_
          rintro e w' ⟨rfl, rfl⟩
          rw [hl']
          go_wp2_with fail
          refine (dig_any _ w).mono ?_
          rintro e w' ⟨rfl, rfl⟩
          rw [hdg]
          go_wp2
          go_round
          case rel =>
            refine ⟨k + 1, by omega, by go_num, fun j d hj hd => ?_⟩
            by_cases hjk : j < k
            · exact Ha.out j d hjk hd
            · obtain rfl : j = k := by omega
              rw [Hg.out.1] at hd
              cases hd
              simp [hdg]
          case measure => simp [intOf]; omega
        · have hdg' : isD s[k] = false := by simpa using hdg
          have Hb := Lib.hid (nmB_bad Hg.out.1 hl' hdg')
          clear hdg
          go_wp2_with fail
          refine (let_any _ w).mono ?_
          rintro e w' ⟨rfl, rfl⟩
          rw [hl']
          go_wp2_with fail
          refine (dig_any _ w).mono ?_
          rintro e w' ⟨rfl, rfl⟩
          rw [hdg']
          go_wp2
          go_ret
          exact ⟨by rw [Hb.out]; rfl, rfl⟩
    · obtain rfl : k = s.size := by omega
      have hok : nmB (bs s) = true := by
        refine nmB_ok hg0 (by rw [bs_len]; omega) h2' (fun j d hj => Ha.out j d ?_ hj)
        have := (List.getElem?_eq_some_iff.1 hj).1
        rw [bs_len] at this
        exact this
      have Ho := Lib.hid hok
      clear hok hg0 h2'
      go_wp2
      go_ret
      exact ⟨by rw [Ho.out]; rfl, rfl⟩
end Go.Proofs.Ytdnjoflahiffhaa
