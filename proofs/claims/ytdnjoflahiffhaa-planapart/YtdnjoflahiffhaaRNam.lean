/- The document's Name: its contract. -/
import Derived.Test.YtdnjoflahiffhaaNam
namespace Go.Proofs.Ytdnjoflahiffhaa
open Go.RowKit

set_option maxHeartbeats 1000000 in
theorem rname_any (s : ByteArray) (w : World) (hs : s.size ≤ 100000) : Calls Try.prog 36 #[.string s] w (fun e w' => e = .returned (.bool (nmB (bs s))) ∧ w = w') := by
  by_cases h0 : s.size < 1
  · have he : decide ((s.size : Int) < 1) = true := decide_eq_true (by omega)
    have hn : nmB (bs s) = false := by
      rw [List.eq_nil_of_length_eq_zero (l := bs s) (by rw [bs_len]; omega)]; rfl
    rw [hn]
    clear hn
    go_enter Try.func36, Try.ntmps36
    go_wp2
    go_ret
    exact ⟨rfl, rfl⟩
  have he : decide ((s.size : Int) < 1) = false := decide_eq_false (by omega)
  by_cases h1 : 16 < s.size
  · have hd : decide ((16 : Int) < (s.size : Int)) = true := decide_eq_true (by omega)
    rw [nmB_long (by rw [bs_len]; exact h1)]
    go_enter Try.func36, Try.ntmps36
    go_wp2
    go_ret
    exact ⟨rfl, rfl⟩
  have hd : decide ((16 : Int) < (s.size : Int)) = false := decide_eq_false (by omega)
  have hlt : 0 < s.size := by omega
  have hg0 := bs_get s 0 hlt
  go_enter Try.func36, Try.ntmps36
  go_wp2
  go_loop [3] (fun i => ∃ k : Nat, k ≤ s.size ∧ i = .int .i64 k ∧ (∀ (j : Nat) (d : UInt8), j < k → (bs s)[j]? = some d → (isL d || isD d) = true) ∧ (0 < k → isD s[0] = false)) (fun i => s.size - (intOf i).toNat)
  case atStart => exact ⟨0, by omega, rfl, fun j d hj => by omega, fun h => by omega⟩
  case round =>
    obtain ⟨k, hk, rfl, hall, hf⟩ := hrel
    have Ha := Lib.hid (And.intro hall hf)
    clear hall hf
    by_cases hks : k < s.size
    · have hgk := bs_get s k hks
      have Hg := Lib.hid (And.intro hgk hg0)
      clear hgk hg0
      have key : ∀ (j : Nat) (d : UInt8), j < k + 1 → (bs s)[j]? = some d → (isL s[k] || isD s[k]) = true → (isL d || isD d) = true := fun j d hj hd hl => by
        by_cases hjk : j < k
        · exact Ha.out.1 j d hjk hd
        · obtain rfl : j = k := by omega
          rw [Hg.out.1] at hd
          cases hd
          exact hl
      have Hk := Lib.hid key
      clear key
      have hltk : (k : Int) < s.size := by omega
      by_cases h97 : 97 ≤ s[k].toNat
      · have m48 : decide ((48 : Int) ≤ (s[k].toNat : Int)) = true := decide_eq_true (by omega)
        have m57 : decide ((s[k].toNat : Int) ≤ (57 : Int)) = false := decide_eq_false (by omega)
        have m97 : decide ((97 : Int) ≤ (s[k].toNat : Int)) = true := decide_eq_true (by omega)
        have hnd : isD s[k] = false := by simp [isD]; omega
        by_cases h122 : s[k].toNat ≤ 122
        · have m122 : decide ((s[k].toNat : Int) ≤ (122 : Int)) = true := decide_eq_true (by omega)
          have hl : isL s[k] = true := by simp [isL, h97, h122]
          have Hl := Lib.hid (And.intro hl hnd)
          clear hl hnd
          go_wp2
          go_round
          case rel =>
            refine ⟨k + 1, by omega, by go_num, fun j d hj hd => Hk.out j d hj hd (by rw [Hl.out.1]; rfl), fun _ => ?_⟩
            by_cases h : 0 < k
            · exact Ha.out.2 h
            · obtain rfl : k = 0 := by omega
              exact Hl.out.2
          case measure => simp [intOf]; omega
        · have m122 : decide ((s[k].toNat : Int) ≤ (122 : Int)) = false := decide_eq_false (by omega)
          have hl : isL s[k] = false := by simp [isL, h122]
          have Hb := Lib.hid (nmB_bad Hg.out.1 hl hnd)
          clear hl hnd
          go_wp2
          go_ret
          exact ⟨by rw [Hb.out]; rfl, rfl⟩
      · have m97 : decide ((97 : Int) ≤ (s[k].toNat : Int)) = false := decide_eq_false (by omega)
        have hl : isL s[k] = false := by simp [isL, h97]
        by_cases h48 : 48 ≤ s[k].toNat
        · have m48 : decide ((48 : Int) ≤ (s[k].toNat : Int)) = true := decide_eq_true (by omega)
          by_cases h57 : s[k].toNat ≤ 57
          · have m57 : decide ((s[k].toNat : Int) ≤ (57 : Int)) = true := decide_eq_true (by omega)
            have hdg : isD s[k] = true := by simp [isD, h48, h57]
            by_cases h : 0 < k
            · have hk0 : ((k : Int) == 0) = false := by rw [beq_eq_false_iff_ne]; omega
              have Hl := Lib.hid hdg
              clear hl hdg
              go_wp2
              go_round
              case rel => exact ⟨k + 1, by omega, by go_num, fun j d hj hd => Hk.out j d hj hd (by rw [Hl.out]; simp), fun _ => Ha.out.2 h⟩
              case measure => simp [intOf]; omega
            · obtain rfl : k = 0 := by omega
              have Hb := Lib.hid (nmB_dig Hg.out.2 hdg)
              clear hl hdg
              go_wp2
              go_ret
              exact ⟨by rw [Hb.out]; rfl, rfl⟩
          · have m57 : decide ((s[k].toNat : Int) ≤ (57 : Int)) = false := decide_eq_false (by omega)
            have hdg : isD s[k] = false := by simp [isD, h57]
            have Hb := Lib.hid (nmB_bad Hg.out.1 hl hdg)
            clear hl hdg
            go_wp2
            go_ret
            exact ⟨by rw [Hb.out]; rfl, rfl⟩
        · have m48 : decide ((48 : Int) ≤ (s[k].toNat : Int)) = false := decide_eq_false (by omega)
          have hdg : isD s[k] = false := by simp [isD, h48]
          have Hb := Lib.hid (nmB_bad Hg.out.1 hl hdg)
          clear hl hdg
          go_wp2
          go_ret
          exact ⟨by rw [Hb.out]; rfl, rfl⟩
    · obtain rfl : k = s.size := by omega
      have hok : nmB (bs s) = true := by
        refine nmB_ok hg0 (by rw [bs_len]; omega) (Ha.out.2 hlt) (fun j d hj => Ha.out.1 j d ?_ hj)
        have := (List.getElem?_eq_some_iff.1 hj).1
        rw [bs_len] at this
        exact this
      have Ho := Lib.hid hok
      clear hok hg0
      go_wp2
      go_ret
      exact ⟨by rw [Ho.out]; rfl, rfl⟩
end Go.Proofs.Ytdnjoflahiffhaa
