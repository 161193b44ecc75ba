/- codec.letters: its contract. -/
import Derived.Test.YtenbbnmhgpclkaaDoorTxt
namespace Go.Proofs.YtenbbnmhgpclkaaDoor
open Go.RowKit

/-- The bytes of a string. -/
abbrev bs (s : ByteArray) : List UInt8 := s.data.toList
theorem bs_len (s : ByteArray) : (bs s).length = s.size := by simp [bs]
theorem bs_get (s : ByteArray) (k : Nat) (h : k < s.size) : (bs s)[k]? = some s[k] := by
  have : k < (bs s).length := by rw [bs_len]; exact h
  rw [List.getElem?_eq_getElem this]
  rfl
theorem str_bs (s : ByteArray) : str (bs s) = s := by
  apply ByteArray.ext
  simp [str, bs]
theorem bs_str (l : List UInt8) : bs (str l) = l := by simp [str, bs]
theorem tw_stop : ∀ (s : List UInt8) (c : UInt8), s[lett s]? = some c → isL c = false
  | [], c, h => by simp at h
  | d :: r, c, h => by
    by_cases hd : isL d = true
    · have e : lett (d :: r) = lett r + 1 := by simp [lett, hd]
      rw [e, List.getElem?_cons_succ] at h
      exact tw_stop r c h
    · have e : lett (d :: r) = 0 := by simp [lett, hd]
      rw [e] at h
      simp at h
      rw [← h]
      simpa using hd
theorem tw_go : ∀ (s : List UInt8) (k : Nat) (c : UInt8), k < lett s → s[k]? = some c → isL c = true
  | [], k, c, _, h => by simp at h
  | d :: r, k, c, hk, h => by
    by_cases hd : isL d = true
    · have e : lett (d :: r) = lett r + 1 := by simp [lett, hd]
      cases k with
      | zero =>
        simp at h
        rw [← h]
        exact hd
      | succ k =>
        rw [List.getElem?_cons_succ] at h
        exact tw_go r k c (by omega) h
    · have e : lett (d :: r) = 0 := by simp [lett, hd]
      omega

set_option maxHeartbeats 1000000 in
theorem letters_any (s : ByteArray) (w : World) (hs : s.size ≤ 100000) : Calls Tryd.prog 51 #[.string s] w (fun e w' => e = .returned (.int .i64 (lett (bs s))) ∧ w = w') := by
  have hle : lett (bs s) ≤ s.size := by rw [← bs_len]; exact lett_le _
  go_enter Tryd.func51, Tryd.ntmps51
  go_wp2
  go_loop [3] (fun i => ∃ k : Nat, k ≤ lett (bs s) ∧ i = .int .i64 k) (fun i => s.size - (intOf i).toNat)
  case atStart => exact ⟨0, by omega, rfl⟩
  case round =>
    obtain ⟨k, hk, rfl⟩ := hrel
    by_cases hlt : k < lett (bs s)
    · have hks : k < s.size := by omega
      have hl := tw_go (bs s) k s[k] hlt (bs_get s k hks)
      unfold isL at hl
      simp only [Bool.and_eq_true, decide_eq_true_eq] at hl
      obtain ⟨l1, l2⟩ := hl
      have m1 : decide ((97 : Int) ≤ (s[k].toNat : Int)) = true := decide_eq_true (by omega)
      have m2 : decide ((s[k].toNat : Int) ≤ (122 : Int)) = true := decide_eq_true (by omega)
      generalize lett (bs s) = q at *
      go_wp2
      go_round
      case rel => exact ⟨k + 1, by omega, by go_num⟩
      case measure => simp [intOf]; omega
    · obtain rfl : k = lett (bs s) := by omega
      by_cases hks : lett (bs s) < s.size
      · have hl := tw_stop (bs s) (s[lett (bs s)]) (bs_get s _ hks)
        unfold isL at hl
        generalize hqE : lett (bs s) = q at *
        have Hq := Lib.hid hqE
        clear hqE
        by_cases l1 : 97 ≤ s[q].toNat
        · have m1 : decide ((97 : Int) ≤ (s[q].toNat : Int)) = true := decide_eq_true (by omega)
          have l2 : ¬ s[q].toNat ≤ 122 := by
            intro h
            simp [l1, h] at hl
          have m2 : decide ((s[q].toNat : Int) ≤ (122 : Int)) = false := decide_eq_false (by omega)
          clear hl
          go_wp2
          go_ret
          exact ⟨by rw [Hq.out]; rfl, rfl⟩
        · have m1 : decide ((97 : Int) ≤ (s[q].toNat : Int)) = false := decide_eq_false (by omega)
          clear hl
          go_wp2
          go_ret
          exact ⟨by rw [Hq.out]; rfl, rfl⟩
      · have hd : decide ((lett (bs s) : Int) < s.size) = false := decide_eq_false (by omega)
        generalize hqE : lett (bs s) = q at *
        have Hq := Lib.hid hqE
        clear hqE
        go_wp2
        go_ret
        exact ⟨by rw [Hq.out]; rfl, rfl⟩
end Go.Proofs.YtenbbnmhgpclkaaDoor
