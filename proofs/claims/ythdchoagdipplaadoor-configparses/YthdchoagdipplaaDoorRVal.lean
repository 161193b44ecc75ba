/- The document's Value: its contract. -/
import Derived.Test.YthdchoagdipplaaDoorNum
namespace Go.Proofs.YthdchoagdipplaaDoor
open Go.RowKit

/-- What Value tells. -/
def ValPost (d : List UInt8) (w : World) (e : Ending) (w' : World) : Prop :=
  e = .returned (.tuple #[.int .i64 (if nuB d = true then (num d : Int) else 0), .bool (nuB d)]) ∧ w = w'
theorem ValPost.bad {d : List UInt8} {w : World} (h : nuB d = false) : ValPost d w (.returned (.tuple #[.int .i64 0, .bool false])) w := ⟨by rw [h]; rfl, rfl⟩

set_option maxHeartbeats 2000000 in
theorem rval_any (s : ByteArray) (w : World) (hs : s.size ≤ 100000) : Calls Tryd.prog 43 #[.string s] w (ValPost (bs s) w) := by
  by_cases h0 : s.size < 1
  · have he : decide ((s.size : Int) < 1) = true := decide_eq_true (by omega)
    have hn : nuB (bs s) = false := by
      rw [List.eq_nil_of_length_eq_zero (l := bs s) (by rw [bs_len]; omega)]; rfl
    have Hn := Lib.hid hn
    clear hn
    go_enter Tryd.func43, Tryd.ntmps43
    go_wp2
    go_ret2
    exact ValPost.bad Hn.out
  have he : decide ((s.size : Int) < 1) = false := decide_eq_false (by omega)
  by_cases h1 : 9 < s.size
  · have hd : decide ((9 : Int) < (s.size : Int)) = true := decide_eq_true (by omega)
    have Hn := Lib.hid (nuB_long (d := bs s) (by rw [bs_len]; exact h1))
    go_enter Tryd.func43, Tryd.ntmps43
    go_wp2
    go_ret2
    exact ValPost.bad Hn.out
  have hd : decide ((9 : Int) < (s.size : Int)) = false := decide_eq_false (by omega)
  have hlt : 0 < s.size := by omega
  have hg0 := bs_get s 0 hlt
  by_cases h2 : s[0] = 48
  · have hb : ((s[0].toNat : Int) == 48) = true := by rw [h2]; rfl
    by_cases h3 : 1 < s.size
    · have hs1 : decide ((1 : Int) < (s.size : Int)) = true := decide_eq_true (by omega)
      have Hn := Lib.hid (nuB_nought (d := bs s) (by rw [hg0, h2]) (fun e => by
        have := bs_len s
        rw [e] at this
        simp at this
        omega))
      clear hg0 h2
      go_enter Tryd.func43, Tryd.ntmps43
      go_wp2
      go_ret2
      exact ValPost.bad Hn.out
    · have hs1 : decide ((1 : Int) < (s.size : Int)) = false := decide_eq_false (by omega)
      have h48 : s[0] = 48 → bs s = [48] := fun _ => by
        have hl : (bs s).length = 1 := by rw [bs_len]; omega
        match hm : bs s, hl with
        | [c], _ =>
          rw [hm] at hg0
          simp at hg0
          rw [hg0, h2]
      clear h2
      go_enter Tryd.func43, Tryd.ntmps43
      go_wp2
      go_loop [5, 4] (fun i x => ∃ k : Nat, k ≤ s.size ∧ i = .int .i64 k ∧ x = .int .i64 (num ((bs s).take k)) ∧ ∀ (j : Nat) (d : UInt8), j < k → (bs s)[j]? = some d → isD d = true) (fun i _ => s.size - (intOf i).toNat)
      case atStart => exact ⟨0, by omega, rfl, rfl, fun j d hj => by omega⟩
      case round =>
        obtain ⟨k, hk, rfl, rfl, hall⟩ := hrel
        by_cases hks : k < s.size
        · have hgk := bs_get s k hks
          have k0 : (k : Int) < s.size := by omega
          by_cases hdg : isD s[k] = true
          · have hsn : num ((bs s).take (k + 1)) = 10 * num ((bs s).take k) + (s[k].toNat - 48) := by
              rw [(drop_at hgk).2, num_snoc]
            have hbd : 48 ≤ s[k].toNat ∧ s[k].toNat ≤ 57 := by simpa [isD] using hdg
            have hnl : num ((bs s).take k) < 1000000000 := by
              have h := num_lt k ((bs s).take k) (by rw [List.length_take, bs_len]; omega) (fun c hc => by
                obtain ⟨j, hj, q⟩ := List.mem_iff_getElem.1 hc
                rw [List.length_take] at hj
                refine hall j c (by omega) ?_
                rw [← q, List.getElem_take, List.getElem?_eq_getElem])
              have h2 : 10 ^ k ≤ 10 ^ 9 := Nat.pow_le_pow_right (by decide) (by omega)
              omega
            have Hs := Lib.hid (And.intro hsn (And.intro hall hgk))
            clear hsn hall hgk hg0
            have hu : IntKind.u8.wrap ((s[k].toNat : Int) - 48) = (s[k].toNat : Int) - 48 := IntWalk.u8_in _ (by omega)
            generalize num ((bs s).take k) = x at *
            have hm : IntKind.i64.wrap (10 * (x : Int)) = 10 * (x : Int) := IntWalk.i64_in _ (by omega)
            have ha : IntKind.i64.wrap (10 * (x : Int) + ((s[k].toNat : Int) - 48)) = 10 * (x : Int) + ((s[k].toNat : Int) - 48) := IntWalk.i64_in _ (by omega)
            have m1 : decide ((s[k].toNat : Int) < 48) = false := decide_eq_false (by omega)
            have m2 : decide ((57 : Int) < (s[k].toNat : Int)) = false := decide_eq_false (by omega)
            go_wp2
            go_round
            case rel =>
              refine ⟨k + 1, by omega, by go_num, ?_, fun j d hj hd => ?_⟩
              · rw [Hs.out.1]
                have : ((10 * x + (s[k].toNat - 48) : Nat) : Int) = 10 * (x : Int) + ((s[k].toNat : Int) - 48) := by omega
                rw [this]
              · by_cases hjk : j < k
                · exact Hs.out.2.1 j d hjk hd
                · obtain rfl : j = k := by omega
                  rw [Hs.out.2.2] at hd
                  cases hd
                  exact hdg
            case measure => simp [intOf]; omega
          · have hdg' : isD s[k] = false := by simpa using hdg
            have Hn := Lib.hid (nuB_bad hgk hdg')
            clear hdg hgk hg0 hall
            generalize num ((bs s).take k) = x at *
            by_cases b1 : s[k].toNat < 48
            · have m1 : decide ((s[k].toNat : Int) < 48) = true := decide_eq_true (by omega)
              clear hdg'
              go_wp2
              go_ret2
              exact ValPost.bad Hn.out
            · have m1 : decide ((s[k].toNat : Int) < 48) = false := decide_eq_false (by omega)
              have b2 : 57 < s[k].toNat := by
                simp [isD] at hdg'
                omega
              have m2 : decide ((57 : Int) < (s[k].toNat : Int)) = true := decide_eq_true (by omega)
              clear hdg'
              go_wp2
              go_ret2
              exact ValPost.bad Hn.out
        · obtain rfl : k = s.size := by omega
          have hok : nuB (bs s) = true := nuB_ok hg0 (by rw [bs_len]; omega) h48 (fun j d hj => hall j d (by have := (List.getElem?_eq_some_iff.1 hj).1; rw [bs_len] at this; exact this) hj)
          have htk : (bs s).take s.size = bs s := List.take_of_length_le (by rw [bs_len]; omega)
          rw [htk]
          have Ho := Lib.hid hok
          clear hok hg0 hall htk
          generalize hxE : num (bs s) = x at *
          have Hx := Lib.hid hxE
          clear hxE
          go_wp2
          go_ret2
          exact ⟨by rw [Ho.out, Hx.out]; rfl, rfl⟩
  have hb : ((s[0].toNat : Int) == 48) = false := by
    rw [beq_eq_false_iff_ne]
    intro e
    apply h2
    apply UInt8.toNat_inj.1
    show s[0].toNat = 48
    omega
  have h48 : s[0] = 48 → bs s = [48] := fun h => absurd h h2
  clear h2
  go_enter Tryd.func43, Tryd.ntmps43
  go_wp2
  go_loop [5, 4] (fun i x => ∃ k : Nat, k ≤ s.size ∧ i = .int .i64 k ∧ x = .int .i64 (num ((bs s).take k)) ∧ ∀ (j : Nat) (d : UInt8), j < k → (bs s)[j]? = some d → isD d = true) (fun i _ => s.size - (intOf i).toNat)
  case atStart => exact ⟨0, by omega, rfl, rfl, fun j d hj => by omega⟩
  case round =>
    obtain ⟨k, hk, rfl, rfl, hall⟩ := hrel
    by_cases hks : k < s.size
    · have hgk := bs_get s k hks
      have k0 : (k : Int) < s.size := by omega
      by_cases hdg : isD s[k] = true
      · have hsn : num ((bs s).take (k + 1)) = 10 * num ((bs s).take k) + (s[k].toNat - 48) := by
          rw [(drop_at hgk).2, num_snoc]
        have hbd : 48 ≤ s[k].toNat ∧ s[k].toNat ≤ 57 := by simpa [isD] using hdg
        have hnl : num ((bs s).take k) < 1000000000 := by
          have h := num_lt k ((bs s).take k) (by rw [List.length_take, bs_len]; omega) (fun c hc => by
            obtain ⟨j, hj, q⟩ := List.mem_iff_getElem.1 hc
            rw [List.length_take] at hj
            refine hall j c (by omega) ?_
            rw [← q, List.getElem_take, List.getElem?_eq_getElem])
          have h2 : 10 ^ k ≤ 10 ^ 9 := Nat.pow_le_pow_right (by decide) (by omega)
          omega
        have Hs := Lib.hid (And.intro hsn (And.intro hall hgk))
        clear hsn hall hgk hg0
        have hu : IntKind.u8.wrap ((s[k].toNat : Int) - 48) = (s[k].toNat : Int) - 48 := IntWalk.u8_in _ (by omega)
        generalize num ((bs s).take k) = x at *
        have hm : IntKind.i64.wrap (10 * (x : Int)) = 10 * (x : Int) := IntWalk.i64_in _ (by omega)
        have ha : IntKind.i64.wrap (10 * (x : Int) + ((s[k].toNat : Int) - 48)) = 10 * (x : Int) + ((s[k].toNat : Int) - 48) := IntWalk.i64_in _ (by omega)
        have m1 : decide ((s[k].toNat : Int) < 48) = false := decide_eq_false (by omega)
        have m2 : decide ((57 : Int) < (s[k].toNat : Int)) = false := decide_eq_false (by omega)
        go_wp2
        go_round
        case rel =>
          refine ⟨k + 1, by omega, by go_num, ?_, fun j d hj hd => ?_⟩
          · rw [Hs.out.1]
            have : ((10 * x + (s[k].toNat - 48) : Nat) : Int) = 10 * (x : Int) + ((s[k].toNat : Int) - 48) := by omega
            rw [this]
          · by_cases hjk : j < k
            · exact Hs.out.2.1 j d hjk hd
            · obtain rfl : j = k := by omega
              rw [Hs.out.2.2] at hd
              cases hd
              exact hdg
        case measure => simp [intOf]; omega
      · have hdg' : isD s[k] = false := by simpa using hdg
        have Hn := Lib.hid (nuB_bad hgk hdg')
        clear hdg hgk hg0 hall
        generalize num ((bs s).take k) = x at *
        by_cases b1 : s[k].toNat < 48
        · have m1 : decide ((s[k].toNat : Int) < 48) = true := decide_eq_true (by omega)
          clear hdg'
          go_wp2
          go_ret2
          exact ValPost.bad Hn.out
        · have m1 : decide ((s[k].toNat : Int) < 48) = false := decide_eq_false (by omega)
          have b2 : 57 < s[k].toNat := by
            simp [isD] at hdg'
            omega
          have m2 : decide ((57 : Int) < (s[k].toNat : Int)) = true := decide_eq_true (by omega)
          clear hdg'
          go_wp2
          go_ret2
          exact ValPost.bad Hn.out
    · obtain rfl : k = s.size := by omega
      have hok : nuB (bs s) = true := nuB_ok hg0 (by rw [bs_len]; omega) h48 (fun j d hj => hall j d (by have := (List.getElem?_eq_some_iff.1 hj).1; rw [bs_len] at this; exact this) hj)
      have htk : (bs s).take s.size = bs s := List.take_of_length_le (by rw [bs_len]; omega)
      rw [htk]
      have Ho := Lib.hid hok
      clear hok hg0 hall htk
      generalize hxE : num (bs s) = x at *
      have Hx := Lib.hid hxE
      clear hxE
      go_wp2
      go_ret2
      exact ⟨by rw [Ho.out, Hx.out]; rfl, rfl⟩
end Go.Proofs.YthdchoagdipplaaDoor
