/- config.numeral: its contract. -/
import Derived.Test.YthdchoagdipplaaDoorTxM
import Derived.Test.YthdchoagdipplaaDoorNam
namespace Go.Proofs.YthdchoagdipplaaDoor
open Go.RowKit

theorem nuB_nil : nuB [] = false := rfl
theorem nuB_long {d : List UInt8} (h : 9 < d.length) : nuB d = false := by
  unfold nuB
  rw [decide_eq_false (by omega : ¬ d.length ≤ 9)]
  simp
theorem nuB_nought {d : List UInt8} (h : d[0]? = some 48) (h2 : d ≠ [48]) : nuB d = false := by
  cases d with
  | nil => rfl
  | cons c r =>
    simp at h
    subst h
    simp at h2
    simp [nuB, h2]
theorem nuB_bad {d : List UInt8} {k : Nat} {c : UInt8} (hk : d[k]? = some c) (h : isD c = false) : nuB d = false := by
  have : d.all isD = false := by
    rw [List.all_eq_false]
    exact ⟨c, List.mem_of_getElem? hk, by simp [h]⟩
  unfold nuB
  rw [this]
  simp
theorem nuB_ok {d : List UInt8} {c : UInt8} (h0 : d[0]? = some c) (hl : d.length ≤ 9) (h : c = 48 → d = [48]) (ha : ∀ (j : Nat) (e : UInt8), d[j]? = some e → isD e = true) : nuB d = true := by
  have h3 : d.all isD = true := by
    rw [List.all_eq_true]
    intro e he
    obtain ⟨j, hj, q⟩ := List.mem_iff_getElem.1 he
    exact ha j e (by rw [List.getElem?_eq_getElem hj, q])
  unfold nuB
  rw [h3, decide_eq_true hl]
  cases d with
  | nil => simp at h0
  | cons e r =>
    simp at h0
    subst h0
    by_cases h48 : e = 48
    · have := h h48
      simp [this]
    · simp [h48]

/-- The answer, and the number in its place. -/
def NumPost (d : List UInt8) (p : Addr) (w : World) (e : Ending) (w' : World) : Prop :=
  e = .returned (.bool (nuB d)) ∧ w' = if nuB d = true then w.setCell p (.int .i64 (num d)) else w
theorem NumPost.bad {d : List UInt8} {p : Addr} {w : World} (h : nuB d = false) : NumPost d p w (.returned (.bool false)) w := ⟨by rw [h], by rw [h]; rfl⟩
theorem one_eq {s : ByteArray} : (s.toList == ([48] : List UInt8)) = decide (bs s = [48]) := by
  rw [ByteArray.toList_eq]
  by_cases h : bs s = [48]
  · rw [show s.data.toList = [48] from h, decide_eq_true h]
    rfl
  · rw [decide_eq_false h, beq_eq_false_iff_ne]
    exact h

set_option maxHeartbeats 2000000 in
theorem numeral_any (s : ByteArray) (g i : Nat) (v : Value) (w : World) (hs : s.size ≤ 100000) (hc : w.cell? ⟨g, i, none⟩ = some v) (hz : w.frozen? ⟨g, i, none⟩ = false) :
    Calls Tryd.prog 49 #[.string s, .pointer (some ⟨g, i, none⟩)] w (NumPost (bs s) ⟨g, i, none⟩ w) := by
  by_cases h0 : s.size = 0
  · have he : (s.toList == ([] : List UInt8)) = true := by rw [empty_eq]; exact decide_eq_true h0
    have hn : nuB (bs s) = false := by
      rw [List.eq_nil_of_length_eq_zero (l := bs s) (by rw [bs_len]; exact h0)]; rfl
    have Hn := Lib.hid hn
    clear hn
    go_enter Tryd.func49, Tryd.ntmps49
    go_wp2
    go_ret
    exact NumPost.bad Hn.out
  have he : (s.toList == ([] : List UInt8)) = false := by rw [empty_eq]; exact decide_eq_false h0
  by_cases h1 : 9 < s.size
  · have hd : decide ((9 : Int) < (s.size : Int)) = true := decide_eq_true (by omega)
    have Hn := Lib.hid (nuB_long (d := bs s) (by rw [bs_len]; exact h1))
    go_enter Tryd.func49, Tryd.ntmps49
    go_wp2
    go_ret
    exact NumPost.bad Hn.out
  have hd : decide ((9 : Int) < (s.size : Int)) = false := decide_eq_false (by omega)
  have hlt : 0 < s.size := by omega
  have hg0 := bs_get s 0 hlt
  by_cases h2 : s[0] = 48
  · have hb : ((s[0].toNat : Int) == 48) = true := by rw [h2]; rfl
    by_cases h3 : bs s = [48]
    · have hs1 : (s.toList == ([48] : List UInt8)) = true := by rw [one_eq]; exact decide_eq_true h3
      have h48 : s[0] = 48 → bs s = [48] := fun _ => h3
      clear h3 h2
      go_enter Tryd.func49, Tryd.ntmps49
      go_wp2
      go_loop [25, 5] (fun i x => ∃ k : Nat, k ≤ s.size ∧ i = .int .i64 k ∧ x = .int .i64 (num ((bs s).take k)) ∧ ∀ (j : Nat) (d : UInt8), j < k → (bs s)[j]? = some d → isD d = true) (fun i _ => s.size - (intOf i).toNat)
      case atStart => exact ⟨0, by omega, rfl, rfl, fun j d hj => by omega⟩
      case round =>
        obtain ⟨k, hk, rfl, rfl, hall⟩ := hrel
        by_cases hks : k < s.size
        · have hgk := bs_get s k hks
          by_cases hdg : isD s[k] = true
          · have hsn : num ((bs s).take (k + 1)) = 10 * num ((bs s).take k) + (s[k].toNat - 48) := by
              rw [(drop_at hgk).2, num_snoc]
            have hbd : 48 ≤ s[k].toNat ∧ s[k].toNat ≤ 57 := by simpa [isD] using hdg
            have hnl : num ((bs s).take k) < 1000000000 := by
              have h := num_lt k ((bs s).take k) (by rw [List.length_take, bs_len]; omega) (fun c hc => by
                obtain ⟨j, hj, q⟩ := List.mem_iff_getElem.1 hc
                rw [List.length_take] at hj
                refine hall j c (by omega) ?_
                rw [← q, List.getElem_take, List.getElem?_eq_getElem])
              have h2 : 10 ^ k ≤ 10 ^ 9 := Nat.pow_le_pow_right (by decide) (by omega)
              omega
            have Hs := Lib.hid (And.intro hsn (And.intro hall hgk))
            clear hsn hall hgk hg0
            have hu : IntKind.u8.wrap ((s[k].toNat : Int) - 48) = (s[k].toNat : Int) - 48 := IntWalk.u8_in _ (by omega)
            generalize num ((bs s).take k) = x at *
            have hm : IntKind.i64.wrap (10 * (x : Int)) = 10 * (x : Int) := IntWalk.i64_in _ (by omega)
            have ha : IntKind.i64.wrap (10 * (x : Int) + ((s[k].toNat : Int) - 48)) = 10 * (x : Int) + ((s[k].toNat : Int) - 48) := IntWalk.i64_in _ (by omega)
            go_wp2_with fail
            refine (dig_any _ w).mono ?_
            rintro e w' ⟨rfl, rfl⟩
            rw [hdg]
            go_wp2
            go_round
            case rel =>
              refine ⟨k + 1, by omega, by go_num, ?_, fun j d hj hd => ?_⟩
              · rw [Hs.out.1]
                have : ((10 * x + (s[k].toNat - 48) : Nat) : Int) = 10 * (x : Int) + ((s[k].toNat : Int) - 48) := by omega
                rw [this]
              · by_cases hjk : j < k
                · exact Hs.out.2.1 j d hjk hd
                · obtain rfl : j = k := by omega
                  rw [Hs.out.2.2] at hd
                  cases hd
                  exact hdg
            case measure => simp [intOf]; omega
          · have hdg' : isD s[k] = false := by simpa using hdg
            have Hn := Lib.hid (nuB_bad hgk hdg')
            clear hdg hgk hg0 hall
            generalize num ((bs s).take k) = x at *
            go_wp2_with fail
            refine (dig_any _ w).mono ?_
            rintro e w' ⟨rfl, rfl⟩
            rw [hdg']
            go_wp2
            go_ret
            exact NumPost.bad Hn.out
        · obtain rfl : k = s.size := by omega
          have hok : nuB (bs s) = true := nuB_ok hg0 (by rw [bs_len]; omega) h48 (fun j d hj => hall j d (by have := (List.getElem?_eq_some_iff.1 hj).1; rw [bs_len] at this; exact this) hj)
          have htk : (bs s).take s.size = bs s := List.take_of_length_le (by rw [bs_len]; omega)
          rw [htk]
          have Ho := Lib.hid hok
          clear hok hg0 hall htk
          generalize hxE : num (bs s) = x at *
          have Hx := Lib.hid hxE
          clear hxE
          go_wp2
          go_ret
          exact ⟨by rw [Ho.out]; rfl, by rw [Ho.out, Hx.out]; rfl⟩
    · have hs1 : (s.toList == ([48] : List UInt8)) = false := by rw [one_eq]; exact decide_eq_false h3
      have Hn := Lib.hid (nuB_nought (d := bs s) (by rw [hg0, h2]) h3)
      clear hg0 h2 h3
      go_enter Tryd.func49, Tryd.ntmps49
      go_wp2
      go_ret
      exact NumPost.bad Hn.out
  have hb : ((s[0].toNat : Int) == 48) = false := by
    rw [beq_eq_false_iff_ne]
    intro e
    apply h2
    apply UInt8.toNat_inj.1
    show s[0].toNat = 48
    omega
  have h48 : s[0] = 48 → bs s = [48] := fun h => absurd h h2
  clear h2
  go_enter Tryd.func49, Tryd.ntmps49
  go_wp2
  go_loop [25, 5] (fun i x => ∃ k : Nat, k ≤ s.size ∧ i = .int .i64 k ∧ x = .int .i64 (num ((bs s).take k)) ∧ ∀ (j : Nat) (d : UInt8), j < k → (bs s)[j]? = some d → isD d = true) (fun i _ => s.size - (intOf i).toNat)
  case atStart => exact ⟨0, by omega, rfl, rfl, fun j d hj => by omega⟩
  case round =>
    obtain ⟨k, hk, rfl, rfl, hall⟩ := hrel
    by_cases hks : k < s.size
    · have hgk := bs_get s k hks
      by_cases hdg : isD s[k] = true
      · have hsn : num ((bs s).take (k + 1)) = 10 * num ((bs s).take k) + (s[k].toNat - 48) := by
          rw [(drop_at hgk).2, num_snoc]
        have hbd : 48 ≤ s[k].toNat ∧ s[k].toNat ≤ 57 := by simpa [isD] using hdg
        have hnl : num ((bs s).take k) < 1000000000 := by
          have h := num_lt k ((bs s).take k) (by rw [List.length_take, bs_len]; omega) (fun c hc => by
            obtain ⟨j, hj, q⟩ := List.mem_iff_getElem.1 hc
            rw [List.length_take] at hj
            refine hall j c (by omega) ?_
            rw [← q, List.getElem_take, List.getElem?_eq_getElem])
          have h2 : 10 ^ k ≤ 10 ^ 9 := Nat.pow_le_pow_right (by decide) (by omega)
          omega
        have Hs := Lib.hid (And.intro hsn (And.intro hall hgk))
        clear hsn hall hgk hg0
        have hu : IntKind.u8.wrap ((s[k].toNat : Int) - 48) = (s[k].toNat : Int) - 48 := IntWalk.u8_in _ (by omega)
        generalize num ((bs s).take k) = x at *
        have hm : IntKind.i64.wrap (10 * (x : Int)) = 10 * (x : Int) := IntWalk.i64_in _ (by omega)
        have ha : IntKind.i64.wrap (10 * (x : Int) + ((s[k].toNat : Int) - 48)) = 10 * (x : Int) + ((s[k].toNat : Int) - 48) := IntWalk.i64_in _ (by omega)
        go_wp2_with fail
        refine (dig_any _ w).mono ?_
        rintro e w' ⟨rfl, rfl⟩
        rw [hdg]
        go_wp2
        go_round
        case rel =>
          refine ⟨k + 1, by omega, by go_num, ?_, fun j d hj hd => ?_⟩
          · rw [Hs.out.1]
            have : ((10 * x + (s[k].toNat - 48) : Nat) : Int) = 10 * (x : Int) + ((s[k].toNat : Int) - 48) := by omega
            rw [this]
          · by_cases hjk : j < k
            · exact Hs.out.2.1 j d hjk hd
            · obtain rfl : j = k := by omega
              rw [Hs.out.2.2] at hd
              cases hd
              exact hdg
        case measure => simp [intOf]; omega
      · have hdg' : isD s[k] = false := by simpa using hdg
        have Hn := Lib.hid (nuB_bad hgk hdg')
        clear hdg hgk hg0 hall
        generalize num ((bs s).take k) = x at *
        go_wp2_with fail
        refine (dig_any _ w).mono ?_
        rintro e w' ⟨rfl, rfl⟩
        rw [hdg']
        go_wp2
        go_ret
        exact NumPost.bad Hn.out
    · obtain rfl : k = s.size := by omega
      have hok : nuB (bs s) = true := nuB_ok hg0 (by rw [bs_len]; omega) h48 (fun j d hj => hall j d (by have := (List.getElem?_eq_some_iff.1 hj).1; rw [bs_len] at this; exact this) hj)
      have htk : (bs s).take s.size = bs s := List.take_of_length_le (by rw [bs_len]; omega)
      rw [htk]
      have Ho := Lib.hid hok
      clear hok hg0 hall htk
      generalize hxE : num (bs s) = x at *
      have Hx := Lib.hid hxE
      clear hxE
      go_wp2
      go_ret
      exact ⟨by rw [Ho.out]; rfl, by rw [Ho.out, Hx.out]; rfl⟩
end Go.Proofs.YthdchoagdipplaaDoor
