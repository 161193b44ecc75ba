/- The document's Parse: its contract. -/
import Derived.Test.YtenbbnmhgpclkaaDoorRWrd
import Derived.Test.YtenbbnmhgpclkaaDoorPar
namespace Go.Proofs.YtenbbnmhgpclkaaDoor
open Go.RowKit

/-- Words up to a blank, or to the end. -/
theorem splq_word : ∀ (u v : List UInt8), 32 ∉ u → spl (u ++ 32 :: v) = u :: spl v
  | [], v, _ => by simp [spl]
  | c :: r, v, h => by
    have hc : ¬ c = 32 := fun e => h (by simp [e])
    have hr := splq_word r v (fun e => h (by simp [e]))
    rw [List.cons_append, spl, if_neg hc, hr]
theorem splq_last : ∀ (u : List UInt8), 32 ∉ u → spl u = [u]
  | [], _ => rfl
  | c :: r, h => by
    have hc : ¬ c = 32 := fun e => h (by simp [e])
    have hr := splq_last r (fun e => h (by simp [e]))
    rw [spl, if_neg hc, hr]
theorem cut_at {S : List UInt8} {f k : Nat} {c : UInt8} (hf : f ≤ k) (h : S[k]? = some c) : S.drop f = (S.take k).drop f ++ c :: S.drop (k + 1) := by
  have hk : k < S.length := (List.getElem?_eq_some_iff.1 h).1
  have h1 : S = S.take k ++ c :: S.drop (k + 1) := by
    have h2 : S[k] = c := by rw [List.getElem?_eq_getElem hk] at h; exact Option.some.inj h
    rw [← h2, List.getElem_cons_drop, List.take_append_drop]
  conv => lhs; rw [h1]
  rw [List.drop_append_of_le_length (by simp; omega)]

/-- At the head of the loop: done are the words behind which from lies. -/
def RelQ (w : World) (S : List UInt8) (s4 s5 s6 : Value) (wr : World) : Prop :=
  ∃ (done : List (List UInt8)) (f k : Nat), s5 = .int .i64 f ∧ s6 = .int .i64 k ∧ k ≤ S.length + 1 ∧ done.length ≤ k ∧ f ≤ k ∧ wsE done = 0 ∧
    (k ≤ S.length → 32 ∉ (S.take k).drop f ∧ spl S = done ++ spl (S.drop f)) ∧ (k = S.length + 1 → spl S = done) ∧
    wr.ownsRow w.heap.size 56 2 s4 done.length (fcl (wsV done)) ∧ (∃ a l c, s4 = .slice a l c) ∧ Below w.heap.size w wr

set_option maxRecDepth 100000 in
set_option maxHeartbeats 4000000 in
theorem rparse_any (s : ByteArray) (w : World) (hs : s.size ≤ 3000) : Calls Tryd.prog 19 #[.string s] w (ParPost (bs s) w) := by
  obtain ⟨i0, hi, hz0, hz1, hz2⟩ := info_parts info56
  have hSl := bs_len s
  go_enter Tryd.func19, Tryd.ntmps19
  have HSl := Lib.hid hSl
  clear hSl
  go_wp2
  go_loopw [4, 5, 6] (RelQ w (bs s)) (fun _ _ i _ => s.size + 1 - (intOf i).toNat)
  case atStart => exact ⟨[], 0, 0, rfl, rfl, by omega, by simp, by omega, rfl, fun _ => ⟨by simp, by simp⟩, fun h => by omega, World.ownsRow_nil _ _ _ _, ⟨_, _, _, rfl⟩, Below.refl _ _⟩
  case round =>
    obtain ⟨done, ff, kk, rfl, rfl, hk1, hdl, hfk, hok, hgo, hend, ho, _, hb⟩ := hrel
    rw [HSl.out] at hk1 hgo hend
    obtain ⟨av, cv, rfl, _⟩ := owns_slice ho
    by_cases hlt : kk ≤ s.size
    · have hgo' := hgo hlt
      have HR := Lib.hid (And.intro hgo' (And.intro hok (And.intro ho hb)))
      clear hgo hend hgo' hok ho hb hk1
      by_cases hks : kk < s.size
      · have hgk := bs_get s kk hks
        by_cases hc : s[kk].toNat = 32
        · have h32 : s[kk] = 32 := UInt8.toNat_inj.1 hc
          rw [h32] at hgk
          have hcut := cut_at hfk hgk
          have hspl : spl (bs s) = done ++ ((bs s).take kk).drop ff :: spl ((bs s).drop (kk + 1)) := by
            rw [HR.out.1.2, hcut, splq_word _ _ HR.out.1.1]
          have hc' : ((s[kk].toNat : Int) != 32) = false := by rw [hc]; rfl
          have HC := Lib.hid hspl
          clear hgk hcut hspl h32
          have hkl : kk ≤ s.size := by omega
          have hfI : (ff : Int) ≤ (kk : Int) := by omega
          have hkI : (kk : Int) ≤ (s.size : Int) := by omega
          have hAz := ext_size s ff kk
          have hAb := bs_ext s ff kk
          have hsz := HR.out.2.2.2.size
          go_wp2_with fail
          generalize s.extract ff kk = A at *
          refine (word_any A wr (by omega)).mono ?_
          rintro e w2 ⟨rfl, hb2⟩
          rw [hAb]
          generalize hae : ((bs s).take kk).drop ff = a' at *
          have hB2 := HR.out.2.2.2.trans (hb2.mono HR.out.2.2.2.size)
          have ho2 : w2.ownsRow w.heap.size 56 2 (.slice av done.length cv) done.length (fcl (wsV done)) := by
            have h := HR.out.2.2.1
            refine ⟨h.1, ?_⟩
            rcases h.2 with hn | ⟨g, cap, cur', hv, hb', hg, rest⟩
            · exact .inl hn
            · exact .inr ⟨g, cap, cur', hv, hb', (hb2.block g (Array.getElem?_eq_some_iff.1 hg).1).trans hg, rest⟩
          have HO := Lib.hid (And.intro hB2 ho2)
          clear hB2 ho2 hb2 hae hAb
          by_cases hp : partE a' = 0
          · have hok2 : wsE (done ++ [a']) = 0 := by
              rw [wsE_app _ _ HR.out.2.1]
              exact wsE_one hp
            have HP := Lib.hid (And.intro hok2 HR.out.1)
            rw [hp]
            obtain ⟨⟨pk, pn⟩, hpv⟩ : ∃ p, partV a' = p := ⟨_, rfl⟩
            rw [hpv]
            have hwv : wsV (done ++ [a']) = wsV done ++ [(pk, pn)] := by simp [wsV, hpv]
            have Hwv := Lib.hid hwv
            clear hok2 hp hpv HR hwv
            have hsz2 := HO.out.1.size
            have hml : done.length + 1 ≤ maxLen := by
              have : 400000 ≤ maxLen := by decide
              omega
            generalize hkE : done.length = kl at *
            have HkE := Lib.hid hkE
            clear hkE
            go_wp2_with (at_builtin; refine wpList_append_own _ rfl _ _ 30 rfl w.heap.size 56 i0 (.agg #[.int .i64 0, .int .i64 0]) 2 16 Tryd.underlying30 hi hz0 hz1 hz2 rfl (by decide) (.slice av kl cv) kl (fcl (wsV done)) rfl ((HO.out.2.alloc _).alloc _) ⟨w2.heap.size + 1, 0, none⟩ 1 1 (fcells pk pn) rfl rfl (by intro j u hj; have := cell_two_new (w2.alloc (.cells #[.int .i64 pk, .int .i64 pn] 56)) (.int .i64 pk) (.int .i64 pn) 56 j u hj; rw [World.size_alloc] at this; exact this) (by simp [Value.oneCell']) hml (by omega) (by simp; omega) ?_; intro v' w1 hown' hgrow _; obtain ⟨g', cap', rfl⟩ := ownsRow_succ hown'; have hb1 : Below w.heap.size w w1 := ((HO.out.1.alloc HO.out.1.size _).alloc (by simp; omega) _).grown hgrow (by simp; omega) (fun q e => (HO.out.2.lt q e).1); clear hgrow)
            go_roundw
            case rel =>
              refine ⟨done ++ [a'], kk + 1, kk + 1, by go_num, by go_num, by rw [HSl.out]; omega, by rw [List.length_append, HkE.out]; simp; omega, by omega, HP.out.1, ?_, ?_, ?_, ⟨_, _, _, rfl⟩, hb1⟩
              · intro h
                refine ⟨?_, by rw [HC.out]; simp⟩
                rw [List.drop_eq_nil_of_le (by simp; omega)]
                simp
              · intro h
                rw [HSl.out] at h
                omega
              · rw [Hwv.out, fcl_snoc, List.length_append, HkE.out]
                exact hown'
            case measure => (simp [intOf]; try omega)
          · have hfin : paE (bs s) = partE a' := by
              have h1 : wsE (spl (bs s)) = partE a' := by
                rw [HC.out, wsE_app _ _ HR.out.2.1, wsE_bad hp]
              rw [paE_ws (by rw [h1]; exact hp), h1]
            have Hf := Lib.hid (And.intro hfin hp)
            have hp' : (partE a' != 0) = true := by simpa using hp
            clear hfin hp HR
            generalize partE a' = er at *
            generalize partV a' = pv at *
            obtain ⟨pk, pn⟩ := pv
            go_wp2
            go_ret2
            exact ParPost.bad Hf.out.1 Hf.out.2 (HO.out.1.alloc HO.out.1.size _)
        · have hc' : ((s[kk].toNat : Int) != 32) = true := by rw [bne_iff_ne]; omega
          have hnx : 32 ∉ ((bs s).take (kk + 1)).drop ff := by
            have h1 : (bs s).take (kk + 1) = (bs s).take kk ++ [s[kk]] := by rw [List.take_add_one, hgk]; rfl
            rw [h1, List.drop_append_of_le_length (by rw [List.length_take, bs_len]; omega)]
            intro hm
            rcases List.mem_append.1 hm with h2 | h2
            · exact HR.out.1.1 h2
            · have h3 : s[kk] = 32 := by simpa using (List.mem_singleton.1 h2).symm
              exact hc (by rw [h3]; rfl)
          have Hnx := Lib.hid hnx
          clear hnx hgk
          go_wp2
          go_roundw
          case rel =>
            refine ⟨done, ff, kk + 1, rfl, by go_num, by rw [HSl.out]; omega, by omega, by omega, HR.out.2.1, fun _ => ⟨Hnx.out, HR.out.1.2⟩, fun h => ?_, HR.out.2.2.1, ⟨_, _, _, rfl⟩, HR.out.2.2.2⟩
            rw [HSl.out] at h
            omega
          case measure => simp [intOf]; omega
      · obtain rfl : kk = s.size := by omega
        have hkd : decide ((s.size : Int) < (s.size : Int)) = false := decide_eq_false (by omega)
        have hfull : (bs s).take s.size = bs s := List.take_of_length_le (by rw [bs_len]; omega)
        have hspl : spl (bs s) = done ++ [((bs s).take s.size).drop ff] := by
          have h1 := HR.out.1.1
          rw [hfull] at h1 ⊢
          rw [HR.out.1.2, splq_last _ h1]
        have HC := Lib.hid hspl
        clear hspl hfull
        have hfI : (ff : Int) ≤ (s.size : Int) := by omega
        have hkI : (s.size : Int) ≤ (s.size : Int) := by omega
        have hAz := ext_size s ff s.size
        have hAb := bs_ext s ff s.size
        have hsz := HR.out.2.2.2.size
        go_wp2_with fail
        generalize s.extract ff s.size = A at *
        refine (word_any A wr (by omega)).mono ?_
        rintro e w2 ⟨rfl, hb2⟩
        rw [hAb]
        generalize hae : ((bs s).take s.size).drop ff = a' at *
        have hB2 := HR.out.2.2.2.trans (hb2.mono HR.out.2.2.2.size)
        have ho2 : w2.ownsRow w.heap.size 56 2 (.slice av done.length cv) done.length (fcl (wsV done)) := by
          have h := HR.out.2.2.1
          refine ⟨h.1, ?_⟩
          rcases h.2 with hn | ⟨g, cap, cur', hv, hb', hg, rest⟩
          · exact .inl hn
          · exact .inr ⟨g, cap, cur', hv, hb', (hb2.block g (Array.getElem?_eq_some_iff.1 hg).1).trans hg, rest⟩
        have HO := Lib.hid (And.intro hB2 ho2)
        clear hB2 ho2 hb2 hae hAb
        by_cases hp : partE a' = 0
        · have hok2 : wsE (done ++ [a']) = 0 := by
            rw [wsE_app _ _ HR.out.2.1]
            exact wsE_one hp
          have HP := Lib.hid (And.intro hok2 HR.out.1)
          rw [hp]
          obtain ⟨⟨pk, pn⟩, hpv⟩ : ∃ p, partV a' = p := ⟨_, rfl⟩
          rw [hpv]
          have hwv : wsV (done ++ [a']) = wsV done ++ [(pk, pn)] := by simp [wsV, hpv]
          have Hwv := Lib.hid hwv
          clear hok2 hp hpv HR hwv
          have hsz2 := HO.out.1.size
          have hml : done.length + 1 ≤ maxLen := by
            have : 400000 ≤ maxLen := by decide
            omega
          generalize hkE : done.length = kl at *
          have HkE := Lib.hid hkE
          clear hkE
          go_wp2_with (at_builtin; refine wpList_append_own _ rfl _ _ 30 rfl w.heap.size 56 i0 (.agg #[.int .i64 0, .int .i64 0]) 2 16 Tryd.underlying30 hi hz0 hz1 hz2 rfl (by decide) (.slice av kl cv) kl (fcl (wsV done)) rfl ((HO.out.2.alloc _).alloc _) ⟨w2.heap.size + 1, 0, none⟩ 1 1 (fcells pk pn) rfl rfl (by intro j u hj; have := cell_two_new (w2.alloc (.cells #[.int .i64 pk, .int .i64 pn] 56)) (.int .i64 pk) (.int .i64 pn) 56 j u hj; rw [World.size_alloc] at this; exact this) (by simp [Value.oneCell']) hml (by omega) (by simp; omega) ?_; intro v' w1 hown' hgrow _; obtain ⟨g', cap', rfl⟩ := ownsRow_succ hown'; have hb1 : Below w.heap.size w w1 := ((HO.out.1.alloc HO.out.1.size _).alloc (by simp; omega) _).grown hgrow (by simp; omega) (fun q e => (HO.out.2.lt q e).1); clear hgrow)
          go_roundw
          case rel =>
            refine ⟨done ++ [a'], s.size + 1, s.size + 1, by go_num, by go_num, by rw [HSl.out]; omega, by rw [List.length_append, HkE.out]; simp; omega, by omega, HP.out.1, ?_, ?_, ?_, ⟨_, _, _, rfl⟩, hb1⟩
            · intro h
              rw [HSl.out] at h
              omega
            · intro h
              rw [HC.out]
            · rw [Hwv.out, fcl_snoc, List.length_append, HkE.out]
              exact hown'
          case measure => (simp [intOf]; try omega)
        · have hfin : paE (bs s) = partE a' := by
            have h1 : wsE (spl (bs s)) = partE a' := by
              rw [HC.out, wsE_app _ _ HR.out.2.1, wsE_bad hp]
            rw [paE_ws (by rw [h1]; exact hp), h1]
          have Hf := Lib.hid (And.intro hfin hp)
          have hp' : (partE a' != 0) = true := by simpa using hp
          clear hfin hp HR
          generalize partE a' = er at *
          generalize partV a' = pv at *
          obtain ⟨pk, pn⟩ := pv
          go_wp2
          go_ret2
          exact ParPost.bad Hf.out.1 Hf.out.2 (HO.out.1.alloc HO.out.1.size _)
    · obtain rfl : kk = s.size + 1 := by omega
      have hkd : decide (((s.size : Int) + 1) ≤ (s.size : Int)) = false := decide_eq_false (by omega)
      have hkd' : decide ((((s.size + 1 : Nat)) : Int) ≤ (s.size : Int)) = false := decide_eq_false (by omega)
      have hsp := hend rfl
      obtain ⟨a9, c9, hv9, hpr⟩ := owns_prs (l := wsV done) (by have h1 : (wsV done).length = done.length := by simp [wsV]
                                                                rw [h1]; exact ho)
      have hlen : done.length = (wsV done).length := by simp [wsV]
      obtain ⟨rfl, _, rfl⟩ := Value.slice.inj hv9
      clear hv9
      have hE : paE (bs s) = plErr (wsV done) := by
        rw [paE_pl (by rw [hsp]; exact hok), hsp]
      have hL : plErr (wsV done) = 0 → paL (bs s) = wsV done := fun h0 => by
        rw [paL_ok (by rw [hE]; exact h0), hsp]
      have HE := Lib.hid (And.intro hE (And.intro hL hlen))
      rw [hlen]
      clear hsp hok hE hL ho hgo hend hdl hlen
      generalize wsV done = l at *
      go_wp2_with fail
      refine (rplaces_any _ _ _ l wr rfl hpr).mono ?_
      rintro e w1 ⟨a1, c1, rfl, hb1, hA⟩
      have hB1 := hb.trans (hb1.mono hb.size)
      have hP1 := hpr.next hb1
      clear hA
      by_cases h0 : plErr l = 0
      · rw [h0]
        go_wp2
        go_ret2
        refine ⟨av, cv, ?_, hB1, ?_⟩
        · rw [HE.out.2.1 h0, HE.out.1, h0]
          rfl
        · rw [HE.out.2.1 h0]
          exact hP1
      · have h0' : (plErr l != 0) = true := by simpa using h0
        have H0 := Lib.hid h0
        clear h0
        generalize plErr l = er at *
        go_wp2
        go_ret2
        exact ParPost.bad HE.out.1 H0.out hB1
end Go.Proofs.YtenbbnmhgpclkaaDoor
