/- codec.Parse: its contract. -/
import Derived.Test.YtenbbnmhgpclkaaDoorPrt
namespace Go.Proofs.YtenbbnmhgpclkaaDoor
open Go.RowKit

theorem info47 : (Tryd.prog.info? 47).map (fun i => (i.zero, i.size, i.bytes)) = some (some (.agg #[.int .i64 0, .int .i64 0]), 2, 16) := by kernel_rfl

/-- What a cut does to the words. -/
theorem cut_spl (s : ByteArray) : spl (bs s) = bs (cutA s) :: (if cutM s = true then spl (bs (cutB s)) else []) ∧ (cutM s = true → (cutB s).size < s.size) ∧ (cutA s).size ≤ s.size ∧ (cutB s).size ≤ s.size := by
  rcases spl_idx (bs s) with ⟨h1, h2⟩ | ⟨i, h1, h2, h3⟩
  · have e : cutA s = s ∧ cutB s = ⟨#[]⟩ ∧ cutM s = false := by simp [cutA, cutB, cutM, h1]
    rw [e.1, e.2.1, e.2.2, h2]
    exact ⟨by simp, by simp, Nat.le_refl _, Nat.zero_le _⟩
  · have hne2 : ¬ (i : Int) = -1 := by omega
    have e : cutA s = s.extract 0 i ∧ cutB s = s.extract (i + 1) s.size ∧ cutM s = true := by simp [cutA, cutB, cutM, h1, hne2]
    rw [e.1, e.2.1, e.2.2, h3]
    have hr := ext_rest s (i + 1)
    have hl : (s.extract (i + 1) s.size).size = s.size - (i + 1) := by
      rw [← bs_len, hr, List.length_drop, bs_len]
    rw [bs_len] at h2
    refine ⟨?_, fun _ => by omega, ext_size _ _ _, ext_size _ _ _⟩
    rw [if_pos rfl, hr, bs_ext, List.drop_zero]

theorem wsE_app : ∀ (a b : List (List UInt8)), wsE a = 0 → wsE (a ++ b) = wsE b
  | [], _, _ => rfl
  | w :: r, b, h => by
    unfold wsE at h
    split at h
    · rename_i h2; exact absurd h h2
    · rename_i h2
      have : wsE ((w :: r) ++ b) = wsE (r ++ b) := by
        show wsE (w :: (r ++ b)) = _
        rw [wsE, if_neg h2]
      rw [this, wsE_app r b h]
theorem wsE_one {w : List UInt8} (h : partE w = 0) : wsE [w] = 0 := by simp [wsE, h]
theorem wsE_bad {w : List UInt8} {r : List (List UInt8)} (h : partE w ≠ 0) : wsE (w :: r) = partE w := by rw [wsE, if_pos h]

/-- What Parse leaves. -/
def ParPost (s : List UInt8) (w : World) (e : Ending) (W' : World) : Prop :=
  ∃ a cap, e = .returned (.tuple #[.slice a (paL s).length cap, .int .i64 (paE s)]) ∧ Below w.heap.size w W' ∧ Prs W'.heap.size W' a (paL s)
theorem ParPost.bad {s : List UInt8} {w W' : World} {x : Int} (h : paE s = x) (hx : x ≠ 0) (hb : Below w.heap.size w W') : ParPost s w (.returned (.tuple #[.slice none 0 0, .int .i64 x])) W' := by
  have h1 := paL_err (s := s) (by rw [h]; exact hx)
  exact ⟨none, 0, by rw [h1, h]; rfl, hb, by rw [h1]; exact Prs.nil _ _ _⟩

/-- The parts that are kept. -/
def kept (ws : List (List UInt8)) : List (Int × Int) := (wsV ws).take 257
theorem kept_len (ws : List (List UInt8)) : (kept ws).length ≤ 257 ∧ (kept ws).length ≤ ws.length := by
  unfold kept wsV
  simp
  omega
theorem kept_more {ws : List (List UInt8)} (w : List UInt8) (h : (kept ws).length ≤ 256) : kept (ws ++ [w]) = kept ws ++ [partV w] := by
  unfold kept wsV at h ⊢
  simp at h
  rw [List.map_append, List.take_append]
  have h2 : ws.length ≤ 256 := by omega
  rw [List.map_singleton, List.length_map, List.take_of_length_le (l := [partV w]) (by simp; omega)]
theorem kept_full {ws : List (List UInt8)} (w : List UInt8) (h : ¬ (kept ws).length ≤ 256) : kept (ws ++ [w]) = kept ws := by
  unfold kept wsV at h ⊢
  simp at h
  rw [List.map_append, List.take_append, List.length_map, Nat.sub_eq_zero_of_le (by omega), List.take_zero, List.append_nil]

/-- How far the loop has to go. -/
def msr (s0 s5 : Value) : Nat :=
  match s0, s5 with
  | .string b, .bool true => b.size + 1
  | _, _ => 0
/-- At the head of Parse's loop. -/
def RelPa (w : World) (S : List UInt8) (s0 s4 s5 : Value) (wr : World) : Prop :=
  ∃ (done : List (List UInt8)) (cur : ByteArray) (more : Bool), s0 = .string cur ∧ s5 = .bool more ∧ spl S = done ++ (if more = true then spl (bs cur) else []) ∧ wsE done = 0 ∧
    cur.size ≤ 100000 ∧ wr.ownsRow w.heap.size 47 2 s4 (kept done).length (fcl (kept done)) ∧ (∃ a l c, s4 = .slice a l c) ∧ Below w.heap.size w wr

set_option maxRecDepth 100000 in
set_option maxHeartbeats 4000000 in
theorem parse_any (s : ByteArray) (w : World) (hK : KD w) (hs : s.size ≤ 100000) : Calls Tryd.prog 18 #[.string s] w (ParPost (bs s) w) := by
  obtain ⟨i0, hi, hz0, hz1, hz2⟩ := info_parts info47
  go_enter Tryd.func18, Tryd.ntmps18
  go_wp2
  go_loopw [0, 4, 5] (RelPa w (bs s)) (fun s0 _ s5 _ => msr s0 s5)
  case atStart => exact ⟨[], s, true, rfl, rfl, by simp, rfl, hs, World.ownsRow_nil _ _ _ _, ⟨_, _, _, rfl⟩, Below.refl _ _⟩
  case round =>
    obtain ⟨done, cur, more, rfl, rfl, hsp, hok, hcs, ho, _, hb⟩ := hrel
    obtain ⟨av, cv, rfl, _⟩ := owns_slice ho
    have hkl := kept_len done
    cases more with
    | true =>
      rw [if_pos rfl] at hsp
      obtain ⟨q1, q2, q3, q4⟩ := cut_spl cur
      rw [q1] at hsp
      have HR := Lib.hid (And.intro hsp (And.intro hok (And.intro ho (And.intro q2 hb))))
      have hKr := hK.next hb
      have hsz := hb.size
      clear hsp hok ho q1 q2 hb
      go_wp2_with fail
      refine (cut_any cur wr hcs).mono ?_
      rintro e w1 ⟨rfl, n1, rfl⟩
      generalize hAE : cutA cur = A at *
      generalize hBE : cutB cur = B at *
      generalize hME : cutM cur = M at *
      clear hAE hBE hME
      go_wp2_with fail
      refine (part_any A _ (show KD (wr.drewN n1) from hKr) (by omega)).mono ?_
      rintro e w2 ⟨rfl, hb2⟩
      have hb0 := belN HR.out.2.2.2.2 n1
      have hB2 := hb0.trans (hb2.mono hb0.size)
      have ho2 : w2.ownsRow w.heap.size 47 2 (.slice av (kept done).length cv) (kept done).length (fcl (kept done)) := by
        have h := HR.out.2.2.1
        refine ⟨h.1, ?_⟩
        rcases h.2 with hn | ⟨g, cap, cur', hv, hb', hg, rest⟩
        · exact .inl hn
        · exact .inr ⟨g, cap, cur', hv, hb', (hb2.block g (Array.getElem?_eq_some_iff.1 hg).1).trans hg, rest⟩
      have HO := Lib.hid (And.intro hB2 ho2)
      clear hb0 hB2 ho2 hb2 hKr
      have hsp := HR.out.1
      have hok := HR.out.2.1
      have hsm := HR.out.2.2.2.1
      obtain ⟨a', hA⟩ : ∃ a', bs A = a' := ⟨_, rfl⟩
      rw [hA] at hsp ⊢
      by_cases hp : partE a' = 0
      · have HP := Lib.hid (And.intro hsp (And.intro hok (And.intro hsm hp)))
        rw [hp]
        obtain ⟨⟨pk, pn⟩, hpv⟩ : ∃ p, partV a' = p := ⟨_, rfl⟩
        rw [hpv]
        have Hpv := Lib.hid hpv
        clear hsp hok hsm hp hpv HR
        have hsz2 := HO.out.1.size
        have hml : (kept done).length + 1 ≤ maxLen := by
          have : 400 ≤ maxLen := by decide
          omega
        have hke : kept (done ++ [a']) = if (kept done).length ≤ 256 then kept done ++ [(pk, pn)] else kept done := by
          split
          · rename_i h
            rw [kept_more a' h, Hpv.out]
          · rename_i h
            rw [kept_full a' h]
        have hnext : spl (bs s) = (done ++ [a']) ++ (if M = true then spl (bs B) else []) ∧ wsE (done ++ [a']) = 0 := by
          refine ⟨by rw [HP.out.1]; simp, ?_⟩
          rw [wsE_app _ _ HP.out.2.1]
          exact wsE_one HP.out.2.2.2
        have Hn := Lib.hid (And.intro hnext hke)
        clear hnext hke
        have hmsr : msr (.string B) (.bool M) < cur.size + 1 := by
          cases M with
          | true =>
            have := HP.out.2.2.1 rfl
            show B.size + 1 < cur.size + 1
            omega
          | false => show 0 < _; omega
        have Hm := Lib.hid hmsr
        clear hmsr
        generalize hkE : (kept done).length = kl at *
        have HkE := Lib.hid hkE
        clear hkE
        by_cases hcap : kl ≤ 256
        · have hcd : decide ((kl : Int) ≤ 256) = true := decide_eq_true (by omega)
          go_wp2_with (at_builtin; refine wpList_append_own _ rfl _ _ 22 rfl w.heap.size 47 i0 (.agg #[.int .i64 0, .int .i64 0]) 2 16 Tryd.underlying22 hi hz0 hz1 hz2 rfl (by decide) (.slice av kl cv) kl (fcl (kept done)) rfl ((HO.out.2.alloc _).alloc _) ⟨w2.heap.size + 1, 0, none⟩ 1 1 (fcells pk pn) rfl rfl (by intro j u hj; have := cell_two_new (w2.alloc (.cells #[.int .i64 pk, .int .i64 pn] 47)) (.int .i64 pk) (.int .i64 pn) 47 j u hj; rw [World.size_alloc] at this; exact this) (by simp [Value.oneCell']) hml (by omega) (by simp; omega) ?_; intro v' w1 hown' hgrow _; obtain ⟨g', cap', rfl⟩ := ownsRow_succ hown'; have hb1 : Below w.heap.size w w1 := ((HO.out.1.alloc HO.out.1.size _).alloc (by simp; omega) _).grown hgrow (by simp; omega) (fun q e => (HO.out.2.lt q e).1); clear hgrow)
          go_roundw
          case rel =>
            have hk2 : kept (done ++ [a']) = kept done ++ [(pk, pn)] := by rw [Hn.out.2, if_pos hcap]
            refine ⟨done ++ [a'], B, M, rfl, rfl, Hn.out.1.1, Hn.out.1.2, by omega, ?_, ⟨_, _, _, rfl⟩, hb1⟩
            rw [hk2, fcl_snoc, List.length_append, HkE.out]
            exact hown'
          case measure => exact Hm.out
        · have hcd : decide ((kl : Int) ≤ 256) = false := decide_eq_false (by omega)
          go_wp2
          go_roundw
          case rel =>
            have hk2 : kept (done ++ [a']) = kept done := by rw [Hn.out.2, if_neg hcap]
            refine ⟨done ++ [a'], B, M, rfl, rfl, Hn.out.1.1, Hn.out.1.2, by omega, ?_, ⟨_, _, _, rfl⟩, HO.out.1.alloc HO.out.1.size _⟩
            rw [hk2, HkE.out]
            exact HO.out.2.alloc _
          case measure => exact Hm.out
      · have hfin : paE (bs s) = partE a' := by
          have h1 : wsE (spl (bs s)) = partE a' := by rw [hsp, wsE_app _ _ hok, wsE_bad hp]
          rw [paE_ws (by rw [h1]; exact hp), h1]
        have Hf := Lib.hid (And.intro hfin hp)
        have hp' : (partE a' != 0) = true := by simpa using hp
        clear hfin hp hsp hok hsm HR
        generalize partE a' = er at *
        generalize partV a' = pv at *
        obtain ⟨pk, pn⟩ := pv
        go_wp2
        go_ret2
        exact ParPost.bad Hf.out.1 Hf.out.2 (HO.out.1.alloc HO.out.1.size _)
    | false =>
      rw [if_neg (by simp), List.append_nil] at hsp
      obtain ⟨a9, c9, hv9, hpr⟩ := owns_prs ho
      cases hv9
      have hE : paE (bs s) = plErr (kept done) := by
        rw [paE_pl (by rw [hsp]; exact hok), hsp]
        exact (plErr_cap _).symm
      have hL : plErr (kept done) = 0 → paL (bs s) = kept done := fun h0 => by
        rw [paL_ok (by rw [hE]; exact h0), hsp]
        have h2 := plErr_all h0
        unfold kept at h2 ⊢
        rw [List.length_take] at h2
        rw [List.take_of_length_le (by omega)]
      have HE := Lib.hid (And.intro hE hL)
      have hKr := hK.next hb
      clear hsp hok hE hL ho
      go_wp2_with fail
      refine (check_any _ _ _ (kept done) wr rfl hpr hKr).mono ?_
      rintro e w1 ⟨rfl, hb1⟩
      have hB1 := hb.trans (hb1.mono hb.size)
      have hP1 := hpr.next hb1
      by_cases h0 : plErr (kept done) = 0
      · rw [h0]
        go_wp2
        go_ret2
        refine ⟨av, cv, ?_, hB1, ?_⟩
        · rw [HE.out.2 h0, HE.out.1, h0]
          rfl
        · rw [HE.out.2 h0]
          exact hP1
      · have h0' : (plErr (kept done) != 0) = true := by simpa using h0
        have H0 := Lib.hid h0
        clear h0
        generalize plErr (kept done) = er at *
        go_wp2
        go_ret2
        exact ParPost.bad HE.out.1 H0.out hB1
end Go.Proofs.YtenbbnmhgpclkaaDoor
