/- WriteNil: its walk. -/
import Derived.Test.YtbfelghfimcenaaNilM
namespace Go.Proofs.Ytbfelghfimcenaa
open Go.RowKit
/-- What holds at the head of the loop. -/
def NlRel (w : World) (p gp c cg : Nat) (n : Nat) (ws : List Int) (i : Value) (wr : World) : Prop :=
  ∃ (k : Nat) (x : St) (xs : List Int) (t : Int), i = .int .i64 k ∧ NilInv n ws k x xs ∧ OpAt wr p gp (nlS ws.length) ws x ∧ Bk wr c cg xs t ∧ Wf (nlS ws.length) ws x ∧ 0 ≤ t ∧ t ≤ k ∧ Below w.heap.size w wr

set_option maxRecDepth 100000 in
theorem max_any (hv : Int) (w : World) : (Builtin.max_ #[3, 3] 3 #[.int .i64 0, .int .i64 hv]).run Try.prog w = .ok (.int .i64 (max 0 hv)) w := by
  have u3 := Try.underlying3
  have a3 := Try.isAgg3
  go_simp
theorem max_pos (hv : Int) (h : 0 ≤ hv) (w : World) : (Builtin.max_ #[3, 3] 3 #[.int .i64 0, .int .i64 hv]).run Try.prog w = .ok (.int .i64 hv) w := by rw [max_any, show max 0 hv = hv by omega]
theorem max_neg (hv : Int) (h : hv < 0) (w : World) : (Builtin.max_ #[3, 3] 3 #[.int .i64 0, .int .i64 hv]).run Try.prog w = .ok (.int .i64 0) w := by rw [max_any, show max 0 hv = 0 by omega]
set_option maxRecDepth 100000 in
set_option maxHeartbeats 2000000 in
theorem nil_bad (a : Option Addr) (ws : List Int) (cap : Nat) (n : Int) (w : World) (h : ¬ (1 ≤ ws.length ∧ ws.length ≤ 64 ∧ 1 ≤ n ∧ n ≤ 200)) : Calls Try.prog 7 #[.slice a ws.length cap, .int .i64 n] w (True1 w) := by
  have key : (ws.length : Int) < 1 ∨ (1 ≤ (ws.length : Int) ∧ 64 < (ws.length : Int)) ∨ (1 ≤ (ws.length : Int) ∧ (ws.length : Int) ≤ 64 ∧ n < 1) ∨ (1 ≤ (ws.length : Int) ∧ (ws.length : Int) ≤ 64 ∧ 1 ≤ n ∧ 200 < n) := by omega
  clear h
  generalize ws.length = l at *
  rcases key with k | ⟨k1, k2⟩ | ⟨k1, k2, k3⟩ | ⟨k1, k2, k3, k4⟩
  all_goals
    go_enter Try.func7, Try.ntmps7
    go_wp2_with fail
    refine (new_ok 4 w (by omega) (by omega)).mono ?_
    rintro e w1 ⟨b, bg, hb, hg, rfl, hk1, hu1⟩
    go_wp2_with fail
    refine (step_nil _ _).mono ?_
    rintro e w' ⟨rfl, rfl⟩
    go_wp2_with fail
    refine (gen_nil _).mono ?_
    rintro e w' ⟨rfl, rfl⟩
    go_wp2_with fail
    refine (steps_nil _).mono ?_
    rintro e w' ⟨rfl, rfl⟩
    go_wp2_with fail
    refine (awake_any _).mono ?_
    rintro e w2 ⟨rfl, hu2⟩
    go_wp2
    go_ret
    exact ⟨rfl, hu1.trans (hu2.mono hu1.size)⟩

set_option maxRecDepth 100000 in
set_option maxHeartbeats 2000000 in
theorem nil_walk (a : Option Addr) (ws : List Int) (cap : Nat) (n : Nat) (w : World) (hW : Wds w.heap.size w a ws) (h1 : 1 ≤ ws.length) (h2 : ws.length ≤ 64) (h3 : 1 ≤ n) (h4 : n ≤ 200) : Calls Try.prog 7 #[.slice a ws.length cap, .int .i64 (n : Int)] w (True1 w) := by
  have hnw : nwE (nlS ws.length) ws.length 3 = 0 := by
    unfold nwE
    rw [if_pos ((mb_iff _ _).2 ⟨by unfold Rt nlS; simp only; omega, by omega, by omega⟩), if_pos (show (ws.length : Int) = (nlS ws.length).wd from rfl)]
  have Hnw := Lib.hid hnw
  have hwf := wf0 hnw hW.us
  have Hwf := Lib.hid hwf
  have HW := Lib.hid hW
  have H12 := Lib.hid (And.intro h1 h2)
  have k1 : 1 ≤ (ws.length : Int) := by omega
  have k2 : (ws.length : Int) ≤ 64 := by omega
  have k3 : 1 ≤ (n : Int) := by omega
  have k4 : (n : Int) ≤ 200 := by omega
  clear hnw hwf hW h1 h2
  go_enter Try.func7, Try.ntmps7
  go_wp2_with fail
  refine (new_ok 4 w (by omega) (by omega)).mono ?_
  rintro e w1 ⟨b, bg, hb, hg, rfl, hk1, hu1⟩
  clear hk1 hb hg
  go_wp2_with fail
  refine (step_nil _ _).mono ?_
  rintro e w' ⟨rfl, rfl⟩
  go_wp2_with fail
  refine (gen_nil _).mono ?_
  rintro e w' ⟨rfl, rfl⟩
  go_wp2_with fail
  refine (steps_nil _).mono ?_
  rintro e w' ⟨rfl, rfl⟩
  have hu2 := hu1.alloc hu1.size (.cells #[.int .i64 0, .int .i64 1, .int .i64 2, .int .i64 ws.length, .int .i64 2] 23)
  have hsp := Blk.new w1 #[.int .i64 0, .int .i64 1, .int .i64 2, .int .i64 ws.length, .int .i64 2] 23
  have hw2 := HW.out.keep hu2
  have hsz : w1.heap.size < (w1.alloc (.cells #[.int .i64 0, .int .i64 1, .int .i64 2, .int .i64 ws.length, .int .i64 2] 23)).heap.size := by simp
  have H2 := Lib.hid (And.intro hu2 (And.intro hsp (And.intro hw2 hsz)))
  have hs1 := hu1.size
  clear hu2 hsp hw2 hsz hu1
  go_wp2_with fail
  generalize w1.alloc (.cells #[.int .i64 0, .int .i64 1, .int .i64 2, .int .i64 ws.length, .int .i64 2] 23) = w2 at H2 ⊢
  generalize w1.heap.size = sp at *
  have hN : ∀ w', Wds w.heap.size w' a ws → w.heap.size ≤ w'.heap.size → Calls Try.prog 11 #[.agg #[.int .i64 0, .int .i64 1, .int .i64 2, .int .i64 ws.length, .int .i64 2], .slice a ws.length cap, .int .i64 3] w' (NewOp (nlS ws.length) ws 3 w') :=
    fun w' hh hs => newo_ok (nlS ws.length) a ws cap 3 w' w.heap.size hs hh Hnw.out
  have HN := Lib.hid hN
  clear hN
  refine (HN.out _ H2.out.2.2.1 H2.out.1.size).mono ?_
  rintro e w3 ⟨o, go, ho, hgo, rfl, hO3, hb3⟩
  obtain ⟨hu2, hsp2, hW2, hsz⟩ := H2.out
  have hu3 := hu2.trans (hb3.mono hu2.size)
  have hsp3 := hsp2.low hb3
  have hO' : sp < o ∧ sp < go ∧ w.heap.size ≤ o ∧ w.heap.size ≤ go := by have := hu2.size; omega
  have c0 := hsp3.cell (i := 0) rfl
  have c1 := hsp3.cell (i := 1) rfl
  have c2 := hsp3.cell (i := 2) rfl
  have c3 := hsp3.cell (i := 3) rfl
  have c4 := hsp3.cell (i := 4) rfl
  have H3 := Lib.hid (And.intro hu3 (And.intro hO3 (And.intro (HW.out.keep hu3) hO')))
  clear H2 hu2 hsp2 hW2 hsz hb3 hsp3 hO' ho hgo hu3 hO3
  go_wp2_with fail
  clear c0 c1 c2 c3 c4
  refine (HN.out _ H3.out.2.2.1 H3.out.1.size).mono ?_
  rintro e w4 ⟨p, gp, hp, hgp, rfl, hP4, hb4⟩
  obtain ⟨hu3, hO3, _, hO'⟩ := H3.out
  have hu4 := hu3.trans (hb4.mono hu3.size)
  have hO4 := hO3.below hb4
  have l1 := hO3.lto
  have l2 := hO3.ltg
  have H4 := Lib.hid (And.intro hu4 (And.intro hO4 (And.intro hP4 (show w.heap.size ≤ o ∧ w.heap.size ≤ go ∧ w.heap.size ≤ p ∧ w.heap.size ≤ gp ∧ o < p ∧ o < gp ∧ go < p ∧ go < gp by have := hu3.size; omega))))
  clear H3 hu3 hO3 hO' hu4 hO4 hP4 hp hgp l1 l2 hb4 HN
  go_wp2_with fail
  refine (new_ok n _ h3 (by omega)).mono ?_
  rintro e w5 ⟨c, cg, hc, hcg, rfl, hC5, hb5⟩
  obtain ⟨hu4, hO4, hP4, q1, q2, q3, q4, q5, q6, q7, q8⟩ := H4.out
  have hu5 := hu4.trans (hb5.mono hu4.size)
  have hO5 := hO4.below hb5
  have hP5 := hP4.below hb5
  have l1 := hO4.lto
  have l2 := hO4.ltg
  have l3 := hP4.lto
  have l4 := hP4.ltg
  have d : o ≠ c ∧ o ≠ cg ∧ go ≠ c ∧ go ≠ cg ∧ p ≠ c ∧ p ≠ cg ∧ gp ≠ c ∧ gp ≠ cg ∧ p ≠ o ∧ gp ≠ o ∧ w.heap.size ≤ c ∧ w.heap.size ≤ cg ∧ w.heap.size ≤ o ∧ w.heap.size ≤ p := by have := hu4.size; omega
  have H5 := Lib.hid (And.intro hu5 (And.intro hO5 (And.intro hP5 (And.intro hC5 d))))
  clear H4 hu4 hO4 hP4 q1 q2 q3 q4 q5 q6 q7 q8 hu5 hO5 hP5 l1 l2 l3 l4 d hc hcg hC5 hb5
  go_wp2_with fail
  refine (step_look_nil H5.out.2.1 rfl rfl).mono ?_
  rintro e w6 ⟨rfl, hO6, hu6⟩
  obtain ⟨hu5, hO5, hP5, hC5, d1, d2, d3, d4, d5, d6, d7, d8, d9, d10, d11, d12, d13, d14⟩ := H5.out
  have nO : ∀ k, k ≠ o → ¬ OwnS o o o k := fun k hk q => by rcases q with q | q | q <;> exact hk q
  have hP6 := hP5.upd hu6 (nO _ d9) (nO _ d10)
  have hC6 := hC5.upd hu6 (nO _ d1.symm) (nO _ d2.symm)
  have hu7 := Below.ownS hu5 hu6 hu5.size d13 d13 d13
  have H6 := Lib.hid (And.intro hu7 (And.intro hO6 (And.intro hP6 (And.intro hC6 (show p ≠ c ∧ p ≠ cg ∧ gp ≠ c ∧ gp ≠ cg ∧ w.heap.size ≤ c ∧ w.heap.size ≤ cg ∧ w.heap.size ≤ p from ⟨d5, d6, d7, d8, d11, d12, d14⟩)))))
  clear H5 hu5 hO5 hP5 hC5 d1 d2 d3 d4 d5 d6 d7 d8 d9 d10 d11 d12 d13 d14 nO hP6 hC6 hu7 hO6 hu6
  go_wp2_with fail
  refine (step_ended H6.out.2.1 _ (by show ¬ (3 : Int) = 0; omega)).mono ?_
  rintro e w7 ⟨rfl, rfl⟩
  go_wp2_with fail
  refine (steps_any H6.out.2.1).mono ?_
  rintro e w7 ⟨rfl, rfl⟩
  go_wp2_with fail
  refine (touches_any c cg _ _ _ H6.out.2.2.2.1).mono ?_
  rintro e w7 ⟨rfl, rfl⟩
  obtain ⟨hu6, _, hP6, hC6, d1, d2, d3, d4, d5, d6, d7⟩ := H6.out
  clear H6
  go_wp2_with fail
  go_loopw [15] (fun i wr => NlRel w p gp c cg n ws i wr) (fun i _ => 100 - (intOf i).toNat)
  case atStart => exact ⟨0, _, _, 0, rfl, ⟨by simp, by omega, .inl ⟨rfl, rfl, rfl⟩⟩, hP6, hC6, Hwf.out, by omega, by omega, hu6⟩
  case round =>
    clear hP6 hC6 hu6
    obtain ⟨k, x, xs, t, rfl, hI, hO1, hK1, hwf, t0, t1, hu⟩ := hrel
    have hk := hI.2.1
    have hk2 : k ≤ 66 := by have := H12.out; omega
    have hsteps : 0 ≤ x.steps ∧ x.steps ≤ 1000000 := by
      obtain ⟨_, _, ⟨_, rfl, _⟩ | ⟨_, _, rfl, _⟩ | ⟨j, _, _, hj, _, rfl, _⟩⟩ := hI
      · exact ⟨by show (0 : Int) ≤ 0; omega, by show (0 : Int) ≤ 1000000; omega⟩
      · exact ⟨by show (0 : Int) ≤ 1; omega, by show (1 : Int) ≤ 1000000; omega⟩
      · exact ⟨by show (0 : Int) ≤ 2 + j; omega, by show (2 : Int) + j ≤ 1000000; omega⟩
    have hst := step_any hO1 hK1 d1 d2 d3 d4 hwf (by omega) (by omega) hsteps.1 hsteps.2
    obtain ⟨s1, s2, s3⟩ := steps_stp (nlS ws.length) ws xs x
    have hns := nil_step h3 H12.out.1 H12.out.2 hI
    have hwf2 := wf_stp hwf hK1.rng
    generalize stp (nlS ws.length) ws xs x = r at *
    have Hst := Lib.hid hst
    have Hu := Lib.hid hu
    have Hwf2 := Lib.hid hwf2
    have Hs := Lib.hid (And.intro s2 s3)
    clear hst hO1 hK1 hu hwf hwf2 hI s1 s2 s3 hsteps
    have k100 : (k : Int) < 100 := by omega
    rcases hns with ⟨hh, hn2⟩ | ⟨hh, hE⟩
    · have Hn2 := Lib.hid hn2
      have Hh := Lib.hid hh
      clear hn2 hh
      go_wp2_with fail
      refine Hst.out.mono ?_
      rintro e w8 ⟨rfl, hO2, hK2, hu2⟩
      rw [Hh.out]
      have hu5 := Below.ownS Hu.out hu2 Hu.out.size d7 d5 d6
      clear hu2 Hst
      go_wp2_with fail
      go_roundw
      case rel => exact ⟨k + 1, _, _, _, by go_num, Hn2.out, hO2, hK2, Hwf2.out, by have := Hs.out; omega, by have := Hs.out; omega, hu5⟩
      case measure => simp [intOf]; omega
    · have HE := Lib.hid (And.intro hE hh)
      have m0 : (r.1.how == 0) = false := by simpa using hh
      clear hE hh
      go_wp2_with fail
      refine Hst.out.mono ?_
      rintro e w8 ⟨rfl, hO2, hK2, hu2⟩
      have hu5 := Below.ownS Hu.out hu2 Hu.out.size d7 d5 d6
      have H8 := Lib.hid (And.intro hO2 (And.intro hK2 hu5))
      clear hu2 Hst hO2 hK2 hu5 Hu
      rcases HE.out.1 with ⟨e1, e2, e3⟩ | ⟨e1, e2, e3, e4⟩ | ⟨e1, e2, e3, e4, e5⟩
      · have Hst2 := Lib.hid (step_ended H8.out.1 (.pointer (some ⟨c, 0, none⟩)) HE.out.2)
        have Hps := Lib.hid (steps_any H8.out.1)
        rw [e2] at Hst2
        rw [e3] at Hps
        have m1 : (n : Int) < 2 := by omega
        rw [e2]
        clear HE e1 e2 e3 m0
        go_wp2_with fail
        refine Hst2.out.mono ?_
        rintro e w9 ⟨rfl, rfl⟩
        go_wp2_with fail
        refine Hps.out.mono ?_
        rintro e w9 ⟨rfl, rfl⟩
        go_wp2_with fail
        refine (awake_any _).mono ?_
        rintro e w9 ⟨rfl, hb9⟩
        have H9 := Lib.hid (H8.out.2.2.trans (hb9.mono H8.out.2.2.size))
        clear hb9
        go_wp2
        go_ret
        exact ⟨rfl, H9.out⟩
      · have Hst2 := Lib.hid (step_ended H8.out.1 (.pointer (some ⟨c, 0, none⟩)) HE.out.2)
        have Hgn := Lib.hid (gen_any H8.out.1 Hwf2.out.s)
        rw [e3] at Hst2
        rw [if_pos e3, e4] at Hgn
        have m1 : (2 : Int) ≤ n := by omega
        have m2 : (ws.length : Int) ≤ (n : Int) - 2 - ws.length := by omega
        rw [e3]
        clear HE e1 e2 e3 e4 m0
        go_wp2_with fail
        refine Hst2.out.mono ?_
        rintro e w9 ⟨rfl, rfl⟩
        go_wp2_with fail
        refine Hgn.out.mono ?_
        rintro e w9 ⟨rfl, rfl⟩
        go_wp2_with fail
        refine (awake_any _).mono ?_
        rintro e w9 ⟨rfl, hb9⟩
        have H9 := Lib.hid (H8.out.2.2.trans (hb9.mono H8.out.2.2.size))
        clear hb9
        go_wp2
        go_ret
        exact ⟨rfl, H9.out⟩
      · have Hst2 := Lib.hid (step_ended H8.out.1 (.pointer (some ⟨c, 0, none⟩)) HE.out.2)
        have Hgn := Lib.hid (gen_any H8.out.1 Hwf2.out.s)
        have Hps := Lib.hid (steps_any H8.out.1)
        have Hpk := Lib.hid (peek_in c cg _ _ 1 1 _ H8.out.2.1 e5)
        rw [e3] at Hst2
        rw [if_neg (by rw [e3]; omega)] at Hgn
        rw [e4] at Hps
        have m1 : (2 : Int) ≤ n := by omega
        have m2 : (n : Int) - 2 - ws.length < ws.length := by omega
        rw [e3]
        clear HE e1 e2 e3 e4 e5 m0
        by_cases m3 : 0 ≤ (n : Int) - 2 - ws.length
        · rw [show max 0 ((n : Int) - 2 - ws.length) = (n : Int) - 2 - ws.length by omega] at Hps
          go_wp2_with fail
          refine Hst2.out.mono ?_
          rintro e w9 ⟨rfl, rfl⟩
          generalize hq : (n : Int) - 2 - ws.length = hv at *
          have Hq := Lib.hid (show -100 ≤ hv ∧ hv ≤ 200 by omega)
          obtain ⟨m4, m5⟩ := Hq.out
          clear hq
          have mx := max_pos hv m3
          go_wp2_with fail
          refine Hgn.out.mono ?_
          rintro e w9 ⟨rfl, rfl⟩
          go_wp2_with fail
          refine Hps.out.mono ?_
          rintro e w9 ⟨rfl, rfl⟩
          go_wp2_with fail
          refine Hpk.out.mono ?_
          rintro e w10 ⟨rfl, _, hb10⟩
          have H10 := Lib.hid (H8.out.2.2.trans (hb10.mono H8.out.2.2.size))
          clear hb10
          go_wp2_with fail
          refine (awake_any _).mono ?_
          rintro e w9 ⟨rfl, hb9⟩
          have H9 := Lib.hid (H10.out.trans (hb9.mono H10.out.size))
          clear hb9
          go_wp2
          go_ret
          exact ⟨rfl, H9.out⟩
        · rw [show max 0 ((n : Int) - 2 - ws.length) = 0 by omega] at Hps
          go_wp2_with fail
          refine Hst2.out.mono ?_
          rintro e w9 ⟨rfl, rfl⟩
          generalize hq : (n : Int) - 2 - ws.length = hv at *
          have Hq := Lib.hid (show -100 ≤ hv ∧ hv ≤ 200 by omega)
          obtain ⟨m4, m5⟩ := Hq.out
          clear hq
          have mx := max_neg hv (by omega)
          go_wp2_with fail
          refine Hgn.out.mono ?_
          rintro e w9 ⟨rfl, rfl⟩
          go_wp2_with fail
          refine Hps.out.mono ?_
          rintro e w9 ⟨rfl, rfl⟩
          go_wp2_with fail
          refine Hpk.out.mono ?_
          rintro e w10 ⟨rfl, _, hb10⟩
          have H10 := Lib.hid (H8.out.2.2.trans (hb10.mono H8.out.2.2.size))
          clear hb10
          go_wp2_with fail
          refine (awake_any _).mono ?_
          rintro e w9 ⟨rfl, hb9⟩
          have H9 := Lib.hid (H10.out.trans (hb9.mono H10.out.size))
          clear hb9
          go_wp2
          go_ret
          exact ⟨rfl, H9.out⟩
theorem nil_law (a : Option Addr) (ws : List Int) (cap : Nat) (n : Int) (w : World) (hW : Wds w.heap.size w a ws) : Calls Try.prog 7 #[.slice a ws.length cap, .int .i64 n] w (True1 w) := by
  by_cases h : 1 ≤ ws.length ∧ ws.length ≤ 64 ∧ 1 ≤ n ∧ n ≤ 200
  · obtain ⟨h1, h2, h3, h4⟩ := h
    obtain ⟨k, rfl⟩ := Int.eq_ofNat_of_zero_le (by omega : 0 ≤ n)
    exact nil_walk a ws cap k w hW h1 h2 (by omega) (by omega)
  · exact nil_bad a ws cap n w h
end Go.Proofs.Ytbfelghfimcenaa
