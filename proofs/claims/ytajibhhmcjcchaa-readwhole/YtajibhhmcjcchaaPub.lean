/- publish: a record published to its end. -/
import Derived.Test.YtajibhhmcjcchaaLaM
namespace Go.Proofs.Ytajibhhmcjcchaa
open Go.RowKit

abbrev bs (n d : Int) : Obj := .cells #[.int .i64 0, .int .i64 1, .int .i64 2, .int .i64 n, .int .i64 d] 23
/-- What comes of it. -/
def PubPost (b bg n d k : Nat) (ws xs : List Int) (t : Int) (w : World) (e : Ending) (w' : World) : Prop :=
  ∃ zs : List Int, e = .returned (.bool true) ∧ Bk w' b bg zs (t + n + 3) ∧ zs.length = xs.length ∧ zs[0]? = xs[0]? ∧ zs[1]? = some (2 * (k : Int) + 2) ∧ Laid (plc n d k) n ws xs zs ∧ Upd (Own b bg) w w'
/-- The loop's head. -/
def PuRel (w : World) (b bg o g n d k : Nat) (ws xs : List Int) (t : Int) (i : Value) (wr : World) : Prop :=
  ∃ (j : Nat) (x : St) (zs : List Int), i = .int .i64 j ∧ j ≤ n + 3 ∧ AlInv n d k ws xs j x zs ∧ OpAt wr o g (spS n d) ws x ∧ Bk wr b bg zs (t + j) ∧ Wf (spS n d) ws x ∧ x.steps = j ∧ Upd (Own b bg) w wr
theorem upd_own {o b bg : Nat} {w A B : World} (h : Upd (Own b bg) w A) (u : Upd (OwnS o b bg) A B) (ho : w.heap.size ≤ o) : Upd (Own b bg) w B :=
  ⟨u.os.trans h.os, u.tape.trans h.tape, u.output.trans h.output, Nat.le_trans h.size u.size, fun i hi hn => (u.block i (Nat.lt_of_lt_of_le hi h.size) (fun q => by
    rcases q with q | q
    · omega
    · exact hn q)).trans (h.block i hi hn)⟩
set_option maxRecDepth 100000 in
set_option maxHeartbeats 1000000 in
theorem publish_any (b bg n d k : Nat) (a : Option Addr) (cap n₀ : Nat) (ws xs : List Int) (t : Int) (w : World) (n1 : 1 ≤ n) (n2 : n ≤ 64) (d1 : 2 ≤ d) (d2 : d ≤ 16) (hk : k ≤ 1000) (hn : ws.length = n)
    (hW : Wds n₀ w a ws) (hn0 : n₀ ≤ w.heap.size) (hB : Bk w b bg xs t) (hxl : xs.length = 2 + n * d) (hx : xs[1]? = some (2 * (k : Int))) (t0 : 0 ≤ t) (t1 : t ≤ 900000) :
    Calls Try.prog 23 #[.pointer (some ⟨b, 0, none⟩), spv 0 1 2 n d, .slice a n cap] w (PubPost b bg n d k ws xs t w) := by
  have hnw : nwE (spS n d) n 1 = 0 := by
    unfold nwE
    rw [if_pos ((mb_iff _ _).2 ⟨by unfold Rt spS; simp only; omega, by omega, by omega⟩), if_pos (show (n : Int) = (spS n d).wd from rfl)]
  have hu0 := (Upd.refl (Own b bg) w).alloc (bs n d)
  have hbl := (Below.refl w.heap.size w).alloc (Nat.le_refl _) (bs n d)
  have HW0 := Lib.hid (hW.keep (hbl.mono hn0))
  have HB0 := Lib.hid (And.intro (hB.alloc (bs n d)) hu0)
  have hs0 : (w.alloc (bs n d)).heap.size = w.heap.size + 1 := by simp
  have lb := (hB.alloc (bs n d)).ltb
  have lg := (hB.alloc (bs n d)).ltg
  have HS0 := Lib.hid (And.intro hs0 (And.intro lb lg))
  have Hwf := Lib.hid (wf0 (S := spS n d) (tr := 1) (by rw [hn]; exact hnw) hW.us)
  have Hnew : Hid (Calls Try.prog 24 #[.agg #[.int .i64 0, .int .i64 1, .int .i64 2, .int .i64 n, .int .i64 d], .slice a n cap, .int .i64 1] (w.alloc (bs n d)) (NewOp (spS n d) ws 1 (w.alloc (bs n d)))) := Lib.hid (by
    have := newo_ok (spS n d) a ws cap 1 (w.alloc (bs n d)) n₀ (by rw [hs0]; omega) (hW.keep (hbl.mono hn0)) (by rw [hn]; exact hnw)
    rw [hn] at this
    exact this)
  have HC := Lib.hid (And.intro hn (And.intro hxl (And.intro hx (And.intro n1 (And.intro n2 (And.intro d1 d2))))))
  have hn64 : (n : Int) ≤ 64 := by omega
  have hsz : w.heap.size < (w.alloc (bs n d)).heap.size := by rw [hs0]; omega
  clear hnw hu0 hbl hW hB hn hxl hx hn0 lb lg hs0 d1 d2 n2 n1 hsz
  unfold spv
  go_enter Try.func23, Try.ntmps23
  go_wp2_with fail
  generalize w.alloc (bs n d) = w0 at *
  refine Hnew.out.mono ?_
  rintro e w1 ⟨o, g, ho, hg, rfl, hO, hu1⟩
  have hk1 := HB0.out.1.below hu1
  have hv1 := HB0.out.2.trans (Upd.of_below (Own b bg) hu1)
  have hq : o ≠ b ∧ o ≠ bg ∧ g ≠ b ∧ g ≠ bg ∧ w.heap.size ≤ o := by
    have := HS0.out
    omega
  have Hq := Lib.hid hq
  clear hq hu1 Hnew HB0 HW0 HS0 ho hg
  go_wp2_with fail
  go_loopw [9] (fun i wr => PuRel w b bg o g n d k ws xs t i wr) (fun i _ => n + 3 - (intOf i).toNat)
  case atStart => exact ⟨0, st0 1, xs, rfl, by omega, ⟨rfl, rfl, .inl ⟨rfl, rfl, rfl⟩⟩, hO, (by rw [show ((0 : Nat) : Int) = 0 from rfl, Int.add_zero]; exact hk1), Hwf.out, rfl, hv1⟩
  case round =>
    clear hO hk1 hv1
    obtain ⟨j, x, zs, rfl, hj, hI, hO, hK, hwf, hst, hv⟩ := hrel
    by_cases hlt : (j : Int) < n + 3
    · obtain ⟨hn, hxl, hx, n1, n2, d1, d2⟩ := HC.out
      obtain ⟨hI2, ha, hs2, hh2⟩ := al_step n1 n2 d1 d2 hk hxl hn hx hI (by omega)
      obtain ⟨e1, e2, e3, e4, e5⟩ := Hq.out
      have Hst := Lib.hid (step_any hO hK e1 e2 e3 e4 hwf (by omega) (by omega) (by omega) (by omega))
      have Hwf2 := Lib.hid (wf_stp hwf hK.rng)
      have HI2 := Lib.hid (And.intro hI2 (And.intro ha hs2))
      have Hv := Lib.hid hv
      have hj64 : (j : Int) ≤ 67 := by omega
      clear hI2 ha hs2 hh2 hI hO hK hwf hst hv hn hxl hx n1 n2 d1 d2 e1 e2 e3 e4 e5
      generalize stp (spS n d) ws zs x = r at *
      go_wp2_with fail
      refine Hst.out.mono ?_
      rintro e w2 ⟨rfl, hO2, hK2, hu2⟩
      have hv2 := upd_own Hv.out hu2 Hq.out.2.2.2.2
      obtain ⟨hI2, ha, hs2⟩ := HI2.out
      rw [ha] at hK2
      have HR := Lib.hid (And.intro hI2 (And.intro hO2 (And.intro hK2 (And.intro Hwf2.out (And.intro hs2 hv2)))))
      clear Hst hu2 HI2 hI2 ha hs2 hO2 hK2 hv2 Hwf2 Hv
      go_wp2_with fail
      go_roundw
      case rel =>
        obtain ⟨a1, a2, a3, a4, a5, a6⟩ := HR.out
        exact ⟨j + 1, r.1, r.2.1, by go_num, by omega, a1, a2, (by rw [show ((j + 1 : Nat) : Int) = (j : Int) + 1 by omega, ← Int.add_assoc]; exact a3), a4, by omega, a6⟩
      case measure => simp [intOf]; omega
    · obtain rfl : j = n + 3 := by omega
      obtain ⟨z1, z2, hc⟩ := hI
      obtain ⟨rfl, y1, y2⟩ : x = ⟨1, 3 + n, 1, 3, n, 2 * k⟩ ∧ zs[1]? = some (2 * (k : Int) + 2) ∧ Laid (plc n d k) n ws xs zs := by
        rcases hc with ⟨c, _⟩ | ⟨c, _⟩ | ⟨m, c, c2, _⟩ | ⟨_, c1, c2, c3⟩
        · omega
        · omega
        · omega
        · exact ⟨c1, c2, c3⟩
      have HG := Lib.hid (gen_any hO (by show U64 (2 * (k : Int)); unfold U64; omega))
      have HR := Lib.hid (show ∃ zs : List Int, Bk wr b bg zs (t + n + 3) ∧ zs.length = xs.length ∧ zs[0]? = xs[0]? ∧ zs[1]? = some (2 * (k : Int) + 2) ∧ Laid (plc n d k) n ws xs zs ∧ Upd (Own b bg) w wr from ⟨zs, (by have := hK; rw [show t + ((n + 3 : Nat) : Int) = t + n + 3 by push_cast; omega] at this; exact this), z1, z2, y1, y2, hv⟩)
      clear hO hK hv hc z1 z2 y1 y2 hwf hst
      simp only [if_true] at HG
      have hk0 : 0 < 2 * (k : Int) / 2 + 1 := by omega
      generalize 2 * (k : Int) / 2 + 1 = G at *
      go_wp2_with fail
      refine HG.out.mono ?_
      rintro e w' ⟨rfl, rfl⟩
      go_wp2
      go_ret
      obtain ⟨zs, hr⟩ := HR.out
      exact ⟨zs, by simp [hk0], hr⟩
end Go.Proofs.Ytajibhhmcjcchaa
