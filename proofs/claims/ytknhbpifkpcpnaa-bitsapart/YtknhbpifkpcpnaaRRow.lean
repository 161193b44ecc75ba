/- The document's answer for rows: its contract. -/
import Derived.Test.YtknhbpifkpcpnaaRow
import Derived.Test.YtknhbpifkpcpnaaRef2
namespace Go.Proofs.Ytknhbpifkpcpnaa
open Go.RowKit Go.Shelf

theorem row_any (a : Option Addr) (len cap : Nat) (zs : List Int) (hlen : len = zs.length) (hl80 : zs.length ≤ 80) (w : World) (hI : Ints w.heap.size w a zs) :
    Calls Try.prog 26 #[.slice a len cap] w (RowPost zs w) :=
  callsIn_wide.1 (row_in Fence.wide 3 trivial trivial trivial rfl (by omega) a len cap zs hlen hl80 w hI)

theorem info25 : (Try.prog.info? 25).map (fun i => (i.zero, i.size, i.bytes)) = some (some (.agg #[.int .i64 0, .int .i64 0]), 2, 16) := by kernel_rfl

/-- What the document's Row leaves. -/
def RRowPost (zs : List Int) (w : World) (e : Ending) (W' : World) : Prop :=
  ∃ v, e = .returned (.tuple #[v, .int .i64 (rowE 0 zs)]) ∧ Below w.heap.size w W' ∧ (rowE 0 zs ≠ 0 → v = .slice none 0 0) ∧
    (rowE 0 zs = 0 → W'.ownsRow w.heap.size 25 2 v (rowF 0 zs).length (fcl (rowF 0 zs)))

/-- At the head of Row's loop. -/
def RelR (w : World) (zs : List Int) (v at_ i : Value) (wr : World) : Prop :=
  ∃ (k : Nat) (t : Int) (pre : List (Int × Int)), k ≤ zs.length ∧ i = .int .i64 k ∧ at_ = .int .i64 t ∧ 0 ≤ t ∧ t ≤ 64 ∧ pre.length = k ∧ rowE 0 zs = rowE t (zs.drop k) ∧ (rowE 0 zs = 0 → rowF 0 zs = pre ++ rowF t (zs.drop k)) ∧
    wr.ownsRow w.heap.size 25 2 v k (fcl pre) ∧ (∃ a l c, v = .slice a l c) ∧ Below w.heap.size w wr

set_option maxHeartbeats 2000000 in
theorem rrow_any (a : Option Addr) (len cap : Nat) (zs : List Int) (hlen : len = zs.length) (hl80 : zs.length ≤ 80) (w : World) (hI : Ints w.heap.size w a zs) :
    Calls Try.prog 27 #[.slice a len cap] w (RRowPost zs w) := by
  obtain ⟨i0, hi, hz0, hz1, hz2⟩ := info_parts info25
  subst hlen
  go_enter Try.func27, Try.ntmps27
  go_wp2
  go_loopw [4, 5, 6] (RelR w zs) (fun _ _ i _ => zs.length - (intOf i).toNat)
  case atStart => exact ⟨0, 0, [], by omega, rfl, rfl, by omega, by omega, rfl, rfl, fun _ => rfl, World.ownsRow_nil _ _ _ _, ⟨_, _, _, rfl⟩, Below.refl _ _⟩
  case round =>
    obtain ⟨k, t, pre, hk, rfl, rfl, ht0, ht64, hpl, he, hf, ho, ⟨av, lv, cv, rfl⟩, hb⟩ := hrel
    have HH := Lib.hid (And.intro hpl (And.intro he (And.intro hf ho)))
    clear hpl he hf ho
    by_cases hlt : k < zs.length
    · obtain ⟨z, hz⟩ : ∃ z, zs[k]? = some z := ⟨zs[k], List.getElem?_eq_getElem hlt⟩
      obtain ⟨b, off, rfl, hbl, hcw⟩ := hI k z hz
      have hc : wr.cell? ⟨b, off + k, none⟩ = some (.int .i64 z) := (hb.cell (p := ⟨b, off + k, none⟩) hbl).trans hcw
      have Hcw := Lib.hid hcw
      clear hcw
      have hdr : zs.drop k = z :: zs.drop (k + 1) := by
        rw [List.drop_eq_getElem_cons hlt]
        congr 1
        exact (List.getElem?_eq_some_iff.1 hz).2
      have Hdr := Lib.hid hdr
      clear hdr hz
      have hkl : (k : Int) < zs.length := by omega
      have hw2 : wrap64 ((k : Int) + 1) = (k : Int) + 1 := by unfold wrap64; omega
      by_cases hbad : z < 1 ∨ 64 < z
      · have hfin : rowE 0 zs = 10 := by
          rw [HH.out.2.1, Hdr.out, rowE, if_pos hbad]
        have Hfin := Lib.hid hfin
        clear hfin
        go_wp2
        all_goals
          go_ret2
          exact ⟨_, by rw [Hfin.out]; rfl, hb, fun _ => rfl, fun h => absurd (Hfin.out.symm.trans h) (by decide)⟩
      · have h1z : 1 ≤ z := by omega
        have hz64 : z ≤ 64 := by omega
        have hw3 : wrap64 (t + z) = t + z := by unfold wrap64; omega
        by_cases hlong : 64 < t + z
        · have hfin : rowE 0 zs = 12 := by
            rw [HH.out.2.1, Hdr.out, rowE, if_neg hbad, if_pos (by omega)]
          have Hfin := Lib.hid hfin
          clear hfin hbad
          go_wp2
          go_ret2
          exact ⟨_, by rw [Hfin.out]; rfl, hb, fun _ => rfl, fun h => absurd (Hfin.out.symm.trans h) (by decide)⟩
        · have hfin : rowE 0 zs = rowE (t + z) (zs.drop (k + 1)) ∧ (rowE 0 zs = 0 → rowF 0 zs = (pre ++ [(t, z)]) ++ rowF (t + z) (zs.drop (k + 1))) := by
            refine ⟨by rw [HH.out.2.1, Hdr.out, rowE, if_neg hbad, if_neg (by omega)], fun h => ?_⟩
            rw [HH.out.2.2.1 h, Hdr.out, rowF, if_neg hbad, if_neg (by omega)]
            simp
          have Hfin := Lib.hid hfin
          clear hfin hbad
          have hlong' : t + z ≤ 64 := by omega
          have hs := hb.size
          have hml : k + 1 ≤ maxLen := by
            have : 100 ≤ maxLen := by decide
            omega
          go_wp2_with (first | (refine wpList_append_own _ rfl _ _ 53 rfl w.heap.size 25 i0 (.agg #[.int .i64 0, .int .i64 0]) 2 16 Try.underlying53 hi hz0 hz1 hz2 rfl (by decide) _ _ _ rfl (HH.out.2.2.2.alloc _) ⟨wr.heap.size, 0, none⟩ 1 1 (fcells t z) rfl rfl (cell_two_new _ _ _ _) (by simp [Value.oneCell']) hml (by omega) (by simp; omega) ?_; intro v' w1 hown' hgrow _; obtain ⟨g', cap', rfl⟩ := ownsRow_succ hown'; have hb1 : Below w.heap.size w w1 := (hb.alloc hb.size _).grown hgrow (by simp; omega) (fun q e => (HH.out.2.2.2.lt q e).1); have hc1 : w1.cell? ⟨b, off + k, none⟩ = some (.int .i64 z) := (hb1.cell (p := ⟨b, off + k, none⟩) hbl).trans Hcw.out; clear hgrow))
          go_roundw
          case rel =>
            refine ⟨k + 1, t + z, pre ++ [(t, z)], by omega, by go_num, rfl, by omega, by omega, by simp [HH.out.1], Hfin.out.1, Hfin.out.2, ?_, ⟨_, _, _, rfl⟩, hb1⟩
            rw [fcl_snoc]
            exact hown'
          case measure => simp [intOf]; omega
    · obtain rfl : k = zs.length := by omega
      have hfin : rowE 0 zs = 0 ∧ rowF 0 zs = pre := by
        have h0 : rowE 0 zs = 0 := by rw [HH.out.2.1]; simp [rowE]
        exact ⟨h0, by rw [HH.out.2.2.1 h0]; simp [rowF]⟩
      have Hfin := Lib.hid hfin
      clear hfin
      go_wp2
      go_ret2
      refine ⟨_, by rw [Hfin.out.1]; rfl, hb, fun h => absurd Hfin.out.1 h, fun _ => ?_⟩
      rw [Hfin.out.2]
      have := HH.out.2.2.2
      rw [← HH.out.1] at this
      exact this
end Go.Proofs.Ytknhbpifkpcpnaa
