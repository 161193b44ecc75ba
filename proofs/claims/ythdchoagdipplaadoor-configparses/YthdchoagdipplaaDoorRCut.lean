/- The document's Cut: its contract. -/
import Derived.Test.YthdchoagdipplaaDoorRdT
import Derived.Test.YthdchoagdipplaaDoorRt
namespace Go.Proofs.YthdchoagdipplaaDoor
open Go.RowKit

theorem info9 : (Tryd.prog.info? 9).map (fun i => (i.zero, i.size, i.bytes)) = some (some (.string ByteArray.empty), 1, 16) := by kernel_rfl
/-- Strings that lie in a row of their own. -/
def Strs (w : World) (g : Nat) (ws : List ByteArray) : Prop := g < w.heap.size ∧ ∀ (j : Nat) (x : ByteArray), ws[j]? = some x → w.cell? ⟨g, j, none⟩ = some (.string x)
theorem Strs.below {w w' : World} {g B : Nat} {ws : List ByteArray} (h : Strs w g ws) (u : Below B w w') (hg : g < B) : Strs w' g ws :=
  ⟨Nat.lt_of_lt_of_le h.1 u.size, fun j x hx => (u.cell (p := ⟨g, j, none⟩) hg).trans (h.2 j x hx)⟩
theorem Strs.low {w w' : World} {g : Nat} {ws : List ByteArray} (h : Strs w g ws) (u : Below w.heap.size w w') : Strs w' g ws := h.below u h.1
/-- What Cut leaves. -/
def CutP (x : UInt8) (s : ByteArray) (w : World) (e : Ending) (w' : World) : Prop :=
  ∃ (g cap : Nat) (ws : List ByteArray), e = .returned (.slice (some ⟨g, 0, none⟩) ws.length cap) ∧ ws.map bs = spl x (bs s) ∧ Below w.heap.size w w' ∧ w.heap.size ≤ g ∧ Strs w' g ws
theorem ext_bs (s : ByteArray) (a b : Nat) : bs (s.extract a b) = ((bs s).take b).drop a := by
  simp [bs, ByteArray.data_extract, List.extract_eq_take_drop, List.drop_take]
/-- At the head of its loop. -/
def RelCt (w : World) (s : ByteArray) (x : UInt8) (s5 s6 s7 : Value) (wr : World) : Prop :=
  ∃ (i fr : Nat) (done : List ByteArray), fr ≤ i ∧ i ≤ s.size ∧ s6 = .int .i64 fr ∧ s7 = .int .i64 i ∧ done.length ≤ i ∧ wr.ownsRow w.heap.size 9 1 s5 done.length (done.map Value.string) ∧ Below w.heap.size w wr ∧
    spl x (bs s) = done.map bs ++ spl x ((bs s).drop fr) ∧ x ∉ ((bs s).drop fr).take (i - fr)

set_option maxRecDepth 100000 in
set_option maxHeartbeats 2000000 in
theorem rcut_any (s : ByteArray) (x : UInt8) (w : World) (hs : s.size ≤ 65536) : Calls Tryd.prog 42 #[.string s, .int .u8 x.toNat] w (CutP x s w) := by
  obtain ⟨i0, hi, hz0, hz1, hz2⟩ := info_parts info9
  go_enter Tryd.func42, Tryd.ntmps42
  go_wp2
  go_loopw [5, 6, 7] (RelCt w s x) (fun _ _ i _ => s.size - (intOf i).toNat)
  case atStart => exact ⟨0, 0, [], by omega, by omega, rfl, rfl, by simp, World.ownsRow_nil _ _ _ _, Below.refl _ _, by simp, by simp⟩
  case round =>
    obtain ⟨i, fr, done, hfi, hi_s, rfl, rfl, hdl, ho, hb, hsp, hno⟩ := hrel
    obtain ⟨av, cv, rfl, _⟩ := owns_slice ho
    have hbz := hb.size
    have f1 : (fr : Int) ≤ (i : Int) := by omega
    have f2 : (i : Int) ≤ (s.size : Int) := by omega
    have hml : done.length + 1 ≤ maxLen := Nat.le_trans (by omega : done.length + 1 ≤ 100000) (by decide)
    by_cases his : i < s.size
    · have k0 : (i : Int) < (s.size : Int) := by omega
      have hgi := bs_get s i his
      have hseg : ((bs s).drop fr).take (i - fr) = ((bs s).take i).drop fr := by rw [List.drop_take]
      have hcut : (bs s).drop fr = ((bs s).drop fr).take (i - fr) ++ s[i] :: (bs s).drop (i + 1) := by
        have h1 : ((bs s).drop fr)[i - fr]? = some s[i] := by
          rw [List.getElem?_drop, show fr + (i - fr) = i by omega]
          exact hgi
        obtain ⟨e1, _⟩ := drop_at h1
        rw [List.drop_drop, List.drop_drop] at e1
        have e2 := List.take_append_drop (i - fr) ((bs s).drop fr)
        rw [List.drop_drop, e1] at e2
        rw [show fr + (i - fr + 1) = i + 1 by omega] at e2
        exact e2.symm
      by_cases hx : s[i] = x
      · have hq : ((s[i].toNat : Int) == (x.toNat : Int)) = true := by rw [hx]; simp
        have hnext : spl x (bs s) = (done ++ [s.extract fr i]).map bs ++ spl x ((bs s).drop (i + 1)) := by
          rw [hsp, hcut, hx, spl_word x _ _ hno, hseg]
          simp [ext_bs]
        have HN := Lib.hid (And.intro hnext (And.intro ho hb))
        clear hnext ho hb hsp hno hseg hcut hgi hx
        go_wp2_with (at_builtin; refine wpList_append_own _ rfl _ _ 62 rfl w.heap.size 9 i0 (.string ByteArray.empty) 1 16 Tryd.underlying62 hi hz0 hz1 hz2 rfl (by decide) (.slice av done.length cv) done.length (done.map Value.string) rfl (HN.out.2.1.alloc _) ⟨wr.heap.size, 0, none⟩ 1 1 [.string (s.extract fr i)] rfl rfl (World.news_of_block (cs := #[.string (s.extract fr i)]) (t := 9) (fr := (0, 0)) (heap_alloc_new wr _)) (by simp [Value.oneCell']) hml (by omega) (by simp; omega) ?_; intro v' w1 hown' hgrow _; have hb1 : Below w.heap.size w w1 := (HN.out.2.2.alloc (by omega) _).grown hgrow (by simp; omega) (fun q e => (HN.out.2.1.lt q e).1); clear hgrow)
        go_roundw
        case rel =>
          refine ⟨i + 1, i + 1, done ++ [(s.extract fr i)], by omega, by omega, by go_num, by go_num, by simp; omega, ?_, hb1, HN.out.1, by simp⟩
          rw [List.map_append, List.length_append]
          exact hown'
        case measure => simp [intOf]; omega
      · have hq : ((s[i].toNat : Int) == (x.toNat : Int)) = false := by
          rw [beq_eq_false_iff_ne]
          intro e
          exact hx (UInt8.toNat_inj.1 (by omega))
        have hno' : x ∉ ((bs s).drop fr).take (i + 1 - fr) := by
          have h1 : ((bs s).drop fr)[i - fr]? = some s[i] := by
            rw [List.getElem?_drop, show fr + (i - fr) = i by omega]
            exact hgi
          rw [show i + 1 - fr = (i - fr) + 1 by omega, (drop_at h1).2]
          simp only [List.mem_append, List.mem_singleton, not_or]
          exact ⟨hno, fun e => hx e.symm⟩
        have HN := Lib.hid (And.intro hsp (And.intro hno' (And.intro ho hb)))
        clear hno' ho hb hsp hno hseg hcut hgi hx
        go_wp2
        go_roundw
        case rel => exact ⟨i + 1, fr, done, by omega, by omega, rfl, by go_num, by omega, HN.out.2.2.1, HN.out.2.2.2, HN.out.1, HN.out.2.1⟩
        case measure => simp [intOf]; omega
    · have k0 : decide ((i : Int) < (s.size : Int)) = false := decide_eq_false (by omega)
      have hall : ((bs s).drop fr).take (i - fr) = (bs s).drop fr := List.take_of_length_le (by rw [List.length_drop, bs_len]; omega)
      have hnext : spl x (bs s) = (done ++ [s.extract fr s.size]).map bs := by
        rw [hall] at hno
        rw [hsp, spl_last x _ hno]
        have e : bs (s.extract fr s.size) = (bs s).drop fr := by
          rw [ext_bs, List.take_of_length_le (by rw [bs_len]; omega)]
        simp [e]
      have f3 : (fr : Int) ≤ (s.size : Int) := by omega
      have HN := Lib.hid (And.intro hnext (And.intro ho hb))
      clear hnext ho hb hsp hno hall
      go_wp2_with (at_builtin; refine wpList_append_own _ rfl _ _ 62 rfl w.heap.size 9 i0 (.string ByteArray.empty) 1 16 Tryd.underlying62 hi hz0 hz1 hz2 rfl (by decide) (.slice av done.length cv) done.length (done.map Value.string) rfl (HN.out.2.1.alloc _) ⟨wr.heap.size, 0, none⟩ 1 1 [.string (s.extract fr s.size)] rfl rfl (World.news_of_block (cs := #[.string (s.extract fr s.size)]) (t := 9) (fr := (0, 0)) (heap_alloc_new wr _)) (by simp [Value.oneCell']) hml (by omega) (by simp; omega) ?_; intro v' w1 hown' hgrow _; have hb1 : Below w.heap.size w w1 := (HN.out.2.2.alloc (by omega) _).grown hgrow (by simp; omega) (fun q e => (HN.out.2.1.lt q e).1); clear hgrow)
      have hown2 : w1.ownsRow w.heap.size 9 1 v' (done ++ [s.extract fr s.size]).length ((done ++ [s.extract fr s.size]).map Value.string) := by
        rw [List.map_append, List.length_append]
        exact hown'
      obtain ⟨a', c', rfl, hcells⟩ := owns_slice hown2
      obtain ⟨g, rfl, hg1, hg2, _⟩ := hcells done.length (.string (s.extract fr s.size)) (by simp)
      have hst : Strs w1 g (done ++ [s.extract fr s.size]) := ⟨hg2, fun j y hy => by
        obtain ⟨g', e, _, _, hc⟩ := hcells j (.string y) (by rw [List.getElem?_map, hy]; rfl)
        cases e
        exact hc⟩
      have HF := Lib.hid (And.intro hst (And.intro hb1 hg1))
      clear hst hb1 hg1 hcells hown2 hown'
      go_wp2
      go_ret
      exact ⟨g, c', done ++ [s.extract fr s.size], rfl, HN.out.1.symm, HF.out.2.1, HF.out.2.2, HF.out.1⟩
end Go.Proofs.YthdchoagdipplaaDoor
