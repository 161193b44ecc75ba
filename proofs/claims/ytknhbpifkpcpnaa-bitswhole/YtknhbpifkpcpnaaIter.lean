/- The iterator over the fields of lengths: its contract. -/
import Derived.Test.YtknhbpifkpcpnaaField
import Derived.RangeFuncNested
import Derived.RangeFuncBound
import Derived.RangeFuncCalls
import Derived.RangeFuncLeaves
import Derived.Shelf.Abstract
import Derived.Shelf.RegionOpen
import Derived.OwnWalkIn
import Derived.TacticsInMore
import Derived.LoopNIn
import Derived.LoopIn
import Derived.Maps.AppendAt
namespace Go.Proofs.Ytknhbpifkpcpnaa
open Go.RowKit Go.Shelf

attribute [local go_sem] Oper.semAt_some

/-- A slice of ints in blocks below n₀. -/
def Ints (n₀ : Nat) (W : World) (a : Option Addr) (zs : List Int) : Prop :=
  ∀ j z, zs[j]? = some z → ∃ b off, a = some ⟨b, off, none⟩ ∧ b < n₀ ∧ W.cell? ⟨b, off + j, none⟩ = some (.int .i64 z)
theorem Ints.below {n₀ : Nat} {A B : World} (h : Below n₀ A B) {a : Option Addr} {zs : List Int} (k : Ints n₀ A a zs) : Ints n₀ B a zs := fun j z hz => by
  obtain ⟨b, off, e, hb, hc⟩ := k j z hz
  exact ⟨b, off, e, hb, (h.cell (p := ⟨b, off + j, none⟩) hb).trans hc⟩
theorem Ints.mono {n m : Nat} {A : World} {a : Option Addr} {zs : List Int} (k : Ints n A a zs) (h : n ≤ m) : Ints m A a zs := fun j z hz => by
  obtain ⟨b, off, e, hb, hc⟩ := k j z hz
  exact ⟨b, off, e, Nat.lt_of_lt_of_le hb h, hc⟩

/-- What the iterator tells: a field and no error, or no field and an error, the last then. -/
abbrev It : Type := Int × Int × Int
abbrev It.enc (x : It) : Array Value := #[fld x.1 x.2.1, .int .i64 x.2.2]
def items (t : Int) : List Int → List It
  | [] => []
  | n :: r => if n < 1 ∨ 64 < n then [(0, 0, 10)] else if 64 - t < n then [(0, 0, 12)] else (t, n, 0) :: items (t + n) r
theorem items_len : ∀ (zs : List Int) (t : Int), (items t zs).length ≤ zs.length
  | [], _ => by simp [items]
  | n :: r, t => by
    unfold items
    have := items_len r (t + n)
    split
    · simp
    · split
      · simp
      · simp; omega

/-- At the head of the iterator's loop. -/
def RelF (n₀ : Nat) (zs : List Int) (J : List It → World → Prop) (W : World) (at_ i : Value) (wr : World) : Prop :=
  ∃ (k : Nat) (t : Int) (pre : List It), k ≤ zs.length ∧ i = .int .i64 k ∧ at_ = .int .i64 t ∧ 0 ≤ t ∧ t ≤ 64 ∧ items 0 zs = pre ++ items t (zs.drop k) ∧ pre.length = k ∧ J pre wr ∧ Below n₀ W wr

set_option maxRecDepth 100000 in
set_option maxHeartbeats 2000000 in
theorem fields1_in (F : Fence) (n : Nat) (h38 : F.fn 38) (hro : F.round = none) (hn : 1 ≤ n) (l Bs n₀ len cap : Nat) (a : Option Addr) (zs : List Int) (hlen : len = zs.length) (hl80 : zs.length ≤ 80) (J Jx : List It → World → Prop)
    (hY : ∀ pre x W, J pre W → pre.length < zs.length → YieldAt F (n - 1) Try.prog l (It.enc x) W fun e W' =>
      (e = .returned (.bool true) ∧ J (pre ++ [x]) W' ∧ Below n₀ W W') ∨ (e = .returned (.bool false) ∧ Jx (pre ++ [x]) W'))
    (W : World) (hBs : W.cell? ⟨Bs, 0, none⟩ = some (.slice a len cap)) (hI : Ints n₀ W a zs) (h0 : J [] W) :
    CallsIn F n Try.prog 38 #[.func (.yield l) #[] #[], .pointer (some ⟨Bs, 0, none⟩)] W fun e W' => (∃ v, e = .returned v) ∧
      ((∃ ys, ys = items 0 zs ∧ J ys W') ∨ (∃ pre, pre <+: items 0 zs ∧ Jx pre W')) := by
  have hnot := hnot
  refine callsIn_of_wp Try.func38 rfl h38 ?_ hro
  simp only [Try.ntmps38, List.size_toArray, List.length_cons, List.length_nil, Nat.reduceAdd, Nat.reduceSub, Array.replicate_succ, Array.replicate_zero, List.push_toArray, List.append_toArray, List.nil_append, List.cons_append]
  gi_wp2
  gi_loopw [3, 8] (RelF n₀ zs J W) (fun _ i _ => len - (intOf i).toNat)
  case atStart => exact ⟨0, 0, [], Nat.zero_le _, rfl, rfl, by omega, by omega, rfl, rfl, h0, Below.refl _ _⟩
  case round =>
    obtain ⟨k, t, pre, hk, rfl, rfl, ht0, ht64, hit, hpl, hJs, hnx⟩ := hrel
    have Hit := Lib.hid hit
    have Hlen := Lib.hid hlen
    have Hpl := Lib.hid hpl
    clear hit hlen hpl
    by_cases hlt : k < zs.length
    · obtain ⟨z, hz⟩ : ∃ z, zs[k]? = some z := ⟨zs[k], List.getElem?_eq_getElem hlt⟩
      obtain ⟨b, off, rfl, hb, hc⟩ := (hI.below hnx) k z hz
      have hdr : zs.drop k = z :: zs.drop (k + 1) := by
        rw [List.drop_eq_getElem_cons hlt]
        congr 1
        exact (List.getElem?_eq_some_iff.1 hz).2
      have Hdr := Lib.hid hdr
      have Hz := Lib.hid hz
      clear hdr hz
      have hkl : (k : Int) < len := by have := Hlen.out; omega
      have hlw : len ≤ 80 := by have := Hlen.out; omega
      have hw1 : wrap64 (64 - t) = 64 - t := by unfold wrap64; omega
      have hw2 : wrap64 ((k : Int) + 1) = (k : Int) + 1 := by unfold wrap64; omega
      by_cases hbad : z < 1 ∨ 64 < z
      · have hfin : items 0 zs = pre ++ [(0, 0, 10)] := by
          rw [Hit.out, Hdr.out, items, if_pos hbad]
        have Hfin := Lib.hid hfin
        clear hfin
        obtain ⟨fn, tmps, assign, body, hy, hR⟩ := hY pre (0, 0, 10) wr hJs (by have := Hpl.out; omega)
        simp only [It.enc] at hy
        gi_wp2
        all_goals
          refine hR.mono ?_
          rintro e W3 (⟨rfl, hJ3, hk3⟩ | ⟨rfl, hJx3⟩)
          · gi_wp2
            refine bodyPost_ret (results_none rfl _ _ _) rfl ?_
            exact ⟨⟨_, rfl⟩, .inl ⟨_, Hfin.out.symm, hJ3⟩⟩
          · gi_wp2
            refine bodyPost_ret (results_none rfl _ _ _) rfl ?_
            exact ⟨⟨_, rfl⟩, .inr ⟨_, by rw [Hfin.out]; exact List.prefix_refl _, hJx3⟩⟩
      · by_cases hlong : 64 - t < z
        · have hfin : items 0 zs = pre ++ [(0, 0, 12)] := by
            rw [Hit.out, Hdr.out, items, if_neg hbad, if_pos hlong]
          have Hfin := Lib.hid hfin
          clear hfin
          have h1z : 1 ≤ z := by omega
          have hz64 : z ≤ 64 := by omega
          clear hbad
          obtain ⟨fn, tmps, assign, body, hy, hR⟩ := hY pre (0, 0, 12) wr hJs (by have := Hpl.out; omega)
          simp only [It.enc] at hy
          gi_wp2
          all_goals
            refine hR.mono ?_
            rintro e W3 (⟨rfl, hJ3, hk3⟩ | ⟨rfl, hJx3⟩)
            · gi_wp2
              refine bodyPost_ret (results_none rfl _ _ _) rfl ?_
              exact ⟨⟨_, rfl⟩, .inl ⟨_, Hfin.out.symm, hJ3⟩⟩
            · gi_wp2
              refine bodyPost_ret (results_none rfl _ _ _) rfl ?_
              exact ⟨⟨_, rfl⟩, .inr ⟨_, by rw [Hfin.out]; exact List.prefix_refl _, hJx3⟩⟩
        · have hfin : items 0 zs = (pre ++ [(t, z, 0)]) ++ items (t + z) (zs.drop (k + 1)) := by
            rw [Hit.out, Hdr.out, items, if_neg hbad, if_neg hlong]
            simp
          have Hfin := Lib.hid hfin
          clear hfin
          have h1z : 1 ≤ z := by omega
          have hz64 : z ≤ 64 := by omega
          have hlong' : z ≤ 64 - t := by omega
          have hw3 : wrap64 (t + z) = t + z := by unfold wrap64; omega
          clear hbad hlong
          obtain ⟨fn, tmps, assign, body, hy, hR⟩ := hY pre (t, z, 0) wr hJs (by have := Hpl.out; omega)
          simp only [It.enc] at hy
          gi_wp2
          refine hR.mono ?_
          rintro e W3 (⟨rfl, hJ3, hk3⟩ | ⟨rfl, hJx3⟩)
          · gi_wp2
            go_roundw
            case rel => exact ⟨k + 1, t + z, pre ++ [(t, z, 0)], by omega, by go_num, rfl, by omega, by omega, Hfin.out, by simp [Hpl.out], hJ3, hnx.trans hk3⟩
            case measure => simp [intOf]; omega
          · gi_wp2
            refine bodyPost_ret (results_none rfl _ _ _) rfl ?_
            exact ⟨⟨_, rfl⟩, .inr ⟨_, by rw [Hfin.out]; exact List.prefix_append _ _, hJx3⟩⟩
    · obtain rfl : k = zs.length := by omega
      have hfin : items 0 zs = pre := by
        rw [Hit.out]
        simp [items]
      have Hfin := Lib.hid hfin
      clear hfin
      gi_wp2
      go_end0
      exact ⟨⟨_, rfl⟩, .inl ⟨_, Hfin.out.symm, hJs⟩⟩

set_option maxHeartbeats 1000000 in
/-- fields(lens): the slice is boxed, the function captures the box. -/
theorem fields_in (F : Fence) (n : Nat) (h36 : F.fn 36) (hro : F.round = none) (a : Option Addr) (len cap : Nat) (w : World) :
    CallsIn F n Try.prog 36 #[.slice a len cap] w fun e w' => e = .returned (.func (.func 38) #[] #[.pointer (some ⟨w.heap.size, 0, none⟩)]) ∧ w' = w.alloc (.cells #[.slice a len cap] 48) := by
  refine callsIn_of_wp Try.func36 rfl h36 ?_ hro
  simp only [Try.ntmps36, List.size_toArray, List.length_cons, List.length_nil, Nat.reduceAdd, Nat.reduceSub, Array.replicate_succ, Array.replicate_zero, List.push_toArray, List.append_toArray, List.nil_append, List.cons_append]
  gi_wp2
  go_ret
  exact ⟨rfl, rfl⟩

theorem fields_stops (F : Fence) (n : Nat) (h38 : F.fn 38) (hro : F.round = none) (hn : 1 ≤ n) (Bs n₀ len cap : Nat) (a : Option Addr) (zs : List Int) (hlen : len = zs.length) (hl80 : zs.length ≤ 80) (w : World) (hBs : Bs < w.heap.size) (hn₀ : n₀ ≤ w.heap.size)
    (hc : w.cell? ⟨Bs, 0, none⟩ = some (.slice a len cap)) (hI : Ints n₀ w a zs) :
    SeqStopsK F n Try.prog 38 #[.pointer (some ⟨Bs, 0, none⟩)] It.enc (Below n₀) (fun ys => ys = items 0 zs) (fun pre => pre <+: items 0 zs) zs.length w := fun l J Jx W hW _ _ hY h0 =>
  fields1_in F n h38 hro hn l Bs n₀ len cap a zs hlen hl80 J Jx hY W ((hW.cell (p := ⟨Bs, 0, none⟩) hBs).trans hc) (hI.below (hW.mono hn₀)) h0
end Go.Proofs.Ytknhbpifkpcpnaa
