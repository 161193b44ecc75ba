/- The document's Pick, whole. -/
import Derived.Test.YtkkkicinlghikaaRpA
import Derived.Test.YtkkkicinlghikaaRpB
namespace Go.Proofs.Ytkkkicinlghikaa
open Go.RowKit

def Z1 (w : World) (i : Value) (wr : World) : Prop := i = .int .i64 0 ∧ wr = w
def Z2 (w : World) (f i : Value) (wr : World) : Prop := i = .int .i64 0 ∧ f = .int .i64 (-1) ∧ wr = w
set_option maxRecDepth 100000 in
set_option maxHeartbeats 1000000 in
theorem rpick_zero (a a' : Option Addr) (cap cap' : Nat) (w : World) : Calls Try.prog 23 #[.slice a 0 cap, .slice a' 0 cap'] w (Ret (.tuple #[.int .i64 (-1), .int .i64 0]) w) := by
  go_enter Try.func23, Try.ntmps23
  go_wp2_with fail
  go_loopw [6] (fun i wr => Z1 w i wr) (fun i _ => 0)
  case atStart => exact ⟨rfl, rfl⟩
  case round =>
    obtain ⟨rfl, rfl⟩ := hrel
    go_wp2_with fail
    go_loopw [7] (fun i wr2 => Z1 wr i wr2) (fun i _ => 0)
    case atStart => exact ⟨rfl, rfl⟩
    case round =>
      obtain ⟨rfl, rfl⟩ := hrel
      go_wp2_with fail
      go_loopw [8, 9] (fun f i wr3 => Z2 wr f i wr3) (fun _ i _ => 0)
      case atStart => exact ⟨rfl, rfl, rfl⟩
      case round =>
        obtain ⟨rfl, rfl, rfl⟩ := hrel
        go_wp2_with fail
        go_ret2
        exact ⟨rfl, Below.refl _ _⟩
theorem rpick_any (a a' : Option Addr) (cap cap' : Nat) (l : List Sb) (gs : List Int) (w : World) (hS : Rbs w.heap.size w a l) (hG : Gns w.heap.size w a' gs) (hl : l.length ≤ 1000000) (hW : ∀ S ∈ l, 0 ≤ S.n) (hW2 : ∀ x ∈ gs, 0 ≤ x) :
    Calls Try.prog 23 #[.slice a l.length cap, .slice a' gs.length cap'] w (Ret (pkV l gs) w) := by
  by_cases hm : l.length = gs.length
  · by_cases hz : l.length = 0
    · have e1 : l = [] := List.eq_nil_of_length_eq_zero hz
      have e2 : gs = [] := List.eq_nil_of_length_eq_zero (by omega)
      subst e1 e2
      exact rpick_zero a a' cap cap' w
    · obtain ⟨b, off, rfl, _⟩ := hS 0 _ (List.getElem?_eq_getElem (by omega))
      obtain ⟨b', off', rfl, _⟩ := hG 0 _ (List.getElem?_eq_getElem (by omega))
      have hR : Rq w (some ⟨b, off, none⟩) (some ⟨b', off', none⟩) l gs w := ⟨hS, hG, Below.refl _ _⟩
      rw [← hm]
      cases q : anyw l with
      | true =>
        have hf : flt l gs = 1 := by
          unfold flt
          rw [if_neg (by omega), if_pos q]
        rw [show pkV l gs = .tuple #[.int .i64 0, .int .i64 1] by unfold pkV; rw [hf]; rfl]
        exact rpick_wrong b off b' off' cap cap' l gs l.length rfl hm.symm w hR hl q
      | false =>
        cases q2 : anyg gs with
        | true =>
          have hf : flt l gs = 10 := by
            unfold flt
            rw [if_neg (by omega), if_neg (by rw [q]; decide), if_pos q2]
          rw [show pkV l gs = .tuple #[.int .i64 0, .int .i64 10] by unfold pkV; rw [hf]; rfl]
          exact rpick_gen b off b' off' cap cap' l gs l.length rfl hm.symm w hR hl q q2
        | false =>
          have hf : flt l gs = 0 := by
            unfold flt
            rw [if_neg (by omega), if_neg (by rw [q]; decide), if_neg (by rw [q2]; decide)]
          have ho := flt_ok hf
          rw [show pkV l gs = .tuple #[.int .i64 (bst (rkf l) (wvf l gs) l.length), .int .i64 0] by unfold pkV; rw [if_pos hf]; rfl]
          exact rpick_ok b off b' off' cap cap' l gs l.length rfl hm.symm w hR hl q q2 hW (fun x hx => ⟨hW2 x hx, ho.2.2 x hx⟩)
  · have hf : flt l gs = 1 := by
      unfold flt
      rw [if_pos hm]
    rw [show pkV l gs = .tuple #[.int .i64 0, .int .i64 1] by unfold pkV; rw [hf]; rfl]
    exact rpick_len a a' cap cap' _ _ w hm
end Go.Proofs.Ytkkkicinlghikaa
