/- The walk of the law QueueRanks: all its branches. -/
import Derived.Test.YtkkkicinlghikaaRkN
import Derived.Test.YtkkkicinlghikaaRkS
namespace Go.Proofs.Ytkkkicinlghikaa
open Go.RowKit

def ZRel (w : World) (i : Value) (wr : World) : Prop := i = .int .i64 0 ∧ Below w.heap.size w wr
set_option maxRecDepth 100000 in
set_option maxHeartbeats 1000000 in
theorem ranks_zero (a a' : Option Addr) (cap cap' : Nat) (w : World) (hP : Calls Try.prog 22 #[.slice a 0 cap, .slice a' 0 cap'] w (Ret (.tuple #[.int .i64 (-1), .int .i64 0]) w)) :
    Calls Try.prog 8 #[.slice a 0 cap, .slice a' 0 cap'] w (Ret (.bool true) w) := by
  have HP := Lib.hid hP
  clear hP
  go_enter Try.func8, Try.ntmps8
  go_wp2_with fail
  refine HP.out.mono ?_
  rintro e w1 ⟨rfl, hb⟩
  have H1 := Lib.hid hb
  clear hb HP
  go_wp2_with fail
  go_quiet (fail)
  have HS := Lib.hid (show Below w.heap.size w (w1.drewN nq) from belN H1.out _)
  clear H1
  go_wp2_with fail
  go_loopw [7] (fun i wr => ZRel w i wr) (fun i _ => 0)
  case atStart => exact ⟨rfl, HS.out⟩
  case round =>
    obtain ⟨rfl, hb⟩ := hrel
    have HK := Lib.hid hb
    clear hb
    go_wp2_with fail
    refine (awake_any _).mono ?_
    rintro e w9 ⟨rfl, hb⟩
    have H9 := Lib.hid (HK.out.trans (hb.mono HK.out.size))
    clear hb
    go_wp2
    go_ret
    exact ⟨rfl, H9.out⟩
theorem pkV_ok {l : List Sb} {gs : List Int} (h : flt l gs = 0) : pkV l gs = .tuple #[.int .i64 (pk l gs), .int .i64 0] := if_pos h
theorem pkV_no {l : List Sb} {gs : List Int} (h : flt l gs ≠ 0) : pkV l gs = .tuple #[.int .i64 0, .int .i64 (flt l gs)] := if_neg h
theorem ranks_law {w : World} (a : Option Addr) (l : List Sb) (cap : Nat) (a' : Option Addr) (gs : List Int) (cap' : Nat) (hS : Sbs w.heap.size w a l) (hG : Gns w.heap.size w a' gs) (hW : ∀ S ∈ l, 0 ≤ S.n) (hW2 : ∀ x ∈ gs, 0 ≤ x) :
    Calls Try.prog 8 #[.slice a l.length cap, .slice a' gs.length cap'] w (Ret (.bool true) w) := by
  by_cases h1 : 40 < l.length
  · exact ranks_big a a' cap cap' _ _ w h1
  by_cases h2 : 40 < gs.length
  · exact ranks_big2 a a' cap cap' _ _ w (by omega) h2
  have hP := pick_any a a' cap cap' l gs w hS hG (by omega) (by omega) hW hW2
  by_cases hf : flt l gs = 0
  · rw [pkV_ok hf] at hP
    obtain ⟨hm, hR, hX⟩ := flt_ok hf
    have hC : ∀ (k : Nat) (S : Sb) (x : Int), l[k]? = some S → gs[k]? = some x → Rgt S.n S.c ∧ Gen x := fun k S x h1 h2 =>
      ⟨rt_rgt (hW S (List.mem_of_getElem? h1)) (hR S (List.mem_of_getElem? h1)), hW2 x (List.mem_of_getElem? h2), hX x (List.mem_of_getElem? h2)⟩
    have hC1 : ∀ (k : Nat) (S : Sb) (x : Int), l[k]? = some S → gs[k]? = some x → ∀ w, Calls Try.prog 16 #[cu S.n S.c S.g S.l, .int .u64 x] w (Ret (.int .i64 (qd S.n S.c x)) w) := fun k S x h1 h2 w =>
      count_ok S.n S.c S.g S.l x (hC k S x h1 h2).1 (hC k S x h1 h2).2 w
    have hQ : ∀ (k : Nat) (S : Sb) (x : Int), l[k]? = some S → gs[k]? = some x → (qd S.n S.c x = 0 ↔ wvf l gs k = 0) ∧ 0 ≤ qd S.n S.c x := fun k S x h1 h2 =>
      ⟨by rw [wvf_at h1 h2]; exact qd_wt (hC k S x h1 h2).1, qd_nn (hC k S x h1 h2).1⟩
    have hsp := bst_spec (rkf l) (wvf l gs) l.length
    have hin := bst_in (rkf l) (wvf l gs) l.length
    change _ ∧ (0 ≤ pk l gs → _) at hsp
    change -1 ≤ pk l gs ∧ pk l gs < _ at hin
    by_cases hz : l.length = 0
    · have hz2 : gs.length = 0 := by omega
      rw [show pk l gs = -1 by omega] at hP
      rw [hz, hz2] at hP ⊢
      exact ranks_zero a a' cap cap' w hP
    · obtain ⟨b, off, rfl, _⟩ := hS 0 _ (List.getElem?_eq_getElem (by omega))
      obtain ⟨b', off', rfl, _⟩ := hG 0 _ (List.getElem?_eq_getElem (by omega))
      have hRk : Rk w (some ⟨b, off, none⟩) (some ⟨b', off', none⟩) l gs l.length w := ⟨hS, hG, Below.refl _ _⟩
      rw [← hm] at hP ⊢
      by_cases hp : 0 ≤ pk l gs
      · obtain ⟨p, hpe⟩ : ∃ p : Nat, pk l gs = p := ⟨(pk l gs).toNat, by omega⟩
        obtain ⟨k1, k2⟩ := hsp.2 hp
        change wvf l gs (pk l gs).toNat ≠ 0 at k1
        change ∀ j, j < l.length → wvf l gs j ≠ 0 → rkf l j ≤ rkf l (pk l gs).toNat ∧ (rkf l j = rkf l (pk l gs).toNat → (pk l gs).toNat ≤ j) at k2
        rw [hpe] at hP k1 k2
        rw [Int.toNat_natCast] at k1 k2
        have hpl : p < l.length := by omega
        have hpg : p < gs.length := by omega
        have e1 := List.getElem?_eq_getElem hpl
        have e2 := List.getElem?_eq_getElem hpg
        rw [rkf_at e1] at k2
        exact ranks_some b off b' off' cap cap' l gs l.length rfl hm.symm w hRk (by omega) hC1 hQ p _ _ e1 e2 hpl (fun c => k1 ((hQ p _ _ e1 e2).1.1 c)) k2 hP
      · rw [show pk l gs = -1 by omega] at hP
        exact ranks_none b off b' off' cap cap' l gs l.length rfl hm.symm w hRk (by omega) hC1 hQ (hsp.1 (by change pk l gs < 0; omega)) hP
  · rw [pkV_no hf] at hP
    exact ranks_bad a a' cap cap' _ _ _ (by rcases flt_two l gs with h | h | h; exact absurd h hf; exact .inl h; exact .inr h) w (by omega) (by omega) hP
end Go.Proofs.Ytkkkicinlghikaa
