/- WriteBound: its walk. -/
import Derived.Test.YtbfelghfimcenaaBndM
import Derived.Deep.CutRange
import Derived.Deep.DeepCutAuto
namespace Go.Proofs.Ytbfelghfimcenaa
open Go.RowKit

abbrev b5 (n : Int) : Obj := .cells #[.int .i64 0, .int .i64 1, .int .i64 2, .int .i64 n, .int .i64 3] 23
/-- What holds at the head of the loop. -/
def BdRel (w : World) (o g b bg : Nat) (tr : Int) (ws : List Int) (m : Nat) (ph fl sw i : Value) (wr : World) : Prop :=
  ∃ (k : Nat) (p f s : Int) (x : St) (xs : List Int) (t : Int), ph = .int .i64 p ∧ fl = .int .i64 f ∧ sw = .int .u64 s ∧ i = .int .i64 k ∧ k ≤ m ∧ BInv ws tr k p f s x xs ∧ OpAt wr o g (spS ws.length 3) ws x ∧ Bk wr b bg xs t ∧
    Wf (spS ws.length 3) ws x ∧ U64 s ∧ 0 ≤ t ∧ t ≤ 2 * k ∧ Below w.heap.size w wr
/-- What holds behind the law's own store. -/
def BdMid (w : World) (o g b bg : Nat) (tr : Int) (ws : List Int) (k : Nat) (p f s : Int) (x : St) (wr : World) : Prop :=
  ∃ (xs : List Int) (t now : Int), BInv ws tr k p f s x xs ∧ OpAt wr o g (spS ws.length 3) ws x ∧ Bk wr b bg xs t ∧ 0 ≤ t ∧ t ≤ 2 * k + 1 ∧ Below w.heap.size w wr ∧ xs[1]? = some now
theorem bd_one {ws : List Int} {tr : Int} {k : Nat} {p f s : Int} {x : St} {xs : List Int} (h : BInv ws tr k p f s x xs) (h1 : 1 ≤ ws.length) : ∃ v, xs[1]? = some v := by
  have := h.len
  have := h1
  exact ⟨_, List.getElem?_eq_getElem (by omega)⟩
theorem spot3 (n : Nat) (h1 : 1 ≤ n) (h2 : n ≤ 64) (w : World) : Calls Try.prog 23 #[.int .i64 (n : Int), .int .i64 3] w (SpotPost n 3 w) := spot_ok n 3 h1 h2 (by omega) (by omega) w

set_option maxRecDepth 100000 in
set_option maxHeartbeats 2000000 in
theorem bnd_out (a : Option Addr) (ws : List Int) (cap : Nat) (tr : Int) (a2 : Option Addr) (l2 cap2 : Nat) (w : World) (h : ws.length < 1 ∨ 64 < ws.length) : Calls Try.prog 6 #[.slice a ws.length cap, .int .i64 tr, .slice a2 l2 cap2] w (True1 w) := by
  have Hs := Lib.hid (fun w => spot_no ws.length h w)
  rcases (show (ws.length : Int) < 1 ∨ (1 ≤ (ws.length : Int) ∧ 64 < (ws.length : Int)) by omega) with k | ⟨k1, k2⟩
  all_goals
    clear h
    generalize ws.length = l at *
    go_enter Try.func6, Try.ntmps6
    go_wp2_with fail
    refine (Hs.out _).mono ?_
    rintro e w1 ⟨rfl, hb1⟩
    have H1 := Lib.hid (hb1.alloc hb1.size (.cells #[.int .i64 0, .int .i64 0, .int .i64 0, .int .i64 0, .int .i64 0] 23))
    clear hb1
    go_wp2_with fail
    refine (awake_any _).mono ?_
    rintro e w2 ⟨rfl, hu2⟩
    have H2 := Lib.hid (H1.out.trans (hu2.mono H1.out.size))
    clear hu2
    go_wp2
    go_ret
    exact ⟨rfl, H2.out⟩

set_option maxRecDepth 100000 in
set_option maxHeartbeats 2000000 in
theorem bnd_bad (a : Option Addr) (ws : List Int) (cap : Nat) (tr : Int) (a2 : Option Addr) (l2 cap2 : Nat) (w : World) (h1 : 1 ≤ ws.length) (h2 : ws.length ≤ 64) (h : ¬ (1 ≤ tr ∧ tr ≤ 16 ∧ l2 ≤ 200)) : Calls Try.prog 6 #[.slice a ws.length cap, .int .i64 tr, .slice a2 l2 cap2] w (True1 w) := by
  have Hs := Lib.hid (fun w => spot3 ws.length h1 h2 w)
  have k1 : 1 ≤ (ws.length : Int) := by omega
  have k2 : (ws.length : Int) ≤ 64 := by omega
  clear h1 h2
  generalize ws.length = l at *
  have key : tr < 1 ∨ (1 ≤ tr ∧ 16 < tr) ∨ (1 ≤ tr ∧ tr ≤ 16 ∧ 200 < (l2 : Int)) := by omega
  clear h
  rcases key with k | ⟨k3, k4⟩ | ⟨k3, k4, k5⟩
  all_goals
    go_enter Try.func6, Try.ntmps6
    go_wp2_with fail
    refine (Hs.out _).mono ?_
    rintro e w1 ⟨b, bg, hb, hg, rfl, hk1, hb1⟩
    have H1 := Lib.hid (hb1.alloc hb1.size (b5 l))
    clear hb1 hk1
    go_wp2_with fail
    refine (awake_any _).mono ?_
    rintro e w2 ⟨rfl, hu2⟩
    have H2 := Lib.hid (H1.out.trans (hu2.mono H1.out.size))
    clear hu2
    go_wp2
    go_ret
    exact ⟨rfl, H2.out⟩
end Go.Proofs.Ytbfelghfimcenaa
