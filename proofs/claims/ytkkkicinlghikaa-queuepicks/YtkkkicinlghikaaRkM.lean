/- The walk of the law QueueRanks. -/
import Derived.Test.YtkkkicinlghikaaQdM
import Derived.Test.YtkkkicinlghikaaArgQ
import Derived.Deep.RegionHeld3
namespace Go.Proofs.Ytkkkicinlghikaa
open Go.RowKit

theorem bst_spec (rk wv : Nat → Int) (k : Nat) :
    (bst rk wv k < 0 → ∀ j, j < k → wv j = 0) ∧
    (0 ≤ bst rk wv k → wv (bst rk wv k).toNat ≠ 0 ∧ ∀ j, j < k → wv j ≠ 0 → rk j ≤ rk (bst rk wv k).toNat ∧ (rk j = rk (bst rk wv k).toNat → (bst rk wv k).toNat ≤ j)) := by
  induction k with
  | zero => exact ⟨fun _ j h => absurd h (by omega), fun h => absurd h (by simp [bst])⟩
  | succ k ih =>
    by_cases hw : wv k = 0
    · rw [bst_no hw]
      refine ⟨fun h j hj => ?_, fun h => ⟨(ih.2 h).1, fun j hj hz => ?_⟩⟩
      · by_cases e : j = k
        · rw [e]; exact hw
        · exact ih.1 h j (by omega)
      · by_cases e : j = k
        · exact absurd (e ▸ hw) hz
        · exact (ih.2 h).2 j (by omega) hz
    · by_cases hk : 0 ≤ bst rk wv k ∧ rk k ≤ rk (bst rk wv k).toNat
      · rw [bst_keep hk.1 hk.2]
        refine ⟨fun h => absurd hk.1 (by omega), fun h => ⟨(ih.2 h).1, fun j hj hz => ?_⟩⟩
        by_cases e : j = k
        · subst e
          exact ⟨hk.2, fun _ => by have := bst_in rk wv j; omega⟩
        · exact (ih.2 h).2 j (by omega) hz
      · rw [bst_new hw hk]
        refine ⟨fun h => absurd h (by omega), fun _ => ⟨by simpa using hw, fun j hj hz => ?_⟩⟩
        rw [Int.toNat_natCast]
        by_cases e : j = k
        · subst e
          exact ⟨Int.le_refl _, fun _ => Nat.le_refl _⟩
        · by_cases h0 : 0 ≤ bst rk wv k
          · obtain ⟨h1, h2⟩ := (ih.2 h0).2 j (by omega) hz
            have h3 : rk (bst rk wv k).toNat < rk k := Int.not_le.1 (fun c => hk ⟨h0, c⟩)
            exact ⟨by omega, fun c => by omega⟩
          · exact absurd (ih.1 (by omega) j (by omega)) hz
theorem qd_wt {n c x : Int} (h : Rgt n c) : qd n c x = 0 ↔ wt n x = 0 := by
  obtain ⟨h0, h1, h2, h3⟩ := h
  have := wt_nn n x
  unfold qd
  split <;> omega
theorem rt_rgt {n c : Int} (hn : 0 ≤ n) (h : rt n c = true) : Rgt n c := by
  have := of_decide_eq_true h
  exact ⟨hn, this.2.2, this.1, this.2.1⟩
theorem flt_two (l : List Sb) (gs : List Int) : flt l gs = 0 ∨ flt l gs = 1 ∨ flt l gs = 10 := by
  unfold flt
  split
  · simp
  · split
    · simp
    · split <;> simp
set_option maxRecDepth 100000 in
theorem ranks_big (a a' : Option Addr) (cap cap' n m : Nat) (w : World) (h : 40 < n) : Calls Try.prog 8 #[.slice a n cap, .slice a' m cap'] w (Ret (.bool true) w) := by
  have h1 : (40 : Int) < n := by omega
  clear h
  go_enter Try.func8, Try.ntmps8
  go_wp2_with fail
  refine (awake_any _).mono ?_
  rintro e w1 ⟨rfl, hb⟩
  go_wp2
  go_ret
  exact ⟨rfl, hb⟩
set_option maxRecDepth 100000 in
theorem ranks_big2 (a a' : Option Addr) (cap cap' n m : Nat) (w : World) (h0 : n ≤ 40) (h : 40 < m) : Calls Try.prog 8 #[.slice a n cap, .slice a' m cap'] w (Ret (.bool true) w) := by
  have h1 : ¬ (40 : Int) < n := by omega
  have h2 : (40 : Int) < m := by omega
  clear h h0
  go_enter Try.func8, Try.ntmps8
  go_wp2_with fail
  refine (awake_any _).mono ?_
  rintro e w1 ⟨rfl, hb⟩
  go_wp2
  go_ret
  exact ⟨rfl, hb⟩
set_option maxRecDepth 100000 in
theorem ranks_bad (a a' : Option Addr) (cap cap' n m : Nat) (E : Int) (hE : E = 1 ∨ E = 10) (w : World) (h1 : n ≤ 40) (h2 : m ≤ 40)
    (hP : Calls Try.prog 22 #[.slice a n cap, .slice a' m cap'] w (Ret (.tuple #[.int .i64 0, .int .i64 E]) w)) : Calls Try.prog 8 #[.slice a n cap, .slice a' m cap'] w (Ret (.bool true) w) := by
  have g1 : ¬ (40 : Int) < n := by omega
  have g2 : ¬ (40 : Int) < m := by omega
  clear h1 h2
  have HP := Lib.hid hP
  clear hP
  rcases hE with rfl | rfl
  · go_enter Try.func8, Try.ntmps8
    go_wp2_with fail
    refine HP.out.mono ?_
    rintro e w1 ⟨rfl, hb⟩
    have Hb := Lib.hid hb
    clear hb
    go_wp2_with fail
    refine (awake_any _).mono ?_
    rintro e w2 ⟨rfl, hb⟩
    go_wp2
    go_ret
    exact ⟨rfl, Hb.out.trans (hb.mono Hb.out.size)⟩
  · go_enter Try.func8, Try.ntmps8
    go_wp2_with fail
    refine HP.out.mono ?_
    rintro e w1 ⟨rfl, hb⟩
    have Hb := Lib.hid hb
    clear hb
    go_wp2_with fail
    refine (awake_any _).mono ?_
    rintro e w2 ⟨rfl, hb⟩
    go_wp2
    go_ret
    exact ⟨rfl, Hb.out.trans (hb.mono Hb.out.size)⟩
/-- What the law knows of what came in. -/
structure Rk (w : World) (a a' : Option Addr) (l : List Sb) (gs : List Int) (n : Nat) (W : World) : Prop where
  s : Sbs w.heap.size W a l
  g : Gns w.heap.size W a' gs
  b : Below w.heap.size w W
theorem Rk.next {w W W' : World} {a a' : Option Addr} {l : List Sb} {gs : List Int} {n : Nat} (h : Rk w a a' l gs n W) (u : Below W.heap.size W W') : Rk w a a' l gs n W' :=
  ⟨h.s.below (u.mono h.b.size), h.g.below (u.mono h.b.size), h.b.trans (u.mono h.b.size)⟩
theorem Rk.drew {w W : World} {a a' : Option Addr} {l : List Sb} {gs : List Int} {n : Nat} (h : Rk w a a' l gs n W) : Rk w a a' l gs n W.drew :=
  ⟨h.s.below (Below.refl _ _).drew, h.g.below (Below.refl _ _).drew, h.b.drew⟩
def RkRel (w : World) (a a' : Option Addr) (l : List Sb) (gs : List Int) (n : Nat) (i : Value) (wr : World) : Prop := ∃ k : Nat, i = .int .i64 k ∧ k ≤ n ∧ Rk w a a' l gs n wr
/-- The cells of one subscription, and of its newest generation. -/
structure SG (b off b' off' k : Nat) (rk n c g l x : Int) (W : World) : Prop where
  c1 : W.cell? ⟨b, off + k * 6 + 1, none⟩ = some (.int .i64 rk)
  c2 : W.cell? ⟨b, off + k * 6 + 2, none⟩ = some (.int .u64 n)
  c3 : W.cell? ⟨b, off + k * 6 + 3, none⟩ = some (.int .i64 c)
  c4 : W.cell? ⟨b, off + k * 6 + 4, none⟩ = some (.int .u64 g)
  c5 : W.cell? ⟨b, off + k * 6 + 5, none⟩ = some (.int .u64 l)
  x0 : W.cell? ⟨b', off' + k, none⟩ = some (.int .u64 x)
theorem Rk.at {w W : World} {b off b' off' : Nat} {l : List Sb} {gs : List Int} {n k : Nat} {S : Sb} {x : Int} (h : Rk w (some ⟨b, off, none⟩) (some ⟨b', off', none⟩) l gs n W) (h1 : l[k]? = some S) (h2 : gs[k]? = some x) :
    SG b off b' off' k S.rk S.n S.c S.g S.l x W := by
  obtain ⟨b2, o2, e, _, c0, c1, c2, c3, c4, c5⟩ := h.s k S h1
  obtain ⟨b3, o3, e3, _, c6⟩ := h.g k x h2
  simp only [Option.some.injEq, Addr.mk.injEq, and_true] at e e3
  obtain ⟨rfl, rfl⟩ := e
  obtain ⟨rfl, rfl⟩ := e3
  exact ⟨c1, c2, c3, c4, c5, c6⟩
end Go.Proofs.Ytkkkicinlghikaa
