/- The document's Pick: its subscriptions in memory. -/
import Derived.Test.YtkkkicinlghikaaRkM
import Derived.Test.YtkkkicinlghikaaRcu
namespace Go.Proofs.Ytkkkicinlghikaa
open Go.RowKit

/-- The document's subscriptions that lie in a slice. -/
def Rbs (n₀ : Nat) (W : World) (a : Option Addr) (l : List Sb) : Prop :=
  ∀ j s, l[j]? = some s → ∃ b off, a = some ⟨b, off, none⟩ ∧ b < n₀ ∧ W.cell? ⟨b, off + j * 5, none⟩ = some (.int .i64 s.rk) ∧ W.cell? ⟨b, off + j * 5 + 1, none⟩ = some (.int .u64 s.n) ∧
    W.cell? ⟨b, off + j * 5 + 2, none⟩ = some (.int .i64 s.c) ∧ W.cell? ⟨b, off + j * 5 + 3, none⟩ = some (.int .u64 s.g) ∧ W.cell? ⟨b, off + j * 5 + 4, none⟩ = some (.int .u64 s.l)
theorem Rbs.below {n₀ : Nat} {A B : World} {a : Option Addr} {l : List Sb} (k : Rbs n₀ A a l) (h : Below n₀ A B) : Rbs n₀ B a l := fun j p hp => by
  obtain ⟨b, off, e, hb, c0, c1, c2, c3, c4⟩ := k j p hp
  exact ⟨b, off, e, hb, by rw [h.cell (p := ⟨b, off + j * 5, none⟩) hb]; exact c0, by rw [h.cell (p := ⟨b, off + j * 5 + 1, none⟩) hb]; exact c1, by rw [h.cell (p := ⟨b, off + j * 5 + 2, none⟩) hb]; exact c2, by rw [h.cell (p := ⟨b, off + j * 5 + 3, none⟩) hb]; exact c3, by rw [h.cell (p := ⟨b, off + j * 5 + 4, none⟩) hb]; exact c4⟩
/-- What the document's Pick knows of what came in. -/
structure Rq (w : World) (a a' : Option Addr) (l : List Sb) (gs : List Int) (W : World) : Prop where
  s : Rbs w.heap.size W a l
  g : Gns w.heap.size W a' gs
  b : Below w.heap.size w W
theorem Rq.next {w W W' : World} {a a' : Option Addr} {l : List Sb} {gs : List Int} (h : Rq w a a' l gs W) (u : Below W.heap.size W W') : Rq w a a' l gs W' :=
  ⟨h.s.below (u.mono h.b.size), h.g.below (u.mono h.b.size), h.b.trans (u.mono h.b.size)⟩
theorem Rq.drew {w W : World} {a a' : Option Addr} {l : List Sb} {gs : List Int} (h : Rq w a a' l gs W) : Rq w a a' l gs W.drew := h.next ((Below.refl _ _).drew)
/-- The cells of one subscription, and of its newest generation. -/
structure RG (b off b' off' k : Nat) (rk n c g l x : Int) (W : World) : Prop where
  c0 : W.cell? ⟨b, off + k * 5, none⟩ = some (.int .i64 rk)
  c1 : W.cell? ⟨b, off + k * 5 + 1, none⟩ = some (.int .u64 n)
  c2 : W.cell? ⟨b, off + k * 5 + 2, none⟩ = some (.int .i64 c)
  c3 : W.cell? ⟨b, off + k * 5 + 3, none⟩ = some (.int .u64 g)
  c4 : W.cell? ⟨b, off + k * 5 + 4, none⟩ = some (.int .u64 l)
  x0 : W.cell? ⟨b', off' + k, none⟩ = some (.int .u64 x)
theorem Rq.at {w W : World} {b off b' off' : Nat} {l : List Sb} {gs : List Int} {k : Nat} {S : Sb} {x : Int} (h : Rq w (some ⟨b, off, none⟩) (some ⟨b', off', none⟩) l gs W) (h1 : l[k]? = some S) (h2 : gs[k]? = some x) :
    RG b off b' off' k S.rk S.n S.c S.g S.l x W := by
  obtain ⟨b2, o2, e, _, c0, c1, c2, c3, c4⟩ := h.s k S h1
  obtain ⟨b3, o3, e3, _, c6⟩ := h.g k x h2
  simp only [Option.some.injEq, Addr.mk.injEq, and_true] at e e3
  obtain ⟨rfl, rfl⟩ := e
  obtain ⟨rfl, rfl⟩ := e3
  exact ⟨c0, c1, c2, c3, c4, c6⟩
def R1 (w : World) (a a' : Option Addr) (l : List Sb) (gs : List Int) (n : Nat) (i : Value) (wr : World) : Prop := ∃ k : Nat, i = .int .i64 k ∧ k ≤ n ∧ (∀ j S, j < k → l[j]? = some S → wrg S = false) ∧ Rq w a a' l gs wr
def R2 (w : World) (a a' : Option Addr) (l : List Sb) (gs : List Int) (n : Nat) (i : Value) (wr : World) : Prop := ∃ k : Nat, i = .int .i64 k ∧ k ≤ n ∧ (∀ j x, j < k → gs[j]? = some x → ng x = false) ∧ Rq w a a' l gs wr
def R3 (w : World) (a a' : Option Addr) (l : List Sb) (gs : List Int) (n : Nat) (B : Nat → Int) (f i : Value) (wr : World) : Prop := ∃ k : Nat, i = .int .i64 k ∧ k ≤ n ∧ f = .int .i64 (B k) ∧ Rq w a a' l gs wr
set_option maxRecDepth 100000 in
theorem rpick_len (a a' : Option Addr) (cap cap' n m : Nat) (w : World) (h : n ≠ m) : Calls Try.prog 23 #[.slice a n cap, .slice a' m cap'] w (Ret (.tuple #[.int .i64 0, .int .i64 1]) w) := by
  have g1 : ((n : Int) != m) = true := by simp; omega
  clear h
  go_enter Try.func23, Try.ntmps23
  go_wp2
  go_ret2
  exact ⟨rfl, Below.refl _ _⟩
theorem rright_w (S : Sb) (w : World) : Calls Try.prog 28 #[cu S.n S.c S.g S.l] w (Ret (.bool (!wrg S)) w) := by
  have h := rright_any S.n S.c S.g S.l w
  rw [show (!wrg S) = rt S.n S.c by simp [wrg]]
  exact h
theorem is_w (x : Int) (w : World) : Calls Try.prog 17 #[.int .u64 x] w (Pur (.bool (!ng x)) w) := by
  have h := is_any x w
  rw [show (!ng x) = decide (x < 9223372036854775808) by
    unfold ng
    by_cases c : x < 9223372036854775808
    · rw [decide_eq_true c, decide_eq_false (by omega)]; rfl
    · rw [decide_eq_false c, decide_eq_true (by omega)]; rfl]
  exact h
theorem all_w {l : List Sb} (h : anyw l = false) : ∀ S ∈ l, wrg S = false := fun S hS => by
  cases q : wrg S with
  | false => rfl
  | true => rw [anyw_iff.2 ⟨S, hS, q⟩] at h; cases h
theorem all_g {l : List Int} (h : anyg l = false) : ∀ x ∈ l, ng x = false := fun x hx => by
  cases q : ng x with
  | false => rfl
  | true => rw [anyg_iff.2 ⟨x, hx, q⟩] at h; cases h
end Go.Proofs.Ytkkkicinlghikaa
