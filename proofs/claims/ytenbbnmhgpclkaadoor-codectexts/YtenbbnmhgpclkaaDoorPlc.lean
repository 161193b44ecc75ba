/- Where parts lie: plain arithmetic. No program is named here. -/
import Derived.Test.YtenbbnmhgpclkaaDoorMem
namespace Go.Proofs.YtenbbnmhgpclkaaDoor
open Go.RowKit

/-- The least and the greatest length of a kind's part. -/
def kLo : Nat → Int | 0 => 1 | 1 => 1 | 2 => 2 | _ => 64
def kHi : Nat → Int | 0 => 1 | 1 => 63 | 2 => 64 | _ => 64
theorem kLo_b (k : Nat) : 1 ≤ kLo k ∧ kLo k ≤ 64 := by unfold kLo; split <;> omega
theorem kHi_b (k : Nat) : 1 ≤ kHi k ∧ kHi k ≤ 64 := by unfold kHi; split <;> omega

/-- What is wrong with a part by itself. -/
def bad (k n : Int) : Int := if k < 0 ∨ 4 ≤ k then 1 else if n < kLo k.toNat ∨ kHi k.toNat < n then 10 else 0
theorem bad_kind {k n : Int} (h : k < 0 ∨ 4 ≤ k) : bad k n = 1 := by unfold bad; rw [if_pos h]
theorem bad_len {k : Nat} {n : Int} (h : k < 4) (h2 : n < kLo k ∨ kHi k < n) : bad k n = 10 := by
  unfold bad; rw [if_neg (by omega), if_pos (by simpa using h2)]
theorem bad_ok {k : Nat} {n : Int} (h : k < 4) (h1 : kLo k ≤ n) (h2 : n ≤ kHi k) : bad k n = 0 := by
  unfold bad; rw [if_neg (by omega), if_neg (by simp; omega)]
theorem ok_bad {k n : Int} (h : bad k n = 0) : 0 ≤ k ∧ k < 4 ∧ kLo k.toNat ≤ n ∧ n ≤ kHi k.toNat ∧ 1 ≤ n ∧ n ≤ 64 := by
  have h1 := kLo_b k.toNat
  have h2 := kHi_b k.toNat
  unfold bad at h
  split at h
  · omega
  · split at h
    · omega
    · omega

/-- Of parts, with so many words, and so many bits free in the last one: the error, the places, the words at the end. -/
def plE (wd fr : Nat) : List (Int × Int) → Int
  | [] => 0
  | p :: r => if bad p.1 p.2 ≠ 0 then bad p.1 p.2 else if (fr : Int) < p.2 then if wd = 64 then 12 else plE (wd + 1) (64 - p.2.toNat) r else plE wd (fr - p.2.toNat) r
def plA (wd fr : Nat) : List (Int × Int) → List (Int × Int)
  | [] => []
  | p :: r => if bad p.1 p.2 ≠ 0 then [] else if (fr : Int) < p.2 then if wd = 64 then [] else ((wd : Int), 0) :: plA (wd + 1) (64 - p.2.toNat) r else ((wd : Int) - 1, 64 - (fr : Int)) :: plA wd (fr - p.2.toNat) r
def plW (wd fr : Nat) : List (Int × Int) → Int
  | [] => wd
  | p :: r => if bad p.1 p.2 ≠ 0 then 0 else if (fr : Int) < p.2 then if wd = 64 then 0 else plW (wd + 1) (64 - p.2.toNat) r else plW wd (fr - p.2.toNat) r

section
variable {wd fr : Nat} {p : Int × Int} {r : List (Int × Int)}
theorem pl_bad (h : bad p.1 p.2 ≠ 0) : plE wd fr (p :: r) = bad p.1 p.2 := by simp only [plE, if_pos h]
theorem pl_full (h : bad p.1 p.2 = 0) (h2 : (fr : Int) < p.2) (h3 : wd = 64) : plE wd fr (p :: r) = 12 := by
  simp only [plE, if_neg (by simp [h] : ¬ bad p.1 p.2 ≠ 0), if_pos h2, if_pos h3]
theorem pl_next (h : bad p.1 p.2 = 0) (h2 : (fr : Int) < p.2) (h3 : wd ≠ 64) : plE wd fr (p :: r) = plE (wd + 1) (64 - p.2.toNat) r ∧ plA wd fr (p :: r) = ((wd : Int), 0) :: plA (wd + 1) (64 - p.2.toNat) r ∧ plW wd fr (p :: r) = plW (wd + 1) (64 - p.2.toNat) r := by
  simp only [plE, plA, plW, if_neg (by simp [h] : ¬ bad p.1 p.2 ≠ 0), if_pos h2, if_neg h3, and_self]
theorem pl_same (h : bad p.1 p.2 = 0) (h2 : p.2 ≤ (fr : Int)) : plE wd fr (p :: r) = plE wd (fr - p.2.toNat) r ∧ plA wd fr (p :: r) = ((wd : Int) - 1, 64 - (fr : Int)) :: plA wd (fr - p.2.toNat) r ∧ plW wd fr (p :: r) = plW wd (fr - p.2.toNat) r := by
  simp only [plE, plA, plW, if_neg (by simp [h] : ¬ bad p.1 p.2 ≠ 0), if_neg (by omega : ¬ (fr : Int) < p.2), and_self]
/-- No words, and one word that is empty, come to the same. -/
theorem pl_start (p : Int × Int) (r : List (Int × Int)) : plE 0 0 (p :: r) = plE 1 64 (p :: r) ∧ plA 0 0 (p :: r) = plA 1 64 (p :: r) ∧ plW 0 0 (p :: r) = plW 1 64 (p :: r) := by
  by_cases h : bad p.1 p.2 = 0
  · obtain ⟨_, _, _, _, h1, h2⟩ := ok_bad h
    obtain ⟨a1, a2, a3⟩ := pl_next (wd := 0) (fr := 0) (r := r) h (by simp; omega) (by decide)
    obtain ⟨b1, b2, b3⟩ := pl_same (wd := 1) (fr := 64) (r := r) h (by simpa using h2)
    rw [a1, a2, a3, b1, b2, b3]
    exact ⟨rfl, rfl, rfl⟩
  · simp only [plE, plA, plW, if_pos (show bad p.1 p.2 ≠ 0 from h), and_self]
end

/-- What Places tells. -/
def plErr (l : List (Int × Int)) : Int := if l.length = 0 ∨ 256 < l.length then 12 else plE 0 0 l
def plP (l : List (Int × Int)) : List (Int × Int) := if plErr l = 0 then plA 0 0 l else []
def plN (l : List (Int × Int)) : Int := if plErr l = 0 then plW 0 0 l else 0
theorem plP_err {l : List (Int × Int)} (h : plErr l ≠ 0) : plP l = [] ∧ plN l = 0 := by simp only [plP, plN, if_neg h, and_self]
theorem plP_ok {l : List (Int × Int)} (h : plErr l = 0) : plP l = plA 0 0 l ∧ plN l = plW 0 0 l := by simp only [plP, plN, if_pos h, and_self]
theorem plErr_long {l : List (Int × Int)} (h : l.length = 0 ∨ 256 < l.length) : plErr l = 12 := by unfold plErr; rw [if_pos h]
theorem plErr_in {l : List (Int × Int)} (h1 : l.length ≠ 0) (h2 : l.length ≤ 256) : plErr l = plE 0 0 l := by unfold plErr; rw [if_neg (by omega)]

theorem plA_len : ∀ (l : List (Int × Int)) (wd fr : Nat), (plA wd fr l).length ≤ l.length
  | [], _, _ => by simp [plA]
  | p :: r, wd, fr => by
    have h1 := plA_len r (wd + 1) (64 - p.2.toNat)
    have h2 := plA_len r wd (fr - p.2.toNat)
    unfold plA
    split
    · simp
    · split
      · split
        · simp
        · simp; omega
      · simp; omega
theorem plP_len (l : List (Int × Int)) : (plP l).length ≤ 256 := by
  by_cases h : plErr l = 0
  · rw [(plP_ok h).1]
    have h1 := plA_len l 0 0
    have h2 : ¬ (l.length = 0 ∨ 256 < l.length) := fun h3 => by
      rw [plErr_long h3] at h
      exact absurd h (by decide)
    omega
  · rw [(plP_err h).1]
    simp

/-- Behind k parts. -/
structure PlSt (l : List (Int × Int)) (k wd fr : Nat) (pre : List (Int × Int)) : Prop where
  len : pre.length = k
  err : plE 0 0 l = plE wd fr (l.drop k)
  at_ : plA 0 0 l = pre ++ plA wd fr (l.drop k)
  wds : plW 0 0 l = plW wd fr (l.drop k)
theorem PlSt.start (l : List (Int × Int)) : PlSt l 0 0 0 [] := ⟨rfl, rfl, rfl, rfl⟩
theorem PlSt.start1 {l : List (Int × Int)} (h : l.length ≠ 0) : PlSt l 0 1 64 [] := by
  cases l with
  | nil => exact absurd rfl h
  | cons p r =>
    obtain ⟨a, b, c⟩ := pl_start p r
    exact ⟨rfl, a, b, c⟩
section
variable {l : List (Int × Int)} {k wd fr : Nat} {pre : List (Int × Int)} {p : Int × Int}
theorem drop_at (h : l[k]? = some p) : l.drop k = p :: l.drop (k + 1) := by
  obtain ⟨hlt, he⟩ := List.getElem?_eq_some_iff.1 h
  rw [List.drop_eq_getElem_cons hlt, he]
theorem PlSt.bad (s : PlSt l k wd fr pre) (hp : l[k]? = some p) (h : bad p.1 p.2 ≠ 0) : plE 0 0 l = Go.Proofs.YtenbbnmhgpclkaaDoor.bad p.1 p.2 := by rw [s.err, drop_at hp, pl_bad h]
theorem PlSt.full (s : PlSt l k wd fr pre) (hp : l[k]? = some p) (h : Go.Proofs.YtenbbnmhgpclkaaDoor.bad p.1 p.2 = 0) (h2 : (fr : Int) < p.2) (h3 : wd = 64) : plE 0 0 l = 12 := by rw [s.err, drop_at hp, pl_full h h2 h3]
theorem PlSt.next (s : PlSt l k wd fr pre) (hp : l[k]? = some p) (h : Go.Proofs.YtenbbnmhgpclkaaDoor.bad p.1 p.2 = 0) (h2 : (fr : Int) < p.2) (h3 : wd ≠ 64) : PlSt l (k + 1) (wd + 1) (64 - p.2.toNat) (pre ++ [((wd : Int), 0)]) := by
  obtain ⟨a, b, c⟩ := pl_next (r := l.drop (k + 1)) h h2 h3
  refine ⟨by simp [s.len], by rw [s.err, drop_at hp, a], by rw [s.at_, drop_at hp, b]; simp, by rw [s.wds, drop_at hp, c]⟩
theorem PlSt.same (s : PlSt l k wd fr pre) (hp : l[k]? = some p) (h : Go.Proofs.YtenbbnmhgpclkaaDoor.bad p.1 p.2 = 0) (h2 : p.2 ≤ (fr : Int)) : PlSt l (k + 1) wd (fr - p.2.toNat) (pre ++ [((wd : Int) - 1, 64 - (fr : Int))]) := by
  obtain ⟨a, b, c⟩ := pl_same (wd := wd) (r := l.drop (k + 1)) h h2
  refine ⟨by simp [s.len], by rw [s.err, drop_at hp, a], by rw [s.at_, drop_at hp, b]; simp, by rw [s.wds, drop_at hp, c]⟩
theorem PlSt.done (s : PlSt l l.length wd fr pre) : plE 0 0 l = 0 ∧ plA 0 0 l = pre ∧ plW 0 0 l = wd := by
  have h : l.drop l.length = [] := by simp
  refine ⟨by rw [s.err, h]; rfl, by rw [s.at_, h]; simp [plA], by rw [s.wds, h]; rfl⟩
end

/-- The cells of pairs in a row. -/
def fcl (l : List (Int × Int)) : List Value := l.flatMap fun x => fcells x.1 x.2
theorem fcl_len : ∀ l : List (Int × Int), (fcl l).length = l.length * 2
  | [] => rfl
  | x :: r => by
    have := fcl_len r
    simp [fcl] at this ⊢
    omega
theorem fcl_snoc (l : List (Int × Int)) (x : Int × Int) : fcl (l ++ [x]) = fcl l ++ fcells x.1 x.2 := by simp [fcl]
theorem fcl_at : ∀ (l : List (Int × Int)) (k : Nat) (f : Int × Int), l[k]? = some f → (fcl l)[k * 2]? = some (.int .i64 f.1) ∧ (fcl l)[k * 2 + 1]? = some (.int .i64 f.2)
  | [], _, _, h => by simp at h
  | x :: r, 0, f, h => by
    simp at h
    subst h
    simp [fcl]
  | x :: r, k + 1, f, h => by
    have h' : r[k]? = some f := by simpa using h
    obtain ⟨e1, e2⟩ := fcl_at r k f h'
    have e : fcl (x :: r) = .int .i64 x.1 :: .int .i64 x.2 :: fcl r := by simp [fcl]
    rw [e, show (k + 1) * 2 = k * 2 + 1 + 1 by omega]
    simp only [List.getElem?_cons_succ]
    exact ⟨e1, e2⟩
/-- Pairs ahead, noughts behind. -/
def hlf (pre : List (Int × Int)) (n : Nat) : List Value := fcl pre ++ List.replicate (n * 2) (.int .i64 0)
theorem hlf_put (pre : List (Int × Int)) (n k : Nat) (x y : Int) (h : pre.length = k) : ((hlf pre (n + 1)).set (k * 2) (.int .i64 x)).set (k * 2 + 1) (.int .i64 y) = hlf (pre ++ [(x, y)]) n := by
  have hl := fcl_len pre
  have e : List.replicate ((n + 1) * 2) (Value.int .i64 0) = .int .i64 0 :: .int .i64 0 :: List.replicate (n * 2) (.int .i64 0) := by
    rw [show (n + 1) * 2 = n * 2 + 1 + 1 by omega, List.replicate_succ, List.replicate_succ]
  unfold hlf
  rw [e, fcl_snoc, List.set_append_right _ _ (by omega), show k * 2 - (fcl pre).length = 0 by omega]
  simp only [List.set_cons_zero]
  rw [List.set_append_right _ _ (by omega), show k * 2 + 1 - (fcl pre).length = 1 by omega]
  simp
theorem hlf_zero (pre : List (Int × Int)) : hlf pre 0 = fcl pre := by simp [hlf]

theorem hlf_at (pre : List (Int × Int)) (n k : Nat) (h : pre.length = k) (hn : 0 < n) : (hlf pre n)[k * 2]? = some (.int .i64 0) ∧ (hlf pre n)[k * 2 + 1]? = some (.int .i64 0) := by
  have hl := fcl_len pre
  unfold hlf
  rw [List.getElem?_append_right (by omega), List.getElem?_append_right (by omega), List.getElem?_replicate, List.getElem?_replicate, if_pos (by omega), if_pos (by omega)]
  exact ⟨rfl, rfl⟩

/-- A slice of pairs of ints, in blocks below n₀. -/
def Prs (n₀ : Nat) (W : World) (a : Option Addr) (l : List (Int × Int)) : Prop :=
  ∀ j p, l[j]? = some p → ∃ b off, a = some ⟨b, off, none⟩ ∧ b < n₀ ∧ W.cell? ⟨b, off + j * 2, none⟩ = some (.int .i64 p.1) ∧ W.cell? ⟨b, off + j * 2 + 1, none⟩ = some (.int .i64 p.2)
theorem Prs.below {n₀ : Nat} {A B : World} {a : Option Addr} {l : List (Int × Int)} (k : Prs n₀ A a l) (h : Below n₀ A B) : Prs n₀ B a l := fun j p hp => by
  obtain ⟨b, off, e, hb, c0, c1⟩ := k j p hp
  exact ⟨b, off, e, hb, (h.cell (p := ⟨b, off + j * 2, none⟩) hb).trans c0, (h.cell (p := ⟨b, off + j * 2 + 1, none⟩) hb).trans c1⟩
theorem Prs.mono {n m : Nat} {A : World} {a : Option Addr} {l : List (Int × Int)} (k : Prs n A a l) (h : n ≤ m) : Prs m A a l := fun j p hp => by
  obtain ⟨b, off, e, hb, c⟩ := k j p hp
  exact ⟨b, off, e, Nat.lt_of_lt_of_le hb h, c⟩
theorem Prs.next {A B : World} {a : Option Addr} {l : List (Int × Int)} (k : Prs A.heap.size A a l) (h : Below A.heap.size A B) : Prs B.heap.size B a l := (k.below h).mono h.size
theorem Prs.nil (n₀ : Nat) (W : World) (a : Option Addr) : Prs n₀ W a [] := fun j p hp => by simp at hp
theorem Prs.take {n₀ : Nat} {W : World} {a : Option Addr} {l : List (Int × Int)} (k : Prs n₀ W a l) (n : Nat) : Prs n₀ W a (l.take n) := fun j p hp => by
  refine k j p ?_
  rw [List.getElem?_take] at hp
  split at hp
  · exact hp
  · cases hp
theorem Prs.of_blk {W : World} {g : Nat} {l : List (Int × Int)} (h : Blk W g (fcl l)) : Prs W.heap.size W (some ⟨g, 0, none⟩) l := fun j p hp => by
  obtain ⟨e1, e2⟩ := fcl_at l j p hp
  exact ⟨g, 0, rfl, h.lt, by rw [Nat.zero_add]; exact h.cell e1, by rw [Nat.zero_add]; exact h.cell e2⟩
/-- A row of one's own is a slice. -/
theorem owns_slice {W : World} {base : Nat} {e : TypeId} {size : Nat} {v : Value} {k : Nat} {xs : List Value} (h : W.ownsRow base e size v k xs) :
    ∃ a c, v = .slice a k c ∧ ∀ j u, xs[j]? = some u → ∃ g, a = some ⟨g, 0, none⟩ ∧ base ≤ g ∧ g < W.heap.size ∧ W.cell? ⟨g, j, none⟩ = some u := by
  rcases h.2 with ⟨rfl, rfl⟩ | ⟨g, cap, cur, rfl, hb, hg, _⟩
  · refine ⟨none, 0, rfl, fun j u hu => ?_⟩
    have h0 : xs = [] := by
      have := h.1
      simp at this
      exact this
    rw [h0] at hu
    simp at hu
  · refine ⟨some ⟨g, 0, none⟩, cap, rfl, fun j u hu => ⟨g, rfl, hb, (Array.getElem?_eq_some_iff.1 hg).1, ?_⟩⟩
    have := h.cells (g := g) rfl j u hu
    have e : (⟨g, 0, none⟩ : Addr).add j = ⟨g, j, none⟩ := by unfold Addr.add; split <;> simp_all
    rw [e] at this
    exact this
theorem owns_prs {W : World} {base : Nat} {e : TypeId} {v : Value} {l : List (Int × Int)} (h : W.ownsRow base e 2 v l.length (fcl l)) :
    ∃ a c, v = .slice a l.length c ∧ Prs W.heap.size W a l := by
  obtain ⟨a, c, hv, hc⟩ := owns_slice h
  refine ⟨a, c, hv, fun k f hf => ?_⟩
  obtain ⟨e1, e2⟩ := fcl_at l k f hf
  obtain ⟨g, ha, hb, hl, c1⟩ := hc _ _ e1
  obtain ⟨g', ha', _, _, c2⟩ := hc _ _ e2
  rw [ha] at ha'
  cases ha'
  exact ⟨g, 0, ha, hl, by rw [Nat.zero_add]; exact c1, by rw [Nat.zero_add]; exact c2⟩
theorem cell_two_new (w : World) (x y : Value) (t : TypeId) : ∀ j u, [x, y][j]? = some u → (w.alloc (.cells #[x, y] t)).cell? ((⟨w.heap.size, 0, none⟩ : Addr).add j) = some u := by
  intro j u hj
  match j, hj with
  | 0, hj => simp at hj; subst hj; simp [Addr.add]
  | 1, hj => simp at hj; subst hj; simp [Addr.add]
  | j + 2, hj => simp at hj

/-- The table of kinds, as it is laid. -/
def kcells : List Value := [.string ⟨#[102, 108, 97, 103]⟩, .int .i64 1, .int .i64 1, .string ⟨#[99, 111, 117, 110, 116]⟩, .int .i64 1, .int .i64 63, .string ⟨#[119, 104, 111, 108, 101]⟩, .int .i64 2, .int .i64 64, .string ⟨#[112, 111, 105, 110, 116]⟩, .int .i64 64, .int .i64 64]
def KD (w : World) : Prop := 0 < w.heap.size ∧ ∀ j v, kcells[j]? = some v → w.cell? ⟨0, j, none⟩ = some v
theorem KD.next {w w' : World} (h : KD w) (u : Below w.heap.size w w') : KD w' :=
  ⟨Nat.lt_of_lt_of_le h.1 u.size, fun j v hv => (u.cell (p := ⟨0, j, none⟩) h.1).trans (h.2 j v hv)⟩
theorem KD.lo {w : World} (h : KD w) {k : Nat} (hk : k < 4) : w.cell? ⟨0, k * 3 + 1, none⟩ = some (.int .i64 (kLo k)) := by
  apply h.2
  match k, hk with
  | 0, _ | 1, _ | 2, _ | 3, _ => rfl
theorem KD.hi {w : World} (h : KD w) {k : Nat} (hk : k < 4) : w.cell? ⟨0, k * 3 + 2, none⟩ = some (.int .i64 (kHi k)) := by
  apply h.2
  match k, hk with
  | 0, _ | 1, _ | 2, _ | 3, _ => rfl
end Go.Proofs.YtenbbnmhgpclkaaDoor
