/- A record that is being laid into its place, word by word; a publishing alone, wherever its topic lies. -/
import Derived.Test.YtflgggfomhifeaaNewO
import Derived.Test.YtflgggfomhifeaaSml
namespace Go.Proofs.Ytflgggfomhifeaa
open Go.RowKit

section
variable {S : Sp} {ws xs : List Int} {x : St} {v : Int}
theorem stp_look (hh : x.how = 0) (l : x.line = 0) (hv : getI xs S.sq = some v) (he : ¬ v % 2 = 1) : stp S ws xs x = ({ x with s := v, line := 1, steps := x.steps + 1 }, xs, 1) := by
  unfold stp
  rw [if_neg (fun c => c hh), if_pos l, hv]
  exact if_neg he
theorem stp_odd (hh : x.how = 0) (l : x.line = 0) (hv : getI xs S.sq = some v) (he : v % 2 = 1) : stp S ws xs x = (agn { x with s := v }, xs, 1) := by
  unfold stp
  rw [if_neg (fun c => c hh), if_pos l, hv]
  exact if_pos he
theorem stp_hit (hh : x.how = 0) (l : x.line = 1) (hv : getI xs S.sq = some v) (he : v = x.s) : stp S ws xs x = ({ x with line := 2, steps := x.steps + 1 }, xs.set S.sq.toNat (addw x.s 1), 1) := by
  unfold stp
  rw [if_neg (fun c => c hh), if_neg (by omega), if_pos l, hv]
  exact if_pos he
theorem stp_miss (hh : x.how = 0) (l : x.line = 1) (hv : getI xs S.sq = some v) (he : ¬ v = x.s) : stp S ws xs x = (agn x, xs, 1) := by
  unfold stp
  rw [if_neg (fun c => c hh), if_neg (by omega), if_pos l, hv]
  exact if_neg he
theorem stp_lay (hh : x.how = 0) (l : x.line = 2) (hv : getI xs (lie S x) = some v) : stp S ws xs x = ({ x with n := x.n + 1, line := if x.n + 1 = ws.length then 3 else 2, steps := x.steps + 1 }, xs.set (lie S x).toNat (ws.getD x.n.toNat 0), 1) := by
  unfold stp
  rw [if_neg (fun c => c hh), if_neg (by omega), if_neg (by omega), if_pos l, hv]
theorem stp_give (hh : x.how = 0) (l : x.line = 3) (hv : getI xs S.sq = some v) : stp S ws xs x = ({ x with how := 1, steps := x.steps + 1 }, xs.set S.sq.toNat (addw x.s 2), 1) := by
  unfold stp
  rw [if_neg (fun c => c hh), if_neg (by omega), if_neg (by omega), if_neg (by omega), hv]
end
/-- A topic's spot. -/
def spB (B : Nat) (n d : Int) : Sp := ⟨B, B + 1, B + 2, n, d⟩
/-- Behind m words of the record ws that were laid from A on, where xs was; B is the topic's beginning. -/
def Laid (B A m : Nat) (ws xs zs : List Int) : Prop := ∀ i, i ≠ B + 1 → zs[i]? = if A ≤ i ∧ i < A + m then ws[i - A]? else xs[i]?
theorem laid_zero {B A : Nat} {ws xs zs : List Int} (h : ∀ i, i ≠ B + 1 → zs[i]? = xs[i]?) : Laid B A 0 ws xs zs := fun i hi => by
  rw [if_neg (by omega)]
  exact h i hi
theorem laid_next {B A m : Nat} {ws xs zs : List Int} (h : Laid B A m ws xs zs) (hm : m < ws.length) (hA : A + m < zs.length) : Laid B A (m + 1) ws xs (zs.set (A + m) (ws.getD m 0)) := fun i hi => by
  by_cases e : i = A + m
  · subst e
    rw [if_pos (by omega), List.getElem?_set_self hA, List.getD_eq_getElem?_getD, show A + m - A = m by omega, List.getElem?_eq_getElem hm]
    rfl
  · rw [List.getElem?_set_ne (by omega), h i hi]
    by_cases c : A ≤ i ∧ i < A + m
    · rw [if_pos c, if_pos (by omega)]
    · rw [if_neg c, if_neg (by omega)]
theorem laid_one {B A m : Nat} {ws xs zs : List Int} (h : Laid B A m ws xs zs) (v : Int) : Laid B A m ws xs (zs.set (B + 1) v) := fun i hi => by
  rw [List.getElem?_set_ne (by omega)]
  exact h i hi
/-- Where the place of generation k + 1 begins. -/
def plc (B n d k : Nat) : Nat := B + 2 + (k + 1) % d * n
theorem plc_lie {B n d k : Nat} (hB : B ≤ 100000) (h1 : 1 ≤ n) (h2 : n ≤ 64) (h3 : 2 ≤ d) (h4 : d ≤ 16) (x : St) (hs : x.s = 2 * (k : Int)) : lie (spB B n d) x = plc B n d k + x.n := by
  unfold lie plc
  rw [hs, show 2 * (k : Int) / 2 + 1 = ((k + 1 : Nat) : Int) by omega]
  show atv ((B : Int) + 2) n d _ + _ = _
  rw [atv_ok (by unfold okS; omega)]
  push_cast
  rfl
theorem plc_in {B n d k : Nat} (h3 : 2 ≤ d) : B + 2 ≤ plc B n d k ∧ plc B n d k + n ≤ B + 2 + n * d := by
  unfold plc
  have h : (k + 1) % d < d := Nat.mod_lt _ (by omega)
  have h' : ((k + 1) % d + 1) * n ≤ d * n := Nat.mul_le_mul_right n h
  rw [Nat.add_mul, Nat.one_mul, Nat.mul_comm d n] at h'
  exact ⟨by omega, by omega⟩
/-- A publishing that took the sequence 2 k, behind m words: how it stands. -/
def hst (k m n : Nat) (l : Int) : St := ⟨0, 2 + m, l, if m = n then 3 else 2, m, 2 * k⟩
/-- A publishing alone, behind j steps. -/
def AlInv (B n d k : Nat) (ws xs : List Int) (j : Nat) (x : St) (zs : List Int) : Prop :=
  zs.length = xs.length ∧
  ((j = 0 ∧ x = st0 1 ∧ zs = xs) ∨ (j = 1 ∧ x = ⟨0, 1, 1, 1, 0, 2 * k⟩ ∧ zs = xs) ∨
   (∃ m, j = 2 + m ∧ m ≤ n ∧ x = hst k m n 1 ∧ zs[B + 1]? = some (2 * (k : Int) + 1) ∧ Laid B (plc B n d k) m ws xs zs) ∨
   (j = n + 3 ∧ x = ⟨1, 3 + n, 1, 3, n, 2 * k⟩ ∧ zs[B + 1]? = some (2 * (k : Int) + 2) ∧ Laid B (plc B n d k) n ws xs zs))
theorem addw_small {v x : Int} (h0 : 0 ≤ v) (h1 : v ≤ 1000000) (h2 : 0 ≤ x) (h3 : x ≤ 2) : addw v x = v + x := by
  unfold addw
  rw [IntKind.wrap_u64]
  omega
theorem al_step {B n d k : Nat} {ws xs : List Int} {j : Nat} {x : St} {zs : List Int} (hB : B ≤ 100000) (h1 : 1 ≤ n) (h2 : n ≤ 64) (h3 : 2 ≤ d) (h4 : d ≤ 16) (hk : k ≤ 1000) (hl : B + 2 + n * d ≤ xs.length) (hn : ws.length = n) (hx : xs[B + 1]? = some (2 * (k : Int)))
    (h : AlInv B n d k ws xs j x zs) (hj : j < n + 3) :
    AlInv B n d k ws xs (j + 1) (stp (spB B n d) ws zs x).1 (stp (spB B n d) ws zs x).2.1 ∧ (stp (spB B n d) ws zs x).2.2 = 1 ∧ (stp (spB B n d) ws zs x).1.steps = j + 1 ∧ (stp (spB B n d) ws zs x).1.how = if j + 1 = n + 3 then 1 else 0 := by
  have hsq : (spB B n d).sq = ((B + 1 : Nat) : Int) := by show (B : Int) + 1 = _; push_cast; rfl
  have hsn : (spB B n d).sq.toNat = B + 1 := by rw [hsq]; exact Int.toNat_natCast _
  have get : ∀ {ys : List Int} {v : Int}, ys[B + 1]? = some v → getI ys (spB B n d).sq = some v := fun {ys v} hy => getI_mk (by rw [hsq]; omega) (by rw [hsn]; exact hy)
  obtain ⟨hz, ⟨rfl, rfl, rfl⟩ | ⟨rfl, rfl, rfl⟩ | ⟨m, rfl, hm, rfl, hy, hL⟩ | ⟨c, _⟩⟩ := h
  · have e' : stp (spB B n d) ws zs (st0 1) = (⟨0, 1, 1, 1, 0, 2 * k⟩, zs, 1) := stp_look rfl rfl (get hx) (by omega)
    rw [e', if_neg (by omega)]
    exact ⟨⟨rfl, .inr (.inl ⟨rfl, rfl, rfl⟩)⟩, rfl, rfl, rfl⟩
  · have hlt := lt_of_some hx
    have e' : stp (spB B n d) ws zs ⟨0, 1, 1, 1, 0, 2 * k⟩ = (⟨0, 2, 1, 2, 0, 2 * k⟩, zs.set (B + 1) (2 * k + 1), 1) := by
      rw [stp_hit rfl rfl (get hx) rfl, addw_small (by show (0 : Int) ≤ 2 * k; omega) (by show 2 * (k : Int) ≤ 1000000; omega) (by omega) (by omega), hsn]
      rfl
    rw [e', if_neg (by omega)]
    refine ⟨⟨by simp, .inr (.inr (.inl ⟨0, rfl, by omega, ?_, List.getElem?_set_self hlt, laid_one (laid_zero fun _ _ => rfl) _⟩))⟩, rfl, rfl, rfl⟩
    unfold hst
    rw [if_neg (by omega)]
    rfl
  · by_cases hmn : m = n
    · subst hmn
      have hlt := lt_of_some hy
      have e' : stp (spB B m d) ws zs (hst k m m 1) = (⟨1, 2 + m + 1, 1, 3, m, 2 * k⟩, zs.set (B + 1) (2 * k + 2), 1) := by
        have hl3 : (hst k m m 1).line = 3 := if_pos rfl
        rw [stp_give rfl hl3 (get hy), addw_small (by show (0 : Int) ≤ 2 * k; omega) (by show 2 * (k : Int) ≤ 1000000; omega) (by omega) (by omega), hl3, hsn]
        rfl
      rw [e', if_pos (by omega)]
      refine ⟨⟨by simp [hz], .inr (.inr (.inr ⟨by omega, ?_, List.getElem?_set_self hlt, laid_one hL _⟩))⟩, rfl, ?_, rfl⟩
      · rw [show (2 : Int) + m + 1 = 3 + m by omega]
      · show (2 : Int) + m + 1 = ((2 + m : Nat) : Int) + 1
        omega
    · have hlie : lie (spB B n d) (hst k m n 1) = plc B n d k + m := plc_lie hB h1 h2 h3 h4 _ rfl
      obtain ⟨p1, p2⟩ := plc_in (B := B) (n := n) (d := d) (k := k) h3
      have hlt : plc B n d k + m < zs.length := by omega
      have ht : ((plc B n d k : Int) + m).toNat = plc B n d k + m := by omega
      have e : getI zs (plc B n d k + m) = some (zs[plc B n d k + m]) := getI_mk (by omega) (by rw [ht]; exact List.getElem?_eq_getElem _)
      have e' : stp (spB B n d) ws zs (hst k m n 1) = (hst k (m + 1) n 1, zs.set (plc B n d k + m) (ws.getD m 0), 1) := by
        rw [stp_lay (x := hst k m n 1) rfl (if_neg hmn) (by rw [hlie]; exact e), hlie, ht]
        unfold hst
        simp only [Int.toNat_natCast, hn, Prod.mk.injEq, St.mk.injEq, and_true, true_and]
        refine ⟨by omega, ?_, by omega⟩
        by_cases q : m + 1 = n
        · rw [if_pos q, if_pos (by omega)]
        · rw [if_neg q, if_neg (by omega)]
      rw [e', if_neg (by omega)]
      refine ⟨⟨by simp [hz], .inr (.inr (.inl ⟨m + 1, by omega, by omega, rfl, ?_, laid_next hL (by omega) hlt⟩))⟩, rfl, ?_, rfl⟩
      · exact (List.getElem?_set_ne (by omega)).trans hy
      · show (2 : Int) + ((m + 1 : Nat) : Int) = ((2 + m : Nat) : Int) + 1
        omega
  · omega
end Go.Proofs.Ytflgggfomhifeaa
