/- A reading of a bank that stays. -/
import Derived.Test.YtajibhhmcjcchaaLaM
import Derived.Test.YtajibhhmcjcchaaWor
namespace Go.Proofs.Ytajibhhmcjcchaa
open Go.RowKit

/-- Where the place of generation G begins. -/
def gat (n d G : Nat) : Nat := 2 + G % d * n
theorem gat_in {n d G : Nat} (h3 : 2 ≤ d) : 2 ≤ gat n d G ∧ gat n d G + n ≤ 2 + n * d := by
  unfold gat
  have h : G % d < d := Nat.mod_lt _ (by omega)
  have h' : (G % d + 1) * n ≤ d * n := Nat.mul_le_mul_right n h
  rw [Nat.add_mul, Nat.one_mul, Nat.mul_comm d n] at h'
  exact ⟨by omega, by omega⟩
theorem gat_at {n d G : Nat} (h1 : 1 ≤ n) (h2 : n ≤ 64) (h3 : 2 ≤ d) (h4 : d ≤ 16) : atv 2 n d (G : Int) = gat n d G := by
  unfold gat
  rw [atv_ok (by unfold okS; omega)]
  push_cast
  rfl
/-- A reading alone, behind j steps: of generation G, that lies at A. -/
def rq (xs : List Int) (n : Nat) (tr : Int) (G A j : Nat) : RSt :=
  if j = 0 then rst0 tr else ⟨0, if j = n + 1 then 2 else 1, tr, j, 1, G, (xs.drop A).take (j - 1)⟩
def rqE (xs : List Int) (n : Nat) (tr : Int) (G A : Nat) : RSt := ⟨1, 2, tr, n + 2, 1, G, (xs.drop A).take n⟩
theorem kp_same {v d : Int} (_hv : U64 v) (h1 : 2 ≤ d) (h2 : d ≤ 16) : Sq.kp v (v / 2) d = true := by
  apply Sq.kp_t
  unfold Sq.bg
  omega
section
variable {S : Sp} {xs : List Int} {x : RSt} {v : Int}
theorem rst_none (hh : x.how = 0) (hv : getI xs (rdl S x) = none) : rst S xs x = ({ x with how := 3 }, 0) := by
  unfold rst
  rw [if_neg (fun c => c hh), hv]
theorem rst_new (hh : x.how = 0) (l : x.line = 0) (hv : getI xs (rdl S x) = some v) : rst S xs x = ({ x with steps := x.steps + 1, bgn := x.steps + 1, gen := v / 2, rw := [], line := 1 }, 1) := by
  unfold rst
  rw [if_neg (fun c => c hh), hv]
  exact if_pos l
theorem rst_wrd (hh : x.how = 0) (l : x.line = 1) (hv : getI xs (rdl S x) = some v) : rst S xs x = ({ x with steps := x.steps + 1, rw := x.rw ++ [v], line := if (x.rw.length : Int) + 1 = S.wd then 2 else 1 }, 1) := by
  unfold rst
  rw [if_neg (fun c => c hh), hv]
  exact (if_neg (by omega)).trans (if_pos l)
theorem rst_kept (hh : x.how = 0) (l : x.line = 2) (hv : getI xs (rdl S x) = some v) (hk : Sq.kp v x.gen S.dp = true) : rst S xs x = ({ x with steps := x.steps + 1, how := 1 }, 1) := by
  unfold rst
  rw [if_neg (fun c => c hh), hv]
  exact (if_neg (by omega)).trans ((if_neg (by omega)).trans (if_pos hk))
theorem rst_agn (hh : x.how = 0) (l : x.line = 2) (hv : getI xs (rdl S x) = some v) (hk : Sq.kp v x.gen S.dp = false) : rst S xs x = (ragn x, 1) := by
  unfold rst
  rw [if_neg (fun c => c hh), hv]
  exact (if_neg (by omega)).trans ((if_neg (by omega)).trans (if_neg (by simp [hk])))
end
section
variable {xs : List Int} {n d G : Nat} {tr v : Int}
theorem rq_zero (hx : xs[1]? = some v) (hg : v / 2 = G) (h1 : 1 ≤ n) : rst (spS n d) xs (rst0 tr) = (rq xs n tr G (gat n d G) 1, 1) := by
  have e : getI xs (rdl (spS n d) (rst0 tr)) = some v := getI_mk (by show (0 : Int) ≤ 1; omega) hx
  rw [rst_new rfl rfl e, hg]
  unfold rq
  rw [if_neg (by omega), if_neg (by omega)]
  rfl
theorem rq_word (h1 : 1 ≤ n) (h2 : n ≤ 64) (h3 : 2 ≤ d) (h4 : d ≤ 16) {m : Nat} (hm : m < n) (hl : gat n d G + m < xs.length) :
    rst (spS n d) xs (rq xs n tr G (gat n d G) (m + 1)) = (rq xs n tr G (gat n d G) (m + 2), 1) := by
  have hlen : ((xs.drop (gat n d G)).take m).length = m := by rw [List.length_take, List.length_drop]; omega
  have er : rq xs n tr G (gat n d G) (m + 1) = ⟨0, 1, tr, m + 1, 1, G, (xs.drop (gat n d G)).take m⟩ := by
    unfold rq
    rw [if_neg (by omega), if_neg (by omega)]
    rfl
  have el : rdl (spS n d) (rq xs n tr G (gat n d G) (m + 1)) = ((gat n d G + m : Nat) : Int) := by
    rw [er]
    show (if (1 : Int) = 1 then atv 2 n d G + (((xs.drop (gat n d G)).take m).length : Int) else 1) = _
    rw [if_pos rfl, gat_at h1 h2 h3 h4, hlen]
    push_cast
    rfl
  have hv : xs[gat n d G + m]? = some (xs[gat n d G + m]) := List.getElem?_eq_getElem hl
  have e : getI xs (rdl (spS n d) (rq xs n tr G (gat n d G) (m + 1))) = some (xs[gat n d G + m]) := by
    rw [el]
    exact getI_mk (by omega) (by rw [Int.toNat_natCast]; exact hv)
  have e2 : (xs.drop (gat n d G)).take (m + 1) = (xs.drop (gat n d G)).take m ++ [xs[gat n d G + m]] := by
    rw [List.take_add_one, List.getElem?_drop, hv]
    rfl
  rw [er] at e ⊢
  rw [rst_wrd rfl rfl e]
  unfold rq
  rw [if_neg (show ¬ m + 2 = 0 by omega), show m + 2 - 1 = m + 1 by omega, e2]
  show ((⟨0, if (((xs.drop (gat n d G)).take m).length : Int) + 1 = (n : Int) then 2 else 1, tr, (m : Int) + 1 + 1, 1, G, _⟩ : RSt), (1 : Int)) = _
  rw [hlen]
  by_cases c : m + 1 = n
  · rw [if_pos (by omega), if_pos (by omega)]
    simp only [Prod.mk.injEq, RSt.mk.injEq, and_true, true_and]
    omega
  · rw [if_neg (by omega), if_neg (by omega)]
    simp only [Prod.mk.injEq, RSt.mk.injEq, and_true, true_and]
    omega
theorem rq_last (hx : xs[1]? = some v) (hg : v / 2 = G) (hv : U64 v) (h1 : 1 ≤ n) (h3 : 2 ≤ d) (h4 : d ≤ 16) :
    rst (spS n d) xs (rq xs n tr G (gat n d G) (n + 1)) = (rqE xs n tr G (gat n d G), 1) := by
  have er : rq xs n tr G (gat n d G) (n + 1) = ⟨0, 2, tr, n + 1, 1, G, (xs.drop (gat n d G)).take n⟩ := by
    unfold rq
    rw [if_neg (by omega), if_pos rfl]
    rfl
  have e : getI xs (rdl (spS n d) (rq xs n tr G (gat n d G) (n + 1))) = some v := by
    rw [er]
    exact getI_mk (by show (0 : Int) ≤ 1; omega) hx
  rw [er] at e ⊢
  rw [rst_kept rfl rfl e (by rw [show (RSt.gen _ : Int) = v / 2 from hg.symm]; exact kp_same hv (by show (2 : Int) ≤ d; omega) (by show (d : Int) ≤ 16; omega))]
  unfold rqE
  simp only [Prod.mk.injEq, RSt.mk.injEq, and_true, true_and]
  omega
/-- Behind each step but the last one. -/
theorem rq_step (hx : xs[1]? = some v) (hg : v / 2 = G) (h1 : 1 ≤ n) (h2 : n ≤ 64) (h3 : 2 ≤ d) (h4 : d ≤ 16) {j : Nat} (hj : j ≤ n) (hl : 1 ≤ j → gat n d G + (j - 1) < xs.length) :
    rst (spS n d) xs (rq xs n tr G (gat n d G) j) = (rq xs n tr G (gat n d G) (j + 1), 1) := by
  by_cases c : j = 0
  · subst c
    exact rq_zero hx hg h1
  · obtain ⟨m, rfl⟩ : ∃ m, j = m + 1 := ⟨j - 1, by omega⟩
    exact rq_word h1 h2 h3 h4 (by omega) (by simpa using hl (by omega))
theorem rq_out0 (hl : xs.length ≤ 1) : rst (spS n d) xs (rst0 tr) = ({ rst0 tr with how := 3 }, 0) := by
  have e : getI xs (rdl (spS n d) (rst0 tr)) = none := by
    show (if (0 : Int) ≤ 1 then xs[(1 : Int).toNat]? else none) = none
    rw [if_pos (by omega)]
    exact List.getElem?_eq_none_iff.2 (by simpa using hl)
  exact rst_none rfl e
theorem rq_out (h1 : 1 ≤ n) (h2 : n ≤ 64) (h3 : 2 ≤ d) (h4 : d ≤ 16) {m : Nat} (hm : m < n) (hl : gat n d G + m = xs.length) :
    rst (spS n d) xs (rq xs n tr G (gat n d G) (m + 1)) = ({ rq xs n tr G (gat n d G) (m + 1) with how := 3 }, 0) := by
  have hlen : ((xs.drop (gat n d G)).take m).length = m := by rw [List.length_take, List.length_drop]; omega
  have er : rq xs n tr G (gat n d G) (m + 1) = ⟨0, 1, tr, m + 1, 1, G, (xs.drop (gat n d G)).take m⟩ := by
    unfold rq
    rw [if_neg (by omega), if_neg (by omega)]
    rfl
  have el : rdl (spS n d) (rq xs n tr G (gat n d G) (m + 1)) = ((gat n d G + m : Nat) : Int) := by
    rw [er]
    show (if (1 : Int) = 1 then atv 2 n d G + (((xs.drop (gat n d G)).take m).length : Int) else 1) = _
    rw [if_pos rfl, gat_at h1 h2 h3 h4, hlen]
    push_cast
    rfl
  have e : getI xs (rdl (spS n d) (rq xs n tr G (gat n d G) (m + 1))) = none := by
    rw [el]
    unfold getI
    rw [if_pos (by omega), Int.toNat_natCast]
    exact List.getElem?_eq_none_iff.2 (by omega)
  rw [er] at e ⊢
  exact rst_none rfl e
theorem rq_how (j : Nat) : (rq xs n tr G (gat n d G) j).how = 0 := by
  unfold rq
  split <;> rfl
theorem rq_steps (j : Nat) : (rq xs n tr G (gat n d G) j).steps = j := by
  unfold rq
  split
  · rename_i c; subst c; rfl
  · rfl
end
/-- Behind each step. -/
def rqa (xs : List Int) (n : Nat) (tr : Int) (G A j : Nat) : RSt := if j = n + 2 then rqE xs n tr G A else rq xs n tr G A j
theorem rqa_zero {xs : List Int} {n : Nat} {tr : Int} {G A : Nat} : rqa xs n tr G A 0 = rst0 tr := by
  unfold rqa rq
  rw [if_neg (by omega), if_pos rfl]
theorem rqa_end {xs : List Int} {n : Nat} {tr : Int} {G A : Nat} : rqa xs n tr G A (n + 2) = rqE xs n tr G A := if_pos rfl
theorem rqa_step {xs : List Int} {n d G : Nat} {tr v : Int} (hx : xs[1]? = some v) (hg : v / 2 = G) (hv : U64 v) (h1 : 1 ≤ n) (h2 : n ≤ 64) (h3 : 2 ≤ d) (h4 : d ≤ 16) (hl : 2 + n * d ≤ xs.length) {j : Nat} (hj : j < n + 2) :
    rst (spS n d) xs (rqa xs n tr G (gat n d G) j) = (rqa xs n tr G (gat n d G) (j + 1), 1) := by
  obtain ⟨g1, g2⟩ := gat_in (n := n) (G := G) h3
  unfold rqa
  rw [if_neg (show ¬ j = n + 2 by omega)]
  by_cases c : j = n + 1
  · subst c
    rw [if_pos rfl]
    exact rq_last hx hg hv h1 h3 h4
  · rw [if_neg (show ¬ j + 1 = n + 2 by omega)]
    exact rq_step hx hg h1 h2 h3 h4 (by omega) (fun _ => by omega)
theorem rqa_how {xs : List Int} {n d G : Nat} {tr : Int} {j : Nat} (hj : j < n + 2) : (rqa xs n tr G (gat n d G) j).how = 0 := by
  unfold rqa
  rw [if_neg (by omega)]
  exact rq_how j
theorem rqa_steps {xs : List Int} {n d G : Nat} {tr : Int} (j : Nat) : (rqa xs n tr G (gat n d G) j).steps = j := by
  unfold rqa
  by_cases c : j = n + 2
  · rw [if_pos c, c]
    show (n : Int) + 2 = _
    omega
  · rw [if_neg c]
    exact rq_steps j
/-- What lies in the place. -/
theorem place_eq {zs ws : List Int} {A n : Nat} (hn : ws.length = n) (h : ∀ j, j < n → zs[A + j]? = ws[j]?) : (zs.drop A).take n = ws := by
  apply List.ext_getElem?
  intro j
  rw [List.getElem?_take]
  by_cases c : j < n
  · rw [if_pos c, List.getElem?_drop]
    exact h j c
  · rw [if_neg c, List.getElem?_eq_none_iff.2 (by omega)]
theorem Wds.rdw {n₀ : Nat} {W : World} {a : Option Addr} {xs : List Int} (h : Wds n₀ W a xs) : Rdw W a xs := fun j x hx => by
  obtain ⟨_, b, off, e, _, hc⟩ := h j x hx
  exact ⟨b, off, e, hc⟩
end Go.Proofs.Ytajibhhmcjcchaa
