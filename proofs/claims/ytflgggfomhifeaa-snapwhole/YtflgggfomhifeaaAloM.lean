/- SnapAlone: how many records of each topic there are, and what a snapshot makes of it. No program is named here. -/
import Derived.Test.YtflgggfomhifeaaSnA
namespace Go.Proofs.Ytflgggfomhifeaa
open Go.RowKit

/-- Of each topic j, c j records were published. -/
def PC (l : List Tp) (zs : List Int) (c : Nat → Nat) : Prop :=
  zs.length = (tot 0 l).toNat ∧ ∀ j B n d, Tn l j B n d → zs[B + 1]? = some (2 * (c j : Int))
/-- The same; of the first topic another one may be under way. -/
def PQ (l : List Tp) (zs : List Int) (c : Nat → Nat) : Prop :=
  zs.length = (tot 0 l).toNat ∧ (∀ j B n d, j ≠ 0 → Tn l j B n d → zs[B + 1]? = some (2 * (c j : Int))) ∧ (∀ B n d, Tn l 0 B n d → ∃ v, zs[B + 1]? = some v ∧ v / 2 = (c 0 : Int))
def csl (L : Nat) (c : Nat → Nat) : List Int := (List.range L).map (fun j => (c j : Int))
theorem csl_len (L : Nat) (c : Nat → Nat) : (csl L c).length = L := by simp [csl]
theorem csl_get {L j : Nat} (c : Nat → Nat) (h : j < L) : (csl L c)[j]? = some (c j : Int) := by simp [csl, h]
theorem csl_succ (L : Nat) (c : Nat → Nat) : csl (L + 1) c = csl L c ++ [(c L : Int)] := by simp [csl, List.range_succ]
theorem csl_congr {L : Nat} {c c' : Nat → Nat} (h : ∀ j, j < L → c j = c' j) : csl L c = csl L c' := by
  unfold csl
  refine List.map_congr_left (fun j hj => ?_)
  rw [h j (List.mem_range.1 hj)]
theorem csl_set (L k : Nat) (c : Nat → Nat) (v : Nat) : (csl L c).set k (v : Int) = csl L (fun j => if j = k then v else c j) := by
  refine List.ext_getElem? (fun i => ?_)
  by_cases hi : i < L
  · rw [csl_get _ hi]
    by_cases c1 : k = i
    · subst c1
      rw [List.getElem?_set_self (by rw [csl_len]; exact hi), if_pos rfl]
    · rw [List.getElem?_set_ne c1, csl_get _ hi, if_neg (fun e => c1 e.symm)]
  · rw [List.getElem?_eq_none_iff.2 (by rw [List.length_set, csl_len]; omega), List.getElem?_eq_none_iff.2 (by rw [csl_len]; omega)]
theorem pc_zero (l : List Tp) : PC l (List.replicate (tot 0 l).toNat 0) (fun _ => 0) := by
  refine ⟨by simp, fun j B n d t => ?_⟩
  have := t.hi
  rw [List.getElem?_replicate, if_pos (by omega)]
  rfl
theorem pc_congr {l : List Tp} {zs : List Int} {c c' : Nat → Nat} (h : PC l zs c) (he : ∀ j, j < l.length → c j = c' j) : PC l zs c' :=
  ⟨h.1, fun j B n d t => by rw [h.2 j B n d t, he j (List.getElem?_eq_some_iff.1 t.at').1]⟩
theorem pc_next {l : List Tp} (h : okL l) {zs ys ws : List Int} {c : Nat → Nat} {i B n d : Nat} (hP : PC l zs c) (t : Tn l i B n d) (hl : ys.length = zs.length) (hs : ys[B + 1]? = some (2 * (c i : Int) + 2)) (hL : Laid B (plc B n d (c i)) n ws zs ys) : PC l ys (fun j => if j = i then c i + 1 else c j) := by
  refine ⟨hl.trans hP.1, fun j B' n' d' t' => ?_⟩
  by_cases e : j = i
  · subst e
    obtain ⟨rfl, rfl, rfl⟩ := tn_one t t'
    dsimp only
    rw [hs, if_pos rfl]
    congr 1
  · dsimp only
    rw [laid_other h t t' (fun q => e q.symm) hL, hP.2 j B' n' d' t', if_neg e]
theorem pc_nx {l : List Tp} (h : okL l) {zs ys ws : List Int} {c : Nat → Nat} {i B n d m : Nat} (hc : c i = m) (hP : PC l zs c) (t : Tn l i B n d) (hl : ys.length = zs.length) (hs : ys[B + 1]? = some (2 * (m : Int) + 2)) (hL : Laid B (plc B n d m) n ws zs ys) : PC l ys (fun j => if j = i then m + 1 else c j) := by
  subst hc
  exact pc_next h hP t hl hs hL
theorem pq_next {l : List Tp} (h : okL l) {zs ys ws : List Int} {c : Nat → Nat} {i B n d : Nat} (hi : i ≠ 0) (hP : PQ l zs c) (t : Tn l i B n d) (hl : ys.length = zs.length) (hs : ys[B + 1]? = some (2 * (c i : Int) + 2)) (hL : Laid B (plc B n d (c i)) n ws zs ys) : PQ l ys (fun j => if j = i then c i + 1 else c j) := by
  refine ⟨hl.trans hP.1, fun j B' n' d' hj t' => ?_, fun B' n' d' t' => ?_⟩
  · by_cases e : j = i
    · subst e
      obtain ⟨rfl, rfl, rfl⟩ := tn_one t t'
      dsimp only
      rw [hs, if_pos rfl]
      congr 1
    · dsimp only
      rw [laid_other h t t' (fun q => e q.symm) hL, hP.2.1 j B' n' d' hj t', if_neg e]
  · obtain ⟨v, hv, hv2⟩ := hP.2.2 B' n' d' t'
    exact ⟨v, by rw [laid_other h t t' hi hL]; exact hv, by dsimp only; rw [if_neg (fun q => hi q.symm)]; exact hv2⟩
/-- While the first topic is being published. -/
theorem pq_al {l : List Tp} (h : okL l) {zs ys ws : List Int} {c : Nat → Nat} {B n d j : Nat} {y : St} (hP : PC l zs c) (t : Tn l 0 B n d) (hI : AlInv B n d (c 0) ws zs j y ys) (hj : j < n + 3) : PQ l ys c := by
  obtain ⟨hl, hc⟩ := hI
  have same : ys = zs → PQ l ys c := fun e => by
    subst e
    exact ⟨hP.1, fun j B' n' d' _ t' => hP.2 j B' n' d' t', fun B' n' d' t' => ⟨_, hP.2 0 B' n' d' t', by omega⟩⟩
  rcases hc with ⟨_, _, e⟩ | ⟨_, _, e⟩ | ⟨m, _, _, _, h1, hL⟩ | ⟨c1, _⟩
  · exact same e
  · exact same e
  · obtain ⟨p1, p2⟩ := plc_in (B := B) (n := n) (d := d) (k := c 0) t.d2
    refine ⟨hl.trans hP.1, fun j B' n' d' hj' t' => ?_, fun B' n' d' t' => ?_⟩
    · have := tn_sep h t t' (by omega)
      rw [hL _ (by omega), if_neg (by omega)]
      exact hP.2 j B' n' d' t'
    · obtain ⟨rfl, rfl, rfl⟩ := tn_one t t'
      exact ⟨_, h1, by omega⟩
  · omega
theorem pq_gw {l : List Tp} {zs : List Int} {c : Nat → Nat} (hP : PQ l zs c) {j B n d : Nat} (t : Tn l j B n d) : gw zs (spB B n d) = (c j : Int) := by
  by_cases e : j = 0
  · subst e
    obtain ⟨v, hv, hv2⟩ := hP.2.2 B n d t
    rw [gw_tn t hv, hv2]
  · rw [gw_tn t (hP.2.1 j B n d e t)]
    omega
section
variable {l : List Tp} {zs : List Int} {c c' : Nat → Nat} {x : NSt} {tr p0 : Int}
/-- A step that finds what gens say. -/
theorem pq_alo (h : okL l) (hP : PQ l zs c) (hx : ∀ v ∈ zs, U64 v) (hA : Alo (spots 0 l) (csl l.length c') (fun _ => True) tr p0 x) (hc : x.line ≠ 1 → c' x.k = c x.k) :
    (nst (spots 0 l) zs x).2 = 1 ∧
    (pos (spots 0 l) x + 1 < ful (spots 0 l) → Alo (spots 0 l) (csl l.length c') (fun _ => True) tr p0 (nst (spots 0 l) zs x).1 ∧ pos (spots 0 l) (nst (spots 0 l) zs x).1 = pos (spots 0 l) x + 1) ∧
    (pos (spots 0 l) x + 1 = ful (spots 0 l) → Dne (spots 0 l) (csl l.length c') (fun _ => True) p0 (nst (spots 0 l) zs x).1) := by
  have hk : x.k < l.length := by have := hA.wf.k; rw [spots_len] at this; exact this
  refine alo_step hA hx (spots_in h hP.1) (fun hl => ?_) (fun _ => trivial)
  obtain ⟨B, n, d, t⟩ := tn_of h hk
  have h1 := hA.wf.sp
  rw [t.sp] at h1
  rw [← Option.some.inj h1, pq_gw hP t, csl_get _ hk, hc hl]
/-- The last check, which finds another record. -/
theorem pq_miss (h : okL l) (hP : PQ l zs c) (hA : Alo (spots 0 l) (csl l.length c') (fun _ => True) tr p0 x) (hp : pos (spots 0 l) x + 1 = ful (spots 0 l)) (hc : c' (l.length - 1) ≠ c (l.length - 1)) :
    (nst (spots 0 l) zs x).2 = 1 ∧ (nst (spots 0 l) zs x).1 = nagn x := by
  have hw := hA.wf
  have hk : x.k < l.length := by have := hw.k; rw [spots_len] at this; exact this
  obtain ⟨q1, q2, q3⟩ := pos_lt hw
  have hf : ful (spots 0 l) = 2 * (spots 0 l).length + wid (spots 0 l) := rfl
  have hl2 : x.line = 2 := q3.2 (by have := h.1; have := spots_len l 0; omega)
  have hkl : x.k = l.length - 1 := by
    have : pos (spots 0 l) x = (spots 0 l).length + wid (spots 0 l) + x.k := by unfold pos; rw [if_neg (by omega), if_neg (by omega)]
    have := spots_len l 0
    omega
  obtain ⟨B, n, d, t⟩ := tn_of h hk
  have h1 := hw.sp
  rw [t.sp] at h1
  obtain ⟨s1, s2, hcs⟩ := nst_step hw (spots_in h hP.1) hA.how
  refine ⟨s1, ?_⟩
  rcases hcs with ⟨_, _, e⟩ | ⟨e, _⟩
  · exact e
  · exfalso
    have e2 := e hl2
    obtain ⟨v, hv1, hv2, _⟩ := hw.gen (by omega)
    have h3 := hA.gen _ v (by rw [spots_len]; exact hk) hv1
    rw [csl_get _ hk] at h3
    cases h3
    rw [← Option.some.inj h1, pq_gw hP t, hv2, hkl] at e2
    omega
/-- Ahead of the last check nothing speaks of the last topic. -/
theorem pq_l5 (h : okL l) (hA : Alo (spots 0 l) (csl l.length c') (fun _ => True) tr p0 x) (h1 : l.length ≤ pos (spots 0 l) x) (h2 : pos (spots 0 l) x + 1 < ful (spots 0 l)) {v : Nat} : x.line ≠ 1 → c' x.k = (fun j => if j = l.length - 1 then v else c' j) x.k := fun hl => by
  obtain ⟨q1, q2, q3⟩ := pos_lt hA.wf
  have e := spots_len l 0
  have h0 : ¬ x.line = 0 := fun c => by have := q2.1 c; omega
  have hp : pos (spots 0 l) x = (spots 0 l).length + wid (spots 0 l) + x.k := by unfold pos; rw [if_neg h0, if_neg hl]
  have hf : ful (spots 0 l) = 2 * (spots 0 l).length + wid (spots 0 l) := rfl
  have := h.1
  dsimp only
  rw [if_neg (by omega)]
theorem dne_take (hD : Dne (spots 0 l) (csl l.length c') (fun _ => True) p0 x) : x.tl.take l.length = csl l.length c' := by
  have hl := hD.len
  rw [spots_len] at hl
  refine List.ext_getElem? (fun i => ?_)
  rw [List.getElem?_take]
  split
  · rename_i hi
    have := hD.gen i _ (by rw [spots_len]; exact hi) (List.getElem?_eq_getElem (by omega))
    rw [List.getElem?_eq_getElem (by omega), this]
  · rename_i hi
    exact (List.getElem?_eq_none_iff.2 (by rw [csl_len]; omega)).symm
end
/-- How many records of topic k are published, by the numbers given. -/
def mq (ms : List Int) (k : Nat) : Nat := if 0 < ms.getD k 0 ∧ ms.getD k 0 ≤ 8 then (ms.getD k 0).toNat else 0
theorem mq_le (ms : List Int) (k : Nat) : mq ms k ≤ 8 := by unfold mq; split <;> omega
/-- Ints that lie in a slice. -/
def Ids (n₀ : Nat) (W : World) (a : Option Addr) (xs : List Int) : Prop :=
  ∀ (j : Nat) (x : Int), xs[j]? = some x → I64 x ∧ ∃ b off, a = some ⟨b, off, none⟩ ∧ b < n₀ ∧ W.cell? ⟨b, off + j, none⟩ = some (.int .i64 x)
theorem Ids.keep {A B : World} {n₀ : Nat} {a : Option Addr} {xs : List Int} (k : Ids n₀ A a xs) (h : Below n₀ A B) : Ids n₀ B a xs := fun j x hx => by
  obtain ⟨hw, b, off, e, hb, hc⟩ := k j x hx
  exact ⟨hw, b, off, e, hb, (h.cell (p := ⟨b, off + j, none⟩) hb).trans hc⟩
end Go.Proofs.Ytflgggfomhifeaa
