/- What is printed is parsed, and what is parsed is printed: plain mathematics of bytes. -/
import Derived.Test.YtenbbnmhgpclkaaDoorPar
namespace Go.Proofs.YtenbbnmhgpclkaaDoor
open Go.RowKit

/-- Up to two digits, written out. -/
def dd2 (n : Nat) : List UInt8 := if n < 10 then [UInt8.ofNat (48 + n)] else [UInt8.ofNat (48 + n / 10), UInt8.ofNat (48 + n % 10)]
theorem dd_eq {n : Nat} (h : n < 100) : Lib.decDigits n = dd2 n := by
  unfold dd2
  split
  · rename_i h1
    rw [Lib.decDigits, dif_pos h1]
  · rename_i h1
    rw [Lib.decDigits, dif_neg h1, Lib.decDigits, dif_pos (by omega)]
    rfl
def wrd2 (p : Int × Int) : List UInt8 := kName p.1.toNat ++ if tld p.1.toNat then dd2 p.2.toNat else []
theorem wrd_eq {p : Int × Int} (h : bad p.1 p.2 = 0) : wrd p = wrd2 p := by
  obtain ⟨_, _, _, _, h1, h2⟩ := ok_bad h
  unfold wrd wrd2
  rw [dd_eq (by omega)]
/-- A right part's word is its part, and has no blank. -/
theorem wrd_fin : ∀ k : Fin 4, ∀ n : Fin 65, bad (k.val : Int) (n.val : Int) = 0 → partE (wrd2 ((k.val : Int), (n.val : Int))) = 0 ∧ partV (wrd2 ((k.val : Int), (n.val : Int))) = ((k.val : Int), (n.val : Int)) ∧ (32 : UInt8) ∉ wrd2 ((k.val : Int), (n.val : Int)) := by
  decide +kernel
theorem wrd_back {p : Int × Int} (h : bad p.1 p.2 = 0) : partE (wrd p) = 0 ∧ partV (wrd p) = p ∧ (32 : UInt8) ∉ wrd p := by
  obtain ⟨h0, h4, _, _, h1, h2⟩ := ok_bad h
  rw [wrd_eq h]
  obtain ⟨a, b⟩ := p
  obtain ⟨k, rfl⟩ : ∃ k : Nat, a = k := ⟨a.toNat, by simp at h0; omega⟩
  obtain ⟨n, rfl⟩ : ∃ n : Nat, b = n := ⟨b.toNat, by simp at h1; omega⟩
  exact wrd_fin ⟨k, by simp at h4; omega⟩ ⟨n, by simp at h2; omega⟩ h

/-- Words without blanks, joined by blanks, are split again. -/
theorem spl_word : ∀ (w r : List UInt8), (32 : UInt8) ∉ w → spl (w ++ 32 :: r) = w :: spl r
  | [], r, _ => by simp [spl]
  | c :: w, r, h => by
    have hc : c ≠ 32 := fun e => h (by rw [e]; exact List.mem_cons_self)
    have hw : (32 : UInt8) ∉ w := fun e => h (List.mem_cons_of_mem _ e)
    have := spl_word w r hw
    simp [spl, hc, this]
theorem spl_last : ∀ (w : List UInt8), (32 : UInt8) ∉ w → spl w = [w]
  | [], _ => rfl
  | c :: w, h => by
    have hc : c ≠ 32 := fun e => h (by rw [e]; exact List.mem_cons_self)
    have hw : (32 : UInt8) ∉ w := fun e => h (List.mem_cons_of_mem _ e)
    simp [spl, hc, spl_last w hw]
theorem join_two (x y : List UInt8) (r : List (List UInt8)) : Lib.join (x :: y :: r) [32] = x ++ 32 :: Lib.join (y :: r) [32] := by
  rw [Lib.join_cons, Lib.join_cons]
  simp [Lib.joinTail]
theorem spl_join : ∀ (ws : List (List UInt8)), ws ≠ [] → (∀ w ∈ ws, (32 : UInt8) ∉ w) → spl (Lib.join ws [32]) = ws
  | [], h, _ => absurd rfl h
  | [w], _, h => by
    rw [Lib.join_one]
    exact spl_last w (h w List.mem_cons_self)
  | x :: y :: r, _, h => by
    rw [join_two, spl_word x _ (h x List.mem_cons_self), spl_join (y :: r) (by simp) (fun w hw => h w (List.mem_cons_of_mem _ hw))]
theorem join_spl : ∀ s : List UInt8, Lib.join (spl s) [32] = s
  | [] => by simp [spl, Lib.join_one]
  | c :: r => by
    have ih := join_spl r
    have hne := spl_ne r
    unfold spl
    split
    · rename_i hc
      cases hs : spl r with
      | nil => exact absurd hs hne
      | cons w ws =>
        rw [hs] at ih
        rw [join_two, ih, hc]
        rfl
    · cases hs : spl r with
      | nil => exact absurd hs hne
      | cons w ws =>
        rw [hs] at ih
        rw [Lib.join_cons] at ih ⊢
        rw [List.cons_append, ih]

theorem wsE_all : ∀ (ws : List (List UInt8)), (∀ w ∈ ws, partE w = 0) → wsE ws = 0
  | [], _ => rfl
  | w :: r, h => by
    rw [wsE, if_neg (by simp [h w List.mem_cons_self])]
    exact wsE_all r (fun x hx => h x (List.mem_cons_of_mem _ hx))
theorem all_wsE : ∀ (ws : List (List UInt8)), wsE ws = 0 → ∀ w ∈ ws, partE w = 0
  | [], _, w, hw => by cases hw
  | v :: r, h, w, hw => by
    by_cases hv : partE v = 0
    · rw [wsE, if_neg (by simp [hv])] at h
      rcases List.mem_cons.1 hw with rfl | hw
      · exact hv
      · exact all_wsE r h w hw
    · rw [wsE, if_pos hv] at h
      exact absurd h hv

/-- What is printed is parsed as it was. -/
theorem parse_txt {l : List (Int × Int)} (h : plErr l = 0) : paE (txt l) = 0 ∧ paL (txt l) = l := by
  obtain ⟨h0, _, hall⟩ := plErr_all h
  have hs : spl (txt l) = l.map wrd := by
    unfold txt
    refine spl_join _ (by intro e; apply h0; simpa using e) (fun w hw => ?_)
    obtain ⟨p, hp, rfl⟩ := List.mem_map.1 hw
    exact (wrd_back (hall p hp)).2.2
  have hv : wsV (spl (txt l)) = l := by
    rw [hs]
    unfold wsV
    rw [List.map_map]
    conv => rhs; rw [← List.map_id l]
    refine List.map_congr_left (fun p hp => ?_)
    exact (wrd_back (hall p hp)).2.1
  have he : wsE (spl (txt l)) = 0 := by
    rw [hs]
    refine wsE_all _ (fun w hw => ?_)
    obtain ⟨p, hp, rfl⟩ := List.mem_map.1 hw
    exact (wrd_back (hall p hp)).1
  have hE : paE (txt l) = 0 := by rw [paE_pl he, hv]; exact h
  exact ⟨hE, by rw [paL_ok hE, hv]⟩

theorem isD_b {c : UInt8} (h : isD c = true) : 48 ≤ c.toNat ∧ c.toNat ≤ 57 := by
  unfold isD at h
  simpa using h
theorem of_toNat (c : UInt8) (n : Nat) (h : n = c.toNat) : UInt8.ofNat n = c := by
  rw [h]
  exact UInt8.ofNat_toNat
theorem ne48 {c : UInt8} (h : c ≠ 48) : c.toNat ≠ 48 := fun e => h (UInt8.toNat_inj.1 e)
/-- Digits without a nought ahead are those of their number. -/
theorem dd_num {d : List UInt8} (h : dBad d = false) (hn : num d ≤ 64) : dd2 (num d) = d := by
  unfold dBad at h
  match d, h, hn with
  | [], h, _ => simp at h
  | [a], h, hn =>
    simp at h
    obtain ⟨h1, h2⟩ := h
    have ha := isD_b h2
    have e : num [a] = a.toNat - 48 := by simp [num]
    rw [e]
    unfold dd2
    rw [if_pos (by omega), of_toNat a _ (by omega)]
  | [a, b], h, hn =>
    simp at h
    obtain ⟨h1, h2, h3⟩ := h
    have ha := isD_b h2
    have hb := isD_b h3
    have h48 := ne48 h1
    have e : num [a, b] = 10 * (a.toNat - 48) + (b.toNat - 48) := by simp [num]
    rw [e]
    unfold dd2
    rw [if_neg (by omega), of_toNat a _ (by omega), of_toNat b _ (by omega)]
  | [a, b, c], h, hn =>
    simp at h
    obtain ⟨h1, h2, _⟩ := h
    have ha := isD_b h2
    have h48 := ne48 h1
    have e : num [a, b, c] = 10 * (10 * (a.toNat - 48) + (b.toNat - 48)) + (c.toNat - 48) := by simp [num]
    omega
  | a :: b :: c :: e :: r, h, _ => simp at h
/-- A word that is a right part's is its word. -/
theorem word_back {w : List UInt8} (h : partE w = 0) (hb : bad (partV w).1 (partV w).2 = 0) : wrd (partV w) = w := by
  have hk4 : partK w ≠ 4 := fun e => by
    unfold partE at h
    rw [if_pos e] at h
    exact absurd h (by decide)
  have hk : partK w < 4 := by
    have := kindOf_le (w.take (lett w))
    unfold partK at hk4 ⊢
    omega
  have hnm : w.take (lett w) = kName (partK w) := (kindOf_lt hk).1 rfl
  have hw : w = kName (partK w) ++ w.drop (lett w) := by rw [← hnm, List.take_append_drop]
  have hE : szE (partK w) (w.drop (lett w)) = 0 := by
    unfold partE at h
    rwa [if_neg hk4] at h
  have hV : partV w = ((partK w : Int), if tld (partK w) then (num (w.drop (lett w)) : Int) else kLo (partK w)) := by
    unfold partV
    rw [if_neg hk4]
    unfold szV
    rw [if_pos hE]
  rw [wrd_eq hb]
  obtain ⟨_, _, _, _, _, hn⟩ := ok_bad hb
  rw [hV] at hn ⊢
  unfold wrd2
  simp only [Int.toNat_natCast]
  conv => rhs; rw [hw]
  congr 1
  cases ht : tld (partK w)
  · unfold szE at hE
    rw [ht] at hE
    by_cases hd : w.drop (lett w) = []
    · rw [hd]
      simp
    · simp [hd] at hE
  · unfold szE at hE
    rw [ht] at hE hn
    have hd : dBad (w.drop (lett w)) = false := by
      cases hx : dBad (w.drop (lett w))
      · rfl
      · simp [hx] at hE
    simp only [if_true] at hn ⊢
    simp only [Int.toNat_natCast]
    exact dd_num hd (by omega)
/-- What is parsed prints as it was written. -/
theorem txt_parse {s : List UInt8} (h : paE s = 0) : plErr (paL s) = 0 ∧ txt (paL s) = s := by
  have he : wsE (spl s) = 0 := by
    by_cases h2 : wsE (spl s) = 0
    · exact h2
    · rw [paE_ws h2] at h
      exact absurd h h2
  have hL := paL_ok h
  have hp : plErr (wsV (spl s)) = 0 := by rw [← paE_pl he]; exact h
  obtain ⟨_, _, hall⟩ := plErr_all hp
  rw [hL]
  refine ⟨hp, ?_⟩
  unfold txt wsV
  rw [List.map_map]
  have : (spl s).map (wrd ∘ partV) = spl s := by
    conv => rhs; rw [← List.map_id (spl s)]
    refine List.map_congr_left (fun w hw => ?_)
    exact word_back (all_wsE _ he w hw) (hall (partV w) (List.mem_map.2 ⟨w, hw, rfl⟩))
  rw [this]
  exact join_spl s
end Go.Proofs.YtenbbnmhgpclkaaDoor
