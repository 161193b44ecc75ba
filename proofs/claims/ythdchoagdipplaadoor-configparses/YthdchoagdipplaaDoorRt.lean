/- What is printed is parsed, and what is parsed is printed: plain mathematics of bytes. -/
import Derived.Test.YthdchoagdipplaaDoorPrM
namespace Go.Proofs.YthdchoagdipplaaDoor
open Go.RowKit

theorem spl_word (x : UInt8) : ∀ (w r : List UInt8), x ∉ w → spl x (w ++ x :: r) = w :: spl x r
  | [], r, _ => by simp [spl]
  | c :: w, r, h => by
    have hc : c ≠ x := fun e => h (by rw [e]; exact List.mem_cons_self)
    have hw : x ∉ w := fun e => h (List.mem_cons_of_mem _ e)
    have := spl_word x w r hw
    simp [spl, hc, this]
theorem spl_last (x : UInt8) : ∀ (w : List UInt8), x ∉ w → spl x w = [w]
  | [], _ => rfl
  | c :: w, h => by
    have hc : c ≠ x := fun e => h (by rw [e]; exact List.mem_cons_self)
    have hw : x ∉ w := fun e => h (List.mem_cons_of_mem _ e)
    simp [spl, hc, spl_last x w hw]
/-- A line without its end. -/
def lnW (a b c d e f : List UInt8) : List UInt8 := a ++ 32 :: (b ++ 32 :: (c ++ 32 :: (d ++ 32 :: (e ++ 32 :: f))))
theorem lin_lnW (a b c d e f : List UInt8) : lin a b c d e f = lnW a b c d e f ++ [10] := by simp [lin, lnW]
theorem spl_lnW {a b c d e f : List UInt8} (ha : (32 : UInt8) ∉ a) (hb : (32 : UInt8) ∉ b) (hc : (32 : UInt8) ∉ c) (hd : (32 : UInt8) ∉ d) (he : (32 : UInt8) ∉ e) (hf : (32 : UInt8) ∉ f) : spl 32 (lnW a b c d e f) = [a, b, c, d, e, f] := by
  unfold lnW
  rw [spl_word 32 a _ ha, spl_word 32 b _ hb, spl_word 32 c _ hc, spl_word 32 d _ hd, spl_word 32 e _ he, spl_last 32 f hf]
theorem spl_cons (x : UInt8) {s : List UInt8} {w v : List UInt8} {r : List (List UInt8)} (h : spl x s = w :: v :: r) : ∃ s', s = w ++ x :: s' ∧ spl x s' = v :: r := by
  rcases spl_idx x s with ⟨_, h2, _⟩ | ⟨i, _, _, h3, h4, _⟩
  · rw [h2] at h
    simp at h
  · rw [h3] at h
    simp only [List.cons.injEq] at h
    exact ⟨s.drop (i + 1), by rw [← h.1]; exact h4, h.2⟩
theorem spl_one (x : UInt8) {s w : List UInt8} (h : spl x s = [w]) : s = w := by
  rcases spl_idx x s with ⟨_, h2, _⟩ | ⟨i, _, _, h3, _, _⟩
  · rw [h2] at h
    simpa using h
  · rw [h3] at h
    simp only [List.cons.injEq] at h
    exact absurd h.2 (spl_ne x _)
theorem six_lnW {s a b c d e f : List UInt8} (h : spl 32 s = [a, b, c, d, e, f]) : s = lnW a b c d e f := by
  obtain ⟨s1, rfl, h1⟩ := spl_cons 32 h
  obtain ⟨s2, rfl, h2⟩ := spl_cons 32 h1
  obtain ⟨s3, rfl, h3⟩ := spl_cons 32 h2
  obtain ⟨s4, rfl, h4⟩ := spl_cons 32 h3
  obtain ⟨s5, rfl, h5⟩ := spl_cons 32 h4
  rw [spl_one 32 h5]
  rfl
theorem dd_fin : ∀ n : Fin 100, nuB (dd2 n.val) = true ∧ num (dd2 n.val) = n.val ∧ (32 : UInt8) ∉ dd2 n.val ∧ (10 : UInt8) ∉ dd2 n.val := by decide +kernel
theorem dd_ok {n : Nat} (h : n < 100) : nuB (dd2 n) = true ∧ num (dd2 n) = n ∧ (32 : UInt8) ∉ dd2 n ∧ (10 : UInt8) ∉ dd2 n := dd_fin ⟨n, h⟩
theorem foldl_ge : ∀ (d : List UInt8) (n : Nat), n ≤ d.foldl (fun n c => 10 * n + (c.toNat - 48)) n
  | [], n => Nat.le_refl _
  | c :: r, n => by
    have := foldl_ge r (10 * n + (c.toNat - 48))
    simp only [List.foldl_cons]
    omega
theorem of_toNat (c : UInt8) (n : Nat) (h : n = c.toNat) : UInt8.ofNat n = c := by
  rw [h]
  exact UInt8.ofNat_toNat
theorem isD_b {c : UInt8} (h : isD c = true) : 48 ≤ c.toNat ∧ c.toNat ≤ 57 := by
  unfold isD at h
  simpa using h
/-- Digits without a nought ahead are those of their number. -/
theorem dd_num {d : List UInt8} (h : nuB d = true) (hn : num d ≤ 99) : dd2 (num d) = d := by
  unfold nuB at h
  match d, h, hn with
  | [], h, _ => simp at h
  | [a], h, hn =>
    simp at h
    obtain ⟨a1, a2⟩ := isD_b h
    have e : num [a] = a.toNat - 48 := by simp [num]
    rw [e]
    unfold dd2
    rw [if_pos (by omega), of_toNat a _ (by omega)]
  | [a, b], h, hn =>
    simp at h
    obtain ⟨h48, ha, hb⟩ := h
    obtain ⟨a1, a2⟩ := isD_b ha
    obtain ⟨b1, b2⟩ := isD_b hb
    have hne : a.toNat ≠ 48 := fun e => h48 (UInt8.toNat_inj.1 e)
    have e : num [a, b] = 10 * (a.toNat - 48) + (b.toNat - 48) := by simp [num]
    rw [e]
    unfold dd2
    rw [if_neg (by omega), of_toNat a _ (by omega), of_toNat b _ (by omega)]
  | a :: b :: c :: r, h, hn =>
    simp at h
    obtain ⟨⟨_, h48⟩, ha, hb, hc, _⟩ := h
    obtain ⟨a1, a2⟩ := isD_b ha
    have hne : a.toNat ≠ 48 := fun e => h48 (UInt8.toNat_inj.1 e)
    have := foldl_ge r (10 * (10 * (a.toNat - 48) + (b.toNat - 48)) + (c.toNat - 48))
    have e : num (a :: b :: c :: r) = r.foldl (fun n c => 10 * n + (c.toNat - 48)) (10 * (10 * (a.toNat - 48) + (b.toNat - 48)) + (c.toNat - 48)) := by simp [num]
    omega
theorem nm_no {s : List UInt8} (h : nmB s = true) : (32 : UInt8) ∉ s ∧ (10 : UInt8) ∉ s := by
  unfold nmB at h
  simp only [Bool.and_eq_true] at h
  have ha := List.all_eq_true.1 h.2
  refine ⟨fun e => ?_, fun e => ?_⟩
  · have := ha _ e
    simp [isL, isD] at this
  · have := ha _ e
    simp [isL, isD] at this
def hdW (T R L : Int) : List UInt8 := lnW kTasks (dd2 T.toNat) kTries (dd2 R.toNat) kLog (dd2 L.toNat)
def tpW (t : Tp) : List UInt8 := lnW kTopic (bs t.1) kWords (dd2 t.2.1.toNat) kDepth (dd2 t.2.2.toNat)
theorem ten_lnW {a b c d e f : List UInt8} (ha : (10 : UInt8) ∉ a) (hb : (10 : UInt8) ∉ b) (hc : (10 : UInt8) ∉ c) (hd : (10 : UInt8) ∉ d) (he : (10 : UInt8) ∉ e) (hf : (10 : UInt8) ∉ f) : (10 : UInt8) ∉ lnW a b c d e f := by
  unfold lnW
  simp [ha, hb, hc, hd, he, hf]
theorem hd_back {T R L : Int} (h1 : 1 ≤ T ∧ T ≤ 8) (h2 : 1 ≤ R ∧ R ≤ 16) (h3 : 1 ≤ L ∧ L ≤ 64) : hdB (hdW T R L) = true ∧ hdV (hdW T R L) 1 = T ∧ hdV (hdW T R L) 3 = R ∧ hdV (hdW T R L) 5 = L ∧ (10 : UInt8) ∉ hdW T R L := by
  obtain ⟨a1, a2, a3, a4⟩ := dd_ok (n := T.toNat) (by omega)
  obtain ⟨b1, b2, b3, b4⟩ := dd_ok (n := R.toNat) (by omega)
  obtain ⟨c1, c2, c3, c4⟩ := dd_ok (n := L.toNat) (by omega)
  have hs : spl 32 (hdW T R L) = [kTasks, dd2 T.toNat, kTries, dd2 R.toNat, kLog, dd2 L.toNat] := spl_lnW (by decide) a3 (by decide) b3 (by decide) c3
  refine ⟨?_, ?_, ?_, ?_, ten_lnW (by decide) a4 (by decide) b4 (by decide) c4⟩
  · unfold hdB
    rw [hs]
    simp [opB, wAt, a1, b1, c1]
  · unfold hdV
    rw [hs]
    simp only [wAt, List.getElem?_cons_succ, List.getElem?_cons_zero, Option.getD_some]
    rw [a2]
    omega
  · unfold hdV
    rw [hs]
    simp only [wAt, List.getElem?_cons_succ, List.getElem?_cons_zero, Option.getD_some]
    rw [b2]
    omega
  · unfold hdV
    rw [hs]
    simp only [wAt, List.getElem?_cons_succ, List.getElem?_cons_zero, Option.getD_some]
    rw [c2]
    omega
theorem tp_back {ahead : List Tp} {t : Tp} (h : tpE ahead t = 0) : tpB (tpW t) = true ∧ tpV (tpW t) = t ∧ (10 : UInt8) ∉ tpW t := by
  obtain ⟨h1, _, h3, h4, h5, h6⟩ := tp_ok h
  obtain ⟨a3, a4⟩ := nm_no h1
  obtain ⟨b1, b2, b3, b4⟩ := dd_ok (n := t.2.1.toNat) (by omega)
  obtain ⟨c1, c2, c3, c4⟩ := dd_ok (n := t.2.2.toNat) (by omega)
  have hs : spl 32 (tpW t) = [kTopic, bs t.1, kWords, dd2 t.2.1.toNat, kDepth, dd2 t.2.2.toNat] := spl_lnW (by decide) a3 (by decide) b3 (by decide) c3
  refine ⟨?_, ?_, ten_lnW (by decide) a4 (by decide) b4 (by decide) c4⟩
  · unfold tpB
    rw [hs]
    simp [opB, wAt, b1, c1]
  · unfold tpV
    rw [hs]
    simp only [wAt, List.getElem?_cons_succ, List.getElem?_cons_zero, Option.getD_some]
    rw [b2, c2, str_bs]
    refine Prod.ext rfl (Prod.ext ?_ ?_)
    · show ((t.2.1.toNat : Nat) : Int) = t.2.1
      omega
    · show ((t.2.2.toNat : Nat) : Int) = t.2.2
      omega
theorem spl_txT : ∀ (l : List Tp), (∀ t ∈ l, ∃ ahead, tpE ahead t = 0) → spl 10 (txT l) = l.map tpW ++ [[]]
  | [], _ => rfl
  | t :: r, h => by
    obtain ⟨ah, ht⟩ := h t List.mem_cons_self
    have e : txT (t :: r) = tpW t ++ 10 :: txT r := by
      show tpT t ++ txT r = _
      unfold tpT
      rw [lin_lnW]
      simp [tpW]
    rw [e, spl_word 10 _ _ (tp_back ht).2.2, spl_txT r (fun x hx => h x (List.mem_cons_of_mem _ hx))]
    rfl
theorem sc_back : ∀ (l : List Tp) (n : Nat), (∀ t ∈ l, ∃ ahead, tpE ahead t = 0) → scN n (l.map tpW ++ [[]]) = 0 ∧ scL (l.map tpW ++ [[]]) = l
  | [], n, _ => ⟨rfl, rfl⟩
  | t :: r, n, h => by
    obtain ⟨ah, ht⟩ := h t List.mem_cons_self
    obtain ⟨h1, h2⟩ := sc_back r (n + 1) (fun x hx => h x (List.mem_cons_of_mem _ hx))
    obtain ⟨q, rr, hq⟩ : ∃ q rr, r.map tpW ++ [[]] = q :: rr := by
      cases r with
      | nil => exact ⟨_, _, rfl⟩
      | cons x y => exact ⟨_, _, rfl⟩
    show scN n (tpW t :: (r.map tpW ++ [[]])) = 0 ∧ scL (tpW t :: (r.map tpW ++ [[]])) = t :: r
    rw [hq] at h1 h2 ⊢
    unfold scN scL
    rw [if_pos (tp_back ht).1, h1, h2, (tp_back ht).2.1]
    exact ⟨rfl, rfl⟩

/-- What is printed is parsed as it was. -/
theorem parse_txt {T : Int} {l : List Tp} {R L : Int} (h : (chk T l R L).2 = 0) : (txt T l R L).length ≤ 65536 ∧ paE (txt T l R L) = 0 ∧ paN (txt T l R L) = 0 ∧ paT (txt T l R L) = T ∧ paL (txt T l R L) = l ∧ paR (txt T l R L) = R ∧ paG (txt T l R L) = L := by
  obtain ⟨hh, htp⟩ := chk_ok h
  obtain ⟨t1, t2, n1, n2, r1, r2, g1, g2⟩ := hd_ok hh
  have hall : ∀ t ∈ l, ∃ ahead, tpE ahead t = 0 := fun t ht => by
    obtain ⟨k, hk, e⟩ := List.mem_iff_getElem.1 ht
    exact ⟨_, htp k t (by rw [List.getElem?_eq_getElem hk, e])⟩
  have hlen : (txt T l R L).length ≤ 65536 := by
    have q1 := hdT_len T R L
    have q2 := txT_len l (fun t ht => by obtain ⟨ah, h0⟩ := hall t ht; exact tpT_len h0)
    unfold txt
    rw [List.length_append]
    omega
  obtain ⟨b1, b2, b3, b4, b5⟩ := hd_back ⟨t1, t2⟩ ⟨r1, r2⟩ ⟨g1, g2⟩
  have e : txt T l R L = hdW T R L ++ 10 :: txT l := by
    unfold txt hdT
    rw [lin_lnW]
    simp [hdW]
  have hs : spl 10 (txt T l R L) = hdW T R L :: (l.map tpW ++ [[]]) := by
    rw [e, spl_word 10 _ _ b5, spl_txT l hall]
  obtain ⟨s1, s2⟩ := sc_back l 2 hall
  obtain ⟨q, rr, hq⟩ : ∃ q rr, l.map tpW ++ [[]] = q :: rr := by
    cases l with
    | nil => exact ⟨_, _, rfl⟩
    | cons x y => exact ⟨_, _, rfl⟩
  have hN : lnN (spl 10 (txt T l R L)) = 0 := by
    rw [hs, hq]
    show (if hdB (hdW T R L) = true then scN 2 (q :: rr) else 1) = 0
    rw [if_pos b1, ← hq, s1]
  have hL : lnL (spl 10 (txt T l R L)) = l := by
    rw [hs]
    exact s2
  have hH : lnH (spl 10 (txt T l R L)) = hdW T R L := by rw [hs]; rfl
  have hC : paC (txt T l R L) = chk T l R L := by
    unfold paC
    rw [hL, hH, b2, b3, b4]
  have hE : paE (txt T l R L) = 0 := by
    unfold paE
    rw [if_neg (by omega), hN, if_neg (by simp), hC, h]
  refine ⟨hlen, hE, ?_, ?_, ?_, ?_, ?_⟩
  · unfold paN
    rw [if_neg (by omega), hN, if_neg (by simp), hC, if_pos h]
  · unfold paT
    rw [if_pos hE, hH, b2]
  · unfold paL
    rw [if_pos hE, hL]
  · unfold paR
    rw [if_pos hE, hH, b3]
  · unfold paG
    rw [if_pos hE, hH, b4]

theorem opB_words {k0 k1 k2 : List UInt8} {ws : List (List UInt8)} (h : opB k0 k1 k2 ws = true) : ∃ a b c, ws = [k0, a, k1, b, k2, c] ∧ wAt ws 1 = a ∧ wAt ws 3 = b ∧ wAt ws 5 = c := by
  unfold opB at h
  simp only [Bool.and_eq_true, decide_eq_true_eq] at h
  obtain ⟨⟨⟨h0, h1⟩, h2⟩, h3⟩ := h
  match ws, h0, h1, h2, h3 with
  | [x0, x1, x2, x3, x4, x5], _, h1, h2, h3 =>
    simp at h1 h2 h3
    subst h1 h2 h3
    exact ⟨x1, x3, x5, rfl, rfl, rfl, rfl⟩
theorem hd_line {p : List UInt8} (h : hdB p = true) (h1 : hdV p 1 ≤ 99) (h2 : hdV p 3 ≤ 99) (h3 : hdV p 5 ≤ 99) : hdW (hdV p 1) (hdV p 3) (hdV p 5) = p := by
  unfold hdB at h
  simp only [Bool.and_eq_true] at h
  obtain ⟨⟨⟨h0, n1⟩, n2⟩, n3⟩ := h
  obtain ⟨a, b, c, hw, e1, e2, e3⟩ := opB_words h0
  unfold hdV at h1 h2 h3 ⊢
  rw [e1] at n1 h1 ⊢
  rw [e2] at n2 h2 ⊢
  rw [e3] at n3 h3 ⊢
  rw [six_lnW hw]
  unfold hdW
  rw [Int.toNat_natCast, Int.toNat_natCast, Int.toNat_natCast, dd_num n1 (by omega), dd_num n2 (by omega), dd_num n3 (by omega)]
theorem tp_line {p : List UInt8} (h : tpB p = true) (h2 : (tpV p).2.1 ≤ 99) (h3 : (tpV p).2.2 ≤ 99) : tpW (tpV p) = p := by
  unfold tpB at h
  simp only [Bool.and_eq_true] at h
  obtain ⟨⟨h0, n2⟩, n3⟩ := h
  obtain ⟨a, b, c, hw, e1, e2, e3⟩ := opB_words h0
  unfold tpV at h2 h3 ⊢
  simp only at h2 h3
  rw [e2] at n2 h2
  rw [e3] at n3 h3
  rw [e1, e2, e3]
  unfold tpW
  simp only
  rw [bs_str, Int.toNat_natCast, Int.toNat_natCast, dd_num n2 (by omega), dd_num n3 (by omega), ← six_lnW hw]
theorem sc_lines : ∀ (r : List (List UInt8)) (n : Nat) (s : List UInt8), n ≠ 0 → spl 10 s = r → scN n r = 0 → (∀ t ∈ scL r, t.2.1 ≤ 99 ∧ t.2.2 ≤ 99) → txT (scL r) = s
  | [], n, s, hn, hs, _, _ => absurd hs (spl_ne 10 s)
  | [p], n, s, hn, hs, h, _ => by
    have : p = [] := by
      unfold scN at h
      split at h
      · assumption
      · exact absurd h hn
    rw [spl_one 10 hs, this]
    rfl
  | p :: q :: r, n, s, hn, hs, h, hb => by
    obtain ⟨s', rfl, hs'⟩ := spl_cons 10 hs
    unfold scN at h
    split at h
    · rename_i hp
      have ih := sc_lines (q :: r) (n + 1) s' (by omega) hs' h (fun t ht => hb t (by unfold scL; exact List.mem_cons_of_mem _ ht))
      have hb0 := hb (tpV p) (by unfold scL; exact List.mem_cons_self)
      have e := tp_line hp hb0.1 hb0.2
      show txT (tpV p :: scL (q :: r)) = _
      have e2 : txT (tpV p :: scL (q :: r)) = tpT (tpV p) ++ txT (scL (q :: r)) := rfl
      rw [e2, ih]
      have e3 : tpT (tpV p) = tpW (tpV p) ++ [10] := by unfold tpT; rw [lin_lnW]; rfl
      rw [e3, e]
      simp
    · exact absurd h hn

/-- What is parsed prints as it was written. -/
theorem txt_parse {s : List UInt8} (h : paE s = 0) : (chk (paT s) (paL s) (paR s) (paG s)).2 = 0 ∧ txt (paT s) (paL s) (paR s) (paG s) = s ∧ paN s = 0 ∧ (∀ t ∈ paL s, t.1.size ≤ 16) := by
  have hlen : ¬ 65536 < s.length := fun hl => by
    unfold paE at h
    rw [if_pos hl] at h
    exact absurd h (by decide)
  have hN : lnN (spl 10 s) = 0 := by
    by_cases hn : lnN (spl 10 s) = 0
    · exact hn
    · unfold paE at h
      rw [if_neg hlen, if_pos hn] at h
      exact absurd h (by decide)
  have hC : (paC s).2 = 0 := by
    unfold paE at h
    rw [if_neg hlen, hN, if_neg (by simp)] at h
    exact h
  have hT : paT s = hdV (lnH (spl 10 s)) 1 := by unfold paT; rw [if_pos h]
  have hR : paR s = hdV (lnH (spl 10 s)) 3 := by unfold paR; rw [if_pos h]
  have hG : paG s = hdV (lnH (spl 10 s)) 5 := by unfold paG; rw [if_pos h]
  have hL : paL s = lnL (spl 10 s) := by unfold paL; rw [if_pos h]
  have hC' : (chk (paT s) (paL s) (paR s) (paG s)).2 = 0 := by
    rw [hT, hR, hG, hL]
    exact hC
  obtain ⟨hh, htp⟩ := chk_ok hC'
  obtain ⟨t1, t2, n1, n2, r1, r2, g1, g2⟩ := hd_ok hh
  have hall : ∀ t ∈ paL s, ∃ ahead, tpE ahead t = 0 := fun t ht => by
    obtain ⟨k, hk, e⟩ := List.mem_iff_getElem.1 ht
    exact ⟨_, htp k t (by rw [List.getElem?_eq_getElem hk, e])⟩
  have hpn : paN s = 0 := by
    unfold paN
    rw [if_neg hlen, hN, if_neg (by simp), if_pos hC]
  refine ⟨hC', ?_, hpn, fun t ht => ?_⟩
  · cases hs : spl 10 s with
    | nil => exact absurd hs (spl_ne 10 s)
    | cons p r0 =>
      cases r0 with
      | nil =>
        rw [hs] at hN
        exact absurd hN (by simp [lnN])
      | cons q r =>
        rw [hs] at hN hT hR hG hL
        have hN' : (if hdB p = true then scN 2 (q :: r) else 1) = 0 := hN
        have hp : hdB p = true := by
          by_cases hp : hdB p = true
          · exact hp
          · rw [if_neg hp] at hN'
            exact absurd hN' (by decide)
        rw [if_pos hp] at hN'
        obtain ⟨s', e0, hs'⟩ := spl_cons 10 hs
        have e1 : lnH (p :: q :: r) = p := rfl
        have e2 : lnL (p :: q :: r) = scL (q :: r) := rfl
        rw [e1] at hT hR hG
        rw [e2] at hL
        have ht := sc_lines (q :: r) 2 s' (by decide) hs' hN' (fun t ht => by
          rw [← hL] at ht
          obtain ⟨ah, h0⟩ := hall t ht
          obtain ⟨_, _, h3, h4, h5, h6⟩ := tp_ok h0
          omega)
        have hw := hd_line hp (by rw [← hT]; omega) (by rw [← hR]; omega) (by rw [← hG]; omega)
        have hw2 : lnW kTasks (dd2 (hdV p 1).toNat) kTries (dd2 (hdV p 3).toNat) kLog (dd2 (hdV p 5).toNat) = p := hw
        have hx : txt (paT s) (paL s) (paR s) (paG s) = p ++ 10 :: s' := by
          unfold txt
          rw [hL, ht, hT, hR, hG]
          unfold hdT
          rw [lin_lnW, hw2]
          simp
        rw [hx, ← e0]
  · obtain ⟨ah, h0⟩ := hall t ht
    have := (nmB_len (tp_ok h0).1).2
    rw [bs_len] at this
    exact this
end Go.Proofs.YthdchoagdipplaaDoor
