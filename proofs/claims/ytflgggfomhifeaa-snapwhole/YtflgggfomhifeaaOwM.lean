/- Topics' bank, their spots, a snapshot, side by side. -/
import Derived.Test.YtflgggfomhifeaaSnA
import Derived.Test.YtflgggfomhifeaaAwk
import Derived.Test.YtflgggfomhifeaaPub
import Derived.Test.YtflgggfomhifeaaLayW
namespace Go.Proofs.Ytflgggfomhifeaa
open Go.RowKit

/-- A bank, spots, a snapshot. -/
structure OwM (w : World) (b bg sa o gs g : Nat) (SS SA : List Sp) (x : NSt) (zs : List Int) (t : Int) (wr : World) : Prop where
  bank : Bk wr b bg zs t
  spot : SpB sa SA wr
  sn : NAt wr o gs g SS x
  bel : Below w.heap.size w wr
/-- The blocks are apart. -/
structure OwD (w : World) (b bg sa o gs g : Nat) : Prop where
  ap : Apt o gs g b bg
  s1 : sa ≠ b
  s2 : sa ≠ bg
  s3 : sa ≠ o
  s4 : sa ≠ g
  s5 : sa ≠ gs
  l1 : w.heap.size ≤ b
  l2 : w.heap.size ≤ bg
  l3 : w.heap.size ≤ o
  l4 : w.heap.size ≤ g
  l5 : w.heap.size ≤ sa
section
variable {w A B : World} {b bg sa o gs g : Nat} {SS SA : List Sp} {x : NSt} {zs : List Int} {t : Int}
theorem OwM.low (h : OwM w b bg sa o gs g SS SA x zs t A) (u : Below A.heap.size A B) : OwM w b bg sa o gs g SS SA x zs t B :=
  ⟨h.bank.below u, h.spot.low u, h.sn.below u, h.bel.trans (u.mono h.bel.size)⟩
theorem OwM.step (h : OwM w b bg sa o gs g SS SA x zs t A) (hD : OwD w b bg sa o gs g) {y : NSt} {t' : Int} (hr : NAt B o gs g SS y) (hk : Bk B b bg zs t') (u : Upd (OwnN o g b bg) A B) : OwM w b bg sa o gs g SS SA y zs t' B :=
  ⟨hk, h.spot.of_block (u.block sa h.spot.lt (fun q => by
    rcases q with q | q | q | q
    · exact hD.s3 q
    · exact hD.s4 q
    · exact hD.s1 q
    · exact hD.s2 q)), hr, Below.ownN h.bel u h.bel.size hD.l3 hD.l4 hD.l1 hD.l2⟩
theorem OwM.setFar (h : OwM w b bg sa o gs g SS SA x zs t A) {p : Addr} (h1 : b ≠ p.block) (h2 : bg ≠ p.block) (h3 : sa ≠ p.block) (h4 : o ≠ p.block) (h5 : gs ≠ p.block) (h6 : g ≠ p.block) (h7 : w.heap.size ≤ p.block) (u : Value) : OwM w b bg sa o gs g SS SA x zs t (A.setCell p u) :=
  ⟨h.bank.setFar h1 h2 u, h.spot.of_block (Below.heap_setCell _ _ _ _ h3), h.sn.setFar h4 h5 h6 u, h.bel.setCell h7 u⟩
end
/-- The first spot's sequence set to 0. -/
theorem SpB.zero {sa : Nat} {S : Sp} {r : List Sp} {A : World} (h : SpB sa (S :: r) A) : SpB sa (⟨S.ow, 0, S.fs, S.wd, S.dp⟩ :: r) (A.setCell ⟨sa, 1, none⟩ (.int .i64 0)) := by
  obtain ⟨vs, h1, h2⟩ := h
  refine ⟨_, h1.put 1 (.int .i64 0), fun i v hv => ?_⟩
  have hl : 1 < vs.length := by
    have := h2 1 (.int .i64 S.sq) rfl
    exact (List.getElem?_eq_some_iff.1 this).1
  by_cases c : i = 1
  · subst c
    rw [List.getElem?_set_self hl]
    exact hv
  · rw [List.getElem?_set_ne (fun e => c e.symm)]
    refine h2 i v ?_
    rw [← hv]
    match i, c with
    | 0, _ => rfl
    | 2, _ => rfl
    | 3, _ => rfl
    | 4, _ => rfl
    | i + 5, _ => rfl
/-- Behind i records, one of each of the first i topics. -/
def PO (l : List Tp) (n0 : Nat) (zs : List Int) (i : Nat) : Prop :=
  zs.length = (tot 0 l).toNat ∧ (∀ j B n d, Tn l j B n d → zs[B + 1]? = some (if j < i then 2 else 0)) ∧ (0 < i → zs[2 + n0]? = some 3)
theorem po_zero (l : List Tp) (n0 : Nat) : PO l n0 (List.replicate (tot 0 l).toNat 0) 0 := by
  refine ⟨by simp, fun j B n d t => ?_, fun c => absurd c (by omega)⟩
  have := t.hi
  rw [List.getElem?_replicate, if_pos (by omega), if_neg (by omega)]
theorem po_next {l : List Tp} (h : okL l) {n0 : Nat} {zs ys : List Int} {i B n d : Nat} (hP : PO l n0 zs i) (t : Tn l i B n d) (hn0 : ∀ B n d, Tn l 0 B n d → n = n0) (hl : ys.length = zs.length) (hs : ys[B + 1]? = some 2) (hL : Laid B (plc B n d 0) n (rcd n ((i : Int) + 3)) zs ys) : PO l n0 ys (i + 1) := by
  obtain ⟨p1, p2, p3⟩ := hP
  refine ⟨hl.trans p1, fun j B' n' d' t' => ?_, fun _ => ?_⟩
  · by_cases c : i = j
    · subst c
      obtain ⟨rfl, rfl, rfl⟩ := tn_one t t'
      rw [hs, if_pos (by omega)]
    · rw [laid_other h t t' c hL, p2 j B' n' d' t']
      by_cases c2 : j < i
      · rw [if_pos c2, if_pos (by omega)]
      · rw [if_neg c2, if_neg (by omega)]
  · obtain ⟨B0, n1, d0, t0⟩ := tn_of h (show 0 < l.length from h.1)
    obtain rfl := hn0 _ _ _ t0
    have hB0 : B0 = 0 := by have := t0.lo; simp [tot] at this; omega
    subst hB0
    by_cases c : i = 0
    · subst c
      obtain ⟨rfl, rfl, rfl⟩ := tn_one t t0
      have e : plc 0 n d 0 = 2 + n := by
        unfold plc
        have := t.d2
        rw [Nat.mod_eq_of_lt (by omega)]
        omega
      rw [e] at hL
      have h1 := t.n1
      rw [hL (2 + n) (by omega), if_pos ⟨by omega, by omega⟩, Nat.sub_self, rcd_zero (by omega) (by unfold U64; omega)]
      rfl
    · obtain ⟨q1, q2⟩ := plc_in (B := B) (n := n) (d := d) (k := 0) t.d2
      have := tn_sep h t0 t (by omega)
      have h1 := t0.d2
      have h2 : n1 * 2 ≤ n1 * d0 := Nat.mul_le_mul_left _ h1
      rw [hL _ (by have := t0.n1; omega), if_neg (by have := t0.n1; omega)]
      exact p3 (by omega)
/-- A snapshot of topics of which one record each was published. -/
theorem own_alo {l : List Tp} {n0 d0 : Nat} {zs : List Int} {x : NSt} {tr p0 : Int} (h : okL l) (t0 : Tn l 0 0 n0 d0) (hP : PO l n0 zs l.length) (hx : ∀ v ∈ zs, U64 v) (hA : Alo (spots 0 l) (List.replicate l.length 1) (fun v => v = 3) tr p0 x) :
    (nst (spots 0 l) zs x).2 = 1 ∧
    (pos (spots 0 l) x + 1 < ful (spots 0 l) → Alo (spots 0 l) (List.replicate l.length 1) (fun v => v = 3) tr p0 (nst (spots 0 l) zs x).1 ∧ pos (spots 0 l) (nst (spots 0 l) zs x).1 = pos (spots 0 l) x + 1) ∧
    (pos (spots 0 l) x + 1 = ful (spots 0 l) → Dne (spots 0 l) (List.replicate l.length 1) (fun v => v = 3) p0 (nst (spots 0 l) zs x).1) := by
  have hk : x.k < l.length := by have := hA.wf.k; rw [spots_len] at this; exact this
  refine alo_step hA hx (spots_in h hP.1) (fun _ => ?_) (fun hp => ?_)
  · obtain ⟨B, n, d, t⟩ := tn_of h hk
    have h1 := hA.wf.sp
    rw [t.sp] at h1
    rw [← Option.some.inj h1, gw_tn t (by rw [hP.2.1 _ B n d t, if_pos hk]), List.getElem?_replicate, if_pos hk]
    rfl
  · have hw := hA.wf
    obtain ⟨q1, q2, q3⟩ := pos_lt hw
    have hW := (wid_spots h).2
    have hl1 : x.line = 1 := by
      have h0 := hw.l0
      have h2 := hw.l2
      by_cases c0 : x.line = 0
      · have := q2.1 c0; omega
      · by_cases c2 : x.line = 2
        · have := q3.1 c2; omega
        · omega
    have hpos : pos (spots 0 l) x = (spots 0 l).length + wid ((spots 0 l).take x.k) + x.n := by unfold pos; rw [if_neg (by omega), if_pos hl1]
    have hk0 : x.k = 0 := by
      by_cases c : x.k = 0
      · exact c
      · exfalso
        have h1 : wid ((spots 0 l).take 1) = wid ((spots 0 l).take 0) + (spB 0 n0 d0).wd.toNat := wid_take (spots 0 l) 0 _ t0.sp
        have h2 := t0.n1
        have h3 : wid ((spots 0 l).take 1) ≤ wid ((spots 0 l).take x.k) := by
          have := wid_le ((spots 0 l).take x.k) 1
          rw [List.take_take, Nat.min_eq_left (by omega)] at this
          exact this
        have h4 : (spB 0 n0 d0).wd.toNat = n0 := by unfold spB; simp
        omega
    have hn0 : x.n = 0 := by omega
    have hlen := (hw.a1 hl1).1
    have hsp := hw.sp
    rw [hk0, t0.sp] at hsp
    have e1 : nxl (spots 0 l) x = ((2 + n0 : Nat) : Int) := by
      unfold nxl
      rw [if_pos hl1, ← Option.some.inj hsp]
      obtain ⟨v, hv1, hv2, _⟩ := hw.gen (by omega)
      rw [hv2]
      rw [hk0] at hv1
      have := hA.gen 0 v (by rw [spots_len]; omega) hv1
      rw [List.getElem?_replicate, if_pos (by omega)] at this
      cases this
      unfold spB
      dsimp only
      have h1 := t0.n1
      have h2 := t0.n4
      have h3 := t0.d2
      have h4 := t0.d5
      rw [atv_ok (by unfold okS; omega), Int.emod_eq_of_lt (by omega) (by omega), hn0]
      push_cast
      omega
    rw [e1, Int.toNat_natCast, List.getD_eq_getElem?_getD, hP.2.2 (by have := h.1; omega)]
    rfl
theorem flt_zero {l : List Tp} (h : okL l) {n0 d0 : Nat} {r : List Sp} (hr : spots 0 l = spB 0 n0 d0 :: r) (t0 : Tn l 0 0 n0 d0) : flt (⟨0, 0, (0 : Nat) + 2, n0, d0⟩ :: r) 1 = 0 := by
  have h1 := spots_len l 0
  rw [hr] at h1
  have h2 := spots_rt h
  rw [hr] at h2
  have h3 := h.2.1
  refine flt_mk (by simp) (by simp at h1 ⊢; omega) (fun S hS => ?_) (by omega) (by omega)
  rcases List.mem_cons.1 hS with rfl | hS
  · have a1 := t0.n1
    have a2 := t0.n4
    have a3 := t0.d2
    have a4 := t0.d5
    unfold Rt
    dsimp only
    omega
  · exact h2 S (List.mem_cons_of_mem _ hS)
/-- One word more: only that row's block has turned. -/
theorem ap_own {W : World} {q cap n : Nat} {ws : List Int} (h : Orw W q cap ws) (hn : ws.length = n) (hk : n ≤ 10000) (u : Int) :
    ∃ a c w', (Builtin.append_ #[41, 41] 41 #[.slice (some ⟨q, 0, none⟩) n cap, .slice (some ⟨W.heap.size, 0, none⟩) 1 1]).run Try.prog (W.alloc (.cells #[.int .u64 u] 42)) = .ok (.slice a (n + 1) c) w' ∧ Upd (fun k => k = q) W w' := by
  obtain ⟨i, hi, he⟩ := Option.map_eq_some_iff.1 info49
  simp only [Prod.mk.injEq] at he
  obtain ⟨hz, hs, hbb⟩ := he
  have hA : (W.alloc (.cells #[.int .u64 u] 42)).ownsRow 0 42 1 (.slice (some ⟨q, 0, none⟩) n cap) n (ws.map (Value.int .u64)) := (h.of_block (Below.heap_alloc _ _ _ h.lt)).owns (Nat.zero_le _) hn
  have hB := Blk.new W #[.int .u64 u] 42
  obtain ⟨v', w', hr, ho, hg, _⟩ := run_append_own (P := Try.prog) (W.alloc (.cells #[.int .u64 u] 42)) 0 41 41 42 i _ 1 8 Try.underlying41 hi hz hs hbb rfl (by omega) _ n _ hA ⟨W.heap.size, 0, none⟩ 1 1 [.int .u64 u] rfl (fun j y hu => by
    match j, hu with
    | 0, hu => cases hu; exact hB.cell rfl) (fun y hu => by
    simp only [List.mem_cons, List.not_mem_nil, or_false] at hu
    subst hu
    rfl) (by simp only [maxLen]; omega) (by omega) (Nat.zero_le _)
  obtain ⟨a, c, rfl⟩ := owns_sl ho
  exact ⟨a, c, w', hr, ((Upd.refl _ W).alloc _).trans ⟨hg.os, hg.tape, hg.output, hg.size, fun k hk hn => hg.block k hk (fun e => hn (by simpa [Value.ownBlock] using e))⟩⟩
end Go.Proofs.Ytflgggfomhifeaa
