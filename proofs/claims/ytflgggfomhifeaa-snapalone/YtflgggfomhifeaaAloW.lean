/- SnapAlone: its walk. -/
import Derived.Test.YtflgggfomhifeaaAloM
import Derived.Test.YtflgggfomhifeaaOwM
import Derived.Test.YtflgggfomhifeaaClo
import Derived.Deep.RegionHeld3
import Derived.BigQuiet
namespace Go.Proofs.Ytflgggfomhifeaa
open Go.RowKit

abbrev ahb (st : Int) (bt : Bool) : Obj := .cells #[.int .i64 st, .bool bt] 76
set_option maxRecDepth 100000 in
set_option maxHeartbeats 2000000 in
theorem alo_bad (a : Option Addr) (l : List Tp) (cap : Nat) (pa : Option Addr) (pn pc : Nat) (st : Int) (bt : Bool) (w : World) (hT : Tps w.heap.size w a l) (h : ¬ okL l) :
    Calls Try.prog 5 #[.slice a l.length cap, .slice pa pn pc, .agg #[.int .i64 st, .bool bt]] w (Ret (.bool true) w) := by
  have hb0 := (Below.refl w.heap.size w).alloc (Nat.le_refl _) (ahb st bt)
  have hT0 := (hT.below hb0).mono' hb0.size
  have Hly := Lib.hid (lay_bad a cap l _ hT0 h)
  have H0 := Lib.hid hb0
  clear h hT hb0 hT0
  generalize l.length = ln at *
  go_enter Try.func5, Try.ntmps5
  go_wp2_with fail
  refine Hly.out.mono ?_
  rintro e w2 ⟨rfl, hb2⟩
  have H2 := Lib.hid (H0.out.trans (hb2.mono H0.out.size))
  clear hb2
  go_wp2_with fail
  go_quiet (fail)
  go_wp2_with fail
  refine (awake_any _).mono ?_
  rintro e w3 ⟨rfl, hu3⟩
  have H3 := Lib.hid ((belN H2.out nq).trans (hu3.mono (belN H2.out nq).size))
  clear hu3
  go_wp2
  go_ret
  exact ⟨rfl, H3.out⟩
set_option maxRecDepth 100000 in
set_option maxHeartbeats 2000000 in
theorem alo_many (a : Option Addr) (l : List Tp) (cap : Nat) (pa : Option Addr) (pn pc : Nat) (st : Int) (bt : Bool) (w : World) (hT : Tps w.heap.size w a l) (h : okL l) {n0 d0 : Nat} (t0 : Tn l 0 0 n0 d0) (hs : st < 0 ∨ 6 < st ∨ (n0 : Int) + 2 < st) (hi : I64 st) :
    Calls Try.prog 5 #[.slice a l.length cap, .slice pa pn pc, .agg #[.int .i64 st, .bool bt]] w (Ret (.bool true) w) := by
  have hb0 := (Below.refl w.heap.size w).alloc (Nat.le_refl _) (ahb st bt)
  have hM0 := Blk.new w #[.int .i64 st, .bool bt] 76
  have hT0 := (hT.below hb0).mono' hb0.size
  have Hly := Lib.hid (lay_ok a cap l _ hT0 h)
  have H0 := Lib.hid (And.intro hb0 hM0)
  have HT := Lib.hid hT
  have Ht0 := Lib.hid t0
  have hn1 := t0.n1
  have hn4 := t0.n4
  have h1 : 1 ≤ (l.length : Int) := by have := h.1; omega
  obtain ⟨s0, s1⟩ := hi
  obtain ⟨ln, hln⟩ : ∃ ln, l.length = ln := ⟨_, rfl⟩
  have Hln := Lib.hid hln
  rw [hln] at Hly h1 ⊢
  clear h hT hb0 hM0 hT0 hln t0
  go_enter Try.func5, Try.ntmps5
  go_wp2_with fail
  refine Hly.out.mono ?_
  rintro e w2 ⟨sa, cs, b, bg, hsa, hb, hbg, hn1, hn2, he, hsp, hk, hu⟩
  rw [Hln.out] at he
  subst he
  have hM2 := H0.out.2.low hu
  have hb2 := H0.out.1.trans (hu.mono H0.out.1.size)
  obtain ⟨lb, loff, rfl, hlb, lc0, _, _, _⟩ := (HT.out.below hb2) 0 _ Ht0.out.at'
  dsimp only at lc0
  rw [Nat.zero_mul, Nat.add_zero] at lc0
  have c0 := hM2.cell (i := 0) rfl
  have H2 := Lib.hid hb2
  clear hM2 hb2 hsa hb hbg hn1 hn2 hsp hk hu Hly H0
  have fin : ∀ nq, Calls Try.prog 8 #[] (w2.drewN nq) (fun e w' => e = .returned (.bool true) ∧ Below w.heap.size w w') := fun nq => (awake_any _).mono (fun e w3 ⟨e1, hu3⟩ => ⟨e1, (belN H2.out nq).trans (hu3.mono (belN H2.out nq).size)⟩)
  have Fin := Lib.hid fin
  clear fin
  rcases (show st < 0 ∨ (0 ≤ st ∧ 6 < st) ∨ (0 ≤ st ∧ st ≤ 6 ∧ (n0 : Int) + 2 < st) by omega) with k | ⟨k1, k2⟩ | ⟨k1, k2, k3⟩
  · have d1 : decide (st < 0) = true := decide_eq_true k
    clear k s0 s1
    clear hs
    go_wp2_with fail
    go_quiet (fail)
    go_wp2_with fail
    refine (Fin.out _).mono ?_
    rintro e w3 ⟨rfl, hu3⟩
    have H3 := Lib.hid hu3
    clear hu3
    go_wp2
    go_ret
    exact ⟨rfl, H3.out⟩
  · have d1 : decide (st < 0) = false := decide_eq_false (by omega)
    have d2 : decide (6 < st) = true := decide_eq_true k2
    clear k1 k2 s0 s1
    clear hs
    go_wp2_with fail
    go_quiet (fail)
    go_wp2_with fail
    refine (Fin.out _).mono ?_
    rintro e w3 ⟨rfl, hu3⟩
    have H3 := Lib.hid hu3
    clear hu3
    go_wp2
    go_ret
    exact ⟨rfl, H3.out⟩
  · have d1 : decide (st < 0) = false := decide_eq_false (by omega)
    have d2 : decide (6 < st) = false := decide_eq_false (by omega)
    have d3 : decide ((n0 : Int) + 2 < st) = true := decide_eq_true k3
    clear k1 k2 k3 s0 s1
    clear hs
    go_wp2_with fail
    go_quiet (fail)
    go_wp2_with fail
    refine (Fin.out _).mono ?_
    rintro e w3 ⟨rfl, hu3⟩
    have H3 := Lib.hid hu3
    clear hu3
    go_wp2
    go_ret
    exact ⟨rfl, H3.out⟩
/-- What lies beside the bank. -/
structure AlR (w : World) (sa m q c o gs g : Nat) (l : List Tp) (st : Int) (bt : Bool) (gl : List Int) (x : NSt) (W : World) : Prop where
  sp : SpB sa (spots 0 l) W
  bx : Blk W m [.int .i64 st, .bool bt]
  gn : Orw W q c gl
  sn : NAt W o gs g (spots 0 l) x
  bel : Below w.heap.size w W
/-- What lies apart. -/
structure AlD (w : World) (b bg sa m q o gs g : Nat) : Prop where
  ap : Apt o gs g b bg
  sb : sa ≠ b ∧ sa ≠ bg ∧ sa ≠ o ∧ sa ≠ g ∧ sa ≠ q
  mb : m ≠ b ∧ m ≠ bg ∧ m ≠ o ∧ m ≠ g ∧ m ≠ q
  qb : q ≠ b ∧ q ≠ bg ∧ q ≠ o ∧ q ≠ g ∧ q ≠ gs
  lb : w.heap.size ≤ b ∧ w.heap.size ≤ bg ∧ w.heap.size ≤ o ∧ w.heap.size ≤ g ∧ w.heap.size ≤ q
section
variable {w A B : World} {sa m q c o gs g b bg : Nat} {l : List Tp} {st : Int} {bt : Bool} {gl : List Int} {x y : NSt}
theorem AlR.upd {T : Nat → Prop} (h : AlR w sa m q c o gs g l st bt gl x A) (u : Upd T A B) (h1 : ¬ T sa) (h2 : ¬ T m) (h3 : ¬ T q) (h4 : ¬ T o) (h5 : ¬ T gs) (h6 : ¬ T g) (hl : ∀ k, T k → w.heap.size ≤ k) : AlR w sa m q c o gs g l st bt gl x B :=
  ⟨h.sp.of_block (u.block sa h.sp.lt h1), h.bx.of_block (u.block m h.bx.lt h2), h.gn.of_block (u.block q h.gn.lt h3), h.sn.upd u h4 h5 h6, h.bel.trans (u.below h.bel.size hl)⟩
theorem AlR.low (h : AlR w sa m q c o gs g l st bt gl x A) (u : Below A.heap.size A B) : AlR w sa m q c o gs g l st bt gl x B :=
  ⟨h.sp.low u, h.bx.low u, h.gn.low u, h.sn.below u, h.bel.trans (u.mono h.bel.size)⟩
theorem AlR.step (h : AlR w sa m q c o gs g l st bt gl x A) (D : AlD w b bg sa m q o gs g) (hn : NAt B o gs g (spots 0 l) y) (u : Upd (OwnN o g b bg) A B) : AlR w sa m q c o gs g l st bt gl y B := by
  obtain ⟨_, ⟨s1, s2, s3, s4, _⟩, ⟨m1, m2, m3, m4, _⟩, ⟨q1, q2, q3, q4, _⟩, ⟨l1, l2, l3, l4, _⟩⟩ := D
  refine ⟨h.sp.of_block (u.block sa h.sp.lt (fun k => ?_)), h.bx.of_block (u.block m h.bx.lt (fun k => ?_)), h.gn.of_block (u.block q h.gn.lt (fun k => ?_)), hn, Below.ownN h.bel u h.bel.size l3 l4 l1 l2⟩
  · rcases k with k | k | k | k
    · exact s3 k
    · exact s4 k
    · exact s1 k
    · exact s2 k
  · rcases k with k | k | k | k
    · exact m3 k
    · exact m4 k
    · exact m1 k
    · exact m2 k
  · rcases k with k | k | k | k
    · exact q3 k
    · exact q4 k
    · exact q1 k
    · exact q2 k
theorem AlR.bank (h : AlR w sa m q c o gs g l st bt gl x A) (D : AlD w b bg sa m q o gs g) (u : Upd (Own b bg) A B) : AlR w sa m q c o gs g l st bt gl x B := by
  obtain ⟨⟨a1, a2, a3, a4, a5, a6⟩, ⟨s1, s2, _⟩, ⟨m1, m2, _⟩, ⟨q1, q2, _⟩, ⟨l1, l2, _⟩⟩ := D
  exact h.upd u (fun k => k.elim s1 s2) (fun k => k.elim m1 m2) (fun k => k.elim q1 q2) (fun k => k.elim a1 a2) (fun k => k.elim a5 a6) (fun k => k.elim a3 a4) (fun k hk => by rcases hk with rfl | rfl <;> assumption)
end
/-- At the head of the loop over topics. -/
def AlRel1 (WH : World) (b bg : Nat) (l : List Tp) (ms : List Int) (n v i : Value) (wr : World) : Prop :=
  ∃ (k : Nat) (zs : List Int) (t : Int), i = .int .i64 k ∧ k ≤ l.length ∧ n = .int .i64 (2 * (k : Int) + wid ((spots 0 l).take k)) ∧ Bk wr b bg zs t ∧ PC l zs (fun j => if j < k then mq ms j else 0) ∧
    wr.ownsRow WH.heap.size 42 1 v k ((csl k (mq ms)).map (Value.int .u64)) ∧ Upd (Own b bg) WH wr ∧ 0 ≤ t ∧ t ≤ 100 * (k : Int)
/-- At the head of the loop over a topic's records. -/
def AlRel2 (WH : World) (b bg : Nat) (l : List Tp) (ms : List Int) (v : Value) (k m : Nat) (i : Value) (wr : World) : Prop :=
  ∃ (j : Nat) (zs : List Int) (t : Int), i = .int .i64 j ∧ j ≤ m ∧ Bk wr b bg zs t ∧ PC l zs (fun p => if p < k then mq ms p else if p = k then j else 0) ∧
    wr.ownsRow WH.heap.size 42 1 v k ((csl k (mq ms)).map (Value.int .u64)) ∧ Upd (Own b bg) WH wr ∧ 0 ≤ t ∧ t ≤ 100 * (k : Int) + 10 * (j : Int)
/-- At the head of the loop in which a record of the first topic is begun. -/
def AlRel3 (w : World) (b bg sa m q c o gs g o1 g1 n0 d0 c0 : Nat) (l : List Tp) (st : Int) (bt : Bool) (gl zs ws : List Int) (t : Int) (x : NSt) (i : Value) (wr : World) : Prop :=
  ∃ (j : Nat) (y : St) (ys : List Int), i = .int .i64 j ∧ (j : Int) ≤ st ∧ AlInv 0 n0 d0 c0 ws zs j y ys ∧ OpAt wr o1 g1 (spB 0 n0 d0) ws y ∧ Bk wr b bg ys (t + j) ∧ Wf (spB 0 n0 d0) ws y ∧ y.steps = j ∧ AlR w sa m q c o gs g l st bt gl x wr
/-- At the head of a loop in which a try goes on. -/
def AlRel4 (w : World) (b bg sa m q c o gs g : Nat) (l : List Tp) (st : Int) (bt : Bool) (gl cs : List Int) (tr p0 : Int) (a P B : Nat) (ys : List Int) (t : Int) (i : Value) (wr : World) : Prop :=
  ∃ (j : Nat) (x : NSt), i = .int .i64 ((a + j : Nat) : Int) ∧ j ≤ B ∧ Alo (spots 0 l) cs (fun _ => True) tr p0 x ∧ pos (spots 0 l) x = P + j ∧ Bk wr b bg ys (t + j) ∧ AlR w sa m q c o gs g l st bt gl x wr
/-- The same, beside a copy of the bank. -/
def AlRel7 (w : World) (b bg sa m q c o gs g b2 g2 : Nat) (l : List Tp) (st : Int) (bt : Bool) (gl cs : List Int) (tr p0 : Int) (a P B : Nat) (ys : List Int) (t t2 : Int) (i : Value) (wr : World) : Prop :=
  ∃ (j : Nat) (x : NSt), i = .int .i64 ((a + j : Nat) : Int) ∧ j ≤ B ∧ Alo (spots 0 l) cs (fun _ => True) tr p0 x ∧ pos (spots 0 l) x = P + j ∧ Bk wr b bg ys (t + j) ∧ AlR w sa m q c o gs g l st bt gl x wr ∧ Bk wr b2 g2 ys t2
/-- At the head of the loop that looks at both banks. -/
def AlRel8 (w : World) (b bg sa m q c o gs g b2 g2 : Nat) (l : List Tp) (st : Int) (bt : Bool) (gl : List Int) (ys : List Int) (t t2 : Int) (X : NSt) (i : Value) (wr : World) : Prop :=
  ∃ j : Nat, i = .int .i64 j ∧ j ≤ ys.length ∧ Bk wr b bg ys t ∧ AlR w sa m q c o gs g l st bt gl X wr ∧ Bk wr b2 g2 ys t2
theorem got_dne {l : List Tp} (h : okL l) {c : Nat → Nat} {p0 : Int} {X : NSt} {o gs g : Nat} (hD : Dne (spots 0 l) (csl l.length c) (fun _ => True) p0 X) (W : World) (hN : NAt W o gs g (spots 0 l) X) :
    Calls Try.prog 19 #[.pointer (some ⟨o, 0, none⟩)] W (fun e w' => ∃ nW q1 c1 q2 c2, e = .returned (.tuple #[.slice (some ⟨q1, 0, none⟩) nW c1, .slice (some ⟨q2, 0, none⟩) l.length c2]) ∧ Orw w' q2 c2 (csl l.length c) ∧ Below W.heap.size W w') := by
  have e3 := spots_len l 0
  have hw := wid_spots h
  have h1 := h.1
  have h2 := h.2.1
  refine (ngot_ok hN hD.how (wid (spots 0 l)) hD.len (by omega) (by omega) (by omega) (by omega) (by rw [hD.len]; exact Nat.le_refl _)).mono ?_
  rintro e w' ⟨q1, c1, q2, c2, rfl, _, _, _, _, hO, hb⟩
  rw [e3, dne_take hD] at hO
  exact ⟨_, q1, c1, q2, c2, by rw [e3], hO, hb⟩
/-- What New of the first topic's publishing reads. -/
def RA0 (sa lb loff n0 d0 : Nat) (w' : World) : Prop :=
  (w'.cell? ⟨sa, 0, none⟩ = some (.int .i64 ((0 : Nat) : Int)) ∧ w'.cell? ⟨sa, 1, none⟩ = some (.int .i64 (((0 : Nat) : Int) + 1)) ∧ w'.cell? ⟨sa, 2, none⟩ = some (.int .i64 (((0 : Nat) : Int) + 2)) ∧ w'.cell? ⟨sa, 3, none⟩ = some (.int .i64 (n0 : Int)) ∧ w'.cell? ⟨sa, 4, none⟩ = some (.int .i64 (d0 : Int))) ∧
  w'.cell? ⟨lb, loff, none⟩ = some (.int .i64 (n0 : Int))
set_option maxRecDepth 100000 in
set_option maxHeartbeats 16000000 in
theorem alo_walk (a : Option Addr) (l : List Tp) (cap : Nat) (pa : Option Addr) (ms : List Int) (pc : Nat) (st : Int) (bt : Bool) (w : World) (hT : Tps w.heap.size w a l) (hM : Ids w.heap.size w pa ms) (hml : ms.length ≤ maxLen) (h : okL l) {n0 d0 : Nat} (t0 : Tn l 0 0 n0 d0) (hs0 : 0 ≤ st) (hs6 : st ≤ 6) (hsn : st ≤ (n0 : Int) + 2) :
    Calls Try.prog 5 #[.slice a l.length cap, .slice pa ms.length pc, .agg #[.int .i64 st, .bool bt]] w (Ret (.bool true) w) := by
  have hb0 := (Below.refl w.heap.size w).alloc (Nat.le_refl _) (ahb st bt)
  have hM0 := Blk.new w #[.int .i64 st, .bool bt] 76
  have hT0 := (hT.below hb0).mono' hb0.size
  have Hly := Lib.hid (lay_ok a cap l _ hT0 h)
  have H0 := Lib.hid (And.intro hb0 (And.intro hM0 (show w.heap.size < (w.alloc (ahb st bt)).heap.size by simp)))
  have HT := Lib.hid hT
  have HM := Lib.hid hM
  have Ht0 := Lib.hid t0
  have HOK := Lib.hid h
  have hn1 := t0.n1
  have hn4 := t0.n4
  have h1 : 1 ≤ (l.length : Int) := by have := h.1; omega
  have h2 : (l.length : Int) ≤ 5 := by have := h.2.1; omega
  have hwd20 := (wid_spots h).1
  obtain ⟨ln, hln⟩ : ∃ ln, l.length = ln := ⟨_, rfl⟩
  have Hln := Lib.hid hln
  obtain ⟨pn, hpn⟩ : ∃ pn, ms.length = pn := ⟨_, rfl⟩
  have Hpn := Lib.hid hpn
  have hpn6 : (pn : Int) ≤ 9223372036854775807 := by rw [← hpn]; simp only [maxLen] at hml; omega
  have Hst := Lib.hid (And.intro hs0 (And.intro hs6 hsn))
  rw [hln] at Hly h1 h2 ⊢
  rw [hpn]
  have Hl5 := Lib.hid (And.intro h1 h2)
  have d1 : decide (st < 0) = false := decide_eq_false (by omega)
  have d2 : decide (6 < st) = false := decide_eq_false (by omega)
  have d3 : decide ((n0 : Int) + 2 < st) = false := decide_eq_false (by omega)
  clear h hT hM hb0 hM0 hT0 hln hpn t0 hml hs0 hs6 hsn
  go_enter Try.func5, Try.ntmps5
  go_wp2_with fail
  generalize hm5 : w.heap.size = m5 at *
  refine Hly.out.mono ?_
  rintro e w2 ⟨sa, cs, b, bg, hsa, hb, hbg, hnb, hng, he, hsp, hk, hu⟩
  rw [Hln.out] at he
  subst he
  have hM2 := H0.out.2.1.low hu
  have hb2 := H0.out.1.trans (hu.mono (Nat.le_of_lt H0.out.2.2))
  have Hm5 := Lib.hid hm5
  obtain ⟨lb, loff, rfl, hlb, lc0, _, _, _⟩ := (HT.out.below hb2) 0 _ Ht0.out.at'
  dsimp only at lc0
  rw [Nat.zero_mul, Nat.add_zero] at lc0
  have c0 := hM2.cell (i := 0) rfl
  have H2 := Lib.hid (And.intro hsp (And.intro hk (And.intro hM2 hb2)))
  have HD := Lib.hid (show sa ≠ b ∧ sa ≠ bg ∧ m5 ≠ b ∧ m5 ≠ bg ∧ m5 ≠ sa ∧ m5 ≤ sa ∧ m5 ≤ b ∧ m5 ≤ bg ∧ lb < m5 ∧ m5 < w2.heap.size ∧ sa < w2.heap.size ∧ b < w2.heap.size ∧ bg < w2.heap.size from by
    have q1 := H0.out.2.2
    have q2 := hsp.lt
    have q3 := hk.ltb
    have q4 := hk.ltg
    have q5 := hM2.lt
    omega)
  have Hlc := Lib.hid lc0
  clear hM2 hb2 hsa hb hbg hnb hng hsp hk hu Hly H0 hlb hm5
  go_wp2_with fail
  go_quiet (fail)
  clear c0 lc0 d1 d2 d3
  have H3 := Lib.hid (show SpB sa (spots 0 l) (w2.drewN nq) ∧ Bk (w2.drewN nq) b bg (List.replicate (tot 0 l).toNat 0) 0 ∧ Blk (w2.drewN nq) m5 [.int .i64 st, .bool bt] ∧ Below m5 w (w2.drewN nq) from by
    obtain ⟨⟨vs, q1, q1'⟩, q2, q3, q4⟩ := H2.out
    exact ⟨⟨vs, blkN q1 nq, q1'⟩, q2.drewN nq, blkN q3 nq, belN q4 nq⟩)
  have Hsz : Hid ((w2.drewN nq).heap.size = w2.heap.size) := Lib.hid rfl
  have Hlc2 : Hid ((w2.drewN nq).cell? ⟨lb, loff, none⟩ = some (.int .i64 (n0 : Int))) := Lib.hid Hlc.out
  clear H2 Hlc
  go_wp2_with fail
  generalize w2.drewN nq = WH at *
  rw [← Hsz.out] at HD
  clear Hsz
  go_loopw [10, 11, 12] (fun n v i wr => AlRel1 WH b bg l ms n v i wr) (fun _ _ i _ => ln - (intOf i).toNat)
  case atStart => exact ⟨0, _, 0, rfl, by omega, by simp [wid], H3.out.2.1, pc_congr (pc_zero l) (fun j _ => by rw [if_neg (by omega)]), World.ownsRow_nil _ _ _ _, Upd.refl _ _, by omega, by omega⟩
  case round =>
    obtain ⟨k, zs, t, rfl, hk, rfl, hB, hP, hO, hU, t0, t1⟩ := hrel
    rw [Hln.out] at hk
    obtain ⟨va, vc, rfl⟩ := owns_sl hO
    have HK := Lib.hid (And.intro hB (And.intro hP (And.intro hO hU)))
    have hwk : (wid ((spots 0 l).take k) : Int) ≤ 20 := by have := wid_le (spots 0 l) k; omega
    clear hB hP hO hU
    by_cases hlt : (k : Int) < ln
    · obtain ⟨B, n, d, tn⟩ := tn_of HOK.out (show k < l.length by have := Hln.out; omega)
      have Htn := Lib.hid tn
      have hn4' := tn.n4
      clear tn
      have hc0 : ∀ (x : Int), ms[k]? = some x → ∃ b2 off2, pa = some ⟨b2, off2, none⟩ ∧ wr.cell? ⟨b2, off2 + k, none⟩ = some (.int .i64 x) ∧ I64 x := fun x hx => by
        have h1 : Below m5 w wr := H3.out.2.2.2.trans (HK.out.2.2.2.below (show m5 ≤ WH.heap.size by have := HD.out; omega) (fun q hq => by have := HD.out; rcases hq with rfl | rfl <;> omega))
        obtain ⟨i1, b2, off2, e, _, c1⟩ := (HM.out.keep h1) k x hx
        exact ⟨b2, off2, e, c1, i1⟩
      by_cases k0 : (k : Int) < pn
      · obtain ⟨x, hx⟩ : ∃ x, ms[k]? = some x := ⟨_, List.getElem?_eq_getElem (by have := Hpn.out; omega)⟩
        obtain ⟨b2, off2, rfl, mc, i1, i2⟩ := hc0 x hx
        have hgd : ms.getD k 0 = x := by rw [List.getD_eq_getElem?_getD, hx]; rfl
        clear hc0 hx
        by_cases k1 : 0 < x
        · by_cases k2 : x ≤ 8
          · obtain ⟨m, hm⟩ : ∃ m : Nat, m = mq ms k := ⟨_, rfl⟩
            have Hm := Lib.hid hm
            have hm8 := mq_le ms k
            rw [← hm] at hm8
            have hmv : x = (m : Int) := by rw [hm]; unfold mq; rw [hgd, if_pos ⟨k1, k2⟩]; omega
            clear hm
            subst hmv
            go_wp2_with fail
            go_loopw [14] (fun i wr => AlRel2 WH b bg l ms (.slice va k vc) k m i wr) (fun i _ => m - (intOf i).toNat)
            case atStart => exact ⟨0, zs, t, rfl, by omega, HK.out.1, pc_congr HK.out.2.1 (fun j _ => by
              by_cases c : j < k
              · rw [if_pos c, if_pos c]
              · rw [if_neg c, if_neg c, ite_self]), HK.out.2.2.1, HK.out.2.2.2, t0, by omega⟩
            case round =>
              obtain ⟨j, zs2, t2, rfl, hj, hB, hP, hO, hU, u0, u1⟩ := hrel
              have HJ := Lib.hid (And.intro hB (And.intro hP (And.intro hO (And.intro hU (And.intro u0 u1)))))
              clear hB hP hO hU u0 u1
              by_cases hlt2 : (j : Int) < (m : Int)
              · have hS : SpB sa (spots 0 l) wr := H3.out.1.of_block (HJ.out.2.2.2.1.block sa H3.out.1.lt (fun q => q.elim HD.out.1 HD.out.2.1))
                have e0 := hS.spot Htn.out.sp 0 (.int .i64 (B : Int)) rfl
                have e1 := hS.spot Htn.out.sp 1 (.int .i64 ((B : Int) + 1)) rfl
                have e2 := hS.spot Htn.out.sp 2 (.int .i64 ((B : Int) + 2)) rfl
                have e3 := hS.spot Htn.out.sp 3 (.int .i64 (n : Int)) rfl
                have e4 := hS.spot Htn.out.sp 4 (.int .i64 (d : Int)) rfl
                rw [Nat.add_zero] at e0
                have Hpub : Hid (Calls Try.prog 28 #[.pointer (some ⟨b, 0, none⟩), .agg #[.int .i64 B, .int .i64 ((B : Int) + 1), .int .i64 ((B : Int) + 2), .int .i64 n, .int .i64 d], .int .u64 (10 * (k : Int) + j)] wr (PubPost b bg B n d j (rcd n (10 * (k : Int) + j)) zs2 t2 wr)) := Lib.hid (by
                  obtain ⟨hB, hP, hO, hU, u0, u1⟩ := HJ.out
                  have tn := Htn.out
                  have hl5 := Hl5.out
                  exact publish_any b bg B n d j (10 * (k : Int) + j) zs2 t2 wr tn.n1 (by have := tn.n4; omega) tn.d2 (by have := tn.d5; omega) (by have := tn.hi; have := tn.mx; omega) (by omega) (by unfold U64; omega) hB (by rw [hP.1]; exact tn.hi) (by rw [hP.2 k B n d tn]; dsimp only; rw [if_neg (by omega), if_pos rfl]) u0 (by omega))
                clear hS
                go_wp2_with fail
                refine Hpub.out.mono ?_
                rintro e w3 ⟨ys, rfl, hB3, hyl, hy1, hL, hu3⟩
                have HR : Hid (∃ (zs : List Int) (t : Int), Bk w3 b bg zs t ∧ PC l zs (fun p => if p < k then mq ms p else if p = k then j + 1 else 0) ∧ w3.ownsRow WH.heap.size 42 1 (.slice va k vc) k ((csl k (mq ms)).map (Value.int .u64)) ∧ Upd (Own b bg) WH w3 ∧ 0 ≤ t ∧ t ≤ 100 * (k : Int) + 10 * ((j + 1 : Nat) : Int)) := Lib.hid (by
                  obtain ⟨hB, hP, hO, hU, u0, u1⟩ := HJ.out
                  have hn4 := Htn.out.n4
                  refine ⟨ys, t2 + n + 3, hB3, ?_, owns_blocks hO (fun p hp => hu3.block p (hO.lt p hp).2 (fun q => by have := (hO.lt p hp).1; have := HD.out; rcases q with q | q <;> omega)), hU.trans hu3, by omega, by push_cast; omega⟩
                  have hc : (fun p => if p < k then mq ms p else if p = k then j else 0) k = j := by dsimp only; rw [if_neg (by omega), if_pos rfl]
                  refine pc_congr (pc_nx HOK.out (c := fun p => if p < k then mq ms p else if p = k then j else 0) hc hP Htn.out hyl hy1 hL) (fun p _ => ?_)
                  by_cases c : p = k
                  · subst c
                    rw [if_pos rfl, if_neg (by omega), if_pos rfl]
                  · rw [if_neg c, if_neg c, if_neg c])
                clear hB3 hyl hy1 hL hu3 HJ Hpub e0 e1 e2 e3 e4
                go_wp2_with fail
                go_roundw
                case rel =>
                  obtain ⟨zs, t, r1, r2, r3, r4, r5, r6⟩ := HR.out
                  exact ⟨j + 1, zs, t, by go_num, by omega, r1, r2, r3, r4, r5, r6⟩
                case measure => simp [intOf]; omega
              · obtain rfl : j = m := by omega
                obtain ⟨v4, w4, hr4, ho4, hb4⟩ := ap_u64 HJ.out.2.2.1 HJ.out.2.2.2.1.size (by omega) (j : Int)
                have Hap := Lib.hid hr4
                have H4 := Lib.hid (And.intro ho4 hb4)
                obtain ⟨va4, vc4, rfl⟩ := owns_sl ho4
                have hc4 : w4.cell? ⟨lb, loff + k * 2, none⟩ = some (.int .i64 (n : Int)) := by
                  have h1 : Below m5 w w4 := (H3.out.2.2.2.trans (HJ.out.2.2.2.1.below (show m5 ≤ WH.heap.size by have := HD.out; omega) (fun q hq => by have := HD.out; rcases hq with rfl | rfl <;> omega))).trans (hb4.mono (by have := HD.out; omega))
                  obtain ⟨_, _, e, _, c1, _⟩ := (HT.out.below h1) k _ Htn.out.at'
                  cases e
                  exact c1
                clear hr4 ho4 hb4
                go_wp2_with (at_builtin; refine wpList_append_run _ rfl _ _ 41 41 rfl _ _ rfl rfl Hap.out ?_)
                go_roundw
                case rel =>
                  obtain ⟨ho4, hb4⟩ := H4.out
                  obtain ⟨hB, hP, hO, hU, u0, u1⟩ := HJ.out
                  refine ⟨k + 1, zs2, t2, by go_num, by have := Hln.out; omega, ?_, hB.of_blocks (hb4.block b (by have := HD.out; omega)) (hb4.block bg (by have := HD.out; omega)), pc_congr hP (fun p _ => ?_), ?_, ⟨hb4.os.trans hU.os, hb4.tape.trans hU.tape, hb4.output.trans hU.output, Nat.le_trans hU.size hb4.size, fun p hp hn => (hb4.block p hp).trans (hU.block p hp hn)⟩, u0, by push_cast; omega⟩
                  · rw [wid_take _ _ _ Htn.out.sp]
                    have : (spB B n d).wd.toNat = n := by unfold spB; simp
                    rw [this]
                    go_num
                  · have hme := Hm.out
                    by_cases c : p < k
                    · rw [if_pos c, if_pos (by omega)]
                    · rw [if_neg c]
                      by_cases c2 : p = k
                      · subst c2; rw [if_pos rfl, if_pos (by omega)]; exact hme
                      · rw [if_neg c2, if_neg (by omega)]
                  · rw [csl_succ, List.map_append]
                    rw [← Hm.out]
                    exact ho4
                case measure => simp [intOf]; omega
          · obtain ⟨m, hm⟩ : ∃ m : Nat, m = mq ms k := ⟨_, rfl⟩
            have Hm := Lib.hid hm
            have hm8 := mq_le ms k
            rw [← hm] at hm8
            have hmv : (0 : Int) = (m : Int) := by rw [hm]; unfold mq; rw [hgd, if_neg (by omega)]; rfl
            clear hm
            obtain rfl : m = 0 := by omega
            clear hmv
            go_wp2_with fail
            go_loopw [14] (fun i wr => AlRel2 WH b bg l ms (.slice va k vc) k 0 i wr) (fun i _ => 0 - (intOf i).toNat)
            case atStart => exact ⟨0, zs, t, rfl, by omega, HK.out.1, pc_congr HK.out.2.1 (fun j _ => by
              by_cases c : j < k
              · rw [if_pos c, if_pos c]
              · rw [if_neg c, if_neg c, ite_self]), HK.out.2.2.1, HK.out.2.2.2, t0, by omega⟩
            case round =>
              obtain ⟨j, zs2, t2, rfl, hj, hB, hP, hO, hU, u0, u1⟩ := hrel
              have HJ := Lib.hid (And.intro hB (And.intro hP (And.intro hO (And.intro hU (And.intro u0 u1)))))
              clear hB hP hO hU u0 u1
              obtain rfl : j = 0 := by omega
              have hlt2 : ¬ ((0 : Nat) : Int) < 0 := by omega
              obtain ⟨v4, w4, hr4, ho4, hb4⟩ := ap_u64 HJ.out.2.2.1 HJ.out.2.2.2.1.size (by omega) 0
              have Hap := Lib.hid hr4
              have H4 := Lib.hid (And.intro ho4 hb4)
              obtain ⟨va4, vc4, rfl⟩ := owns_sl ho4
              have hc4 : w4.cell? ⟨lb, loff + k * 2, none⟩ = some (.int .i64 (n : Int)) := by
                have h1 : Below m5 w w4 := (H3.out.2.2.2.trans (HJ.out.2.2.2.1.below (show m5 ≤ WH.heap.size by have := HD.out; omega) (fun q hq => by have := HD.out; rcases hq with rfl | rfl <;> omega))).trans (hb4.mono (by have := HD.out; omega))
                obtain ⟨_, _, e, _, c1, _⟩ := (HT.out.below h1) k _ Htn.out.at'
                cases e
                exact c1
              clear hr4 ho4 hb4
              go_wp2_with (at_builtin; refine wpList_append_run _ rfl _ _ 41 41 rfl _ _ rfl rfl Hap.out ?_)
              go_roundw
              case rel =>
                obtain ⟨ho4, hb4⟩ := H4.out
                obtain ⟨hB, hP, hO, hU, u0, u1⟩ := HJ.out
                refine ⟨k + 1, zs2, t2, by go_num, by have := Hln.out; omega, ?_, hB.of_blocks (hb4.block b (by have := HD.out; omega)) (hb4.block bg (by have := HD.out; omega)), pc_congr hP (fun p _ => ?_), ?_, ⟨hb4.os.trans hU.os, hb4.tape.trans hU.tape, hb4.output.trans hU.output, Nat.le_trans hU.size hb4.size, fun p hp hn => (hb4.block p hp).trans (hU.block p hp hn)⟩, u0, by push_cast; omega⟩
                · rw [wid_take _ _ _ Htn.out.sp]
                  have : (spB B n d).wd.toNat = n := by unfold spB; simp
                  rw [this]
                  go_num
                · have hme := Hm.out
                  by_cases c : p < k
                  · rw [if_pos c, if_pos (by omega)]
                  · rw [if_neg c]
                    by_cases c2 : p = k
                    · subst c2; rw [if_pos rfl, if_pos (by omega)]; exact hme
                    · rw [if_neg c2, if_neg (by omega)]
                · rw [csl_succ, List.map_append]
                  rw [← Hm.out]
                  exact ho4
              case measure => simp [intOf]; omega
        · obtain ⟨m, hm⟩ : ∃ m : Nat, m = mq ms k := ⟨_, rfl⟩
          have Hm := Lib.hid hm
          have hm8 := mq_le ms k
          rw [← hm] at hm8
          have hmv : (0 : Int) = (m : Int) := by rw [hm]; unfold mq; rw [hgd, if_neg (by omega)]; rfl
          clear hm
          obtain rfl : m = 0 := by omega
          clear hmv
          go_wp2_with fail
          go_loopw [14] (fun i wr => AlRel2 WH b bg l ms (.slice va k vc) k 0 i wr) (fun i _ => 0 - (intOf i).toNat)
          case atStart => exact ⟨0, zs, t, rfl, by omega, HK.out.1, pc_congr HK.out.2.1 (fun j _ => by
            by_cases c : j < k
            · rw [if_pos c, if_pos c]
            · rw [if_neg c, if_neg c, ite_self]), HK.out.2.2.1, HK.out.2.2.2, t0, by omega⟩
          case round =>
            obtain ⟨j, zs2, t2, rfl, hj, hB, hP, hO, hU, u0, u1⟩ := hrel
            have HJ := Lib.hid (And.intro hB (And.intro hP (And.intro hO (And.intro hU (And.intro u0 u1)))))
            clear hB hP hO hU u0 u1
            obtain rfl : j = 0 := by omega
            have hlt2 : ¬ ((0 : Nat) : Int) < 0 := by omega
            obtain ⟨v4, w4, hr4, ho4, hb4⟩ := ap_u64 HJ.out.2.2.1 HJ.out.2.2.2.1.size (by omega) 0
            have Hap := Lib.hid hr4
            have H4 := Lib.hid (And.intro ho4 hb4)
            obtain ⟨va4, vc4, rfl⟩ := owns_sl ho4
            have hc4 : w4.cell? ⟨lb, loff + k * 2, none⟩ = some (.int .i64 (n : Int)) := by
              have h1 : Below m5 w w4 := (H3.out.2.2.2.trans (HJ.out.2.2.2.1.below (show m5 ≤ WH.heap.size by have := HD.out; omega) (fun q hq => by have := HD.out; rcases hq with rfl | rfl <;> omega))).trans (hb4.mono (by have := HD.out; omega))
              obtain ⟨_, _, e, _, c1, _⟩ := (HT.out.below h1) k _ Htn.out.at'
              cases e
              exact c1
            clear hr4 ho4 hb4
            go_wp2_with (at_builtin; refine wpList_append_run _ rfl _ _ 41 41 rfl _ _ rfl rfl Hap.out ?_)
            go_roundw
            case rel =>
              obtain ⟨ho4, hb4⟩ := H4.out
              obtain ⟨hB, hP, hO, hU, u0, u1⟩ := HJ.out
              refine ⟨k + 1, zs2, t2, by go_num, by have := Hln.out; omega, ?_, hB.of_blocks (hb4.block b (by have := HD.out; omega)) (hb4.block bg (by have := HD.out; omega)), pc_congr hP (fun p _ => ?_), ?_, ⟨hb4.os.trans hU.os, hb4.tape.trans hU.tape, hb4.output.trans hU.output, Nat.le_trans hU.size hb4.size, fun p hp hn => (hb4.block p hp).trans (hU.block p hp hn)⟩, u0, by push_cast; omega⟩
              · rw [wid_take _ _ _ Htn.out.sp]
                have : (spB B n d).wd.toNat = n := by unfold spB; simp
                rw [this]
                go_num
              · have hme := Hm.out
                by_cases c : p < k
                · rw [if_pos c, if_pos (by omega)]
                · rw [if_neg c]
                  by_cases c2 : p = k
                  · subst c2; rw [if_pos rfl, if_pos (by omega)]; exact hme
                  · rw [if_neg c2, if_neg (by omega)]
              · rw [csl_succ, List.map_append]
                rw [← Hm.out]
                exact ho4
            case measure => simp [intOf]; omega
      · have hgd : ms.getD k 0 = 0 := by rw [List.getD_eq_getElem?_getD, List.getElem?_eq_none_iff.2 (by have := Hpn.out; omega)]; rfl
        clear hc0
        obtain ⟨m, hm⟩ : ∃ m : Nat, m = mq ms k := ⟨_, rfl⟩
        have Hm := Lib.hid hm
        have hm8 := mq_le ms k
        rw [← hm] at hm8
        have hmv : (0 : Int) = (m : Int) := by rw [hm]; unfold mq; rw [hgd, if_neg (by omega)]; rfl
        clear hm
        obtain rfl : m = 0 := by omega
        clear hmv
        go_wp2_with fail
        go_loopw [14] (fun i wr => AlRel2 WH b bg l ms (.slice va k vc) k 0 i wr) (fun i _ => 0 - (intOf i).toNat)
        case atStart => exact ⟨0, zs, t, rfl, by omega, HK.out.1, pc_congr HK.out.2.1 (fun j _ => by
          by_cases c : j < k
          · rw [if_pos c, if_pos c]
          · rw [if_neg c, if_neg c, ite_self]), HK.out.2.2.1, HK.out.2.2.2, t0, by omega⟩
        case round =>
          obtain ⟨j, zs2, t2, rfl, hj, hB, hP, hO, hU, u0, u1⟩ := hrel
          have HJ := Lib.hid (And.intro hB (And.intro hP (And.intro hO (And.intro hU (And.intro u0 u1)))))
          clear hB hP hO hU u0 u1
          obtain rfl : j = 0 := by omega
          have hlt2 : ¬ ((0 : Nat) : Int) < 0 := by omega
          obtain ⟨v4, w4, hr4, ho4, hb4⟩ := ap_u64 HJ.out.2.2.1 HJ.out.2.2.2.1.size (by omega) 0
          have Hap := Lib.hid hr4
          have H4 := Lib.hid (And.intro ho4 hb4)
          obtain ⟨va4, vc4, rfl⟩ := owns_sl ho4
          have hc4 : w4.cell? ⟨lb, loff + k * 2, none⟩ = some (.int .i64 (n : Int)) := by
            have h1 : Below m5 w w4 := (H3.out.2.2.2.trans (HJ.out.2.2.2.1.below (show m5 ≤ WH.heap.size by have := HD.out; omega) (fun q hq => by have := HD.out; rcases hq with rfl | rfl <;> omega))).trans (hb4.mono (by have := HD.out; omega))
            obtain ⟨_, _, e, _, c1, _⟩ := (HT.out.below h1) k _ Htn.out.at'
            cases e
            exact c1
          clear hr4 ho4 hb4
          go_wp2_with (at_builtin; refine wpList_append_run _ rfl _ _ 41 41 rfl _ _ rfl rfl Hap.out ?_)
          go_roundw
          case rel =>
            obtain ⟨ho4, hb4⟩ := H4.out
            obtain ⟨hB, hP, hO, hU, u0, u1⟩ := HJ.out
            refine ⟨k + 1, zs2, t2, by go_num, by have := Hln.out; omega, ?_, hB.of_blocks (hb4.block b (by have := HD.out; omega)) (hb4.block bg (by have := HD.out; omega)), pc_congr hP (fun p _ => ?_), ?_, ⟨hb4.os.trans hU.os, hb4.tape.trans hU.tape, hb4.output.trans hU.output, Nat.le_trans hU.size hb4.size, fun p hp hn => (hb4.block p hp).trans (hU.block p hp hn)⟩, u0, by push_cast; omega⟩
            · rw [wid_take _ _ _ Htn.out.sp]
              have : (spB B n d).wd.toNat = n := by unfold spB; simp
              rw [this]
              go_num
            · have hme := Hm.out
              by_cases c : p < k
              · rw [if_pos c, if_pos (by omega)]
              · rw [if_neg c]
                by_cases c2 : p = k
                · subst c2; rw [if_pos rfl, if_pos (by omega)]; exact hme
                · rw [if_neg c2, if_neg (by omega)]
            · rw [csl_succ, List.map_append]
              rw [← Hm.out]
              exact ho4
          case measure => simp [intOf]; omega
    · obtain rfl : k = ln := by omega
      have Hgen : Hid (∃ q c, va = some ⟨q, 0, none⟩ ∧ vc = c ∧ WH.heap.size ≤ q ∧ Orw wr q c (csl k (mq ms))) := Lib.hid (by
        obtain ⟨q, c, e, hq, hO⟩ := orw_of (by have := Hl5.out; omega) HK.out.2.2.1
        cases e
        exact ⟨q, vc, rfl, rfl, hq, hO⟩)
      obtain ⟨q, c, rfl, rfl, hq, hO⟩ := Hgen.out
      have HG := Lib.hid (And.intro hq hO)
      have hP : PC l zs (mq ms) := pc_congr HK.out.2.1 (fun j hj => by rw [if_pos (by have := Hln.out; omega)])
      have hS : SpB sa (spots 0 l) wr := H3.out.1.of_block (HK.out.2.2.2.block sa H3.out.1.lt (fun q => q.elim HD.out.1 HD.out.2.1))
      have hX : Blk wr m5 [.int .i64 st, .bool bt] := H3.out.2.2.1.of_block (HK.out.2.2.2.block m5 H3.out.2.2.1.lt (fun q => q.elim HD.out.2.2.1 HD.out.2.2.2.1))
      have hbl : Below m5 w wr := H3.out.2.2.2.trans (HK.out.2.2.2.below (show m5 ≤ WH.heap.size by have := HD.out; omega) (fun q hq => by have := HD.out; rcases hq with rfl | rfl <;> omega))
      have H5 := Lib.hid (And.intro HK.out.1 (And.intro hP (And.intro hS (And.intro hX hbl))))
      have hwl : (spots 0 l).take k = spots 0 l := List.take_of_length_le (by rw [spots_len]; have := Hln.out; omega)
      rw [hwl] at *
      have hT5 := Lib.hid t0
      have hT6 := Lib.hid t1
      have Hsq : Hid (WH.heap.size ≤ wr.heap.size) := Lib.hid HK.out.2.2.2.size
      have hf : ful (spots 0 l) = 2 * k + wid (spots 0 l) := by unfold ful; rw [spots_len]; have := Hln.out; omega
      obtain ⟨F, hF⟩ : ∃ F, 2 * k + wid (spots 0 l) = F := ⟨_, rfl⟩
      have HF := Lib.hid (show ful (spots 0 l) = F by rw [hf, hF])
      have hFi : 2 * (k : Int) + wid (spots 0 l) = F := by omega
      rw [hFi]
      have HFb : Hid (F ≤ 30 ∧ 2 * k + 1 ≤ F) := Lib.hid (by have := (wid_spots HOK.out).2; have := Hl5.out; omega)
      have HrT := Lib.hid (show ∀ W, Below m5 w W → W.cell? ⟨lb, loff, none⟩ = some (.int .i64 (n0 : Int)) from fun W hW => by
        obtain ⟨_, _, e, _, c1, _⟩ := (HT.out.below hW) 0 _ Ht0.out.at'
        cases e
        rw [Nat.zero_mul, Nat.add_zero] at c1
        exact c1)
      clear hq hO hP hS hX hbl HK t0 t1 hwl hf hF hFi H3 Hgen Hlc2 hwk
      have hq : RA0 sa lb loff n0 d0 wr.drew := by
        obtain ⟨_, _, hS, _, hb⟩ := H5.out
        have hsp := Ht0.out.sp
        have e : ∀ (i : Nat) (v : Value), (spc5 (spB 0 n0 d0))[i]? = some v → wr.cell? ⟨sa, i, none⟩ = some v := fun i v hv => by
          have := hS.spot hsp i v hv
          rw [Nat.zero_mul, Nat.zero_add] at this
          exact this
        exact ⟨⟨e 0 _ rfl, e 1 _ rfl, e 2 _ rfl, e 3 _ rfl, e 4 _ rfl⟩, HrT.out wr hb⟩
      have hk0 : 0 < k := by omega
      have Hrec := Lib.hid (fun W => record_any n0 9 W (by omega) (by unfold U64; omega))
      have Hnw : Hid (nwE (spB 0 n0 d0) (rcd n0 9).length 1 = 0) := Lib.hid (by
        have t := Ht0.out
        have := t.d2
        have := t.d5
        unfold nwE
        rw [if_pos ((mb_iff _ _).2 ⟨by unfold Rt spB; simp only; omega, by omega, by omega⟩), rcd_len, if_pos (show (n0 : Int) = (spB 0 n0 d0).wd from rfl)])
      have Hnew : Hid (∀ (w' : World) (a : Option Addr) (cap : Nat), Wds w'.heap.size w' a (rcd n0 9) → Calls Try.prog 24 #[.agg #[.int .i64 ((0 : Nat) : Int), .int .i64 (((0 : Nat) : Int) + 1), .int .i64 (((0 : Nat) : Int) + 2), .int .i64 n0, .int .i64 d0], .slice a n0 cap, .int .i64 1] w' (NewOp (spB 0 n0 d0) (rcd n0 9) 1 w')) := Lib.hid (fun w' a cap hW => by
        have := newo_ok (spB 0 n0 d0) a (rcd n0 9) cap 1 w' w'.heap.size (Nat.le_refl _) hW Hnw.out
        rw [rcd_len] at this
        exact this)
      go_wp2_with fail
      refine wp_region_held_drew (S := RA0 sa lb loff n0 d0) (by kernel_rfl) (hq) (fun hHeld => ?_)
      refine wpAnyH_take (i := 0) (v := ?v1) rfl (by kernel_rfl) (by kernel_rfl) (by kernel_rfl) (fun _ _ _ h => h) (Or.inl ⟨by rfl, ?y1⟩) hHeld ?r1
      case y1 => (intro w hSw; obtain ⟨⟨q0, q1, q2, q3, q4⟩, q5⟩ := hSw; go_simp; try with_reducible rfl)
      simp only [List.getElem_toArray, List.getElem_cons_zero, Act.put, List.setIfInBounds_toArray, List.set_cons_zero, List.set_cons_succ]
      refine wpAnyH_take (i := 1) (v := ?v2) rfl (by kernel_rfl) (by kernel_rfl) (by kernel_rfl) (fun _ _ _ h => h) (Or.inl ⟨by rfl, ?y2⟩) hHeld ?r2
      case y2 => (intro w hSw; obtain ⟨⟨q0, q1, q2, q3, q4⟩, q5⟩ := hSw; go_simp; try with_reducible rfl)
      simp only [List.getElem_toArray, List.getElem_cons_zero, List.getElem_cons_succ, Act.put, List.setIfInBounds_toArray, List.set_cons_zero, List.set_cons_succ]
      refine wpAnyH_take (i := 2) (v := ?v3) rfl (by kernel_rfl) (by kernel_rfl) (by kernel_rfl) (fun _ _ _ h => h) (Or.inl ⟨by rfl, ?y3⟩) hHeld ?r3
      case y3 => (intro w hSw; obtain ⟨⟨q0, q1, q2, q3, q4⟩, q5⟩ := hSw; go_simp; try with_reducible rfl)
      simp only [List.getElem_toArray, List.getElem_cons_zero, List.getElem_cons_succ, Act.put, List.setIfInBounds_toArray, List.set_cons_zero, List.set_cons_succ]
      refine wpAnyH_take (i := 3) (v := ?v4) rfl (by kernel_rfl) (by kernel_rfl) (by kernel_rfl) (fun _ _ _ h => h) (Or.inl ⟨by rfl, ?y4⟩) hHeld ?r4
      case y4 => (intro w hSw; obtain ⟨⟨q0, q1, q2, q3, q4⟩, q5⟩ := hSw; go_simp; try with_reducible rfl)
      simp only [List.getElem_toArray, List.getElem_cons_zero, List.getElem_cons_succ, Act.put, List.setIfInBounds_toArray, List.set_cons_zero, List.set_cons_succ]
      refine wpAnyH_take (i := 4) (v := ?v5) rfl (by kernel_rfl) (by kernel_rfl) (by kernel_rfl) (fun _ _ _ h => h) (Or.inl ⟨by rfl, ?y5⟩) hHeld ?r5
      case y5 => (intro w hSw; obtain ⟨⟨q0, q1, q2, q3, q4⟩, q5⟩ := hSw; go_simp; try with_reducible rfl)
      simp only [List.getElem_toArray, List.getElem_cons_zero, List.getElem_cons_succ, Act.put, List.setIfInBounds_toArray, List.set_cons_zero, List.set_cons_succ]
      refine wpAnyH_take (i := 5) (v := ?v6) rfl (by kernel_rfl) (by kernel_rfl) (by kernel_rfl) (fun _ _ _ h => h) (Or.inl ⟨by rfl, ?y6⟩) hHeld ?r6
      case y6 => (intro w hSw; obtain ⟨⟨q0, q1, q2, q3, q4⟩, q5⟩ := hSw; go_simp; try with_reducible rfl)
      simp only [List.getElem_toArray, List.getElem_cons_zero, List.getElem_cons_succ, Act.put, List.setIfInBounds_toArray, List.set_cons_zero, List.set_cons_succ]
      refine wpAnyH_take (i := 6) (v := ?v7) rfl (by kernel_rfl) (by kernel_rfl) (by kernel_rfl) (fun _ _ _ h => h) (Or.inl ⟨by rfl, ?y7⟩) hHeld ?r7
      case y7 => (intro w hSw; obtain ⟨⟨q0, q1, q2, q3, q4⟩, q5⟩ := hSw; go_simp; try with_reducible rfl)
      simp only [List.getElem_toArray, List.getElem_cons_zero, List.getElem_cons_succ, Act.put, List.setIfInBounds_toArray, List.set_cons_zero, List.set_cons_succ]
      refine wpAnyH_ready (rs := [7]) (by kernel_rfl) (by simp) (AllReadyH.cons rfl (fun K hK => ?_) AllReadyH.nil)
      go_simp
      refine (Hrec.out _).mono ?_
      rintro e w4 ⟨ra, rc, rfl, hW4, hb4⟩
      have H6 : Hid (Bk w4 b bg zs t ∧ SpB sa (spots 0 l) w4 ∧ Blk w4 m5 [.int .i64 st, .bool bt] ∧ Orw w4 q vc (csl k (mq ms)) ∧ Below m5 w w4 ∧ Wds w4.heap.size w4 ra (rcd n0 9) ∧ WH.heap.size ≤ w4.heap.size) := Lib.hid (by
        obtain ⟨g1, g2, ⟨vs, g3, g3'⟩, g4, g5⟩ := H5.out
        exact ⟨g1.drew.below hb4, ⟨vs, g3.drew.low hb4, g3'⟩, g4.drew.low hb4, (HG.out.2.of_block (w' := wr.drew) rfl).low hb4, (belN g5 1).trans (hb4.mono (show m5 ≤ wr.heap.size by have := HD.out; have := Hsq.out; omega)), hW4, Nat.le_trans Hsq.out hb4.size⟩)
      have hq4 : RA0 sa lb loff n0 d0 w4 := by
        obtain ⟨_, hS, _, _, hb, _⟩ := H6.out
        have hsp := Ht0.out.sp
        have e : ∀ (i : Nat) (v : Value), (spc5 (spB 0 n0 d0))[i]? = some v → w4.cell? ⟨sa, i, none⟩ = some v := fun i v hv => by
          have := hS.spot hsp i v hv
          rw [Nat.zero_mul, Nat.zero_add] at this
          exact this
        exact ⟨⟨e 0 _ rfl, e 1 _ rfl, e 2 _ rfl, e 3 _ rfl, e 4 _ rfl⟩, HrT.out _ hb⟩
      clear hW4 hb4
      go_wp2_with fail
      refine hK.out _ _ (hq4) (fun hHeld => ?_)
      clear hK K
      refine wpAnyH_ready (rs := [8]) (by kernel_rfl) (by simp) (AllReadyH.cons rfl (fun K hK => ?_) AllReadyH.nil)
      go_simp
      refine (Hnew.out _ ra rc H6.out.2.2.2.2.2.1).mono ?_
      rintro e w5 ⟨o1, g1, ho1, hg1, rfl, hO1, hu5⟩
      have H7 : Hid (Bk w5 b bg zs t ∧ SpB sa (spots 0 l) w5 ∧ Blk w5 m5 [.int .i64 st, .bool bt] ∧ Orw w5 q vc (csl k (mq ms)) ∧ Below m5 w w5 ∧ OpAt w5 o1 g1 (spB 0 n0 d0) (rcd n0 9) (st0 1) ∧ (o1 ≠ b ∧ o1 ≠ bg ∧ g1 ≠ b ∧ g1 ≠ bg ∧ o1 ≠ sa ∧ o1 ≠ m5 ∧ o1 ≠ q ∧ m5 ≤ o1) ∧ WH.heap.size ≤ w5.heap.size) := Lib.hid (by
        obtain ⟨g1', g2, g3, g4, g5, g6, g7⟩ := H6.out
        have l1 := g1'.ltb
        have l2 := g1'.ltg
        have l3 := g2.lt
        have l4 := g3.lt
        have l5 := g4.lt
        exact ⟨g1'.below hu5, g2.low hu5, g3.low hu5, g4.low hu5, g5.trans (hu5.mono (by omega)), hO1, ⟨by omega, by omega, by omega, by omega, by omega, by omega, by omega, by omega⟩, Nat.le_trans g7 hu5.size⟩)
      have hq5 : RA0 sa lb loff n0 d0 w5 := by
        obtain ⟨_, hS, _, _, hb, _⟩ := H7.out
        have hsp := Ht0.out.sp
        have e : ∀ (i : Nat) (v : Value), (spc5 (spB 0 n0 d0))[i]? = some v → w5.cell? ⟨sa, i, none⟩ = some v := fun i v hv => by
          have := hS.spot hsp i v hv
          rw [Nat.zero_mul, Nat.zero_add] at this
          exact this
        exact ⟨⟨e 0 _ rfl, e 1 _ rfl, e 2 _ rfl, e 3 _ rfl, e 4 _ rfl⟩, HrT.out _ hb⟩
      clear ho1 hg1 hO1 hu5
      go_wp2_with fail
      refine hK.out _ _ (hq5) (fun hHeld => ?_)
      clear hK K
      refine wpAnyH_take (i := 9) (v := ?v10) rfl (by kernel_rfl) (by kernel_rfl) (by kernel_rfl) (fun _ _ _ h => h) (Or.inl ⟨by rfl, ?y10⟩) hHeld ?r10
      case y10 => (intro w hSw; obtain ⟨⟨q0, q1, q2, q3, q4⟩, q5⟩ := hSw; go_simp; try with_reducible rfl)
      simp only [List.getElem_toArray, List.getElem_cons_zero, List.getElem_cons_succ, Act.put, List.setIfInBounds_toArray, List.set_cons_zero, List.set_cons_succ]
      refine wpAnyH_take (i := 10) (v := ?v11) rfl (by kernel_rfl) (by kernel_rfl) (by kernel_rfl) (fun _ _ _ h => h) (Or.inl ⟨by rfl, ?y11⟩) hHeld ?r11
      case y11 => (intro w hSw; obtain ⟨⟨q0, q1, q2, q3, q4⟩, q5⟩ := hSw; go_simp; try with_reducible rfl)
      simp only [List.getElem_toArray, List.getElem_cons_zero, List.getElem_cons_succ, Act.put, List.setIfInBounds_toArray, List.set_cons_zero, List.set_cons_succ]
      refine wpAnyH_take (i := 11) (v := ?v12) rfl (by kernel_rfl) (by kernel_rfl) (by kernel_rfl) (fun _ _ _ h => h) (Or.inl ⟨by rfl, ?y12⟩) hHeld ?r12
      case y12 => (intro w hSw; obtain ⟨⟨q0, q1, q2, q3, q4⟩, q5⟩ := hSw; go_simp; try with_reducible rfl)
      simp only [List.getElem_toArray, List.getElem_cons_zero, List.getElem_cons_succ, Act.put, List.setIfInBounds_toArray, List.set_cons_zero, List.set_cons_succ]
      refine wpAnyH_take (i := 12) (v := ?v13) rfl (by kernel_rfl) (by kernel_rfl) (by kernel_rfl) (fun _ _ _ h => h) (Or.inl ⟨by rfl, ?y13⟩) hHeld ?r13
      case y13 => (intro w hSw; obtain ⟨⟨q0, q1, q2, q3, q4⟩, q5⟩ := hSw; go_simp; try with_reducible rfl)
      simp only [List.getElem_toArray, List.getElem_cons_zero, List.getElem_cons_succ, Act.put, List.setIfInBounds_toArray, List.set_cons_zero, List.set_cons_succ]
      refine wpAnyH_take (i := 13) (v := ?v14) rfl (by kernel_rfl) (by kernel_rfl) (by kernel_rfl) (fun _ _ _ h => h) (Or.inl ⟨by rfl, ?y14⟩) hHeld ?r14
      case y14 => (intro w hSw; obtain ⟨⟨q0, q1, q2, q3, q4⟩, q5⟩ := hSw; go_simp; try with_reducible rfl)
      simp only [List.getElem_toArray, List.getElem_cons_zero, List.getElem_cons_succ, Act.put, List.setIfInBounds_toArray, List.set_cons_zero, List.set_cons_succ]
      refine wpAnyH_done (by kernel_rfl) ?_ _
      have HPC0 := Lib.hid H5.out.2.1
      clear hHeld hq hq4 hq5 H6 Hnew Hrec H5
      have Hn2 := Lib.hid (fun W (hS : SpB sa (spots 0 l) W) => nnew_ok (some ⟨sa, 0, none⟩) cs (spots 0 l) 2 W hS.sps (spots_flt HOK.out (by omega) (by omega)))
      rw [spots_len, Hln.out] at Hn2
      go_wp2_with fail
      refine (Hn2.out _ H7.out.2.1).mono ?_
      rintro e w6 ⟨o, gs, g, ho, hgs, hg, rfl, hN, hu6⟩
      have H8 : Hid (Bk w6 b bg zs t ∧ OpAt w6 o1 g1 (spB 0 n0 d0) (rcd n0 9) (st0 1) ∧ AlR w sa m5 q vc o gs g l st bt (csl k (mq ms)) (nst0 2) w6 ∧ AlD w b bg sa m5 q o gs g ∧ (o1 ≠ b ∧ o1 ≠ bg ∧ g1 ≠ b ∧ g1 ≠ bg ∧ o1 ≠ sa ∧ o1 ≠ m5 ∧ o1 ≠ q ∧ o1 ≠ o ∧ o1 ≠ gs ∧ o1 ≠ g ∧ m5 ≤ o1)) := Lib.hid (by
        obtain ⟨g1', g2, g3, g4, g5, g6, g7, g8⟩ := H7.out
        have l1 := g1'.ltb
        have l2 := g1'.ltg
        have l3 := g2.lt
        have l4 := g3.lt
        have l5 := g4.lt
        have l6 := g6.lto
        have l7 := HD.out
        have l8 := HG.out.1
        have l9 := Hm5.out
        refine ⟨g1'.below hu6, g6.below hu6, ⟨g2.low hu6, g3.low hu6, g4.low hu6, hN, ?_⟩, ⟨?_, ?_, ?_, ?_, ?_⟩, ?_⟩
        · rw [l9]; exact g5.trans (hu6.mono (by omega))
        · unfold Apt; omega
        · omega
        · omega
        · omega
        · omega
        · omega)
      clear ho hgs hg hN hu6 H7 Hn2 HG Hsq
      go_wp2_with fail
      have Hwf0 : Hid (Wf (spB 0 n0 d0) (rcd n0 9) (st0 1)) := Lib.hid (wf0 Hnw.out (fun v hv => by
        obtain ⟨j, hj⟩ := List.mem_iff_getElem?.1 hv
        rw [(rcd_at hj).2]
        exact u64_rcw _ _))
      have HPC := Lib.hid HPC0.out
      go_loopw [20] (fun i wr => AlRel3 w b bg sa m5 q vc o gs g o1 g1 n0 d0 (mq ms 0) l st bt (csl k (mq ms)) zs (rcd n0 9) t (nst0 2) i wr) (fun i _ => st.toNat - (intOf i).toNat)
      case atStart => exact ⟨0, st0 1, zs, rfl, by have := Hst.out; omega, ⟨rfl, .inl ⟨rfl, rfl, rfl⟩⟩, H8.out.2.1, by rw [show ((0 : Nat) : Int) = 0 from rfl, Int.add_zero]; exact H8.out.1, Hwf0.out, rfl, H8.out.2.2.1⟩
      case round =>
        obtain ⟨j, y, ys, rfl, hj, hI, hO, hK, hwf, hst, hR⟩ := hrel
        have cM := hR.bx.cell (i := 0) rfl
        by_cases hlt3 : (j : Int) < st
        · have t0' := Ht0.out
          have hPC := HPC.out
          obtain ⟨hI2, ha, hs2, hh2⟩ := al_step (B := 0) (by omega) t0'.n1 (by have := t0'.n4; omega) t0'.d2 (by have := t0'.d5; omega) (by have := mq_le ms 0; omega) (by rw [hPC.1]; exact t0'.hi) (rcd_len n0 9) (hPC.2 0 0 n0 d0 t0') hI (by have := Hst.out; omega)
          obtain ⟨e1, e2, e3, e4, e5, e6, e7, e8, e9, e10, e11⟩ := H8.out.2.2.2.2
          have Hst2 := Lib.hid (step_any hO hK e1 e2 e3 e4 hwf (by have := hT5.out; omega) (by have := hT6.out; have := Hl5.out; have := Hst.out; omega) (by omega) (by have := Hst.out; omega))
          have Hwf2 := Lib.hid (wf_stp hwf hK.rng)
          have HI2 := Lib.hid (And.intro hI2 (And.intro ha (And.intro hs2 hR)))
          have hj64 : (j : Int) ≤ 6 := by have := Hst.out; omega
          clear hI2 ha hs2 hh2 hI hO hK hwf hst hR e1 e2 e3 e4 e5 e6 e7 e8 e9 e10 e11 t0' hPC
          generalize stp (spB 0 n0 d0) (rcd n0 9) ys y = r at *
          go_wp2_with fail
          refine Hst2.out.mono ?_
          rintro e w9 ⟨rfl, hO2, hK2, hu2⟩
          obtain ⟨hI2, ha, hs2, hR⟩ := HI2.out
          rw [ha] at hK2
          have hR2 := hR.upd hu2 (fun q => by have := H8.out.2.2.2; have := HD.out; obtain ⟨D, h⟩ := this; rcases q with q | q | q <;> omega) (fun q => by have := HD.out; have := H8.out.2.2.2.2; rcases q with q | q | q <;> omega) (fun q => by have D := H8.out.2.2.2.1.qb; have := H8.out.2.2.2.2; rcases q with q | q | q <;> omega) (fun q => by have D := H8.out.2.2.2.1.ap; unfold Apt at D; have := H8.out.2.2.2.2; rcases q with q | q | q <;> omega) (fun q => by have D := H8.out.2.2.2.1.ap; unfold Apt at D; have := H8.out.2.2.2.2; rcases q with q | q | q <;> omega) (fun q => by have D := H8.out.2.2.2.1.ap; unfold Apt at D; have := H8.out.2.2.2.2; rcases q with q | q | q <;> omega) (fun k hk => by have D := H8.out.2.2.2.1.lb; have := H8.out.2.2.2.2; have := Hm5.out; rcases hk with rfl | rfl | rfl <;> omega)
          have HR := Lib.hid (And.intro hI2 (And.intro hO2 (And.intro hK2 (And.intro Hwf2.out (And.intro hs2 hR2)))))
          clear Hst2 hu2 HI2 hI2 ha hs2 hO2 hK2 Hwf2 hR hR2 cM
          go_wp2_with fail
          go_roundw
          case rel =>
            obtain ⟨a1, a2, a3, a4, a5, a6⟩ := HR.out
            exact ⟨j + 1, r.1, r.2.1, by go_num, by omega, a1, a2, (by rw [show ((j + 1 : Nat) : Int) = (j : Int) + 1 by omega, ← Int.add_assoc]; exact a3), a4, by omega, a6⟩
          case measure => simp [intOf]; omega
        · obtain rfl : (j : Int) = st := by omega
          have HQ := Lib.hid (pq_al HOK.out HPC.out Ht0.out hI (by have := Hst.out; omega))
          have HDD := Lib.hid H8.out.2.2.2.1
          have H9 := Lib.hid (And.intro hK hR)
          clear hI hO hK hwf hst hR H8 Hwf0
          have HTb : Hid (0 ≤ t + (j : Int) ∧ t + (j : Int) ≤ 600) := Lib.hid (by have := hT5.out; have := hT6.out; have := Hl5.out; have := Hst.out; omega)
          generalize t + (j : Int) = tt at *
          have HF30 := HFb.out
          go_wp2_with fail
          go_loopw [21] (fun i wr => AlRel4 w b bg sa m5 q vc o gs g l (j : Int) bt (csl k (mq ms)) (csl l.length (mq ms)) 2 0 0 0 k ys tt i wr) (fun i _ => k - (intOf i).toNat)
          case atStart => exact ⟨0, nst0 2, rfl, by omega, alo_start (nwf0 (spots_flt HOK.out (by omega) (by omega))) rfl rfl rfl rfl, by unfold pos; rw [if_pos (show (nst0 2).line = 0 from rfl)]; rfl, by rw [show ((0 : Nat) : Int) = 0 from rfl, Int.add_zero]; exact H9.out.1, H9.out.2⟩
          case round =>
            clear H9 cM
            obtain ⟨j9, x, rfl, hj9, hA, hpj, hK, hR⟩ := hrel
            rw [Nat.zero_add] at *
            by_cases hlt9 : (j9 : Int) < k
            · skip
              have hos := pq_alo HOK.out HQ.out hK.rng hA (fun _ => rfl)
              have hstp := nstep_any hR.sn hK HDD.out.ap hA.wf (by have := HTb.out; omega) (by have := HTb.out; omega) (by rw [hA.steps]; omega) (by rw [hA.steps]; have := HF30; omega)
              have hpf : pos (spots 0 l) x + 1 < ful (spots 0 l) := by rw [HF.out]; omega
              obtain ⟨hA2, hp2⟩ := hos.2.1 hpf
              have hr2 := hos.1
              have Hst2 := Lib.hid hstp
              have Hh := Lib.hid hA2.how
              have HA2 := Lib.hid (And.intro hA2 (And.intro hp2 (And.intro hpj hR)))
              clear hos hstp hpf hA2 hp2 hA hpj hK hR
              go_wp2_with fail
              refine Hst2.out.mono ?_
              rintro e w9 ⟨rfl, hN9, hK9, hu9⟩
              rw [hr2] at hK9
              rw [Hh.out]
              have HR9 := Lib.hid (And.intro hK9 (HA2.out.2.2.2.step HDD.out hN9 hu9))
              clear hN9 hK9 hu9 Hst2 hr2
              go_wp2_with fail
              go_roundw
              case rel => exact ⟨j9 + 1, _, by go_num, by omega, HA2.out.1, by rw [HA2.out.2.1, HA2.out.2.2.1]; omega, by rw [show ((j9 + 1 : Nat) : Int) = (j9 : Int) + 1 by omega, ← Int.add_assoc]; exact HR9.out.1, HR9.out.2⟩
              case measure => simp [intOf]; omega
            · obtain rfl : k = j9 := by omega
              have hR2 := hR.bx.cell (i := 1) rfl
              cases bt with
              | false =>
                have lbk := hK.ltb
                have lgk := hK.ltg
                have lok := hR.sn.lto
                have lgk2 := hR.sn.ltg
                have hyl : ys.length ≤ 110 := by rw [HQ.out.1]; exact Ht0.out.mx
                have Hcl := Lib.hid (clone_any b bg ys _ wr hK (by omega))
                have HA9 := Lib.hid (And.intro hA (And.intro hpj (And.intro hK hR)))
                clear hA hpj hK hR
                go_wp2_with fail
                refine Hcl.out.mono ?_
                rintro e w9 ⟨b2, g2, hb2, hg2, rfl, hC, hu9⟩
                have HCC : Hid ((b2 ≠ o ∧ b2 ≠ g ∧ b2 ≠ b ∧ b2 ≠ bg) ∧ g2 ≠ o ∧ g2 ≠ g ∧ g2 ≠ b ∧ g2 ≠ bg) := Lib.hid (by omega)
                have H10 := Lib.hid (And.intro (HA9.out.2.2.1.below hu9) (And.intro (HA9.out.2.2.2.low hu9) hC))
                clear hb2 hg2 hC hu9 Hcl lbk lgk lok lgk2
                have HTb2 : Hid (0 ≤ tt + (k : Int) ∧ tt + (k : Int) ≤ 700) := Lib.hid (by have := HTb.out; omega)
                clear HTb
                have HTb := HTb2
                clear HTb2
                generalize tt + (k : Int) = tk at *
                go_wp2_with fail
                go_loopw [28] (fun i wr => AlRel7 w b bg sa m5 q vc o gs g b2 g2 l (j : Int) false (csl k (mq ms)) (csl l.length (mq ms)) 2 0 (k + 1) k (F - (k + 1)) ys tk tk i wr) (fun i _ => F - (intOf i).toNat)
                case atStart => exact ⟨0, x, by go_num, by omega, HA9.out.1, by rw [Nat.add_zero]; exact HA9.out.2.1, by rw [show ((0 : Nat) : Int) = 0 from rfl, Int.add_zero]; exact H10.out.1, H10.out.2.1, H10.out.2.2⟩
                case round =>
                  clear HA9 H10
                  obtain ⟨j9, x, rfl, hj9, hA, hpj, hK, hR, hC⟩ := hrel
                  by_cases hlt9 : ((k + 1 + j9 : Nat) : Int) < F
                  · skip
                    have hos := pq_alo HOK.out HQ.out hK.rng hA (fun _ => rfl)
                    have hstp := nstep_any hR.sn hK HDD.out.ap hA.wf (by have := HTb.out; omega) (by have := HTb.out; omega) (by rw [hA.steps]; omega) (by rw [hA.steps]; have := HF30; omega)
                    have hpf : pos (spots 0 l) x + 1 < ful (spots 0 l) := by rw [HF.out]; omega
                    obtain ⟨hA2, hp2⟩ := hos.2.1 hpf
                    have hr2 := hos.1
                    have Hst2 := Lib.hid hstp
                    have Hh := Lib.hid hA2.how
                    have HA2 := Lib.hid (And.intro hA2 (And.intro hp2 (And.intro hpj hR)))
                    have HC2 := Lib.hid hC
                    clear hC
                    clear hos hstp hpf hA2 hp2 hA hpj hK hR
                    go_wp2_with fail
                    refine Hst2.out.mono ?_
                    rintro e w9 ⟨rfl, hN9, hK9, hu9⟩
                    rw [hr2] at hK9
                    rw [Hh.out]
                    have HR9 := Lib.hid (And.intro hK9 (HA2.out.2.2.2.step HDD.out hN9 hu9))
                    have HC9 := Lib.hid (HC2.out.upd hu9 (fun q => by have := HCC.out; rcases q with q | q | q | q <;> omega) (fun q => by have := HCC.out; rcases q with q | q | q | q <;> omega))
                    clear HC2
                    clear hN9 hK9 hu9 Hst2 hr2
                    go_wp2_with fail
                    go_roundw
                    case rel => exact ⟨j9 + 1, _, by go_num, by omega, HA2.out.1, by rw [HA2.out.2.1, HA2.out.2.2.1]; omega, by rw [show ((j9 + 1 : Nat) : Int) = (j9 : Int) + 1 by omega, ← Int.add_assoc]; exact HR9.out.1, HR9.out.2, HC9.out⟩
                    case measure => simp [intOf]; omega
                  · have HC2 := Lib.hid hC
                    clear hC
                    have hos := pq_alo HOK.out HQ.out hK.rng hA (fun _ => rfl)
                    have hstp := nstep_any hR.sn hK HDD.out.ap hA.wf (by have := HTb.out; omega) (by have := HTb.out; omega) (by rw [hA.steps]; omega) (by rw [hA.steps]; have := HF30; omega)
                    have hpf : pos (spots 0 l) x + 1 = ful (spots 0 l) := by rw [HF.out]; omega
                    have hD2 := hos.2.2 hpf
                    have hr2 := hos.1
                    have Hst2 := Lib.hid hstp
                    have Hh := Lib.hid hD2.how
                    have HD2 := Lib.hid hD2
                    have HA2 := Lib.hid hR
                    clear hos hstp hpf hD2 hA hpj hK hR
                    go_wp2_with fail
                    refine Hst2.out.mono ?_
                    rintro e w9 ⟨rfl, hN9, hK9, hu9⟩
                    rw [hr2] at hK9
                    rw [Hh.out]
                    have HR9 := Lib.hid (And.intro hK9 (And.intro (HA2.out.step HDD.out hN9 hu9) (HC2.out.upd hu9 (fun q => by have := HCC.out; rcases q with q | q | q | q <;> omega) (fun q => by have := HCC.out; rcases q with q | q | q | q <;> omega))))
                    clear hN9 hK9 hu9 Hst2 hr2 HC2 HA2
                    generalize (nst (spots 0 l) ys x).1 = X at *
                    have Hgot := Lib.hid (fun W (hN : NAt W o gs g (spots 0 l) X) => got_dne HOK.out HD2.out W hN)
                    generalize tk + (j9 : Int) + 1 = tz at *
                    rw [Hln.out] at Hgot
                    go_wp2_with fail
                    go_loopw [30] (fun i wr => AlRel8 w b bg sa m5 q vc o gs g b2 g2 l (j : Int) false (csl k (mq ms)) ys tz tk X i wr) (fun i _ => ys.length - (intOf i).toNat)
                    case atStart => exact ⟨0, rfl, by omega, HR9.out.1, HR9.out.2.1, HR9.out.2.2⟩
                    case round =>
                      clear HR9
                      obtain ⟨i8, rfl, hi8, hB, hR, hC⟩ := hrel
                      by_cases hlt8 : (i8 : Int) < ys.length
                      · obtain ⟨v8, hv8⟩ : ∃ v, ys[i8]? = some v := ⟨_, List.getElem?_eq_getElem (by omega)⟩
                        have Hp1 := Lib.hid (peek_in b bg ys tz v8 i8 wr hB hv8)
                        have Hp2 := Lib.hid (fun W (hC : Bk W b2 g2 ys tk) => peek_in b2 g2 ys tk v8 i8 W hC hv8)
                        have Hln8 := Lib.hid (len_any b bg ys tz wr hB)
                        have HZ := Lib.hid (And.intro hB (And.intro hR hC))
                        have mvv : (v8 != v8) = false := by simp
                        clear hB hR hC hv8
                        go_wp2_with fail
                        refine Hln8.out.mono ?_
                        rintro e w' ⟨rfl, rfl⟩
                        go_wp2_with fail
                        refine Hp1.out.mono ?_
                        rintro e wa ⟨rfl, hB1, hb1⟩
                        have HZ1 := Lib.hid (show Bk wa b bg ys tz ∧ AlR w sa m5 q vc o gs g l (j : Int) false (csl k (mq ms)) X wa ∧ Bk wa b2 g2 ys tk from ⟨hB1, HZ.out.2.1.low hb1, HZ.out.2.2.below hb1⟩)
                        clear hB1 hb1
                        go_wp2_with fail
                        refine (Hp2.out _ HZ1.out.2.2).mono ?_
                        rintro e wb ⟨rfl, hC1, hb2⟩
                        have HZ2 := Lib.hid (show Bk wb b bg ys tz ∧ AlR w sa m5 q vc o gs g l (j : Int) false (csl k (mq ms)) X wb ∧ Bk wb b2 g2 ys tk from ⟨HZ1.out.1.below hb2, HZ1.out.2.1.low hb2, hC1⟩)
                        clear hC1 hb2
                        go_wp2_with fail
                        go_roundw
                        case rel => exact ⟨i8 + 1, by go_num, by omega, HZ2.out.1, HZ2.out.2.1, HZ2.out.2.2⟩
                        case measure => simp [intOf]; omega
                      · have Hln8 := Lib.hid (len_any b bg ys tz wr hB)
                        have HZ := Lib.hid hR
                        have hi8e : ¬ (i8 : Int) < ys.length := hlt8
                        clear hB hR hC
                        go_wp2_with fail
                        refine Hln8.out.mono ?_
                        rintro e w' ⟨rfl, rfl⟩
                        go_wp2_with fail
                        refine (Hgot.out _ HZ.out.sn).mono ?_
                        rintro e wc ⟨nW, q1, e1, q2, e2, rfl, hO8, hu8⟩
                        have HY := Lib.hid (And.intro (HZ.out.low hu8) hO8)
                        clear hO8 hu8
                        have hat := fun W (hN : NAt W o gs g (spots 0 l) X) => nat_pur hN
                        rw [show nat X = (k : Int) from by unfold nat; rw [HD2.out.how, if_pos rfl, HD2.out.bgn, spots_len, Hln.out]; omega] at hat
                        have Hat := Lib.hid hat
                        have hsp := fun W (hN : NAt W o gs g (spots 0 l) X) => nsteps_any hN
                        rw [show X.steps = (F : Int) from by rw [HD2.out.steps, HF.out]; omega] at hsp
                        have Hsp := Lib.hid hsp
                        have Hwd := Lib.hid (words_any (some ⟨q2, 0, none⟩) (some ⟨q, 0, none⟩) (csl k (mq ms)) (csl k (mq ms)) e2 vc wc HY.out.2.rdw HY.out.1.gn.rdw (by rw [csl_len]; have := Hl5.out; omega))
                        rw [csl_len, decide_eq_true rfl] at Hwd
                        have mkk : ((k : Int) == (k : Int)) = true := by simp
                        have mff : ((F : Int) == (F : Int)) = true := by simp
                        clear hat hsp
                        go_wp2_with fail
                        refine Hwd.out.mono ?_
                        rintro e wd ⟨rfl, hbd⟩
                        have HX := Lib.hid (HY.out.1.low hbd)
                        clear hbd
                        go_wp2_with fail
                        refine (Hat.out _ HX.out.sn).mono ?_
                        rintro e w' ⟨rfl, rfl⟩
                        go_wp2_with fail
                        refine (Hsp.out _ HX.out.sn).mono ?_
                        rintro e w' ⟨rfl, rfl⟩
                        go_wp2_with fail
                        refine (awake_any _).mono ?_
                        rintro e we ⟨rfl, hue⟩
                        have HE := Lib.hid (HX.out.bel.trans (hue.mono HX.out.bel.size))
                        clear hue
                        go_wp2
                        go_ret
                        exact ⟨rfl, HE.out⟩
              | true =>
                by_cases hk1 : k = 1
                · have hk9 : ¬ (0 : Int) < (k : Int) - 1 := by omega
                  clear hk1
                  have lbk := hK.ltb
                  have lgk := hK.ltg
                  have lok := hR.sn.lto
                  have lgk2 := hR.sn.ltg
                  have hyl : ys.length ≤ 110 := by rw [HQ.out.1]; exact Ht0.out.mx
                  have Hcl := Lib.hid (clone_any b bg ys _ wr hK (by omega))
                  have HA9 := Lib.hid (And.intro hA (And.intro hpj (And.intro hK hR)))
                  clear hA hpj hK hR
                  go_wp2_with fail
                  refine Hcl.out.mono ?_
                  rintro e w9 ⟨b2, g2, hb2, hg2, rfl, hC, hu9⟩
                  have HCC : Hid ((b2 ≠ o ∧ b2 ≠ g ∧ b2 ≠ b ∧ b2 ≠ bg) ∧ g2 ≠ o ∧ g2 ≠ g ∧ g2 ≠ b ∧ g2 ≠ bg) := Lib.hid (by omega)
                  have H10 := Lib.hid (And.intro (HA9.out.2.2.1.below hu9) (And.intro (HA9.out.2.2.2.low hu9) hC))
                  clear hb2 hg2 hC hu9 Hcl lbk lgk lok lgk2
                  have HTb2 : Hid (0 ≤ tt + (k : Int) ∧ tt + (k : Int) ≤ 700) := Lib.hid (by have := HTb.out; omega)
                  clear HTb
                  have HTb := HTb2
                  clear HTb2
                  generalize tt + (k : Int) = tk at *
                  go_wp2_with fail
                  go_loopw [28] (fun i wr => AlRel7 w b bg sa m5 q vc o gs g b2 g2 l (j : Int) true (csl k (mq ms)) (csl l.length (mq ms)) 2 0 (k + 1) k (F - (k + 1)) ys tk tk i wr) (fun i _ => F - (intOf i).toNat)
                  case atStart => exact ⟨0, x, by go_num, by omega, HA9.out.1, by rw [Nat.add_zero]; exact HA9.out.2.1, by rw [show ((0 : Nat) : Int) = 0 from rfl, Int.add_zero]; exact H10.out.1, H10.out.2.1, H10.out.2.2⟩
                  case round =>
                    clear HA9 H10
                    obtain ⟨j9, x, rfl, hj9, hA, hpj, hK, hR, hC⟩ := hrel
                    by_cases hlt9 : ((k + 1 + j9 : Nat) : Int) < F
                    · skip
                      have hos := pq_alo HOK.out HQ.out hK.rng hA (fun _ => rfl)
                      have hstp := nstep_any hR.sn hK HDD.out.ap hA.wf (by have := HTb.out; omega) (by have := HTb.out; omega) (by rw [hA.steps]; omega) (by rw [hA.steps]; have := HF30; omega)
                      have hpf : pos (spots 0 l) x + 1 < ful (spots 0 l) := by rw [HF.out]; omega
                      obtain ⟨hA2, hp2⟩ := hos.2.1 hpf
                      have hr2 := hos.1
                      have Hst2 := Lib.hid hstp
                      have Hh := Lib.hid hA2.how
                      have HA2 := Lib.hid (And.intro hA2 (And.intro hp2 (And.intro hpj hR)))
                      have HC2 := Lib.hid hC
                      clear hC
                      clear hos hstp hpf hA2 hp2 hA hpj hK hR
                      go_wp2_with fail
                      refine Hst2.out.mono ?_
                      rintro e w9 ⟨rfl, hN9, hK9, hu9⟩
                      rw [hr2] at hK9
                      rw [Hh.out]
                      have HR9 := Lib.hid (And.intro hK9 (HA2.out.2.2.2.step HDD.out hN9 hu9))
                      have HC9 := Lib.hid (HC2.out.upd hu9 (fun q => by have := HCC.out; rcases q with q | q | q | q <;> omega) (fun q => by have := HCC.out; rcases q with q | q | q | q <;> omega))
                      clear HC2
                      clear hN9 hK9 hu9 Hst2 hr2
                      go_wp2_with fail
                      go_roundw
                      case rel => exact ⟨j9 + 1, _, by go_num, by omega, HA2.out.1, by rw [HA2.out.2.1, HA2.out.2.2.1]; omega, by rw [show ((j9 + 1 : Nat) : Int) = (j9 : Int) + 1 by omega, ← Int.add_assoc]; exact HR9.out.1, HR9.out.2, HC9.out⟩
                      case measure => simp [intOf]; omega
                    · have HC2 := Lib.hid hC
                      clear hC
                      have hos := pq_alo HOK.out HQ.out hK.rng hA (fun _ => rfl)
                      have hstp := nstep_any hR.sn hK HDD.out.ap hA.wf (by have := HTb.out; omega) (by have := HTb.out; omega) (by rw [hA.steps]; omega) (by rw [hA.steps]; have := HF30; omega)
                      have hpf : pos (spots 0 l) x + 1 = ful (spots 0 l) := by rw [HF.out]; omega
                      have hD2 := hos.2.2 hpf
                      have hr2 := hos.1
                      have Hst2 := Lib.hid hstp
                      have Hh := Lib.hid hD2.how
                      have HD2 := Lib.hid hD2
                      have HA2 := Lib.hid hR
                      clear hos hstp hpf hD2 hA hpj hK hR
                      go_wp2_with fail
                      refine Hst2.out.mono ?_
                      rintro e w9 ⟨rfl, hN9, hK9, hu9⟩
                      rw [hr2] at hK9
                      rw [Hh.out]
                      have HR9 := Lib.hid (And.intro hK9 (And.intro (HA2.out.step HDD.out hN9 hu9) (HC2.out.upd hu9 (fun q => by have := HCC.out; rcases q with q | q | q | q <;> omega) (fun q => by have := HCC.out; rcases q with q | q | q | q <;> omega))))
                      clear hN9 hK9 hu9 Hst2 hr2 HC2 HA2
                      generalize (nst (spots 0 l) ys x).1 = X at *
                      have Hgot := Lib.hid (fun W (hN : NAt W o gs g (spots 0 l) X) => got_dne HOK.out HD2.out W hN)
                      generalize tk + (j9 : Int) + 1 = tz at *
                      rw [Hln.out] at Hgot
                      go_wp2_with fail
                      go_loopw [30] (fun i wr => AlRel8 w b bg sa m5 q vc o gs g b2 g2 l (j : Int) true (csl k (mq ms)) ys tz tk X i wr) (fun i _ => ys.length - (intOf i).toNat)
                      case atStart => exact ⟨0, rfl, by omega, HR9.out.1, HR9.out.2.1, HR9.out.2.2⟩
                      case round =>
                        clear HR9
                        obtain ⟨i8, rfl, hi8, hB, hR, hC⟩ := hrel
                        by_cases hlt8 : (i8 : Int) < ys.length
                        · obtain ⟨v8, hv8⟩ : ∃ v, ys[i8]? = some v := ⟨_, List.getElem?_eq_getElem (by omega)⟩
                          have Hp1 := Lib.hid (peek_in b bg ys tz v8 i8 wr hB hv8)
                          have Hp2 := Lib.hid (fun W (hC : Bk W b2 g2 ys tk) => peek_in b2 g2 ys tk v8 i8 W hC hv8)
                          have Hln8 := Lib.hid (len_any b bg ys tz wr hB)
                          have HZ := Lib.hid (And.intro hB (And.intro hR hC))
                          have mvv : (v8 != v8) = false := by simp
                          clear hB hR hC hv8
                          go_wp2_with fail
                          refine Hln8.out.mono ?_
                          rintro e w' ⟨rfl, rfl⟩
                          go_wp2_with fail
                          refine Hp1.out.mono ?_
                          rintro e wa ⟨rfl, hB1, hb1⟩
                          have HZ1 := Lib.hid (show Bk wa b bg ys tz ∧ AlR w sa m5 q vc o gs g l (j : Int) true (csl k (mq ms)) X wa ∧ Bk wa b2 g2 ys tk from ⟨hB1, HZ.out.2.1.low hb1, HZ.out.2.2.below hb1⟩)
                          clear hB1 hb1
                          go_wp2_with fail
                          refine (Hp2.out _ HZ1.out.2.2).mono ?_
                          rintro e wb ⟨rfl, hC1, hb2⟩
                          have HZ2 := Lib.hid (show Bk wb b bg ys tz ∧ AlR w sa m5 q vc o gs g l (j : Int) true (csl k (mq ms)) X wb ∧ Bk wb b2 g2 ys tk from ⟨HZ1.out.1.below hb2, HZ1.out.2.1.low hb2, hC1⟩)
                          clear hC1 hb2
                          go_wp2_with fail
                          go_roundw
                          case rel => exact ⟨i8 + 1, by go_num, by omega, HZ2.out.1, HZ2.out.2.1, HZ2.out.2.2⟩
                          case measure => simp [intOf]; omega
                        · have Hln8 := Lib.hid (len_any b bg ys tz wr hB)
                          have HZ := Lib.hid hR
                          have hi8e : ¬ (i8 : Int) < ys.length := hlt8
                          clear hB hR hC
                          go_wp2_with fail
                          refine Hln8.out.mono ?_
                          rintro e w' ⟨rfl, rfl⟩
                          go_wp2_with fail
                          refine (Hgot.out _ HZ.out.sn).mono ?_
                          rintro e wc ⟨nW, q1, e1, q2, e2, rfl, hO8, hu8⟩
                          have HY := Lib.hid (And.intro (HZ.out.low hu8) hO8)
                          clear hO8 hu8
                          have hat := fun W (hN : NAt W o gs g (spots 0 l) X) => nat_pur hN
                          rw [show nat X = (k : Int) from by unfold nat; rw [HD2.out.how, if_pos rfl, HD2.out.bgn, spots_len, Hln.out]; omega] at hat
                          have Hat := Lib.hid hat
                          have hsp := fun W (hN : NAt W o gs g (spots 0 l) X) => nsteps_any hN
                          rw [show X.steps = (F : Int) from by rw [HD2.out.steps, HF.out]; omega] at hsp
                          have Hsp := Lib.hid hsp
                          have Hwd := Lib.hid (words_any (some ⟨q2, 0, none⟩) (some ⟨q, 0, none⟩) (csl k (mq ms)) (csl k (mq ms)) e2 vc wc HY.out.2.rdw HY.out.1.gn.rdw (by rw [csl_len]; have := Hl5.out; omega))
                          rw [csl_len, decide_eq_true rfl] at Hwd
                          have mkk : ((k : Int) == (k : Int)) = true := by simp
                          have mff : ((F : Int) == (F : Int)) = true := by simp
                          clear hat hsp
                          go_wp2_with fail
                          refine Hwd.out.mono ?_
                          rintro e wd ⟨rfl, hbd⟩
                          have HX := Lib.hid (HY.out.1.low hbd)
                          clear hbd
                          go_wp2_with fail
                          refine (Hat.out _ HX.out.sn).mono ?_
                          rintro e w' ⟨rfl, rfl⟩
                          go_wp2_with fail
                          refine (Hsp.out _ HX.out.sn).mono ?_
                          rintro e w' ⟨rfl, rfl⟩
                          go_wp2_with fail
                          refine (awake_any _).mono ?_
                          rintro e we ⟨rfl, hue⟩
                          have HE := Lib.hid (HX.out.bel.trans (hue.mono HX.out.bel.size))
                          clear hue
                          go_wp2
                          go_ret
                          exact ⟨rfl, HE.out⟩
                · have hk2' : 1 < k := by have := Hl5.out; omega
                  clear hk1
                  have hk9 : (0 : Int) < (k : Int) - 1 := by omega
                  obtain ⟨m9, hm9⟩ : ∃ m9, k = m9 + 1 := ⟨k - 1, by omega⟩
                  have hkm : (k : Int) - 1 = m9 := by omega
                  have hm9k : (m9 : Int) < k := by omega
                  have hm9l : m9 = l.length - 1 := by have := Hln.out; omega
                  have hm90 : m9 ≠ 0 := by omega
                  obtain ⟨B, n, d, tn⟩ := tn_of HOK.out (show m9 < l.length by have := Hln.out; omega)
                  have Htn := Lib.hid tn
                  have hn4' := tn.n4
                  have hM8 := mq_le ms m9
                  obtain ⟨M, hM⟩ : ∃ M, mq ms m9 = M := ⟨_, rfl⟩
                  rw [hM] at hM8
                  have e0 := hR.sp.spot tn.sp 0 (.int .i64 (B : Int)) rfl
                  have e1 := hR.sp.spot tn.sp 1 (.int .i64 ((B : Int) + 1)) rfl
                  have e2 := hR.sp.spot tn.sp 2 (.int .i64 ((B : Int) + 2)) rfl
                  have e3 := hR.sp.spot tn.sp 3 (.int .i64 (n : Int)) rfl
                  have e4 := hR.sp.spot tn.sp 4 (.int .i64 (d : Int)) rfl
                  rw [Nat.add_zero] at e0
                  have Hpub : Hid (Calls Try.prog 28 #[.pointer (some ⟨b, 0, none⟩), .agg #[.int .i64 B, .int .i64 ((B : Int) + 1), .int .i64 ((B : Int) + 2), .int .i64 n, .int .i64 d], .int .u64 5] wr (PubPost b bg B n d M (rcd n 5) ys (tt + k) wr)) := Lib.hid
                    (publish_any b bg B n d M 5 ys (tt + k) wr tn.n1 (by omega) tn.d2 (by have := tn.d5; omega) (by have := tn.hi; have := tn.mx; omega) (by omega) (by unfold U64; omega) hK (by rw [HQ.out.1]; exact tn.hi) (by rw [HQ.out.2.1 m9 B n d hm90 tn, hM]) (by have := HTb.out; omega) (by have := HTb.out; omega))
                  have HA9 := Lib.hid (And.intro hA (And.intro hpj hR))
                  have HM := Lib.hid (And.intro hM (And.intro hm9l (And.intro hm90 hm9)))
                  clear hA hpj hK hR tn hm9l hm90 hM hm9
                  go_wp2_with fail
                  simp only [hkm] at *
                  refine Hpub.out.mono ?_
                  rintro e w9 ⟨zs9, rfl, hB9, hzl9, hz9, hL9, hu9⟩
                  have HQ2 : Hid (PQ l zs9 (fun j => if j = l.length - 1 then mq ms (l.length - 1) + 1 else mq ms j)) := Lib.hid (by
                    obtain ⟨m1, m2, m3, m4⟩ := HM.out
                    have := pq_next (c := mq ms) HOK.out m3 HQ.out Htn.out hzl9 (by rw [m1]; exact hz9) (by rw [m1]; exact hL9)
                    rw [m2] at this
                    exact this)
                  have HTb2 : Hid (0 ≤ tt + (k : Int) + n + 3 ∧ tt + (k : Int) + n + 3 ≤ 700) := Lib.hid (by have := HTb.out; omega)
                  generalize tt + (k : Int) + n + 3 = t9 at *
                  have hR9 := HA9.out.2.2.bank HDD.out hu9
                  have cg : w9.cell? ⟨q, m9, none⟩ = some (.int .u64 (M : Int)) := hR9.gn.cell (by
                    obtain ⟨m1, m2, m3, m4⟩ := HM.out
                    rw [csl_get _ (by omega), m1])
                  have fg := hR9.gn.frozen m9
                  have lg9 := hR9.gn.lt
                  obtain ⟨_, ⟨s1, s2, s3, s4, s5⟩, ⟨m1', m2', m3', m4', m5'⟩, ⟨q1, q2, q3, q4, q5⟩, ⟨l1, l2, l3, l4, l5⟩⟩ := HDD.out
                  have hR10 : AlR w sa m5 q vc o gs g l (j : Int) true (csl k (fun j => if j = l.length - 1 then mq ms (l.length - 1) + 1 else mq ms j)) x (w9.setCell ⟨q, m9, none⟩ (.int .u64 ((M : Int) + 1))) := ⟨hR9.sp.of_block (Below.heap_setCell _ _ _ _ s5), hR9.bx.setFar m5' _, (by
                    have := hR9.gn.put m9 ((M : Int) + 1)
                    obtain ⟨m1, m2, m3, m4⟩ := HM.out
                    rw [show ((M : Int) + 1) = ((M + 1 : Nat) : Int) from by push_cast; rfl, csl_set] at this
                    rw [m2] at this m1
                    rw [m1]
                    rw [m2]
                    exact this), hR9.sn.setFar q3.symm q5.symm q4.symm _, hR9.bel.setCell l5 _⟩
                  have hB10 := hB9.setFar (p := ⟨q, m9, none⟩) q1.symm q2.symm (.int .u64 ((M : Int) + 1))
                  have hM8' : (M : Int) ≤ 8 := by omega
                  have H10 := Lib.hid (And.intro hB10 hR10)
                  clear hB9 hzl9 hz9 hL9 hu9 hR9 hR10 hB10 s1 s2 s3 s4 s5 m1' m2' m3' m4' m5' q1 q2 q3 q4 q5 l1 l2 l3 l4 l5 e0 e1 e2 e3 e4 Hpub HTb
                  have HTb := HTb2
                  clear HTb2
                  have HQ1 := HQ
                  clear HQ
                  have HQ := HQ2
                  clear HQ2
                  go_wp2_with fail
                  generalize hw10 : w9.setCell ⟨q, m9, none⟩ (.int .u64 ((M : Int) + 1)) = w10 at H10 ⊢
                  clear hw10 cg fg lg9
                  go_loopw [22] (fun i wr => AlRel4 w b bg sa m5 q vc o gs g l (j : Int) true (csl k (fun j => if j = l.length - 1 then mq ms (l.length - 1) + 1 else mq ms j)) (csl l.length (mq ms)) 2 0 k k (F - 1 - k) zs9 t9 i wr) (fun i _ => F - (intOf i).toNat)
                  case atStart => exact ⟨0, x, by go_num, by omega, HA9.out.1, by rw [Nat.add_zero]; exact HA9.out.2.1, by rw [show ((0 : Nat) : Int) = 0 from rfl, Int.add_zero]; exact H10.out.1, H10.out.2⟩
                  case round =>
                    clear HA9 H10
                    obtain ⟨j9, x, rfl, hj9, hA, hpj, hK, hR⟩ := hrel
                    by_cases hlt9 : ((k + j9 : Nat) : Int) < (F : Int) - 1
                    · skip
                      have hos := pq_alo HOK.out HQ.out hK.rng hA (pq_l5 HOK.out hA (by have := Hln.out; omega) (by rw [HF.out]; omega))
                      have hstp := nstep_any hR.sn hK HDD.out.ap hA.wf (by have := HTb.out; omega) (by have := HTb.out; omega) (by rw [hA.steps]; omega) (by rw [hA.steps]; have := HF30; omega)
                      have hpf : pos (spots 0 l) x + 1 < ful (spots 0 l) := by rw [HF.out]; omega
                      obtain ⟨hA2, hp2⟩ := hos.2.1 hpf
                      have hr2 := hos.1
                      have Hst2 := Lib.hid hstp
                      have Hh := Lib.hid hA2.how
                      have HA2 := Lib.hid (And.intro hA2 (And.intro hp2 (And.intro hpj hR)))
                      clear hos hstp hpf hA2 hp2 hA hpj hK hR
                      go_wp2_with fail
                      refine Hst2.out.mono ?_
                      rintro e w9 ⟨rfl, hN9, hK9, hu9⟩
                      rw [hr2] at hK9
                      rw [Hh.out]
                      have HR9 := Lib.hid (And.intro hK9 (HA2.out.2.2.2.step HDD.out hN9 hu9))
                      clear hN9 hK9 hu9 Hst2 hr2
                      go_wp2_with fail
                      go_roundw
                      case rel => exact ⟨j9 + 1, _, by go_num, by omega, HA2.out.1, by rw [HA2.out.2.1, HA2.out.2.2.1]; omega, by rw [show ((j9 + 1 : Nat) : Int) = (j9 : Int) + 1 by omega, ← Int.add_assoc]; exact HR9.out.1, HR9.out.2⟩
                      case measure => simp [intOf]; omega
                    · have hpf : pos (spots 0 l) x + 1 = ful (spots 0 l) := by rw [HF.out]; omega
                      obtain ⟨hm1, hm2⟩ := pq_miss HOK.out HQ.out hA hpf (by rw [if_pos rfl]; omega)
                      have hstp := nstep_any hR.sn hK HDD.out.ap hA.wf (by have := HTb.out; omega) (by have := HTb.out; omega) (by rw [hA.steps]; omega) (by rw [hA.steps]; have := HF30; omega)
                      have hwf2 := nwf_nst (xs := zs9) hA.wf hK.rng
                      rw [hm2] at hwf2
                      have hhow : (nagn x).how = 0 := by unfold nagn; rw [hA.left]; exact hA.how
                      have hlf : (nagn x).left = 1 := by show x.left - 1 = 1; rw [hA.left]; rfl
                      have hsp2 : (nagn x).steps = F := by show x.steps + 1 = F; rw [hA.steps]; have := HF.out; omega
                      have hAS := alo_start (gs := csl l.length (fun j => if j = l.length - 1 then mq ms (l.length - 1) + 1 else mq ms j)) (Wp := fun _ => True) hwf2 hhow rfl rfl hsp2
                      rw [hlf] at hAS
                      have HAS := Lib.hid (And.intro hAS (show pos (spots 0 l) (nagn x) = 0 from by unfold pos; rw [if_pos (show (nagn x).line = 0 from rfl)]; rfl))
                      unfold NdPost at hstp
                      have Hst2 := Lib.hid hstp
                      have HA2 := Lib.hid (And.intro hR (And.intro hm1 (And.intro hm2 hhow)))
                      clear hstp hwf2 hhow hlf hsp2 hAS hpf hm1 hm2 hA hpj hK hR
                      go_wp2_with fail
                      refine Hst2.out.mono ?_
                      rintro e w11 ⟨rfl, hN11, hK11, hu11⟩
                      obtain ⟨hR, hm1, hm2, hhow⟩ := HA2.out
                      rw [hm2] at hN11 ⊢
                      rw [hm1] at hK11
                      rw [hhow]
                      have HR11 := Lib.hid (And.intro hK11 (hR.step HDD.out hN11 hu11))
                      clear hR hm1 hm2 hhow HA2 Hst2 hN11 hK11 hu11
                      have HTb2 : Hid (0 ≤ t9 + (j9 : Int) + 1 ∧ t9 + (j9 : Int) + 1 ≤ 800) := Lib.hid (by have := HTb.out; omega)
                      clear HTb
                      have HTb := HTb2
                      clear HTb2
                      generalize t9 + (j9 : Int) + 1 = t10 at *
                      generalize nagn x = Y at *
                      go_wp2_with fail
                      go_loopw [23] (fun i wr => AlRel4 w b bg sa m5 q vc o gs g l (j : Int) true (csl k (fun j => if j = l.length - 1 then mq ms (l.length - 1) + 1 else mq ms j)) (csl l.length (fun j => if j = l.length - 1 then mq ms (l.length - 1) + 1 else mq ms j)) 1 F 1 0 (F - 1) zs9 t10 i wr) (fun i _ => F - (intOf i).toNat)
                      case atStart => exact ⟨0, Y, rfl, by omega, HAS.out.1, HAS.out.2, by rw [show ((0 : Nat) : Int) = 0 from rfl, Int.add_zero]; exact HR11.out.1, HR11.out.2⟩
                      case round =>
                        clear HAS HR11
                        obtain ⟨j8, x, rfl, hj8, hA, hpj, hK, hR⟩ := hrel
                        by_cases hlt8 : ((1 + j8 : Nat) : Int) < F
                        · skip
                          have hos := pq_alo HOK.out HQ.out hK.rng hA (fun _ => rfl)
                          have hstp := nstep_any hR.sn hK HDD.out.ap hA.wf (by have := HTb.out; omega) (by have := HTb.out; omega) (by rw [hA.steps]; omega) (by rw [hA.steps]; have := HF30; omega)
                          have hpf : pos (spots 0 l) x + 1 < ful (spots 0 l) := by rw [HF.out]; omega
                          obtain ⟨hA2, hp2⟩ := hos.2.1 hpf
                          have hr2 := hos.1
                          have Hst2 := Lib.hid hstp
                          have Hh := Lib.hid hA2.how
                          have HA2 := Lib.hid (And.intro hA2 (And.intro hp2 (And.intro hpj hR)))
                          clear hos hstp hpf hA2 hp2 hA hpj hK hR
                          go_wp2_with fail
                          refine Hst2.out.mono ?_
                          rintro e w9 ⟨rfl, hN9, hK9, hu9⟩
                          rw [hr2] at hK9
                          rw [Hh.out]
                          have HR9 := Lib.hid (And.intro hK9 (HA2.out.2.2.2.step HDD.out hN9 hu9))
                          clear hN9 hK9 hu9 Hst2 hr2
                          go_wp2_with fail
                          go_roundw
                          case rel => exact ⟨j8 + 1, _, by go_num, by omega, HA2.out.1, by rw [HA2.out.2.1, HA2.out.2.2.1]; omega, by rw [show ((j8 + 1 : Nat) : Int) = (j8 : Int) + 1 by omega, ← Int.add_assoc]; exact HR9.out.1, HR9.out.2⟩
                          case measure => simp [intOf]; omega
                        · skip
                          have hos := pq_alo HOK.out HQ.out hK.rng hA (fun _ => rfl)
                          have hstp := nstep_any hR.sn hK HDD.out.ap hA.wf (by have := HTb.out; omega) (by have := HTb.out; omega) (by rw [hA.steps]; omega) (by rw [hA.steps]; have := HF30; omega)
                          have hpf : pos (spots 0 l) x + 1 = ful (spots 0 l) := by rw [HF.out]; omega
                          have hD2 := hos.2.2 hpf
                          have hr2 := hos.1
                          have Hst2 := Lib.hid hstp
                          have Hh := Lib.hid hD2.how
                          have HD2 := Lib.hid hD2
                          have HA2 := Lib.hid hR
                          clear hos hstp hpf hD2 hA hpj hK hR
                          go_wp2_with fail
                          refine Hst2.out.mono ?_
                          rintro e w9 ⟨rfl, hN9, hK9, hu9⟩
                          rw [hr2] at hK9
                          rw [Hh.out]
                          have HR9 := Lib.hid (HA2.out.step HDD.out hN9 hu9)
                          clear hN9 hK9 hu9 Hst2 hr2 HA2
                          generalize (nst (spots 0 l) zs9 x).1 = X at *
                          have Hgot := Lib.hid (fun W (hN : NAt W o gs g (spots 0 l) X) => got_dne HOK.out HD2.out W hN)
                          rw [Hln.out] at Hgot
                          go_wp2_with fail
                          refine (Hgot.out _ HR9.out.sn).mono ?_
                          rintro e wc ⟨nW, q1, e1, q2, e2, rfl, hO8, hu8⟩
                          have HY := Lib.hid (And.intro (HR9.out.low hu8) hO8)
                          clear hO8 hu8 HR9
                          have hat := fun W (hN : NAt W o gs g (spots 0 l) X) => nat_pur hN
                          rw [show nat X = (F : Int) + (k : Int) from by unfold nat; rw [HD2.out.how, if_pos rfl, HD2.out.bgn, spots_len, Hln.out]] at hat
                          have Hat := Lib.hid hat
                          have hsp := fun W (hN : NAt W o gs g (spots 0 l) X) => nsteps_any hN
                          rw [show X.steps = 2 * (F : Int) from by rw [HD2.out.steps, HF.out]; omega] at hsp
                          have Hsp := Lib.hid hsp
                          have hwd := words_any (some ⟨q2, 0, none⟩) (some ⟨q, 0, none⟩) (csl l.length (fun j => if j = l.length - 1 then mq ms (l.length - 1) + 1 else mq ms j)) (csl k (fun j => if j = l.length - 1 then mq ms (l.length - 1) + 1 else mq ms j)) e2 vc wc (by rw [Hln.out] at *; exact HY.out.2.rdw) HY.out.1.gn.rdw (by rw [csl_len]; have := HOK.out.2.1; omega)
                          rw [csl_len, csl_len, decide_eq_true (by rw [Hln.out]), Hln.out] at hwd
                          have Hwd := Lib.hid hwd
                          have mkk : (((F : Int) + (k : Int)) == ((F : Int) + (k : Int))) = true := by simp
                          have mff : ((2 * (F : Int)) == (2 * (F : Int))) = true := by simp
                          clear hat hsp hwd
                          go_wp2_with fail
                          refine Hwd.out.mono ?_
                          rintro e wd ⟨rfl, hbd⟩
                          have HX := Lib.hid (HY.out.1.low hbd)
                          clear hbd
                          go_wp2_with fail
                          refine (Hat.out _ HX.out.sn).mono ?_
                          rintro e w' ⟨rfl, rfl⟩
                          go_wp2_with fail
                          refine (Hsp.out _ HX.out.sn).mono ?_
                          rintro e w' ⟨rfl, rfl⟩
                          go_wp2_with fail
                          refine (awake_any _).mono ?_
                          rintro e we ⟨rfl, hue⟩
                          have HE := Lib.hid (HX.out.bel.trans (hue.mono HX.out.bel.size))
                          clear hue
                          go_wp2
                          go_ret
                          exact ⟨rfl, HE.out⟩
end Go.Proofs.Ytflgggfomhifeaa
