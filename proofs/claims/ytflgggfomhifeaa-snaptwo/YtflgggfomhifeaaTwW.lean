/- SnapTwo: its walk. -/
import Derived.Test.YtflgggfomhifeaaTwM
import Derived.Deep.RegionHeld3
import Derived.BigQuiet
namespace Go.Proofs.Ytflgggfomhifeaa
open Go.RowKit

set_option maxRecDepth 100000 in
set_option maxHeartbeats 2000000 in
theorem two_bad (a : Option Addr) (l : List Tp) (cap : Nat) (pa : Option Addr) (pn pc : Nat) (w : World) (hT : Tps w.heap.size w a l) (h : ¬ okL l) : Calls Try.prog 6 #[.slice a l.length cap, .slice pa pn pc] w (Ret (.bool true) w) := by
  have Hly := Lib.hid (lay_bad a cap l w hT h)
  clear h hT
  generalize l.length = ln at *
  go_enter Try.func6, Try.ntmps6
  go_wp2_with fail
  refine Hly.out.mono ?_
  rintro e w2 ⟨rfl, hb2⟩
  have H2 := Lib.hid hb2
  clear hb2
  go_wp2_with fail
  refine (awake_any _).mono ?_
  rintro e w3 ⟨rfl, hu3⟩
  have H3 := Lib.hid (H2.out.trans (hu3.mono H2.out.size))
  clear hu3
  go_wp2
  go_ret
  exact ⟨rfl, H3.out⟩
set_option maxRecDepth 100000 in
set_option maxHeartbeats 2000000 in
theorem two_many (a : Option Addr) (l : List Tp) (cap : Nat) (pa : Option Addr) (pn pc : Nat) (w : World) (hT : Tps w.heap.size w a l) (h : okL l) (hp : 200 < pn) : Calls Try.prog 6 #[.slice a l.length cap, .slice pa pn pc] w (Ret (.bool true) w) := by
  have Hly := Lib.hid (lay_ok a cap l w hT h)
  have hp' : (200 : Int) < pn := by omega
  clear h hT hp
  obtain ⟨ln, hln⟩ : ∃ ln, l.length = ln := ⟨_, rfl⟩
  have Hln := Lib.hid hln
  rw [hln] at Hly ⊢
  clear hln
  go_enter Try.func6, Try.ntmps6
  go_wp2_with fail
  refine Hly.out.mono ?_
  rintro e w2 ⟨sa, cs, b, bg, hsa, hb, hbg, hnb, hng, he, hsp, hk, hu⟩
  rw [Hln.out] at he
  subst he
  have H2 := Lib.hid hu
  clear hsa hb hbg hnb hng hsp hk hu Hly
  go_wp2_with fail
  refine (awake_any _).mono ?_
  rintro e w3 ⟨rfl, hu3⟩
  have H3 := Lib.hid (H2.out.trans (hu3.mono H2.out.size))
  clear hu3
  go_wp2
  go_ret
  exact ⟨rfl, H3.out⟩
theorem info65 : (Try.prog.info? 65).map (fun i => (i.zero, i.size, i.bytes)) = some (some (.pointer none), 1, 8) := by kernel_rfl
theorem made_ptrs (n : Nat) : madeCells #[.pointer none] n = (ptrs n (fun _ => none)).toArray := by
  apply Array.ext
  · simp [madeCells, ptrs]
  · intro i h1 h2
    simp [madeCells, ptrs, ptr, Nat.mod_one]
theorem make_ptr (n : Nat) (h : n ≤ 1000) (w : World) :
    (Instr.makeSlice 63 (.int .i64 n) (.int .i64 n)).run Try.prog w = .ok (.slice (some ⟨w.heap.size, 0, none⟩) n n) (w.alloc (.cells (ptrs n (fun _ => none)).toArray 65)) := by
  obtain ⟨i, hi, he⟩ := Option.map_eq_some_iff.1 info65
  simp only [Prod.mk.injEq] at he
  obtain ⟨hz, hs, hb⟩ := he
  have hr := run_make (P := Try.prog) w 63 65 i _ Try.underlying63 hi hz .i64 .i64 n n (by omega) (by omega) (by rw [hb]; omega) (by omega)
  rw [hs] at hr
  simp only [Int.toNat_natCast, Nat.mul_one] at hr
  rw [show (Value.pointer none).cells = #[Value.pointer none] from rfl, made_ptrs] at hr
  exact hr
def wasA : Option (Nat × Nat × List Int) → Option Addr
  | none => none
  | some (q, _, _) => some ⟨q, 0, none⟩
def wasN : Option (Nat × Nat × List Int) → Nat
  | none => 0
  | some (_, _, gs) => gs.length
def wasC : Option (Nat × Nat × List Int) → Nat
  | none => 0
  | some (_, c, _) => c
theorem twv_eq (V : Option (Nat × Nat × List Int)) : twv V = .slice (wasA V) (wasN V) (wasC V) := by
  match V with
  | none => rfl
  | some (q, c, gs) => rfl
/-- What was told is not beyond what there is. -/
def Elder (L : Nat) (c : Nat → Nat) (V : Option (Nat × Nat × List Int)) : Prop :=
  match V with
  | none => True
  | some (_, _, gs) => gs.length = L ∧ ∀ (j : Nat) (v : Int), gs[j]? = some v → v ≤ (c j : Int)
theorem Elder.mono {L : Nat} {c c' : Nat → Nat} {V : Option (Nat × Nat × List Int)} (h : Elder L c V) (hc : ∀ j, c j ≤ c' j) : Elder L c' V := by
  match V, h with
  | none, _ => trivial
  | some (q, k, gs), ⟨h1, h2⟩ => exact ⟨h1, fun j v hv => by have := h2 j v hv; have := hc j; omega⟩
theorem elder_at {w A : World} {l : List Tp} {s : Tws} {c : Nat → Nat} (hM : TwM w l s A) (h : Elder l.length c s.V) {j : Nat} (hj : j < wasN s.V) : ∃ q v, wasA s.V = some ⟨q, 0, none⟩ ∧ A.cell? ⟨q, j, none⟩ = some (.int .u64 v) ∧ v ≤ (c j : Int) ∧ j < l.length := by
  match hV : s.V, h, hj with
  | none, _, hj => exact absurd hj (Nat.not_lt_zero _)
  | some (q, k, gs), ⟨h1, h2⟩, hj =>
    have hj' : j < gs.length := hj
    have e : gs[j]? = some gs[j] := List.getElem?_eq_getElem hj'
    exact ⟨q, gs[j], rfl, (hM.was q k gs hV).cell e, h2 j _ e, by omega⟩
theorem wasN_le {l : List Tp} {c : Nat → Nat} {V : Option (Nat × Nat × List Int)} (h : Elder l.length c V) : wasN V ≤ l.length := by
  match V, h with
  | none, _ => exact Nat.zero_le _
  | some (q, k, gs), ⟨h1, _⟩ => show gs.length ≤ _; omega
/-- The outer loop's head. -/
def TwRel (w : World) (b bg sa ob : Nat) (l : List Tp) (pn : Nat) (v i : Value) (wr : World) : Prop :=
  ∃ (k : Nat) (X : Ops) (zs : List Int) (t : Int) (V : Option (Nat × Nat × List Int)) (c : Nat → Nat), i = .int .i64 k ∧ k ≤ pn ∧ v = .slice (wasA V) (wasN V) (wasC V) ∧ TwM w l ⟨b, bg, sa, ob, X, zs, t, V⟩ wr ∧ TW l zs c X ∧ Elder l.length c V ∧ (∀ j, c j ≤ k) ∧ 0 ≤ t ∧ t ≤ 31 * (k : Int)
def stpo (o : Nat) (wr : World) : Nat := match wr.cell? ⟨o, 6, none⟩ with | some (.int _ q) => q.toNat | _ => 0
theorem stpo_of {W : World} {o gs g : Nat} {SS : List Sp} {x : NSt} (h : NAt W o gs g SS x) : stpo o W = x.steps.toNat := by
  unfold stpo
  rw [h.cell (i := 6) (v := .int .i64 x.steps) (fun _ => rfl)]
/-- The snapshot's loop. -/
def TwRel2 (w : World) (b bg sa ob o gs g : Nat) (l : List Tp) (X : Ops) (zs : List Int) (t : Int) (V : Option (Nat × Nat × List Int)) (c : Nat → Nat) (wr : World) : Prop :=
  ∃ x : NSt, Alo (spots 0 l) (csl l.length c) (fun _ => True) 1 0 x ∧ NAt wr o gs g (spots 0 l) x ∧ TwM w l ⟨b, bg, sa, ob, X, zs, t + pos (spots 0 l) x, V⟩ wr
/-- The head of the loop that compares. -/
def TwRel3 (w : World) (b bg sa ob q2 c2 : Nat) (l : List Tp) (X : Ops) (zs : List Int) (t : Int) (V : Option (Nat × Nat × List Int)) (c : Nat → Nat) (vn : Nat) (i : Value) (wr : World) : Prop :=
  ∃ j : Nat, i = .int .i64 j ∧ j ≤ vn ∧ TwM w l ⟨b, bg, sa, ob, X, zs, t, V⟩ wr ∧ Orw wr q2 c2 (csl l.length c)
theorem twgot {l : List Tp} (h : okL l) {c : Nat → Nat} {p0 : Int} {X : NSt} {o gs g : Nat} (hD : Dne (spots 0 l) (csl l.length c) (fun _ => True) p0 X) (W : World) (hN : NAt W o gs g (spots 0 l) X) :
    Calls Try.prog 19 #[.pointer (some ⟨o, 0, none⟩)] W (fun e w' => ∃ nW q1 c1 q2 c2, e = .returned (.tuple #[.slice (some ⟨q1, 0, none⟩) nW c1, .slice (some ⟨q2, 0, none⟩) l.length c2]) ∧ W.heap.size ≤ q2 ∧ Orw w' q2 c2 (csl l.length c) ∧ Below W.heap.size W w') := by
  have e3 := spots_len l 0
  have hw := wid_spots h
  have h1 := h.1
  have h2 := h.2.1
  refine (ngot_ok hN hD.how (wid (spots 0 l)) hD.len (by omega) (by omega) (by omega) (by omega) (by rw [hD.len]; exact Nat.le_refl _)).mono ?_
  rintro e w' ⟨q1, c1, q2, c2, rfl, _, hq2, _, _, hO, hb⟩
  rw [e3, dne_take hD] at hO
  exact ⟨_, q1, c1, q2, c2, by rw [e3], hq2, hO, hb⟩
/-- What New of a publishing reads. -/
def RT0 (sa lb loff k B n d : Nat) (w' : World) : Prop :=
  (w'.cell? ⟨sa, k * 5, none⟩ = some (.int .i64 (B : Int)) ∧ w'.cell? ⟨sa, k * 5 + 1, none⟩ = some (.int .i64 ((B : Int) + 1)) ∧ w'.cell? ⟨sa, k * 5 + 2, none⟩ = some (.int .i64 ((B : Int) + 2)) ∧ w'.cell? ⟨sa, k * 5 + 3, none⟩ = some (.int .i64 (n : Int)) ∧ w'.cell? ⟨sa, k * 5 + 4, none⟩ = some (.int .i64 (d : Int))) ∧
  w'.cell? ⟨lb, loff + k * 2, none⟩ = some (.int .i64 (n : Int))
theorem SpB.cells {sa : Nat} {l : List Sp} {w : World} (h : SpB sa l w) {k B n d : Nat} (hS : l[k]? = some (spB B n d)) :
    w.cell? ⟨sa, k * 5, none⟩ = some (.int .i64 (B : Int)) ∧ w.cell? ⟨sa, k * 5 + 1, none⟩ = some (.int .i64 ((B : Int) + 1)) ∧ w.cell? ⟨sa, k * 5 + 2, none⟩ = some (.int .i64 ((B : Int) + 2)) ∧ w.cell? ⟨sa, k * 5 + 3, none⟩ = some (.int .i64 (n : Int)) ∧ w.cell? ⟨sa, k * 5 + 4, none⟩ = some (.int .i64 (d : Int)) :=
  ⟨h.spot hS 0 _ rfl, h.spot hS 1 _ rfl, h.spot hS 2 _ rfl, h.spot hS 3 _ rfl, h.spot hS 4 _ rfl⟩
set_option maxRecDepth 100000 in
set_option maxHeartbeats 16000000 in
theorem two_walk (a : Option Addr) (l : List Tp) (cap : Nat) (pa : Option Addr) (ps : List Int) (pc : Nat) (w : World) (hT : Tps w.heap.size w a l) (hM : Ids w.heap.size w pa ps) (h : okL l) (hp : ps.length ≤ 200) :
    Calls Try.prog 6 #[.slice a l.length cap, .slice pa ps.length pc] w (Ret (.bool true) w) := by
  have Hly := Lib.hid (lay_ok a cap l w hT h)
  have HT := Lib.hid hT
  have HM := Lib.hid hM
  have HOK := Lib.hid h
  have hwd20 := (wid_spots h).1
  have h1 : 1 ≤ (l.length : Int) := by have := h.1; omega
  have h2 : (l.length : Int) ≤ 5 := by have := h.2.1; omega
  have HFb : Hid (ful (spots 0 l) ≤ 30 ∧ 2 ≤ ful (spots 0 l)) := Lib.hid (by have := (wid_spots h).2; have := spots_len l 0; unfold ful; omega)
  obtain ⟨ln, hln⟩ : ∃ ln, l.length = ln := ⟨_, rfl⟩
  have Hln := Lib.hid hln
  obtain ⟨pn, hpn⟩ : ∃ pn, ps.length = pn := ⟨_, rfl⟩
  have Hpn := Lib.hid hpn
  rw [hln] at Hly h1 h2 ⊢
  rw [hpn] at hp ⊢
  have hp' : (pn : Int) ≤ 200 := by omega
  have Hl5 := Lib.hid (And.intro h1 h2)
  have Hmk := Lib.hid (fun W => make_ptr ln (by omega) W)
  clear h hT hM hln hpn hp
  go_enter Try.func6, Try.ntmps6
  go_wp2_with fail
  refine Hly.out.mono ?_
  rintro e w2 ⟨sa, cs, b, bg, hsa, hb, hbg, hnb, hng, he, hsp, hk, hu⟩
  rw [Hln.out] at he
  subst he
  have HD := Lib.hid (show sa ≠ b ∧ sa ≠ bg ∧ w.heap.size ≤ sa ∧ w.heap.size ≤ b ∧ w.heap.size ≤ bg ∧ sa < w2.heap.size ∧ b < w2.heap.size ∧ bg < w2.heap.size from ⟨hnb, hng, hsa, hb, hbg, hsp.lt, hk.ltb, hk.ltg⟩)
  have H2 := Lib.hid (And.intro hsp (And.intro hk hu))
  clear hsa hb hbg hnb hng hsp hk hu Hly
  go_wp2_with fail
  rw [Hmk.out]
  go_wp2_with fail
  have H3 : Hid (TwM w l ⟨b, bg, sa, w2.heap.size, fun _ => none, List.replicate (tot 0 l).toNat 0, 0, none⟩ (w2.alloc (.cells (ptrs ln (fun _ => none)).toArray 65))) := Lib.hid (by
    obtain ⟨g1, g2, g3⟩ := H2.out
    have hd := HD.out
    refine ⟨g2.alloc _, g1.low ((Below.refl _ w2).alloc (Nat.le_refl _) _), by rw [Hln.out]; exact Blk.new w2 _ _, fun j B n d o g y _ hx => (by cases hx), fun q c gs hv => (by cases hv), fun j _ => rfl, ⟨fun i j k hi hj => ?_, fun i k hi => ?_⟩, g3.alloc g3.size _⟩
    · match i, j, hi, hj with
      | 0, 0, _, _ => rfl
      | 1, 1, _, _ => rfl
      | 2, 2, _, _ => rfl
      | 0, 1, hi, hj => exfalso; rcases hi with hi | hi <;> (have hj' : k = sa := hj; have hi' := hi; dsimp only at hi'; omega)
      | 0, 2, hi, hj => exfalso; rcases hi with hi | hi <;> (have hj' : k = w2.heap.size := hj; have hi' := hi; dsimp only at hi'; omega)
      | 1, 0, hi, hj => exfalso; rcases hj with hj | hj <;> (have hi' : k = sa := hi; have hj' := hj; dsimp only at hj'; omega)
      | 1, 2, hi, hj => exfalso; have hi' : k = sa := hi; have hj' : k = w2.heap.size := hj; omega
      | 2, 0, hi, hj => exfalso; rcases hj with hj | hj <;> (have hi' : k = w2.heap.size := hi; have hj' := hj; dsimp only at hj'; omega)
      | 2, 1, hi, hj => exfalso; have hi' : k = w2.heap.size := hi; have hj' : k = sa := hj; omega
      | 3, _, ⟨_, _, _, e, _⟩, _ => cases e
      | i + 4, _, ⟨_, _, _, e, _⟩, _ => cases e
      | _, 3, _, ⟨_, _, _, e, _⟩ => cases e
      | _, j + 4, _, ⟨_, _, _, e, _⟩ => cases e
    · match i, hi with
      | 0, hi => rcases hi with hi | hi <;> (have hi' := hi; dsimp only at hi'; simp; omega)
      | 1, hi => have hi' : k = sa := hi; simp; omega
      | 2, hi => have hi' : k = w2.heap.size := hi; simp; omega
      | 3, ⟨_, _, _, e, _⟩ => cases e
      | i + 4, ⟨_, _, _, e, _⟩ => cases e)
  clear H2 HD
  generalize w2.alloc (.cells (ptrs ln (fun _ => none)).toArray 65) = w3 at *
  generalize w2.heap.size = ob at *
  go_loopw [9, 10] (fun v i wr => TwRel w b bg sa ob l pn v i wr) (fun _ i _ => pn + 1 - (intOf i).toNat)
  case atStart => exact ⟨0, _, _, 0, none, _, rfl, by omega, rfl, H3.out, tw_zero l, trivial, fun j => Nat.le_refl _, by omega, by omega⟩
  case round =>
    clear H3
    obtain ⟨k, X, zs, t, V, c, rfl, hk, rfl, hM, hW, hE, hc, t0, t1⟩ := hrel
    have hkp : (k : Int) ≤ pn := by omega
    have hk0 : 0 < ln := by omega
    generalize hva : wasA V = va
    generalize hvn : wasN V = vn
    generalize hvc : wasC V = vc
    have HV9 := Lib.hid (And.intro hva (And.intro hvn hvc))
    clear hva hvn hvc
    by_cases hm : k % 10 = 0
    · skip
      have hrn : (((k % 10 : Nat) : Int) == 0) = true := by simp; omega
      have hrm : (k : Int).tmod 10 = ((k % 10 : Nat) : Int) := rfl
      have HZ := Lib.hid (And.intro hM (And.intro hW (And.intro hE (And.intro hc (And.intro t0 t1)))))
      have Hn1 := Lib.hid (fun W (q : SpB sa (spots 0 l) W) => nnew_ok (some ⟨sa, 0, none⟩) cs (spots 0 l) 1 W q.sps (spots_flt HOK.out (by omega) (by omega)))
      rw [spots_len, Hln.out] at Hn1
      clear hM hW hE hc t0 t1
      go_wp2_with fail
      refine (Hn1.out _ HZ.out.1.spot).mono ?_
      rintro e w6 ⟨o, gs, g, ho, hgs, hg, rfl, hN, hu6⟩
      have H6 := Lib.hid (And.intro (HZ.out.1.low hu6) (And.intro hN (And.intro (show wr.heap.size ≤ o ∧ wr.heap.size ≤ gs ∧ wr.heap.size ≤ g from ⟨ho, hgs, hg⟩) (And.intro (fun i q hq => (HZ.out.1.dj.bd i q hq).2) (And.intro HZ.out.1.bel.size HZ.out.2)))))
      clear ho hgs hg hN hu6 HZ Hn1
      generalize wr.heap.size = m0 at *
      have HAp : Hid (Apt o gs g b bg ∧ ∀ i q, (Tws.mk b bg sa ob X zs t V).own i q → q < m0) := Lib.hid (by
        have hd := H6.out.2.2.2.1
        have h1 := hd 0 b (.inl rfl)
        have h2 := hd 0 bg (.inr rfl)
        have h3 := H6.out.2.2.1
        exact ⟨by unfold Apt; omega, hd⟩)
      go_wp2_with fail
      go_loopw [] (fun wr => TwRel2 w b bg sa ob o gs g l X zs t V c wr) (fun wr => 200 - stpo o wr)
      case atStart => exact ⟨nst0 1, alo_start (nwf0 (spots_flt HOK.out (by omega) (by omega))) rfl rfl rfl rfl, H6.out.2.1, by
        have e : pos (spots 0 l) (nst0 1) = 0 := by unfold pos; rw [if_pos (show (nst0 1).line = 0 from rfl)]; rfl
        rw [e, show ((0 : Nat) : Int) = 0 from rfl, Int.add_zero]
        exact H6.out.1⟩
      case round =>
        obtain ⟨x9, hA, hN, hM⟩ := hrel
        obtain ⟨_, _, h63, h64, h65, hW, hE, hc, t0, t1⟩ := H6.out
        have hos := tw_alo HOK.out hW hM.bank.rng hA
        have hpl := (pos_lt hA.wf).1
        have hst9 := hA.steps
        have hF := HFb.out
        have hstp := nstep_any hN hM.bank HAp.out.1 hA.wf (by dsimp only; omega) (by dsimp only; omega) (by omega) (by omega)
        have Hst := Lib.hid hstp
        have Hos := Lib.hid (And.intro hos (And.intro hM (And.intro hst9 (stpo_of hN))))
        have hsm := steps_nst (spots 0 l) zs x9
        rw [hos.1] at hsm
        have Hsm := Lib.hid hsm.1
        have hu : ∀ A : World, Upd (OwnN o g b bg) wr A → Upd (fun k => (∃ i, i = 0 ∧ (Tws.mk b bg sa ob X zs (t + pos (spots 0 l) x9) V).own i k) ∨ (w.heap.size ≤ k ∧ ∀ i, ¬ (Tws.mk b bg sa ob X zs (t + pos (spots 0 l) x9) V).own i k)) wr A := fun A u => u.mono (fun q hq => by
          have nown : ∀ q, m0 ≤ q → ∀ i, ¬ (Tws.mk b bg sa ob X zs (t + pos (spots 0 l) x9) V).own i q := fun q hq i hi => by
            have : q < m0 := HAp.out.2 i q (by
              match i, hi with
              | 0, hi => exact hi
              | 1, hi => exact hi
              | 2, hi => exact hi
              | 3, hi => exact hi
              | j + 4, hi => exact hi)
            omega
          rcases hq with rfl | rfl | rfl | rfl
          · exact .inr ⟨by omega, nown _ h63.1⟩
          · exact .inr ⟨by omega, nown _ h63.2.2⟩
          · exact .inl ⟨0, rfl, .inl rfl⟩
          · exact .inl ⟨0, rfl, .inr rfl⟩)
        have Hu := Lib.hid hu
        clear hos hA hN hM hst9 hstp hsm hu hW hE hc t0 t1 h63 h64 h65
        by_cases hp9 : pos (spots 0 l) x9 + 1 < ful (spots 0 l)
        · obtain ⟨hA2, hp2⟩ := Hos.out.1.2.1 hp9
          have Hh := Lib.hid hA2.how
          have HA2 := Lib.hid (And.intro hA2 hp2)
          have hr2 := Hos.out.1.1
          have hstv : (nst (spots 0 l) zs x9).1.steps = ((pos (spots 0 l) x9 + 1 : Nat) : Int) := by rw [Hsm.out, Hos.out.2.2.1]; push_cast; omega
          have Hstv := Lib.hid hstv
          clear hA2 hp2 hstv
          go_wp2_with fail
          refine Hst.out.mono ?_
          rintro e w7 ⟨rfl, hN7, hK7, hu7⟩
          rw [hr2] at hK7
          rw [Hh.out]
          have H7 := Lib.hid (And.intro hN7 (Hos.out.2.1.touch (Hu.out _ hu7) hK7))
          have hsp := nsteps_any hN7
          rw [Hstv.out] at hsp
          have Hsp := Lib.hid (show ∀ W, W = w7 → Calls Try.prog 18 #[.pointer (some ⟨o, 0, none⟩)] W (Pur (.int .i64 ((pos (spots 0 l) x9 + 1 : Nat) : Int)) W) from fun W e => by rw [e]; exact hsp)
          clear hN7 hK7 hu7 Hst hr2 hsp
          have hp30 : pos (spots 0 l) x9 + 1 ≤ 30 := by omega
          have Hp9 := Lib.hid (And.intro hp9 hp30)
          obtain ⟨p9, hpe⟩ : ∃ p9, pos (spots 0 l) x9 = p9 := ⟨_, rfl⟩
          have Hpe := Lib.hid hpe
          rw [hpe] at hp30 Hsp
          clear hp9 hpe
          have hq1 : ((p9 + 1 : Nat) : Int) < 100 := by omega
          have hq2 : ¬ ((p9 + 1 : Nat) : Int) < 1 := by omega
          go_wp2_with fail
          refine (Hsp.out _ rfl).mono ?_
          rintro e w' ⟨rfl, rfl⟩
          go_wp2_with fail
          refine (Hsp.out _ rfl).mono ?_
          rintro e w' ⟨rfl, rfl⟩
          go_wp2_with fail
          go_roundw
          case rel => exact ⟨_, HA2.out.1, H7.out.1, by
            have := H7.out.2
            rw [HA2.out.2]
            push_cast
            rw [← Int.add_assoc]
            exact this⟩
          case measure =>
            rw [stpo_of H7.out.1, Hos.out.2.2.2, Hstv.out, Hos.out.2.2.1]
            have := Hp9.out
            omega
        · have hD2 := Hos.out.1.2.2 (by omega)
          have Hh := Lib.hid hD2.how
          have hr2 := Hos.out.1.1
          have Hgot := Lib.hid (fun W (hN : NAt W o gs g (spots 0 l) (nst (spots 0 l) zs x9).1) => twgot HOK.out hD2 W hN)
          rw [Hln.out] at Hgot
          have HfF := Lib.hid (show pos (spots 0 l) x9 ≤ 29 by omega)
          clear hD2
          go_wp2_with fail
          refine Hst.out.mono ?_
          rintro e w7 ⟨rfl, hN7, hK7, hu7⟩
          rw [hr2] at hK7
          rw [Hh.out]
          have H7 := Lib.hid (And.intro hN7 (Hos.out.2.1.touch (Hu.out _ hu7) hK7))
          clear hN7 hK7 hu7 Hst hr2 Hos Hu Hsm hp9 hpl
          go_wp2_with fail
          refine (Hgot.out _ H7.out.1).mono ?_
          rintro e w8 ⟨nW, q1, e1, q2, c2, rfl, hq2, hO2, hb8⟩
          rw [← Hln.out] at hO2
          have hszb := H7.out.2.dj.bd
          have H8 : Hid (∃ t' : Int, TwM w l ⟨b, bg, sa, ob, X, zs, t', V⟩ w8 ∧ Orw w8 q2 c2 (csl l.length c) ∧ (∀ i q, (Tws.mk b bg sa ob X zs t' V).own i q → q < q2) ∧ w.heap.size ≤ q2 ∧ 0 ≤ t' ∧ t' ≤ 31 * (k : Int) + 30) := Lib.hid (by
            obtain ⟨_, _, h63, h64, h65, hW, hE, hc, t0, t1⟩ := H6.out
            refine ⟨_, H7.out.2.low hb8, by rw [Hln.out] at *; exact hO2, fun i q hq => Nat.lt_of_lt_of_le (H7.out.2.dj.bd i q hq).2 hq2, Nat.le_trans H7.out.2.bel.size hq2, ?_, ?_⟩
            · omega
            · have := HfF.out; omega)
          obtain ⟨t', h8⟩ := H8.out
          have H9 := Lib.hid h8
          clear h8 H8 hszb hq2 hO2 hb8 H7 Hgot HfF
          have mll : ((ln : Int) != (ln : Int)) = false := by simp
          go_wp2_with fail
          go_loopw [15] (fun i wr => TwRel3 w b bg sa ob q2 c2 l X zs t' V c vn i wr) (fun i _ => vn - (intOf i).toNat)
          case atStart => exact ⟨0, rfl, by omega, H9.out.1, by have := H9.out.2.1; exact this⟩
          case round =>
            obtain ⟨j, rfl, hj, hM, hO⟩ := hrel
            by_cases hlt9 : (j : Int) < vn
            · obtain ⟨qa, v9, ea, cv, hv9, hjl⟩ := elder_at hM H6.out.2.2.2.2.2.2.1 (show j < wasN V by rw [HV9.out.2.1]; omega)
              rw [HV9.out.1] at ea
              subst ea
              have cg := hO.cell (csl_get c hjl)
              have HM9 := Lib.hid (And.intro hM hO)
              have hng : ¬ ((c j : Int) < v9) := by omega
              have hjln : (j : Int) < ln := by have := Hln.out; omega
              clear hM hO hv9 hjl
              go_wp2_with fail
              go_quiet (fail)
              go_wp2
              go_roundw
              case rel => exact ⟨j + 1, by go_num, by omega, HM9.out.1.low (belN (Below.refl _ _) _), HM9.out.2.low (belN (Below.refl _ _) _)⟩
              case measure => simp [intOf]; omega
            · obtain rfl : vn = j := by omega
              have HT9 : Hid (∃ V' : Option (Nat × Nat × List Int), (wasA V' = some ⟨q2, 0, none⟩ ∧ wasN V' = ln ∧ wasC V' = c2) ∧ TwM w l ⟨b, bg, sa, ob, X, zs, t', V'⟩ wr ∧ TW l zs c X ∧ Elder l.length c V' ∧ (∀ j, c j ≤ k) ∧ 0 ≤ t' ∧ t' ≤ 31 * (k : Int) + 30) := Lib.hid (by
                obtain ⟨_, _, h3, h4, h5, h6⟩ := H9.out
                obtain ⟨_, _, _, _, _, hW, hE, hc, _, _⟩ := H6.out
                refine ⟨some (q2, c2, csl l.length c), ⟨rfl, ?_, rfl⟩, hM.tell (m := q2) hO h3 (Nat.le_refl _) h4, hW, ⟨csl_len _ _, fun j v hv => ?_⟩, hc, h5, h6⟩
                · show (csl l.length c).length = ln
                  rw [csl_len]; exact Hln.out
                · have hjl : j < l.length := by have := lt_of_some hv; rw [csl_len] at this; exact this
                  rw [csl_get c hjl] at hv
                  cases hv
                  exact Int.le_refl _)
              have hwsz := Lib.hid H9.out.1.bel
              clear hM hO H9 H6 HAp HV9
              obtain ⟨V9, HVx, HZx⟩ := HT9.out
              clear HT9
              have HV9 := Lib.hid HVx
              have HZ := Lib.hid HZx
              clear HVx HZx hwsz
              have hnc : True := trivial
              by_cases hlast : k = pn
              · subst hlast
                have mkk : ((k : Int) == (k : Int)) = true := by simp
                go_wp2_with fail
                refine (awake_any _).mono ?_
                rintro e wz ⟨rfl, huz⟩
                have HE9 := Lib.hid (HZ.out.1.bel.trans (huz.mono HZ.out.1.bel.size))
                clear huz
                go_wp2
                go_ret
                exact ⟨rfl, HE9.out⟩
              · have mkk : ((k : Int) == (pn : Int)) = false := by simp; omega
                have hkl : (k : Int) < pn := by omega
                obtain ⟨x, hx⟩ : ∃ x, ps[k]? = some x := ⟨_, List.getElem?_eq_getElem (by have := Hpn.out; omega)⟩
                obtain ⟨hix, pb, poff, rfl, _, cx⟩ := (HM.out.keep HZ.out.1.bel) k x hx
                have hln0 : ¬ ln = 0 := by omega
                have ha1 : -5 < x.tmod (ln : Int) ∧ x.tmod (ln : Int) < 5 := by
                  have q1 := Int.tmod_lt_of_pos x (show (0 : Int) < ln by omega)
                  have q2 := Int.lt_tmod_of_pos x (show (0 : Int) < ln by omega)
                  omega
                obtain ⟨ha1, ha2⟩ := ha1
                obtain ⟨kk, hkk, hkl2⟩ : ∃ kk : Nat, (x.tmod (ln : Int) + ln).tmod (ln : Int) = kk ∧ kk < ln := by
                  have q2 := Int.lt_tmod_of_pos x (show (0 : Int) < ln by omega)
                  have q0 : 0 ≤ x.tmod (ln : Int) + ln := by omega
                  have q3 := Int.tmod_nonneg (ln : Int) q0
                  have q4 := Int.tmod_lt_of_pos (x.tmod (ln : Int) + ln) (show (0 : Int) < ln by omega)
                  exact ⟨((x.tmod (ln : Int) + ln).tmod (ln : Int)).toNat, by omega, by omega⟩
                have hkl3 : (kk : Int) < ln := by omega
                obtain ⟨B, n, d, tn⟩ := tn_of HOK.out (show kk < l.length by have := Hln.out; omega)
                have Htn := Lib.hid tn
                have hn4 := tn.n4
                have co : wr.cell? ⟨ob, kk, none⟩ = some (ptr (X kk)) := HZ.out.1.ops.cell (ptrs_get X (by rw [Hln.out]; exact hkl2))
                have HX := Lib.hid hx
                clear hx tn hix
                cases hX : X kk with
                | none =>
                  rw [hX] at co
                  change wr.cell? ⟨ob, kk, none⟩ = some (.pointer none) at co
                  have HXn := Lib.hid hX
                  clear hX
                  have hsp := HZ.out.1.spot
                  obtain ⟨lb, loff, ea, _, lc, _, _, _⟩ := (HT.out.below HZ.out.1.bel) kk _ Htn.out.at'
                  have Hlb := Lib.hid ea
                  subst ea
                  have HrT := Lib.hid (show ∀ W, Below w.heap.size w W → W.cell? ⟨lb, loff + kk * 2, none⟩ = some (.int .i64 (n : Int)) from fun W hW => by
                    obtain ⟨_, _, e, _, c1, _⟩ := (HT.out.below hW) kk _ Htn.out.at'
                    cases e
                    exact c1)
                  have hq : RT0 sa lb loff kk B n d wr.drew := ⟨SpB.cells (w := wr) hsp Htn.out.sp, HrT.out wr HZ.out.1.bel⟩
                  have Hrec := Lib.hid (fun W => record_any n (k : Int) W (by omega) (by unfold U64; omega))
                  have Hnw : Hid (nwE (spB B n d) (rcd n (k : Int)).length 1 = 0) := Lib.hid (by
                    have t := Htn.out
                    have := t.d2
                    have := t.d5
                    have := t.hi
                    have := t.mx
                    unfold nwE
                    rw [if_pos ((mb_iff _ _).2 ⟨by unfold Rt spB; simp only; have := t.n1; omega, by omega, by omega⟩), rcd_len, if_pos (show (n : Int) = (spB B n d).wd from rfl)])
                  have Hwf0 : Hid (Wf (spB B n d) (rcd n (k : Int)) (st0 1)) := Lib.hid (wf0 Hnw.out (fun v hv => by
                    obtain ⟨j, hj⟩ := List.mem_iff_getElem?.1 hv
                    rw [(rcd_at hj).2]
                    exact u64_rcw _ _))
                  have Hnew : Hid (∀ (w' : World) (a : Option Addr) (cap : Nat), Wds w'.heap.size w' a (rcd n (k : Int)) → Calls Try.prog 24 #[.agg #[.int .i64 (B : Int), .int .i64 ((B : Int) + 1), .int .i64 ((B : Int) + 2), .int .i64 n, .int .i64 d], .slice a n cap, .int .i64 1] w' (NewOp (spB B n d) (rcd n (k : Int)) 1 w')) := Lib.hid (fun w' a cap hW => by
                    have := newo_ok (spB B n d) a (rcd n (k : Int)) cap 1 w' w'.heap.size (Nat.le_refl _) hW Hnw.out
                    rw [rcd_len] at this
                    exact this)
                  have hwk : IntKind.u64.wrap (k : Int) = (k : Int) := by rw [IntKind.wrap_u64]; omega
                  clear hsp lc
                  go_wp2_with fail
                  clear ha1 ha2 hkk cx mkk hln0 co hrm hrn hm hlast
                  refine wp_region_held_drew (S := RT0 sa lb loff kk B n d) (by kernel_rfl) (hq) (fun hHeld => ?_)
                  refine wpAnyH_take (i := 0) (v := ?v19) rfl (by kernel_rfl) (by kernel_rfl) (by kernel_rfl) (fun _ _ _ h => h) (Or.inl ⟨by rfl, ?y19⟩) hHeld ?r19
                  case y19 => (intro w hSw; obtain ⟨⟨q0, q1, q2, q3, q4⟩, q5⟩ := hSw; go_simp; try with_reducible rfl)
                  simp only [List.getElem_toArray, List.getElem_cons_zero, Act.put, List.setIfInBounds_toArray, List.set_cons_zero, List.set_cons_succ]
                  refine wpAnyH_take (i := 1) (v := ?v20) rfl (by kernel_rfl) (by kernel_rfl) (by kernel_rfl) (fun _ _ _ h => h) (Or.inl ⟨by rfl, ?y20⟩) hHeld ?r20
                  case y20 => (intro w hSw; obtain ⟨⟨q0, q1, q2, q3, q4⟩, q5⟩ := hSw; go_simp; try with_reducible rfl)
                  simp only [List.getElem_toArray, List.getElem_cons_zero, List.getElem_cons_succ, Act.put, List.setIfInBounds_toArray, List.set_cons_zero, List.set_cons_succ]
                  refine wpAnyH_take (i := 2) (v := ?v21) rfl (by kernel_rfl) (by kernel_rfl) (by kernel_rfl) (fun _ _ _ h => h) (Or.inl ⟨by rfl, ?y21⟩) hHeld ?r21
                  case y21 => (intro w hSw; obtain ⟨⟨q0, q1, q2, q3, q4⟩, q5⟩ := hSw; go_simp; try with_reducible rfl)
                  simp only [List.getElem_toArray, List.getElem_cons_zero, List.getElem_cons_succ, Act.put, List.setIfInBounds_toArray, List.set_cons_zero, List.set_cons_succ]
                  refine wpAnyH_take (i := 3) (v := ?v22) rfl (by kernel_rfl) (by kernel_rfl) (by kernel_rfl) (fun _ _ _ h => h) (Or.inl ⟨by rfl, ?y22⟩) hHeld ?r22
                  case y22 => (intro w hSw; obtain ⟨⟨q0, q1, q2, q3, q4⟩, q5⟩ := hSw; go_simp; try with_reducible rfl)
                  simp only [List.getElem_toArray, List.getElem_cons_zero, List.getElem_cons_succ, Act.put, List.setIfInBounds_toArray, List.set_cons_zero, List.set_cons_succ]
                  refine wpAnyH_take (i := 4) (v := ?v23) rfl (by kernel_rfl) (by kernel_rfl) (by kernel_rfl) (fun _ _ _ h => h) (Or.inl ⟨by rfl, ?y23⟩) hHeld ?r23
                  case y23 => (intro w hSw; obtain ⟨⟨q0, q1, q2, q3, q4⟩, q5⟩ := hSw; go_simp; try with_reducible rfl)
                  simp only [List.getElem_toArray, List.getElem_cons_zero, List.getElem_cons_succ, Act.put, List.setIfInBounds_toArray, List.set_cons_zero, List.set_cons_succ]
                  refine wpAnyH_take (i := 5) (v := ?v24) rfl (by kernel_rfl) (by kernel_rfl) (by kernel_rfl) (fun _ _ _ h => h) (Or.inl ⟨by rfl, ?y24⟩) hHeld ?r24
                  case y24 => (intro w hSw; obtain ⟨⟨q0, q1, q2, q3, q4⟩, q5⟩ := hSw; go_simp; try with_reducible rfl)
                  simp only [List.getElem_toArray, List.getElem_cons_zero, List.getElem_cons_succ, Act.put, List.setIfInBounds_toArray, List.set_cons_zero, List.set_cons_succ]
                  refine wpAnyH_take (i := 6) (v := ?v25) rfl (by kernel_rfl) (by kernel_rfl) (by kernel_rfl) (fun _ _ _ h => h) (Or.inl ⟨by rfl, ?y25⟩) hHeld ?r25
                  case y25 => (intro w hSw; obtain ⟨⟨q0, q1, q2, q3, q4⟩, q5⟩ := hSw; go_simp; try with_reducible rfl)
                  simp only [List.getElem_toArray, List.getElem_cons_zero, List.getElem_cons_succ, Act.put, List.setIfInBounds_toArray, List.set_cons_zero, List.set_cons_succ]
                  refine wpAnyH_take (i := 7) (v := ?v26) rfl (by kernel_rfl) (by kernel_rfl) (by kernel_rfl) (fun _ _ _ h => h) (Or.inl ⟨by rfl, ?y26⟩) hHeld ?r26
                  case y26 => (intro w hSw; obtain ⟨⟨q0, q1, q2, q3, q4⟩, q5⟩ := hSw; go_simp; try with_reducible rfl)
                  simp only [List.getElem_toArray, List.getElem_cons_zero, List.getElem_cons_succ, Act.put, List.setIfInBounds_toArray, List.set_cons_zero, List.set_cons_succ]
                  refine wpAnyH_take (i := 8) (v := ?v27) rfl (by kernel_rfl) (by kernel_rfl) (by kernel_rfl) (fun _ _ _ h => h) (Or.inl ⟨by rfl, ?y27⟩) hHeld ?r27
                  case y27 => (intro w hSw; obtain ⟨⟨q0, q1, q2, q3, q4⟩, q5⟩ := hSw; go_simp; try with_reducible rfl)
                  simp only [List.getElem_toArray, List.getElem_cons_zero, List.getElem_cons_succ, Act.put, List.setIfInBounds_toArray, List.set_cons_zero, List.set_cons_succ]
                  refine wpAnyH_take (i := 9) (v := ?v28) rfl (by kernel_rfl) (by kernel_rfl) (by kernel_rfl) (fun _ _ _ h => h) (Or.inl ⟨by rfl, ?y28⟩) hHeld ?r28
                  case y28 => (intro w hSw; obtain ⟨⟨q0, q1, q2, q3, q4⟩, q5⟩ := hSw; go_simp; try with_reducible rfl)
                  simp only [List.getElem_toArray, List.getElem_cons_zero, List.getElem_cons_succ, Act.put, List.setIfInBounds_toArray, List.set_cons_zero, List.set_cons_succ]
                  refine wpAnyH_take (i := 10) (v := ?v29) rfl (by kernel_rfl) (by kernel_rfl) (by kernel_rfl) (fun _ _ _ h => h) (Or.inl ⟨by rfl, ?y29⟩) hHeld ?r29
                  case y29 => (intro w hSw; obtain ⟨⟨q0, q1, q2, q3, q4⟩, q5⟩ := hSw; go_simp; try with_reducible rfl)
                  simp only [List.getElem_toArray, List.getElem_cons_zero, List.getElem_cons_succ, Act.put, List.setIfInBounds_toArray, List.set_cons_zero, List.set_cons_succ]
                  refine wpAnyH_ready (rs := [11]) (by kernel_rfl) (by simp) (AllReadyH.cons rfl (fun K hK => ?_) AllReadyH.nil)
                  go_simp
                  refine (Hrec.out _).mono ?_
                  rintro e w4 ⟨ra, rc, rfl, hW4, hb4⟩
                  have H4 := Lib.hid (And.intro (HZ.out.1.low (show Below wr.heap.size wr w4 from (belN (Below.refl wr.heap.size wr) 1).trans hb4)) (And.intro hW4 (show wr.heap.size ≤ w4.heap.size from hb4.size)))
                  have hq4 : RT0 sa lb loff kk B n d w4 := ⟨SpB.cells H4.out.1.spot Htn.out.sp, HrT.out w4 H4.out.1.bel⟩
                  clear hW4 hb4
                  go_wp2_with fail
                  refine hK.out _ _ (hq4) (fun hHeld => ?_)
                  clear hK K
                  refine wpAnyH_ready (rs := [12]) (by kernel_rfl) (by simp) (AllReadyH.cons rfl (fun K hK => ?_) AllReadyH.nil)
                  go_simp
                  refine (Hnew.out _ ra rc H4.out.2.1).mono ?_
                  rintro e w5 ⟨o1, g1, ho1, hg1, rfl, hO1, hu5⟩
                  have H5 := Lib.hid (And.intro (H4.out.1.low hu5) (And.intro hO1 (show wr.heap.size ≤ o1 ∧ wr.heap.size ≤ g1 from by have := H4.out.2.2; omega)))
                  have hq5 : RT0 sa lb loff kk B n d w5 := ⟨SpB.cells H5.out.1.spot Htn.out.sp, HrT.out w5 H5.out.1.bel⟩
                  clear ho1 hg1 hO1 hu5
                  go_wp2_with fail
                  refine hK.out _ _ (hq5) (fun hHeld => ?_)
                  clear hK K
                  refine wpAnyH_take (i := 13) (v := ?v32) rfl (by kernel_rfl) (by kernel_rfl) (by kernel_rfl) (fun _ _ _ h => h) (Or.inl ⟨by rfl, ?y32⟩) hHeld ?r32
                  case y32 => (intro w hSw; obtain ⟨⟨q0, q1, q2, q3, q4⟩, q5⟩ := hSw; go_simp; try with_reducible rfl)
                  simp only [List.getElem_toArray, List.getElem_cons_zero, List.getElem_cons_succ, Act.put, List.setIfInBounds_toArray, List.set_cons_zero, List.set_cons_succ]
                  refine wpAnyH_take (i := 14) (v := ?v33) rfl (by kernel_rfl) (by kernel_rfl) (by kernel_rfl) (fun _ _ _ h => h) (Or.inl ⟨by rfl, ?y33⟩) hHeld ?r33
                  case y33 => (intro w hSw; obtain ⟨⟨q0, q1, q2, q3, q4⟩, q5⟩ := hSw; go_simp; try with_reducible rfl)
                  simp only [List.getElem_toArray, List.getElem_cons_zero, List.getElem_cons_succ, Act.put, List.setIfInBounds_toArray, List.set_cons_zero, List.set_cons_succ]
                  refine wpAnyH_take (i := 15) (v := ?v34) rfl (by kernel_rfl) (by kernel_rfl) (by kernel_rfl) (fun _ _ _ h => h) (Or.inl ⟨by rfl, ?y34⟩) hHeld ?r34
                  case y34 => (intro w hSw; obtain ⟨⟨q0, q1, q2, q3, q4⟩, q5⟩ := hSw; go_simp; try with_reducible rfl)
                  simp only [List.getElem_toArray, List.getElem_cons_zero, List.getElem_cons_succ, Act.put, List.setIfInBounds_toArray, List.set_cons_zero, List.set_cons_succ]
                  refine wpAnyH_take (i := 16) (v := ?v35) rfl (by kernel_rfl) (by kernel_rfl) (by kernel_rfl) (fun _ _ _ h => h) (Or.inl ⟨by rfl, ?y35⟩) hHeld ?r35
                  case y35 => (intro w hSw; obtain ⟨⟨q0, q1, q2, q3, q4⟩, q5⟩ := hSw; go_simp; try with_reducible rfl)
                  simp only [List.getElem_toArray, List.getElem_cons_zero, List.getElem_cons_succ, Act.put, List.setIfInBounds_toArray, List.set_cons_zero, List.set_cons_succ]
                  refine wpAnyH_take (i := 17) (v := ?v36) rfl (by kernel_rfl) (by kernel_rfl) (by kernel_rfl) (fun _ _ _ h => h) (Or.inl ⟨by rfl, ?y36⟩) hHeld ?r36
                  case y36 => (intro w hSw; obtain ⟨⟨q0, q1, q2, q3, q4⟩, q5⟩ := hSw; go_simp; try with_reducible rfl)
                  simp only [List.getElem_toArray, List.getElem_cons_zero, List.getElem_cons_succ, Act.put, List.setIfInBounds_toArray, List.set_cons_zero, List.set_cons_succ]
                  refine wpAnyH_done (by kernel_rfl) ?_ _
                  clear hHeld hq hq4 hq5 Hnew Hrec
                  have co5 : w5.cell? ⟨ob, kk, none⟩ = some (.pointer none) := by
                    have := H5.out.1.ops.cell (ptrs_get X (j := kk) (by rw [Hln.out]; exact hkl2))
                    rw [HXn.out] at this
                    exact this
                  have lob := H5.out.1.ops.lt
                  have fob := H5.out.1.ops.frozen kk
                  have H6 := Lib.hid (H5.out.1.put (m := wr.heap.size) Htn.out H5.out.2.1 Hwf0.out (fun i q hq => (HZ.out.1.dj.bd i q hq).2) H5.out.2.2.1 H5.out.2.2.2 HZ.out.1.bel.size)
                  have Htw6 := Lib.hid (tw_new (o := o1) (g := g1) HZ.out.2.1 HXn.out)
                  go_wp2_with fail
                  generalize hw6 : w5.setCell ⟨ob, kk, none⟩ (.pointer (some ⟨o1, 0, none⟩)) = w6 at H6 ⊢
                  clear hw6 co5 lob fob
                  have HY : Hid (TwM w l ⟨b, bg, sa, ob, upd X kk (some (o1, g1, st0 1)), zs, t', V9⟩ w6 ∧ TW l zs c (upd X kk (some (o1, g1, st0 1))) ∧ (upd X kk (some (o1, g1, st0 1))) kk = some (o1, g1, st0 1)) := Lib.hid ⟨H6.out, Htw6.out, upd_self _ _ _⟩
                  have Hzz := Lib.hid HZ.out.2.2
                  clear HZ H6 H5 H4 Htw6 HXn Hwf0 Hnw
                  generalize hX6 : upd X kk (some (o1, g1, st0 1)) = X6 at *
                  generalize st0 1 = y at *
                  have co := HY.out.1.ops.cell (ptrs_get X6 (j := kk) (by rw [Hln.out]; exact hkl2))
                  rw [HY.out.2.2] at co
                  change w6.cell? ⟨ob, kk, none⟩ = some (.pointer (some ⟨o1, 0, none⟩)) at co
                  obtain ⟨ws, hO, hwf⟩ := HY.out.1.each kk B n d o1 g1 y Htn.out HY.out.2.2
                  have hzz := Hzz.out
                  have hapt : o1 ≠ b ∧ o1 ≠ bg ∧ g1 ≠ b ∧ g1 ≠ bg := by
                    have dj := HY.out.1.dj.dj
                    refine ⟨fun e => ?_, fun e => ?_, fun e => ?_, fun e => ?_⟩
                    · have := dj (kk + 4) 0 o1 ⟨_, _, _, HY.out.2.2, .inl rfl⟩ (.inl e); omega
                    · have := dj (kk + 4) 0 o1 ⟨_, _, _, HY.out.2.2, .inl rfl⟩ (.inr e); omega
                    · have := dj (kk + 4) 0 g1 ⟨_, _, _, HY.out.2.2, .inr rfl⟩ (.inl e); omega
                    · have := dj (kk + 4) 0 g1 ⟨_, _, _, HY.out.2.2, .inr rfl⟩ (.inr e); omega
                  have hss : 0 ≤ y.steps ∧ y.steps ≤ 100 := by
                    obtain ⟨v, _, hv⟩ := HY.out.2.1.2 kk B n d Htn.out
                    rw [HY.out.2.2] at hv
                    exact wst_steps hv hwf
                  have hst := step_any hO HY.out.1.bank hapt.1 hapt.2.1 hapt.2.2.1 hapt.2.2.2 hwf (by obtain ⟨_, _, z1, z2⟩ := hzz; dsimp only; omega) (by obtain ⟨_, _, z1, z2⟩ := hzz; dsimp only; omega) (by omega) (by omega)
                  have Hst := Lib.hid hst
                  have Htw := Lib.hid (tw_step HOK.out HY.out.2.1 Htn.out HY.out.2.2 hwf (by have := hzz.2.1 kk; omega))
                  have Hwf2 := Lib.hid (wf_stp hwf HY.out.1.bank.rng)
                  have Hs01 := Lib.hid (steps_stp (spB B n d) ws zs y)
                  have lob := HY.out.1.ops.lt
                  clear hO hwf hzz hapt hst hss
                  dsimp only at Hst Htw Hwf2 lob
                  generalize stp (spB B n d) ws zs y = r at *
                  rcases Htw.out with ⟨hh0, htw⟩ | ⟨hh1, htw⟩
                  · have Hh0 := Lib.hid (And.intro hh0 htw)
                    clear hh0 htw
                    go_wp2_with fail
                    refine Hst.out.mono ?_
                    rintro e wa ⟨rfl, hOa, hBa, hua⟩
                    rw [Hh0.out.1]
                    have HR := Lib.hid (HY.out.1.step Htn.out HY.out.2.2 hua hOa Hwf2.out hBa)
                    clear hOa hBa hua Hst
                    go_wp2_with fail
                    go_roundw
                    case rel =>
                      have hz := Hzz.out
                      have hs := Hs01.out
                      exact ⟨k + 1, _, _, _, V9, _, by go_num, by omega, by rw [HV9.out.1, HV9.out.2.1, HV9.out.2.2], HR.out, Hh0.out.2, hz.1, fun j => by have := hz.2.1 j; omega, by omega, by push_cast; omega⟩
                    case measure => simp [intOf]; omega
                  · have Hh1 := Lib.hid (And.intro hh1 htw)
                    have mh : (r.1.how != 0) = true := by simpa using hh1
                    clear hh1 htw
                    go_wp2_with fail
                    refine Hst.out.mono ?_
                    rintro e wa ⟨rfl, hOa, hBa, hua⟩
                    have HR := Lib.hid (HY.out.1.step Htn.out HY.out.2.2 hua hOa Hwf2.out hBa)
                    have cb := HR.out.ops.cell (ptrs_get _ (j := kk) (by rw [Hln.out]; exact hkl2))
                    have fb := HR.out.ops.frozen kk
                    have lb2 := HR.out.ops.lt
                    dsimp only at cb
                    rw [upd_self] at cb
                    change wa.cell? ⟨ob, kk, none⟩ = some (.pointer (some ⟨o1, 0, none⟩)) at cb
                    have HR2 := Lib.hid (HR.out.strike kk)
                    clear hOa hBa hua Hst
                    go_wp2_with fail
                    go_roundw
                    case rel =>
                      have hz := Hzz.out
                      have hs := Hs01.out
                      have hx2 := HR2.out
                      have eX : upd (upd X6 kk (some (o1, g1, r.1))) kk none = upd X6 kk none := by
                        funext j
                        by_cases c : j = kk
                        · rw [c, upd_self, upd_self]
                        · rw [upd_ne _ _ c, upd_ne _ _ c, upd_ne _ _ c]
                      try dsimp only at hx2
                      rw [eX] at hx2
                      exact ⟨k + 1, _, _, _, V9, _, by go_num, by omega, by rw [HV9.out.1, HV9.out.2.1, HV9.out.2.2], hx2, Hh1.out.2, hz.1.mono (fun j => by by_cases c : j = kk <;> simp [c]), fun j => by
                        have := hz.2.1 j
                        by_cases c : j = kk
                        · subst c; rw [if_pos rfl]; omega
                        · rw [if_neg c]; omega, by omega, by push_cast; omega⟩
                    case measure => simp [intOf]; omega
                | some p =>
                  obtain ⟨o1, g1, y⟩ := p
                  rw [hX] at co
                  change wr.cell? ⟨ob, kk, none⟩ = some (.pointer (some ⟨o1, 0, none⟩)) at co
                  have HXs := Lib.hid hX
                  clear hX
                  have HY : Hid (TwM w l ⟨b, bg, sa, ob, X, zs, t', V9⟩ wr ∧ TW l zs c X ∧ X kk = some (o1, g1, y)) := Lib.hid ⟨HZ.out.1, HZ.out.2.1, HXs.out⟩
                  have Hzz := Lib.hid HZ.out.2.2
                  clear HZ HXs
                  obtain ⟨ws, hO, hwf⟩ := HY.out.1.each kk B n d o1 g1 y Htn.out HY.out.2.2
                  have hzz := Hzz.out
                  have hapt : o1 ≠ b ∧ o1 ≠ bg ∧ g1 ≠ b ∧ g1 ≠ bg := by
                    have dj := HY.out.1.dj.dj
                    refine ⟨fun e => ?_, fun e => ?_, fun e => ?_, fun e => ?_⟩
                    · have := dj (kk + 4) 0 o1 ⟨_, _, _, HY.out.2.2, .inl rfl⟩ (.inl e); omega
                    · have := dj (kk + 4) 0 o1 ⟨_, _, _, HY.out.2.2, .inl rfl⟩ (.inr e); omega
                    · have := dj (kk + 4) 0 g1 ⟨_, _, _, HY.out.2.2, .inr rfl⟩ (.inl e); omega
                    · have := dj (kk + 4) 0 g1 ⟨_, _, _, HY.out.2.2, .inr rfl⟩ (.inr e); omega
                  have hss : 0 ≤ y.steps ∧ y.steps ≤ 100 := by
                    obtain ⟨v, _, hv⟩ := HY.out.2.1.2 kk B n d Htn.out
                    rw [HY.out.2.2] at hv
                    exact wst_steps hv hwf
                  have hst := step_any hO HY.out.1.bank hapt.1 hapt.2.1 hapt.2.2.1 hapt.2.2.2 hwf (by obtain ⟨_, _, z1, z2⟩ := hzz; dsimp only; omega) (by obtain ⟨_, _, z1, z2⟩ := hzz; dsimp only; omega) (by omega) (by omega)
                  have Hst := Lib.hid hst
                  have Htw := Lib.hid (tw_step HOK.out HY.out.2.1 Htn.out HY.out.2.2 hwf (by have := hzz.2.1 kk; omega))
                  have Hwf2 := Lib.hid (wf_stp hwf HY.out.1.bank.rng)
                  have Hs01 := Lib.hid (steps_stp (spB B n d) ws zs y)
                  have lob := HY.out.1.ops.lt
                  clear hO hwf hzz hapt hst hss
                  dsimp only at Hst Htw Hwf2 lob
                  generalize stp (spB B n d) ws zs y = r at *
                  rcases Htw.out with ⟨hh0, htw⟩ | ⟨hh1, htw⟩
                  · have Hh0 := Lib.hid (And.intro hh0 htw)
                    clear hh0 htw
                    go_wp2_with fail
                    refine Hst.out.mono ?_
                    rintro e wa ⟨rfl, hOa, hBa, hua⟩
                    rw [Hh0.out.1]
                    have HR := Lib.hid (HY.out.1.step Htn.out HY.out.2.2 hua hOa Hwf2.out hBa)
                    clear hOa hBa hua Hst
                    go_wp2_with fail
                    go_roundw
                    case rel =>
                      have hz := Hzz.out
                      have hs := Hs01.out
                      exact ⟨k + 1, _, _, _, V9, _, by go_num, by omega, by rw [HV9.out.1, HV9.out.2.1, HV9.out.2.2], HR.out, Hh0.out.2, hz.1, fun j => by have := hz.2.1 j; omega, by omega, by push_cast; omega⟩
                    case measure => simp [intOf]; omega
                  · have Hh1 := Lib.hid (And.intro hh1 htw)
                    have mh : (r.1.how != 0) = true := by simpa using hh1
                    clear hh1 htw
                    go_wp2_with fail
                    refine Hst.out.mono ?_
                    rintro e wa ⟨rfl, hOa, hBa, hua⟩
                    have HR := Lib.hid (HY.out.1.step Htn.out HY.out.2.2 hua hOa Hwf2.out hBa)
                    have cb := HR.out.ops.cell (ptrs_get _ (j := kk) (by rw [Hln.out]; exact hkl2))
                    have fb := HR.out.ops.frozen kk
                    have lb2 := HR.out.ops.lt
                    dsimp only at cb
                    rw [upd_self] at cb
                    change wa.cell? ⟨ob, kk, none⟩ = some (.pointer (some ⟨o1, 0, none⟩)) at cb
                    have HR2 := Lib.hid (HR.out.strike kk)
                    clear hOa hBa hua Hst
                    go_wp2_with fail
                    go_roundw
                    case rel =>
                      have hz := Hzz.out
                      have hs := Hs01.out
                      have hx2 := HR2.out
                      have eX : upd (upd X kk (some (o1, g1, r.1))) kk none = upd X kk none := by
                        funext j
                        by_cases c : j = kk
                        · rw [c, upd_self, upd_self]
                        · rw [upd_ne _ _ c, upd_ne _ _ c, upd_ne _ _ c]
                      try dsimp only at hx2
                      rw [eX] at hx2
                      exact ⟨k + 1, _, _, _, V9, _, by go_num, by omega, by rw [HV9.out.1, HV9.out.2.1, HV9.out.2.2], hx2, Hh1.out.2, hz.1.mono (fun j => by by_cases c : j = kk <;> simp [c]), fun j => by
                        have := hz.2.1 j
                        by_cases c : j = kk
                        · subst c; rw [if_pos rfl]; omega
                        · rw [if_neg c]; omega, by omega, by push_cast; omega⟩
                    case measure => simp [intOf]; omega
    · have hrm : (k : Int).tmod 10 = ((k % 10 : Nat) : Int) := rfl
      have hrn : (((k % 10 : Nat) : Int) == 0) = false := by simp; omega
      have HZ := Lib.hid (And.intro hM (And.intro hW (And.intro hE (And.intro hc (And.intro t0 t1)))))
      clear hM hW hE hc t0 t1
      by_cases hlast : k = pn
      · subst hlast
        have mkk : ((k : Int) == (k : Int)) = true := by simp
        go_wp2_with fail
        refine (awake_any _).mono ?_
        rintro e wz ⟨rfl, huz⟩
        have HE9 := Lib.hid (HZ.out.1.bel.trans (huz.mono HZ.out.1.bel.size))
        clear huz
        go_wp2
        go_ret
        exact ⟨rfl, HE9.out⟩
      · have mkk : ((k : Int) == (pn : Int)) = false := by simp; omega
        have hkl : (k : Int) < pn := by omega
        obtain ⟨x, hx⟩ : ∃ x, ps[k]? = some x := ⟨_, List.getElem?_eq_getElem (by have := Hpn.out; omega)⟩
        obtain ⟨hix, pb, poff, rfl, _, cx⟩ := (HM.out.keep HZ.out.1.bel) k x hx
        have hln0 : ¬ ln = 0 := by omega
        have ha1 : -5 < x.tmod (ln : Int) ∧ x.tmod (ln : Int) < 5 := by
          have q1 := Int.tmod_lt_of_pos x (show (0 : Int) < ln by omega)
          have q2 := Int.lt_tmod_of_pos x (show (0 : Int) < ln by omega)
          omega
        obtain ⟨ha1, ha2⟩ := ha1
        obtain ⟨kk, hkk, hkl2⟩ : ∃ kk : Nat, (x.tmod (ln : Int) + ln).tmod (ln : Int) = kk ∧ kk < ln := by
          have q2 := Int.lt_tmod_of_pos x (show (0 : Int) < ln by omega)
          have q0 : 0 ≤ x.tmod (ln : Int) + ln := by omega
          have q3 := Int.tmod_nonneg (ln : Int) q0
          have q4 := Int.tmod_lt_of_pos (x.tmod (ln : Int) + ln) (show (0 : Int) < ln by omega)
          exact ⟨((x.tmod (ln : Int) + ln).tmod (ln : Int)).toNat, by omega, by omega⟩
        have hkl3 : (kk : Int) < ln := by omega
        obtain ⟨B, n, d, tn⟩ := tn_of HOK.out (show kk < l.length by have := Hln.out; omega)
        have Htn := Lib.hid tn
        have hn4 := tn.n4
        have co : wr.cell? ⟨ob, kk, none⟩ = some (ptr (X kk)) := HZ.out.1.ops.cell (ptrs_get X (by rw [Hln.out]; exact hkl2))
        have HX := Lib.hid hx
        clear hx tn hix
        cases hX : X kk with
        | none =>
          rw [hX] at co
          change wr.cell? ⟨ob, kk, none⟩ = some (.pointer none) at co
          have HXn := Lib.hid hX
          clear hX
          have hsp := HZ.out.1.spot
          obtain ⟨lb, loff, ea, _, lc, _, _, _⟩ := (HT.out.below HZ.out.1.bel) kk _ Htn.out.at'
          have Hlb := Lib.hid ea
          subst ea
          have HrT := Lib.hid (show ∀ W, Below w.heap.size w W → W.cell? ⟨lb, loff + kk * 2, none⟩ = some (.int .i64 (n : Int)) from fun W hW => by
            obtain ⟨_, _, e, _, c1, _⟩ := (HT.out.below hW) kk _ Htn.out.at'
            cases e
            exact c1)
          have hq : RT0 sa lb loff kk B n d wr.drew := ⟨SpB.cells (w := wr) hsp Htn.out.sp, HrT.out wr HZ.out.1.bel⟩
          have Hrec := Lib.hid (fun W => record_any n (k : Int) W (by omega) (by unfold U64; omega))
          have Hnw : Hid (nwE (spB B n d) (rcd n (k : Int)).length 1 = 0) := Lib.hid (by
            have t := Htn.out
            have := t.d2
            have := t.d5
            have := t.hi
            have := t.mx
            unfold nwE
            rw [if_pos ((mb_iff _ _).2 ⟨by unfold Rt spB; simp only; have := t.n1; omega, by omega, by omega⟩), rcd_len, if_pos (show (n : Int) = (spB B n d).wd from rfl)])
          have Hwf0 : Hid (Wf (spB B n d) (rcd n (k : Int)) (st0 1)) := Lib.hid (wf0 Hnw.out (fun v hv => by
            obtain ⟨j, hj⟩ := List.mem_iff_getElem?.1 hv
            rw [(rcd_at hj).2]
            exact u64_rcw _ _))
          have Hnew : Hid (∀ (w' : World) (a : Option Addr) (cap : Nat), Wds w'.heap.size w' a (rcd n (k : Int)) → Calls Try.prog 24 #[.agg #[.int .i64 (B : Int), .int .i64 ((B : Int) + 1), .int .i64 ((B : Int) + 2), .int .i64 n, .int .i64 d], .slice a n cap, .int .i64 1] w' (NewOp (spB B n d) (rcd n (k : Int)) 1 w')) := Lib.hid (fun w' a cap hW => by
            have := newo_ok (spB B n d) a (rcd n (k : Int)) cap 1 w' w'.heap.size (Nat.le_refl _) hW Hnw.out
            rw [rcd_len] at this
            exact this)
          have hwk : IntKind.u64.wrap (k : Int) = (k : Int) := by rw [IntKind.wrap_u64]; omega
          clear hsp lc
          go_wp2_with fail
          clear ha1 ha2 hkk cx mkk hln0 co hrm hrn hm hlast
          refine wp_region_held_drew (S := RT0 sa lb loff kk B n d) (by kernel_rfl) (hq) (fun hHeld => ?_)
          refine wpAnyH_take (i := 0) (v := ?v1) rfl (by kernel_rfl) (by kernel_rfl) (by kernel_rfl) (fun _ _ _ h => h) (Or.inl ⟨by rfl, ?y1⟩) hHeld ?r1
          case y1 => (intro w hSw; obtain ⟨⟨q0, q1, q2, q3, q4⟩, q5⟩ := hSw; go_simp; try with_reducible rfl)
          simp only [List.getElem_toArray, List.getElem_cons_zero, Act.put, List.setIfInBounds_toArray, List.set_cons_zero, List.set_cons_succ]
          refine wpAnyH_take (i := 1) (v := ?v2) rfl (by kernel_rfl) (by kernel_rfl) (by kernel_rfl) (fun _ _ _ h => h) (Or.inl ⟨by rfl, ?y2⟩) hHeld ?r2
          case y2 => (intro w hSw; obtain ⟨⟨q0, q1, q2, q3, q4⟩, q5⟩ := hSw; go_simp; try with_reducible rfl)
          simp only [List.getElem_toArray, List.getElem_cons_zero, List.getElem_cons_succ, Act.put, List.setIfInBounds_toArray, List.set_cons_zero, List.set_cons_succ]
          refine wpAnyH_take (i := 2) (v := ?v3) rfl (by kernel_rfl) (by kernel_rfl) (by kernel_rfl) (fun _ _ _ h => h) (Or.inl ⟨by rfl, ?y3⟩) hHeld ?r3
          case y3 => (intro w hSw; obtain ⟨⟨q0, q1, q2, q3, q4⟩, q5⟩ := hSw; go_simp; try with_reducible rfl)
          simp only [List.getElem_toArray, List.getElem_cons_zero, List.getElem_cons_succ, Act.put, List.setIfInBounds_toArray, List.set_cons_zero, List.set_cons_succ]
          refine wpAnyH_take (i := 3) (v := ?v4) rfl (by kernel_rfl) (by kernel_rfl) (by kernel_rfl) (fun _ _ _ h => h) (Or.inl ⟨by rfl, ?y4⟩) hHeld ?r4
          case y4 => (intro w hSw; obtain ⟨⟨q0, q1, q2, q3, q4⟩, q5⟩ := hSw; go_simp; try with_reducible rfl)
          simp only [List.getElem_toArray, List.getElem_cons_zero, List.getElem_cons_succ, Act.put, List.setIfInBounds_toArray, List.set_cons_zero, List.set_cons_succ]
          refine wpAnyH_take (i := 4) (v := ?v5) rfl (by kernel_rfl) (by kernel_rfl) (by kernel_rfl) (fun _ _ _ h => h) (Or.inl ⟨by rfl, ?y5⟩) hHeld ?r5
          case y5 => (intro w hSw; obtain ⟨⟨q0, q1, q2, q3, q4⟩, q5⟩ := hSw; go_simp; try with_reducible rfl)
          simp only [List.getElem_toArray, List.getElem_cons_zero, List.getElem_cons_succ, Act.put, List.setIfInBounds_toArray, List.set_cons_zero, List.set_cons_succ]
          refine wpAnyH_take (i := 5) (v := ?v6) rfl (by kernel_rfl) (by kernel_rfl) (by kernel_rfl) (fun _ _ _ h => h) (Or.inl ⟨by rfl, ?y6⟩) hHeld ?r6
          case y6 => (intro w hSw; obtain ⟨⟨q0, q1, q2, q3, q4⟩, q5⟩ := hSw; go_simp; try with_reducible rfl)
          simp only [List.getElem_toArray, List.getElem_cons_zero, List.getElem_cons_succ, Act.put, List.setIfInBounds_toArray, List.set_cons_zero, List.set_cons_succ]
          refine wpAnyH_take (i := 6) (v := ?v7) rfl (by kernel_rfl) (by kernel_rfl) (by kernel_rfl) (fun _ _ _ h => h) (Or.inl ⟨by rfl, ?y7⟩) hHeld ?r7
          case y7 => (intro w hSw; obtain ⟨⟨q0, q1, q2, q3, q4⟩, q5⟩ := hSw; go_simp; try with_reducible rfl)
          simp only [List.getElem_toArray, List.getElem_cons_zero, List.getElem_cons_succ, Act.put, List.setIfInBounds_toArray, List.set_cons_zero, List.set_cons_succ]
          refine wpAnyH_take (i := 7) (v := ?v8) rfl (by kernel_rfl) (by kernel_rfl) (by kernel_rfl) (fun _ _ _ h => h) (Or.inl ⟨by rfl, ?y8⟩) hHeld ?r8
          case y8 => (intro w hSw; obtain ⟨⟨q0, q1, q2, q3, q4⟩, q5⟩ := hSw; go_simp; try with_reducible rfl)
          simp only [List.getElem_toArray, List.getElem_cons_zero, List.getElem_cons_succ, Act.put, List.setIfInBounds_toArray, List.set_cons_zero, List.set_cons_succ]
          refine wpAnyH_take (i := 8) (v := ?v9) rfl (by kernel_rfl) (by kernel_rfl) (by kernel_rfl) (fun _ _ _ h => h) (Or.inl ⟨by rfl, ?y9⟩) hHeld ?r9
          case y9 => (intro w hSw; obtain ⟨⟨q0, q1, q2, q3, q4⟩, q5⟩ := hSw; go_simp; try with_reducible rfl)
          simp only [List.getElem_toArray, List.getElem_cons_zero, List.getElem_cons_succ, Act.put, List.setIfInBounds_toArray, List.set_cons_zero, List.set_cons_succ]
          refine wpAnyH_take (i := 9) (v := ?v10) rfl (by kernel_rfl) (by kernel_rfl) (by kernel_rfl) (fun _ _ _ h => h) (Or.inl ⟨by rfl, ?y10⟩) hHeld ?r10
          case y10 => (intro w hSw; obtain ⟨⟨q0, q1, q2, q3, q4⟩, q5⟩ := hSw; go_simp; try with_reducible rfl)
          simp only [List.getElem_toArray, List.getElem_cons_zero, List.getElem_cons_succ, Act.put, List.setIfInBounds_toArray, List.set_cons_zero, List.set_cons_succ]
          refine wpAnyH_take (i := 10) (v := ?v11) rfl (by kernel_rfl) (by kernel_rfl) (by kernel_rfl) (fun _ _ _ h => h) (Or.inl ⟨by rfl, ?y11⟩) hHeld ?r11
          case y11 => (intro w hSw; obtain ⟨⟨q0, q1, q2, q3, q4⟩, q5⟩ := hSw; go_simp; try with_reducible rfl)
          simp only [List.getElem_toArray, List.getElem_cons_zero, List.getElem_cons_succ, Act.put, List.setIfInBounds_toArray, List.set_cons_zero, List.set_cons_succ]
          refine wpAnyH_ready (rs := [11]) (by kernel_rfl) (by simp) (AllReadyH.cons rfl (fun K hK => ?_) AllReadyH.nil)
          go_simp
          refine (Hrec.out _).mono ?_
          rintro e w4 ⟨ra, rc, rfl, hW4, hb4⟩
          have H4 := Lib.hid (And.intro (HZ.out.1.low (show Below wr.heap.size wr w4 from (belN (Below.refl wr.heap.size wr) 1).trans hb4)) (And.intro hW4 (show wr.heap.size ≤ w4.heap.size from hb4.size)))
          have hq4 : RT0 sa lb loff kk B n d w4 := ⟨SpB.cells H4.out.1.spot Htn.out.sp, HrT.out w4 H4.out.1.bel⟩
          clear hW4 hb4
          go_wp2_with fail
          refine hK.out _ _ (hq4) (fun hHeld => ?_)
          clear hK K
          refine wpAnyH_ready (rs := [12]) (by kernel_rfl) (by simp) (AllReadyH.cons rfl (fun K hK => ?_) AllReadyH.nil)
          go_simp
          refine (Hnew.out _ ra rc H4.out.2.1).mono ?_
          rintro e w5 ⟨o1, g1, ho1, hg1, rfl, hO1, hu5⟩
          have H5 := Lib.hid (And.intro (H4.out.1.low hu5) (And.intro hO1 (show wr.heap.size ≤ o1 ∧ wr.heap.size ≤ g1 from by have := H4.out.2.2; omega)))
          have hq5 : RT0 sa lb loff kk B n d w5 := ⟨SpB.cells H5.out.1.spot Htn.out.sp, HrT.out w5 H5.out.1.bel⟩
          clear ho1 hg1 hO1 hu5
          go_wp2_with fail
          refine hK.out _ _ (hq5) (fun hHeld => ?_)
          clear hK K
          refine wpAnyH_take (i := 13) (v := ?v14) rfl (by kernel_rfl) (by kernel_rfl) (by kernel_rfl) (fun _ _ _ h => h) (Or.inl ⟨by rfl, ?y14⟩) hHeld ?r14
          case y14 => (intro w hSw; obtain ⟨⟨q0, q1, q2, q3, q4⟩, q5⟩ := hSw; go_simp; try with_reducible rfl)
          simp only [List.getElem_toArray, List.getElem_cons_zero, List.getElem_cons_succ, Act.put, List.setIfInBounds_toArray, List.set_cons_zero, List.set_cons_succ]
          refine wpAnyH_take (i := 14) (v := ?v15) rfl (by kernel_rfl) (by kernel_rfl) (by kernel_rfl) (fun _ _ _ h => h) (Or.inl ⟨by rfl, ?y15⟩) hHeld ?r15
          case y15 => (intro w hSw; obtain ⟨⟨q0, q1, q2, q3, q4⟩, q5⟩ := hSw; go_simp; try with_reducible rfl)
          simp only [List.getElem_toArray, List.getElem_cons_zero, List.getElem_cons_succ, Act.put, List.setIfInBounds_toArray, List.set_cons_zero, List.set_cons_succ]
          refine wpAnyH_take (i := 15) (v := ?v16) rfl (by kernel_rfl) (by kernel_rfl) (by kernel_rfl) (fun _ _ _ h => h) (Or.inl ⟨by rfl, ?y16⟩) hHeld ?r16
          case y16 => (intro w hSw; obtain ⟨⟨q0, q1, q2, q3, q4⟩, q5⟩ := hSw; go_simp; try with_reducible rfl)
          simp only [List.getElem_toArray, List.getElem_cons_zero, List.getElem_cons_succ, Act.put, List.setIfInBounds_toArray, List.set_cons_zero, List.set_cons_succ]
          refine wpAnyH_take (i := 16) (v := ?v17) rfl (by kernel_rfl) (by kernel_rfl) (by kernel_rfl) (fun _ _ _ h => h) (Or.inl ⟨by rfl, ?y17⟩) hHeld ?r17
          case y17 => (intro w hSw; obtain ⟨⟨q0, q1, q2, q3, q4⟩, q5⟩ := hSw; go_simp; try with_reducible rfl)
          simp only [List.getElem_toArray, List.getElem_cons_zero, List.getElem_cons_succ, Act.put, List.setIfInBounds_toArray, List.set_cons_zero, List.set_cons_succ]
          refine wpAnyH_take (i := 17) (v := ?v18) rfl (by kernel_rfl) (by kernel_rfl) (by kernel_rfl) (fun _ _ _ h => h) (Or.inl ⟨by rfl, ?y18⟩) hHeld ?r18
          case y18 => (intro w hSw; obtain ⟨⟨q0, q1, q2, q3, q4⟩, q5⟩ := hSw; go_simp; try with_reducible rfl)
          simp only [List.getElem_toArray, List.getElem_cons_zero, List.getElem_cons_succ, Act.put, List.setIfInBounds_toArray, List.set_cons_zero, List.set_cons_succ]
          refine wpAnyH_done (by kernel_rfl) ?_ _
          clear hHeld hq hq4 hq5 Hnew Hrec
          have co5 : w5.cell? ⟨ob, kk, none⟩ = some (.pointer none) := by
            have := H5.out.1.ops.cell (ptrs_get X (j := kk) (by rw [Hln.out]; exact hkl2))
            rw [HXn.out] at this
            exact this
          have lob := H5.out.1.ops.lt
          have fob := H5.out.1.ops.frozen kk
          have H6 := Lib.hid (H5.out.1.put (m := wr.heap.size) Htn.out H5.out.2.1 Hwf0.out (fun i q hq => (HZ.out.1.dj.bd i q hq).2) H5.out.2.2.1 H5.out.2.2.2 HZ.out.1.bel.size)
          have Htw6 := Lib.hid (tw_new (o := o1) (g := g1) HZ.out.2.1 HXn.out)
          go_wp2_with fail
          generalize hw6 : w5.setCell ⟨ob, kk, none⟩ (.pointer (some ⟨o1, 0, none⟩)) = w6 at H6 ⊢
          clear hw6 co5 lob fob
          have HY : Hid (TwM w l ⟨b, bg, sa, ob, upd X kk (some (o1, g1, st0 1)), zs, t, V⟩ w6 ∧ TW l zs c (upd X kk (some (o1, g1, st0 1))) ∧ (upd X kk (some (o1, g1, st0 1))) kk = some (o1, g1, st0 1)) := Lib.hid ⟨H6.out, Htw6.out, upd_self _ _ _⟩
          have Hzz := Lib.hid HZ.out.2.2
          clear HZ H6 H5 H4 Htw6 HXn Hwf0 Hnw
          generalize hX6 : upd X kk (some (o1, g1, st0 1)) = X6 at *
          generalize st0 1 = y at *
          have co := HY.out.1.ops.cell (ptrs_get X6 (j := kk) (by rw [Hln.out]; exact hkl2))
          rw [HY.out.2.2] at co
          change w6.cell? ⟨ob, kk, none⟩ = some (.pointer (some ⟨o1, 0, none⟩)) at co
          obtain ⟨ws, hO, hwf⟩ := HY.out.1.each kk B n d o1 g1 y Htn.out HY.out.2.2
          have hzz := Hzz.out
          have hapt : o1 ≠ b ∧ o1 ≠ bg ∧ g1 ≠ b ∧ g1 ≠ bg := by
            have dj := HY.out.1.dj.dj
            refine ⟨fun e => ?_, fun e => ?_, fun e => ?_, fun e => ?_⟩
            · have := dj (kk + 4) 0 o1 ⟨_, _, _, HY.out.2.2, .inl rfl⟩ (.inl e); omega
            · have := dj (kk + 4) 0 o1 ⟨_, _, _, HY.out.2.2, .inl rfl⟩ (.inr e); omega
            · have := dj (kk + 4) 0 g1 ⟨_, _, _, HY.out.2.2, .inr rfl⟩ (.inl e); omega
            · have := dj (kk + 4) 0 g1 ⟨_, _, _, HY.out.2.2, .inr rfl⟩ (.inr e); omega
          have hss : 0 ≤ y.steps ∧ y.steps ≤ 100 := by
            obtain ⟨v, _, hv⟩ := HY.out.2.1.2 kk B n d Htn.out
            rw [HY.out.2.2] at hv
            exact wst_steps hv hwf
          have hst := step_any hO HY.out.1.bank hapt.1 hapt.2.1 hapt.2.2.1 hapt.2.2.2 hwf (by obtain ⟨_, _, z1, z2⟩ := hzz; dsimp only; omega) (by obtain ⟨_, _, z1, z2⟩ := hzz; dsimp only; omega) (by omega) (by omega)
          have Hst := Lib.hid hst
          have Htw := Lib.hid (tw_step HOK.out HY.out.2.1 Htn.out HY.out.2.2 hwf (by have := hzz.2.1 kk; omega))
          have Hwf2 := Lib.hid (wf_stp hwf HY.out.1.bank.rng)
          have Hs01 := Lib.hid (steps_stp (spB B n d) ws zs y)
          have lob := HY.out.1.ops.lt
          clear hO hwf hzz hapt hst hss
          dsimp only at Hst Htw Hwf2 lob
          generalize stp (spB B n d) ws zs y = r at *
          rcases Htw.out with ⟨hh0, htw⟩ | ⟨hh1, htw⟩
          · have Hh0 := Lib.hid (And.intro hh0 htw)
            clear hh0 htw
            go_wp2_with fail
            refine Hst.out.mono ?_
            rintro e wa ⟨rfl, hOa, hBa, hua⟩
            rw [Hh0.out.1]
            have HR := Lib.hid (HY.out.1.step Htn.out HY.out.2.2 hua hOa Hwf2.out hBa)
            clear hOa hBa hua Hst
            go_wp2_with fail
            go_roundw
            case rel =>
              have hz := Hzz.out
              have hs := Hs01.out
              exact ⟨k + 1, _, _, _, V, _, by go_num, by omega, by rw [HV9.out.1, HV9.out.2.1, HV9.out.2.2], HR.out, Hh0.out.2, hz.1, fun j => by have := hz.2.1 j; omega, by omega, by push_cast; omega⟩
            case measure => simp [intOf]; omega
          · have Hh1 := Lib.hid (And.intro hh1 htw)
            have mh : (r.1.how != 0) = true := by simpa using hh1
            clear hh1 htw
            go_wp2_with fail
            refine Hst.out.mono ?_
            rintro e wa ⟨rfl, hOa, hBa, hua⟩
            have HR := Lib.hid (HY.out.1.step Htn.out HY.out.2.2 hua hOa Hwf2.out hBa)
            have cb := HR.out.ops.cell (ptrs_get _ (j := kk) (by rw [Hln.out]; exact hkl2))
            have fb := HR.out.ops.frozen kk
            have lb2 := HR.out.ops.lt
            dsimp only at cb
            rw [upd_self] at cb
            change wa.cell? ⟨ob, kk, none⟩ = some (.pointer (some ⟨o1, 0, none⟩)) at cb
            have HR2 := Lib.hid (HR.out.strike kk)
            clear hOa hBa hua Hst
            go_wp2_with fail
            go_roundw
            case rel =>
              have hz := Hzz.out
              have hs := Hs01.out
              have hx2 := HR2.out
              have eX : upd (upd X6 kk (some (o1, g1, r.1))) kk none = upd X6 kk none := by
                funext j
                by_cases c : j = kk
                · rw [c, upd_self, upd_self]
                · rw [upd_ne _ _ c, upd_ne _ _ c, upd_ne _ _ c]
              try dsimp only at hx2
              rw [eX] at hx2
              exact ⟨k + 1, _, _, _, V, _, by go_num, by omega, by rw [HV9.out.1, HV9.out.2.1, HV9.out.2.2], hx2, Hh1.out.2, hz.1.mono (fun j => by by_cases c : j = kk <;> simp [c]), fun j => by
                have := hz.2.1 j
                by_cases c : j = kk
                · subst c; rw [if_pos rfl]; omega
                · rw [if_neg c]; omega, by omega, by push_cast; omega⟩
            case measure => simp [intOf]; omega
        | some p =>
          obtain ⟨o1, g1, y⟩ := p
          rw [hX] at co
          change wr.cell? ⟨ob, kk, none⟩ = some (.pointer (some ⟨o1, 0, none⟩)) at co
          have HXs := Lib.hid hX
          clear hX
          have HY : Hid (TwM w l ⟨b, bg, sa, ob, X, zs, t, V⟩ wr ∧ TW l zs c X ∧ X kk = some (o1, g1, y)) := Lib.hid ⟨HZ.out.1, HZ.out.2.1, HXs.out⟩
          have Hzz := Lib.hid HZ.out.2.2
          clear HZ HXs
          obtain ⟨ws, hO, hwf⟩ := HY.out.1.each kk B n d o1 g1 y Htn.out HY.out.2.2
          have hzz := Hzz.out
          have hapt : o1 ≠ b ∧ o1 ≠ bg ∧ g1 ≠ b ∧ g1 ≠ bg := by
            have dj := HY.out.1.dj.dj
            refine ⟨fun e => ?_, fun e => ?_, fun e => ?_, fun e => ?_⟩
            · have := dj (kk + 4) 0 o1 ⟨_, _, _, HY.out.2.2, .inl rfl⟩ (.inl e); omega
            · have := dj (kk + 4) 0 o1 ⟨_, _, _, HY.out.2.2, .inl rfl⟩ (.inr e); omega
            · have := dj (kk + 4) 0 g1 ⟨_, _, _, HY.out.2.2, .inr rfl⟩ (.inl e); omega
            · have := dj (kk + 4) 0 g1 ⟨_, _, _, HY.out.2.2, .inr rfl⟩ (.inr e); omega
          have hss : 0 ≤ y.steps ∧ y.steps ≤ 100 := by
            obtain ⟨v, _, hv⟩ := HY.out.2.1.2 kk B n d Htn.out
            rw [HY.out.2.2] at hv
            exact wst_steps hv hwf
          have hst := step_any hO HY.out.1.bank hapt.1 hapt.2.1 hapt.2.2.1 hapt.2.2.2 hwf (by obtain ⟨_, _, z1, z2⟩ := hzz; dsimp only; omega) (by obtain ⟨_, _, z1, z2⟩ := hzz; dsimp only; omega) (by omega) (by omega)
          have Hst := Lib.hid hst
          have Htw := Lib.hid (tw_step HOK.out HY.out.2.1 Htn.out HY.out.2.2 hwf (by have := hzz.2.1 kk; omega))
          have Hwf2 := Lib.hid (wf_stp hwf HY.out.1.bank.rng)
          have Hs01 := Lib.hid (steps_stp (spB B n d) ws zs y)
          have lob := HY.out.1.ops.lt
          clear hO hwf hzz hapt hst hss
          dsimp only at Hst Htw Hwf2 lob
          generalize stp (spB B n d) ws zs y = r at *
          rcases Htw.out with ⟨hh0, htw⟩ | ⟨hh1, htw⟩
          · have Hh0 := Lib.hid (And.intro hh0 htw)
            clear hh0 htw
            go_wp2_with fail
            refine Hst.out.mono ?_
            rintro e wa ⟨rfl, hOa, hBa, hua⟩
            rw [Hh0.out.1]
            have HR := Lib.hid (HY.out.1.step Htn.out HY.out.2.2 hua hOa Hwf2.out hBa)
            clear hOa hBa hua Hst
            go_wp2_with fail
            go_roundw
            case rel =>
              have hz := Hzz.out
              have hs := Hs01.out
              exact ⟨k + 1, _, _, _, V, _, by go_num, by omega, by rw [HV9.out.1, HV9.out.2.1, HV9.out.2.2], HR.out, Hh0.out.2, hz.1, fun j => by have := hz.2.1 j; omega, by omega, by push_cast; omega⟩
            case measure => simp [intOf]; omega
          · have Hh1 := Lib.hid (And.intro hh1 htw)
            have mh : (r.1.how != 0) = true := by simpa using hh1
            clear hh1 htw
            go_wp2_with fail
            refine Hst.out.mono ?_
            rintro e wa ⟨rfl, hOa, hBa, hua⟩
            have HR := Lib.hid (HY.out.1.step Htn.out HY.out.2.2 hua hOa Hwf2.out hBa)
            have cb := HR.out.ops.cell (ptrs_get _ (j := kk) (by rw [Hln.out]; exact hkl2))
            have fb := HR.out.ops.frozen kk
            have lb2 := HR.out.ops.lt
            dsimp only at cb
            rw [upd_self] at cb
            change wa.cell? ⟨ob, kk, none⟩ = some (.pointer (some ⟨o1, 0, none⟩)) at cb
            have HR2 := Lib.hid (HR.out.strike kk)
            clear hOa hBa hua Hst
            go_wp2_with fail
            go_roundw
            case rel =>
              have hz := Hzz.out
              have hs := Hs01.out
              have hx2 := HR2.out
              have eX : upd (upd X kk (some (o1, g1, r.1))) kk none = upd X kk none := by
                funext j
                by_cases c : j = kk
                · rw [c, upd_self, upd_self]
                · rw [upd_ne _ _ c, upd_ne _ _ c, upd_ne _ _ c]
              try dsimp only at hx2
              rw [eX] at hx2
              exact ⟨k + 1, _, _, _, V, _, by go_num, by omega, by rw [HV9.out.1, HV9.out.2.1, HV9.out.2.2], hx2, Hh1.out.2, hz.1.mono (fun j => by by_cases c : j = kk <;> simp [c]), fun j => by
                have := hz.2.1 j
                by_cases c : j = kk
                · subst c; rw [if_pos rfl]; omega
                · rw [if_neg c]; omega, by omega, by push_cast; omega⟩
            case measure => simp [intOf]; omega
end Go.Proofs.Ytflgggfomhifeaa
