/- The document's Decode: its contract. -/
import Derived.Test.YtenbbnmhgpclkaaDoorDecM
import Derived.Deep.Cut
import Derived.Deep.CutRange
namespace Go.Proofs.YtenbbnmhgpclkaaDoor
open Go.RowKit

attribute [local go_sem] run_store_cx

theorem ownsRow_low {W W' : World} {base : Nat} {e : TypeId} {size : Nat} {v : Value} {n : Nat} {xs : List Value} (h : W.ownsRow base e size v n xs) (u : Below W.heap.size W W') : W'.ownsRow base e size v n xs := by
  refine ⟨h.1, ?_⟩
  rcases h.2 with hn | ⟨g, cap, cur, hv, hb, hg, rest⟩
  · exact .inl hn
  · exact .inr ⟨g, cap, cur, hv, hb, (u.block g (Array.getElem?_eq_some_iff.1 hg).1).trans hg, rest⟩
theorem ownsRow_far {W : World} {base : Nat} {e : TypeId} {size : Nat} {v : Value} {n : Nat} {xs : List Value} (h : W.ownsRow base e size v n xs) {g i : Nat} (u : Value) (hg : v.ownBlock ≠ some g) : (W.setCell ⟨g, i, none⟩ u).ownsRow base e size v n xs := by
  refine ⟨h.1, ?_⟩
  rcases h.2 with hn | ⟨g', cap, cur, rfl, hb, hgg, rest⟩
  · exact .inl hn
  · exact .inr ⟨g', cap, cur, rfl, hb, (Below.heap_setCell W ⟨g, i, none⟩ u g' (fun e => hg (by simp [Value.ownBlock, e]))).trans hgg, rest⟩

/-- A row of one's own, a block of words, and nothing below has turned. -/
structure RM (w1 : World) (g : Nat) (B : List Value) (v : Value) (k : Nat) (xs : List Value) (W : World) : Prop where
  own : W.ownsRow (g + 1) 44 2 v k xs
  b : Blk W g B
  bel : Below w1.heap.size w1 W
section
variable {w1 W W' : World} {g k : Nat} {B xs : List Value} {v : Value}
theorem RM.next (h : RM w1 g B v k xs W) (u : Below W.heap.size W W') : RM w1 g B v k xs W' := ⟨ownsRow_low h.own u, h.b.low u, h.bel.trans (u.mono h.bel.size)⟩
theorem RM.drew (h : RM w1 g B v k xs W) : RM w1 g B v k xs W.drew := h.next ((Below.refl _ _).drew)
theorem RM.alloc (h : RM w1 g B v k xs W) (o : Obj) : RM w1 g B v k xs (W.alloc o) := h.next ((Below.refl _ _).alloc (Nat.le_refl _) o)
theorem RM.far (h : RM w1 g B v k xs W) {g' i : Nat} (u : Value) (h1 : g ≠ g') (h2 : v.ownBlock ≠ some g') (h3 : w1.heap.size ≤ g') : RM w1 g B v k xs (W.setCell ⟨g', i, none⟩ u) := ⟨ownsRow_far h.own u h2, h.b.setFar h1 u, h.bel.setCell (p := ⟨g', i, none⟩) h3 u⟩
theorem RM.setB (h : RM w1 g B v k xs W) (i : Nat) (u : Value) (h3 : w1.heap.size ≤ g) : RM w1 g (B.set i u) v k xs (W.setCell ⟨g, i, none⟩ u) :=
  ⟨ownsRow_far h.own u (fun e => by have := (h.own.lt g e).1; omega), h.b.put i u, h.bel.setCell (p := ⟨g, i, none⟩) h3 u⟩
theorem RM.newer (h : RM w1 g B v k xs W) : v.ownBlock ≠ some W.heap.size := fun e => by have := (h.own.lt _ e).2; omega
end

theorem RM.app {w1 W w' : World} {g k k' : Nat} {B xs ys : List Value} {v v' : Value} (h : RM w1 g B v k xs W) (hg1 : w1.heap.size ≤ g) (hg : W.grownBy w' v.ownBlock) (ho : w'.ownsRow (g + 1) 44 2 v' k' ys) : RM w1 g B v' k' ys w' :=
  ⟨ho, h.b.of_block (hg.block g h.b.lt (fun e => by have := (h.own.lt g e.symm).1; omega)), h.bel.grown hg h.bel.size (fun q e => by have := (h.own.lt q e).1; omega)⟩
theorem rget2 (a n x : Nat) (w : World) (h1 : 1 ≤ n) (h2 : a + n ≤ 64) (hx : W64 x) : Calls Tryd.prog 27 #[fld a n, .int .u64 x] w (Ret (.int .u64 (gt a n x)) w) := by
  have := rget_in a n x w h1 h2 hx
  rwa [wordGet h2] at this
theorem cell_two_any (w : World) (x y : Value) (t : TypeId) (j : Nat) (u : Value) (h : [x, y][j]? = some u) : (w.alloc (.cells #[x, y] t)).cell? ((⟨w.heap.size, 0, none⟩ : Addr).add j) = some u := cell_two_new w x y t j u h
theorem wrapI_small {g : Nat} (h : g < 9223372036854775808) : IntKind.i64.wrap (g : Int) = g := IntWalk.i64_in _ (by omega)
theorem info44 : (Tryd.prog.info? 44).map (fun i => (i.zero, i.size, i.bytes)) = some (some (.agg #[.int .i64 0, .complex .f64 0 0]), 2, 24) := by kernel_rfl

set_option maxRecDepth 100000 in
set_option maxHeartbeats 1000000 in
theorem rdecode_pl (a : Option Addr) (cap : Nat) (l : List (Int × Int)) (a2 : Option Addr) (cap2 : Nat) (ws : List Nat) (w : World) (hP : Prs w.heap.size w a l) (h : plErr l ≠ 0) :
    Calls Tryd.prog 15 #[.slice a l.length cap, .slice a2 ws.length cap2] w (DecPost l ws w) := by
  have hE := dErr_pl (ws := ws) h
  have HE := Lib.hid hE
  clear hE
  have h' : (plErr l != 0) = true := by simpa using h
  have Hh := Lib.hid h
  clear h
  go_enter Tryd.func15, Tryd.ntmps15
  go_wp2_with fail
  refine (rplaces_any a _ cap l w rfl hP).mono ?_
  rintro e w1 ⟨a1, c1, rfl, hb1, hA⟩
  generalize plErr l = er at *
  go_wp2
  go_ret2
  exact DecPost.bad HE.out Hh.out hb1

set_option maxRecDepth 100000 in
set_option maxHeartbeats 1000000 in
theorem rdecode_len (a : Option Addr) (cap : Nat) (l : List (Int × Int)) (a2 : Option Addr) (cap2 : Nat) (ws : List Nat) (w : World) (hP : Prs w.heap.size w a l) (h : plErr l = 0) (h2 : (ws.length : Int) ≠ plN l) :
    Calls Tryd.prog 15 #[.slice a l.length cap, .slice a2 ws.length cap2] w (DecPost l ws w) := by
  have hE := dErr_len h h2
  have HE := Lib.hid (And.intro hE h)
  have h' : ((ws.length : Int) != plN l) = true := by simpa using h2
  clear hE h h2
  go_enter Tryd.func15, Tryd.ntmps15
  go_wp2_with fail
  refine (rplaces_any a _ cap l w rfl hP).mono ?_
  rintro e w1 ⟨a1, c1, rfl, hb1, hA⟩
  rw [HE.out.2]
  generalize plN l = nn at *
  go_wp2
  go_ret2
  exact DecPost.bad HE.out.1 (by decide) hb1

/-- At the head of the copying loop. -/
def RelRC (w1 : World) (ws : List Nat) (s11 : Value) (wr : World) : Prop :=
  ∃ k : Nat, k ≤ ws.length ∧ s11 = .int .i64 k ∧ Blk wr w1.heap.size (us (ws.take k) ++ wzeros (ws.length - k)) ∧ Below w1.heap.size w1 wr
/-- At the head of the loop over parts. -/
def RelRD (w1 : World) (l pp : List (Int × Int)) (ws : List Nat) (s9 s12 : Value) (wr : World) : Prop :=
  ∃ (k : Nat) (ls : List Nat), k ≤ l.length ∧ s12 = .int .i64 k ∧ DSt l pp ws k ls ∧ RM w1 w1.heap.size (us ls) s9 k (vcl ((dV ws l pp).take k)) wr ∧ (∃ a n c, s9 = .slice a n c)

theorem cp_set (ws : List Nat) (k x : Nat) (h : ws[k]? = some x) : (us (ws.take k) ++ wzeros (ws.length - k)).set k (.int .u64 (x : Int)) = us (ws.take (k + 1)) ++ wzeros (ws.length - (k + 1)) := by
  have hk := (List.getElem?_eq_some_iff.1 h).1
  have hl : (us (ws.take k)).length = k := by rw [us_len]; simp; omega
  rw [List.set_append_right _ _ (by omega), hl, Nat.sub_self, show ws.length - k = (ws.length - (k + 1)) + 1 by omega, List.take_add_one, h]
  simp [us, wzeros, List.replicate_succ]
theorem cp_at (ws : List Nat) (k : Nat) (h : k < ws.length) : (us (ws.take k) ++ wzeros (ws.length - k))[k]? = some (.int .u64 0) := by
  have hl : (us (ws.take k)).length = k := by rw [us_len]; simp; omega
  rw [List.getElem?_append_right (by omega), hl, Nat.sub_self, show ws.length - k = (ws.length - (k + 1)) + 1 by omega]
  simp [wzeros, List.replicate_succ]

set_option maxRecDepth 100000 in
set_option maxHeartbeats 8000000 in
theorem rdecode_in (a : Option Addr) (cap : Nat) (l : List (Int × Int)) (a2 : Option Addr) (cap2 : Nat) (ws : List Nat) (w : World) (hP : Prs w.heap.size w a l) (hW : Words w.heap.size w a2 ws) (h : plErr l = 0) (h2 : (ws.length : Int) = plN l) :
    Calls Tryd.prog 15 #[.slice a l.length cap, .slice a2 ws.length cap2] w (DecPost l ws w) := by
  obtain ⟨hn1, hl0, hl256⟩ := plN_pos h
  obtain ⟨_, _, _, hn64, hpl⟩ := plErr_take h (k := 1) (by omega) (by omega)
  have hin := plP_in h
  rw [← h2] at hn1 hn64 hin
  obtain ⟨i0, hi, hz0, hz1, hz2⟩ := info_parts info44
  have hw0 : 0 < ws.length := by omega
  have hw64 : ws.length ≤ 64 := by omega
  have hmk := make_words ws.length (by omega)
  have Hh := Lib.hid (And.intro h (And.intro h2 (And.intro hin hpl)))
  clear h hin hpl
  go_enter Tryd.func15, Tryd.ntmps15
  go_wp2_with fail
  refine (rplaces_any a _ cap l w rfl hP).mono ?_
  rintro e w1 ⟨a1, c1, rfl, hb1, hA⟩
  rw [Hh.out.1, Hh.out.2.2.2, ← h2]
  clear h2
  have hP1 := hP.next hb1
  have hW1 := hW.next hb1
  clear hP hW
  obtain ⟨x0, hx0⟩ : ∃ x, ws[0]? = some x := ⟨ws[0], List.getElem?_eq_getElem hw0⟩
  obtain ⟨_, wb, wo, rfl, hwb, _⟩ := hW1 0 x0 hx0
  have hwc : ∀ (j x : Nat), ws[j]? = some x → w1.cell? ⟨wb, wo + j, none⟩ = some (.int .u64 (x : Int)) := fun j x hj => by
    obtain ⟨_, b', o', he, _, hc⟩ := hW1 j x hj
    cases he
    exact hc
  have hww : ∀ x ∈ ws, W64 x := fun x hx => by
    obtain ⟨j, hj, rfl⟩ := List.mem_iff_getElem.1 hx
    exact (hW1 j _ (List.getElem?_eq_getElem hj)).1
  have HW := Lib.hid (And.intro hwc hww)
  clear hW1 hx0 hwc hww
  have hN := Blk.new w1 (wzeros ws.length).toArray 61
  have hB := (Below.refl w1.heap.size w1).alloc (Nat.le_refl _) (.cells (wzeros ws.length).toArray 61)
  have HN := Lib.hid (And.intro hN hB)
  clear hN hB
  generalize hppE : plP l = pp at *
  have Hpp := Lib.hid hppE
  clear hppE
  go_wp2
  go_loopw [11] (RelRC w1 ws) (fun i _ => ws.length - (intOf i).toNat)
  case atStart => exact ⟨0, by omega, rfl, HN.out.1, HN.out.2⟩
  case round =>
    obtain ⟨k, hk, rfl, hbl, hb⟩ := hrel
    clear HN hmk
    have hs := hb.size
    have hgl := hbl.lt
    by_cases hlt : k < ws.length
    · obtain ⟨x, hx⟩ : ∃ x, ws[k]? = some x := ⟨ws[k], List.getElem?_eq_getElem hlt⟩
      have hc : wr.cell? ⟨wb, wo + k, none⟩ = some (.int .u64 (x : Int)) := (hb.cell (p := ⟨wb, wo + k, none⟩) hwb).trans (HW.out.1 k x hx)
      have r0 := hbl.cell (cp_at ws k hlt)
      have z0' := hbl.frozen k
      have hki : (k : Int) < ws.length := by omega
      have Hx := Lib.hid (And.intro hx hbl)
      clear hx hbl
      go_wp2
      go_roundw
      case rel =>
        have hB := Hx.out.2.put k (.int .u64 (x : Int))
        rw [cp_set ws k x Hx.out.1] at hB
        exact ⟨k + 1, by omega, by go_num, hB, hb.setCell (p := ⟨w1.heap.size, k, none⟩) (Nat.le_refl _) _⟩
      case measure => simp [intOf]; omega
    · obtain rfl : k = ws.length := by omega
      have hbl' : Blk wr w1.heap.size (us ws) := by
        rw [Nat.sub_self, List.take_length] at hbl
        simpa [wzeros] using hbl
      have HD := Lib.hid (And.intro hbl' hb)
      clear hbl hbl' hb hs hgl hlt hk
      generalize wr = w2 at *
      go_wp2
      go_loopw [9, 12] (RelRD w1 l pp ws) (fun _ i _ => l.length - (intOf i).toNat)
      case atStart => exact ⟨0, ws, by omega, rfl, DSt.start HW.out.2, ⟨World.ownsRow_nil _ _ _ _, HD.out.1, HD.out.2⟩, ⟨_, _, _, rfl⟩⟩
      case round =>
        obtain ⟨k, ls, hk, rfl, hst, hM, ⟨av, lv, cv, rfl⟩⟩ := hrel
        clear HD
        by_cases hlt : k < l.length
        · obtain ⟨⟨kd', n'⟩, hz⟩ : ∃ z, l[k]? = some z := ⟨l[k], List.getElem?_eq_getElem hlt⟩
          obtain ⟨⟨x', y'⟩, hq⟩ : ∃ z, pp[k]? = some z := ⟨pp[k]'(by rw [Hh.out.2.2.2]; exact hlt), List.getElem?_eq_getElem _⟩
          obtain ⟨j1, j2, j3, j4, j5⟩ := Hh.out.2.2.1 k _ _ hq hz
          obtain ⟨m1, m2, _, m4, m5, m6⟩ := ok_bad j5
          obtain ⟨kd, rfl⟩ : ∃ q : Nat, kd' = q := ⟨kd'.toNat, by simp at m1; omega⟩
          obtain ⟨n, rfl⟩ : ∃ q : Nat, n' = q := ⟨n'.toNat, by simp at m5; omega⟩
          obtain ⟨x, rfl⟩ : ∃ q : Nat, x' = q := ⟨x'.toNat, by simp at j1; omega⟩
          obtain ⟨y, rfl⟩ : ∃ q : Nat, y' = q := ⟨y'.toNat, by simp at j3; omega⟩
          have hyn : y + n ≤ 64 := by simp at j4; omega
          have hn1' : 1 ≤ n := by simp at m5; omega
          have hkd : kd < 4 := by simp at m2; omega
          have hn63 : kd < 2 → n ≤ 63 := fun hk2 => by
            have : kHi kd ≤ 63 := by
              match kd, hk2 with
              | 0, _ => decide
              | 1, _ => decide
            simp at m4
            omega
          have hxw : x < ws.length := by simp at j2; omega
          obtain ⟨u, hu⟩ : ∃ u, ws[x]? = some u := ⟨ws[x], List.getElem?_eq_getElem hxw⟩
          obtain ⟨lf, hlf⟩ : ∃ u, ls[x]? = some u := ⟨ls[x]'(by rw [hst.len]; exact hxw), List.getElem?_eq_getElem _⟩
          have hu64 : W64 u := HW.out.2 u (List.mem_of_getElem? hu)
          have hlf64 : W64 lf := hst.w64 lf (List.mem_of_getElem? hlf)
          obtain ⟨pb, po, rfl, hpb, c0, c1⟩ := hP1 k _ hz
          obtain ⟨ab, ao, rfl, hab, e0, e1⟩ := hA k _ hq
          have hb := hM.bel
          have hs := hb.size
          have hS1 : SC [(ab, ao + k * 2 + 1, .int .i64 (y : Int)), (pb, po + k * 2 + 1, .int .i64 (n : Int)), (pb, po + k * 2, .int .i64 (kd : Int)), (wb, wo + x, .int .u64 (u : Int))] wr := SC.cons (SC.cons (SC.cons (SC.cons (SC.nil _) ((hb.cell (p := ⟨wb, wo + x, none⟩) hwb).trans (HW.out.1 x u hu))) ((hb.cell (p := ⟨pb, po + k * 2, none⟩) hpb).trans c0)) ((hb.cell (p := ⟨pb, po + k * 2 + 1, none⟩) hpb).trans c1)) ((hb.cell (p := ⟨ab, ao + k * 2 + 1, none⟩) hab).trans e1)
          have e0' : wr.cell? ⟨ab, ao + k * 2, none⟩ = some (.int .i64 x) := (hb.cell (p := ⟨ab, ao + k * 2, none⟩) hab).trans e0
          have hst' := hst.next hz hq hlf hyn
          have htk := dV_take (ws := ws) hz hq
          have hdv : dv1 ws ((kd : Int), (n : Int)) ((x : Int), (y : Int)) = (dvN kd y n u, dvZ kd u) := by
            unfold dv1
            simp only [Int.toNat_natCast]
            rw [List.getD_eq_getElem?_getD, hu]
            rfl
          rw [hdv] at htk
          have hlc : (us ls)[x]? = some (.int .u64 (lf : Int)) := us_at hlf
          have HR := Lib.hid (And.intro hst' (And.intro htk (And.intro hlc (And.intro hM hS1))))
          have hgl := hM.b.lt
          have hki : (k : Int) < l.length := by omega
          have hxi : (x : Int) < ws.length := by omega
          clear c0 c1 e0 e1 hst htk hdv hst' hS1 j1 j2 j3 j4 j5 m1 m2 m4 m5 m6 hz hq hu hlf hM hlc hb
          go_wp2_with fail
          have hS0 := HR.out.2.2.2.2
          clear e0'
          refine wp_region_held_drew (S := SC [(ab, ao + k * 2 + 1, .int .i64 (y : Int)), (pb, po + k * 2 + 1, .int .i64 (n : Int)), (pb, po + k * 2, .int .i64 (kd : Int)), (wb, wo + x, .int .u64 (u : Int))]) (by kernel_rfl) (hS0) (fun hHeld => ?_)
          refine wpAnyH_take (i := 0) (v := ?v57) rfl (by kernel_rfl) (by kernel_rfl) (by kernel_rfl) (fun _ _ _ h => h) (Or.inl ⟨by rfl, ?y57⟩) hHeld ?r57
          case y57 => (intro w hSw; have q0 : w.cell? ⟨ab, ao + k * 2 + 1, none⟩ = some (.int .i64 (y : Int)) := hSw (ab, ao + k * 2 + 1, .int .i64 (y : Int)) List.mem_cons_self; have q1 : w.cell? ⟨pb, po + k * 2 + 1, none⟩ = some (.int .i64 (n : Int)) := hSw (pb, po + k * 2 + 1, .int .i64 (n : Int)) (List.mem_cons_of_mem _ List.mem_cons_self); have q2 : w.cell? ⟨pb, po + k * 2, none⟩ = some (.int .i64 (kd : Int)) := hSw (pb, po + k * 2, .int .i64 (kd : Int)) (List.mem_cons_of_mem _ (List.mem_cons_of_mem _ List.mem_cons_self)); have q3 : w.cell? ⟨wb, wo + x, none⟩ = some (.int .u64 (u : Int)) := hSw (wb, wo + x, .int .u64 (u : Int)) (List.mem_cons_of_mem _ (List.mem_cons_of_mem _ (List.mem_cons_of_mem _ List.mem_cons_self))); go_simp; try with_reducible rfl)
          simp only [List.getElem_toArray, List.getElem_cons_zero, Act.put, List.setIfInBounds_toArray, List.set_cons_zero, List.set_cons_succ]
          refine wpAnyH_take (i := 1) (v := ?v58) rfl (by kernel_rfl) (by kernel_rfl) (by kernel_rfl) (fun _ _ _ h => h) (Or.inl ⟨by rfl, ?y58⟩) hHeld ?r58
          case y58 => (intro w hSw; have q0 : w.cell? ⟨ab, ao + k * 2 + 1, none⟩ = some (.int .i64 (y : Int)) := hSw (ab, ao + k * 2 + 1, .int .i64 (y : Int)) List.mem_cons_self; have q1 : w.cell? ⟨pb, po + k * 2 + 1, none⟩ = some (.int .i64 (n : Int)) := hSw (pb, po + k * 2 + 1, .int .i64 (n : Int)) (List.mem_cons_of_mem _ List.mem_cons_self); have q2 : w.cell? ⟨pb, po + k * 2, none⟩ = some (.int .i64 (kd : Int)) := hSw (pb, po + k * 2, .int .i64 (kd : Int)) (List.mem_cons_of_mem _ (List.mem_cons_of_mem _ List.mem_cons_self)); have q3 : w.cell? ⟨wb, wo + x, none⟩ = some (.int .u64 (u : Int)) := hSw (wb, wo + x, .int .u64 (u : Int)) (List.mem_cons_of_mem _ (List.mem_cons_of_mem _ (List.mem_cons_of_mem _ List.mem_cons_self))); go_simp; try with_reducible rfl)
          simp only [List.getElem_toArray, List.getElem_cons_zero, List.getElem_cons_succ, Act.put, List.setIfInBounds_toArray, List.set_cons_zero, List.set_cons_succ]
          refine wpAnyH_take (i := 2) (v := ?v59) rfl (by kernel_rfl) (by kernel_rfl) (by kernel_rfl) (fun _ _ _ h => h) (Or.inl ⟨by rfl, ?y59⟩) hHeld ?r59
          case y59 => (intro w hSw; have q0 : w.cell? ⟨ab, ao + k * 2 + 1, none⟩ = some (.int .i64 (y : Int)) := hSw (ab, ao + k * 2 + 1, .int .i64 (y : Int)) List.mem_cons_self; have q1 : w.cell? ⟨pb, po + k * 2 + 1, none⟩ = some (.int .i64 (n : Int)) := hSw (pb, po + k * 2 + 1, .int .i64 (n : Int)) (List.mem_cons_of_mem _ List.mem_cons_self); have q2 : w.cell? ⟨pb, po + k * 2, none⟩ = some (.int .i64 (kd : Int)) := hSw (pb, po + k * 2, .int .i64 (kd : Int)) (List.mem_cons_of_mem _ (List.mem_cons_of_mem _ List.mem_cons_self)); have q3 : w.cell? ⟨wb, wo + x, none⟩ = some (.int .u64 (u : Int)) := hSw (wb, wo + x, .int .u64 (u : Int)) (List.mem_cons_of_mem _ (List.mem_cons_of_mem _ (List.mem_cons_of_mem _ List.mem_cons_self))); go_simp; try with_reducible rfl)
          simp only [List.getElem_toArray, List.getElem_cons_zero, List.getElem_cons_succ, Act.put, List.setIfInBounds_toArray, List.set_cons_zero, List.set_cons_succ]
          refine wpAnyH_take (i := 3) (v := ?v60) rfl (by kernel_rfl) (by kernel_rfl) (by kernel_rfl) (fun _ _ _ h => h) (Or.inl ⟨by rfl, ?y60⟩) hHeld ?r60
          case y60 => (intro w hSw; have q0 : w.cell? ⟨ab, ao + k * 2 + 1, none⟩ = some (.int .i64 (y : Int)) := hSw (ab, ao + k * 2 + 1, .int .i64 (y : Int)) List.mem_cons_self; have q1 : w.cell? ⟨pb, po + k * 2 + 1, none⟩ = some (.int .i64 (n : Int)) := hSw (pb, po + k * 2 + 1, .int .i64 (n : Int)) (List.mem_cons_of_mem _ List.mem_cons_self); have q2 : w.cell? ⟨pb, po + k * 2, none⟩ = some (.int .i64 (kd : Int)) := hSw (pb, po + k * 2, .int .i64 (kd : Int)) (List.mem_cons_of_mem _ (List.mem_cons_of_mem _ List.mem_cons_self)); have q3 : w.cell? ⟨wb, wo + x, none⟩ = some (.int .u64 (u : Int)) := hSw (wb, wo + x, .int .u64 (u : Int)) (List.mem_cons_of_mem _ (List.mem_cons_of_mem _ (List.mem_cons_of_mem _ List.mem_cons_self))); go_simp; try with_reducible rfl)
          simp only [List.getElem_toArray, List.getElem_cons_zero, List.getElem_cons_succ, Act.put, List.setIfInBounds_toArray, List.set_cons_zero, List.set_cons_succ]
          refine wpAnyH_take (i := 4) (v := ?v61) rfl (by kernel_rfl) (by kernel_rfl) (by kernel_rfl) (fun _ _ _ h => h) (Or.inl ⟨by rfl, ?y61⟩) hHeld ?r61
          case y61 => (intro w hSw; have q0 : w.cell? ⟨ab, ao + k * 2 + 1, none⟩ = some (.int .i64 (y : Int)) := hSw (ab, ao + k * 2 + 1, .int .i64 (y : Int)) List.mem_cons_self; have q1 : w.cell? ⟨pb, po + k * 2 + 1, none⟩ = some (.int .i64 (n : Int)) := hSw (pb, po + k * 2 + 1, .int .i64 (n : Int)) (List.mem_cons_of_mem _ List.mem_cons_self); have q2 : w.cell? ⟨pb, po + k * 2, none⟩ = some (.int .i64 (kd : Int)) := hSw (pb, po + k * 2, .int .i64 (kd : Int)) (List.mem_cons_of_mem _ (List.mem_cons_of_mem _ List.mem_cons_self)); have q3 : w.cell? ⟨wb, wo + x, none⟩ = some (.int .u64 (u : Int)) := hSw (wb, wo + x, .int .u64 (u : Int)) (List.mem_cons_of_mem _ (List.mem_cons_of_mem _ (List.mem_cons_of_mem _ List.mem_cons_self))); go_simp; try with_reducible rfl)
          simp only [List.getElem_toArray, List.getElem_cons_zero, List.getElem_cons_succ, Act.put, List.setIfInBounds_toArray, List.set_cons_zero, List.set_cons_succ]
          refine wpAnyH_take (i := 5) (v := ?v62) rfl (by kernel_rfl) (by kernel_rfl) (by kernel_rfl) (fun _ _ _ h => h) (Or.inl ⟨by rfl, ?y62⟩) hHeld ?r62
          case y62 => (intro w hSw; have q0 : w.cell? ⟨ab, ao + k * 2 + 1, none⟩ = some (.int .i64 (y : Int)) := hSw (ab, ao + k * 2 + 1, .int .i64 (y : Int)) List.mem_cons_self; have q1 : w.cell? ⟨pb, po + k * 2 + 1, none⟩ = some (.int .i64 (n : Int)) := hSw (pb, po + k * 2 + 1, .int .i64 (n : Int)) (List.mem_cons_of_mem _ List.mem_cons_self); have q2 : w.cell? ⟨pb, po + k * 2, none⟩ = some (.int .i64 (kd : Int)) := hSw (pb, po + k * 2, .int .i64 (kd : Int)) (List.mem_cons_of_mem _ (List.mem_cons_of_mem _ List.mem_cons_self)); have q3 : w.cell? ⟨wb, wo + x, none⟩ = some (.int .u64 (u : Int)) := hSw (wb, wo + x, .int .u64 (u : Int)) (List.mem_cons_of_mem _ (List.mem_cons_of_mem _ (List.mem_cons_of_mem _ List.mem_cons_self))); go_simp; try with_reducible rfl)
          simp only [List.getElem_toArray, List.getElem_cons_zero, List.getElem_cons_succ, Act.put, List.setIfInBounds_toArray, List.set_cons_zero, List.set_cons_succ]
          refine wpAnyH_take (i := 6) (v := ?v63) rfl (by kernel_rfl) (by kernel_rfl) (by kernel_rfl) (fun _ _ _ h => h) (Or.inl ⟨by rfl, ?y63⟩) hHeld ?r63
          case y63 => (intro w hSw; have q0 : w.cell? ⟨ab, ao + k * 2 + 1, none⟩ = some (.int .i64 (y : Int)) := hSw (ab, ao + k * 2 + 1, .int .i64 (y : Int)) List.mem_cons_self; have q1 : w.cell? ⟨pb, po + k * 2 + 1, none⟩ = some (.int .i64 (n : Int)) := hSw (pb, po + k * 2 + 1, .int .i64 (n : Int)) (List.mem_cons_of_mem _ List.mem_cons_self); have q2 : w.cell? ⟨pb, po + k * 2, none⟩ = some (.int .i64 (kd : Int)) := hSw (pb, po + k * 2, .int .i64 (kd : Int)) (List.mem_cons_of_mem _ (List.mem_cons_of_mem _ List.mem_cons_self)); have q3 : w.cell? ⟨wb, wo + x, none⟩ = some (.int .u64 (u : Int)) := hSw (wb, wo + x, .int .u64 (u : Int)) (List.mem_cons_of_mem _ (List.mem_cons_of_mem _ (List.mem_cons_of_mem _ List.mem_cons_self))); go_simp; try with_reducible rfl)
          simp only [List.getElem_toArray, List.getElem_cons_zero, List.getElem_cons_succ, Act.put, List.setIfInBounds_toArray, List.set_cons_zero, List.set_cons_succ]
          refine wpAnyH_take (i := 7) (v := ?v64) rfl (by kernel_rfl) (by kernel_rfl) (by kernel_rfl) (fun _ _ _ h => h) (Or.inl ⟨by rfl, ?y64⟩) hHeld ?r64
          case y64 => (intro w hSw; have q0 : w.cell? ⟨ab, ao + k * 2 + 1, none⟩ = some (.int .i64 (y : Int)) := hSw (ab, ao + k * 2 + 1, .int .i64 (y : Int)) List.mem_cons_self; have q1 : w.cell? ⟨pb, po + k * 2 + 1, none⟩ = some (.int .i64 (n : Int)) := hSw (pb, po + k * 2 + 1, .int .i64 (n : Int)) (List.mem_cons_of_mem _ List.mem_cons_self); have q2 : w.cell? ⟨pb, po + k * 2, none⟩ = some (.int .i64 (kd : Int)) := hSw (pb, po + k * 2, .int .i64 (kd : Int)) (List.mem_cons_of_mem _ (List.mem_cons_of_mem _ List.mem_cons_self)); have q3 : w.cell? ⟨wb, wo + x, none⟩ = some (.int .u64 (u : Int)) := hSw (wb, wo + x, .int .u64 (u : Int)) (List.mem_cons_of_mem _ (List.mem_cons_of_mem _ (List.mem_cons_of_mem _ List.mem_cons_self))); go_simp; try with_reducible rfl)
          simp only [List.getElem_toArray, List.getElem_cons_zero, List.getElem_cons_succ, Act.put, List.setIfInBounds_toArray, List.set_cons_zero, List.set_cons_succ]
          refine wpAnyH_take (i := 8) (v := ?v65) rfl (by kernel_rfl) (by kernel_rfl) (by kernel_rfl) (fun _ _ _ h => h) (Or.inl ⟨by rfl, ?y65⟩) hHeld ?r65
          case y65 => (intro w hSw; have q0 : w.cell? ⟨ab, ao + k * 2 + 1, none⟩ = some (.int .i64 (y : Int)) := hSw (ab, ao + k * 2 + 1, .int .i64 (y : Int)) List.mem_cons_self; have q1 : w.cell? ⟨pb, po + k * 2 + 1, none⟩ = some (.int .i64 (n : Int)) := hSw (pb, po + k * 2 + 1, .int .i64 (n : Int)) (List.mem_cons_of_mem _ List.mem_cons_self); have q2 : w.cell? ⟨pb, po + k * 2, none⟩ = some (.int .i64 (kd : Int)) := hSw (pb, po + k * 2, .int .i64 (kd : Int)) (List.mem_cons_of_mem _ (List.mem_cons_of_mem _ List.mem_cons_self)); have q3 : w.cell? ⟨wb, wo + x, none⟩ = some (.int .u64 (u : Int)) := hSw (wb, wo + x, .int .u64 (u : Int)) (List.mem_cons_of_mem _ (List.mem_cons_of_mem _ (List.mem_cons_of_mem _ List.mem_cons_self))); go_simp; try with_reducible rfl)
          simp only [List.getElem_toArray, List.getElem_cons_zero, List.getElem_cons_succ, Act.put, List.setIfInBounds_toArray, List.set_cons_zero, List.set_cons_succ]
          refine wpAnyH_take (i := 9) (v := ?v66) rfl (by kernel_rfl) (by kernel_rfl) (by kernel_rfl) (fun _ _ _ h => h) (Or.inl ⟨by rfl, ?y66⟩) hHeld ?r66
          case y66 => (intro w hSw; have q0 : w.cell? ⟨ab, ao + k * 2 + 1, none⟩ = some (.int .i64 (y : Int)) := hSw (ab, ao + k * 2 + 1, .int .i64 (y : Int)) List.mem_cons_self; have q1 : w.cell? ⟨pb, po + k * 2 + 1, none⟩ = some (.int .i64 (n : Int)) := hSw (pb, po + k * 2 + 1, .int .i64 (n : Int)) (List.mem_cons_of_mem _ List.mem_cons_self); have q2 : w.cell? ⟨pb, po + k * 2, none⟩ = some (.int .i64 (kd : Int)) := hSw (pb, po + k * 2, .int .i64 (kd : Int)) (List.mem_cons_of_mem _ (List.mem_cons_of_mem _ List.mem_cons_self)); have q3 : w.cell? ⟨wb, wo + x, none⟩ = some (.int .u64 (u : Int)) := hSw (wb, wo + x, .int .u64 (u : Int)) (List.mem_cons_of_mem _ (List.mem_cons_of_mem _ (List.mem_cons_of_mem _ List.mem_cons_self))); go_simp; try with_reducible rfl)
          simp only [List.getElem_toArray, List.getElem_cons_zero, List.getElem_cons_succ, Act.put, List.setIfInBounds_toArray, List.set_cons_zero, List.set_cons_succ]
          refine wpAnyH_take (i := 10) (v := ?v67) rfl (by kernel_rfl) (by kernel_rfl) (by kernel_rfl) (fun _ _ _ h => h) (Or.inl ⟨by rfl, ?y67⟩) hHeld ?r67
          case y67 => (intro w hSw; have q0 : w.cell? ⟨ab, ao + k * 2 + 1, none⟩ = some (.int .i64 (y : Int)) := hSw (ab, ao + k * 2 + 1, .int .i64 (y : Int)) List.mem_cons_self; have q1 : w.cell? ⟨pb, po + k * 2 + 1, none⟩ = some (.int .i64 (n : Int)) := hSw (pb, po + k * 2 + 1, .int .i64 (n : Int)) (List.mem_cons_of_mem _ List.mem_cons_self); have q2 : w.cell? ⟨pb, po + k * 2, none⟩ = some (.int .i64 (kd : Int)) := hSw (pb, po + k * 2, .int .i64 (kd : Int)) (List.mem_cons_of_mem _ (List.mem_cons_of_mem _ List.mem_cons_self)); have q3 : w.cell? ⟨wb, wo + x, none⟩ = some (.int .u64 (u : Int)) := hSw (wb, wo + x, .int .u64 (u : Int)) (List.mem_cons_of_mem _ (List.mem_cons_of_mem _ (List.mem_cons_of_mem _ List.mem_cons_self))); go_simp; try with_reducible rfl)
          simp only [List.getElem_toArray, List.getElem_cons_zero, List.getElem_cons_succ, Act.put, List.setIfInBounds_toArray, List.set_cons_zero, List.set_cons_succ]
          refine wpAnyH_ready (rs := [11]) (by kernel_rfl) (by simp) (AllReadyH.cons rfl (fun K hK => ?_) AllReadyH.nil)
          go_simp
          refine hK.out _ _ (hS0.drew.alloc _) (fun hHeld => ?_)
          clear hK K
          refine wpAnyH_ready (rs := [12]) (by kernel_rfl) (by simp) (AllReadyH.cons rfl (fun K hK => ?_) AllReadyH.nil)
          go_simp
          go_wp2_with fail
          have hS2 := (hS0.alloc (.cells #[.int .i64 (y : Int), .int .i64 (n : Int)] 72)).drew
          have hM2 := (HR.out.2.2.2.1.alloc (.cells #[.int .i64 (y : Int), .int .i64 (n : Int)] 72)).drew
          have hF2 := (Blk.new wr #[.int .i64 (y : Int), .int .i64 (n : Int)] 72).drew
          have hnew2 := HR.out.2.2.2.1.newer
          refine hK.out _ _ (hS2) (fun hHeld => ?_)
          clear hK K
          refine wpAnyH_done (by kernel_rfl) ?_ _
          clear hS0
          have hfl : wr.heap.size < (wr.alloc (.cells #[.int .i64 (y : Int), .int .i64 (n : Int)] 72)).drew.heap.size := hF2.lt
          have hwbl : wb < (wr.alloc (.cells #[.int .i64 (y : Int), .int .i64 (n : Int)] 72)).drew.heap.size := by omega
          have hpbl : pb < (wr.alloc (.cells #[.int .i64 (y : Int), .int .i64 (n : Int)] 72)).drew.heap.size := by omega
          have hnv := hM2.newer
          have HX0 := Lib.hid (And.intro hM2 (And.intro hF2 hS2))
          have kc := hS2 _ (List.mem_cons_of_mem _ (List.mem_cons_of_mem _ List.mem_cons_self))
          have uc := hS2 _ (List.mem_cons_of_mem _ (List.mem_cons_of_mem _ (List.mem_cons_of_mem _ List.mem_cons_self)))
          dsimp only at kc uc
          clear hM2 hF2 hS2
          generalize (wr.alloc (.cells #[.int .i64 (y : Int), .int .i64 (n : Int)] 72)).drew = W2 at *
          have hfbg : w1.heap.size < wr.heap.size := hgl
          generalize wr.heap.size = fb at *
          have hnew := hnew2
          by_cases k3 : kd = 3
          · subst k3
            have hdvE : vcl [(dvN 3 y n u, dvZ 3 u)] = [.int .i64 0, .complex .f64 (floatOfInt .f64 (sg 32 (gt 0 32 u))) (floatOfInt .f64 (sg 32 (gt 32 32 u)))] := rfl
            go_wp2_with fail
            have hM3 := HX0.out.1.alloc (.cells #[.int .i64 0, .complex .f64 0 0] 44)
            have hF3 := HX0.out.2.1.alloc (.cells #[.int .i64 0, .complex .f64 0 0] 44)
            have hV3 := Blk.new W2 #[.int .i64 0, .complex .f64 0 0] 44
            have hU3 : SC [(wb, wo + x, .int .u64 (u : Int))] (W2.alloc (.cells #[.int .i64 0, .complex .f64 0 0] 44)) := (SC.cons (SC.nil _) uc).alloc _
            have HX := Lib.hid (And.intro hM3 (And.intro hF3 hV3))
            have hu3 := hU3 _ List.mem_cons_self
            dsimp only at hu3
            clear hM3 hF3 hV3 HX0 kc uc
            generalize W2.alloc (.cells #[.int .i64 0, .complex .f64 0 0] 44) = W3 at *
            have hvbg : w1.heap.size < W2.heap.size ∧ fb < W2.heap.size ∧ wb < W2.heap.size := by omega
            clear hfl hwbl hpbl
            generalize W2.heap.size = vb at *
            obtain ⟨hvb1, hvb2, hvb3⟩ := hvbg
            refine (rsigned_in 0 32 u W3 (by omega) (by omega) hu64).mono ?_
            rintro e w4 ⟨rfl, hb4⟩
            have hM4 := HX.out.1.next hb4
            have hF4 := HX.out.2.1.low hb4
            have hV4 := HX.out.2.2.low hb4
            have hu4 := (hb4.cell (p := ⟨wb, wo + x, none⟩) (World.block_lt_of_cell? W3 _ hu3)).trans hu3
            clear hb4 HX hu3
            go_wp2_with fail
            refine (rsigned_in 32 32 u w4 (by omega) (by omega) hu64).mono ?_
            rintro e w5 ⟨rfl, hb5⟩
            have hM5 := hM4.next hb5
            have hF5 := hF4.low hb5
            have hV5 := hV4.low hb5
            have r51 := hV5.cell (i := 1) rfl
            have z51 := hV5.frozen 1
            clear hb5 hM4 hF4 hV4 hu4
            have hM6 := hM5.far (g' := vb) (i := 1) (.complex .f64 (floatOfInt .f64 (sg 32 (gt 0 32 u))) (floatOfInt .f64 (sg 32 (gt 32 32 u)))) (by omega) hnv (by omega)
            have hF6 := hF5.setFar (p := ⟨vb, 1, none⟩) (by dsimp only; omega) (.complex .f64 (floatOfInt .f64 (sg 32 (gt 0 32 u))) (floatOfInt .f64 (sg 32 (gt 32 32 u))))
            have hV6 := hV5.put 1 (.complex .f64 (floatOfInt .f64 (sg 32 (gt 0 32 u))) (floatOfInt .f64 (sg 32 (gt 32 32 u))))
            have HZ := Lib.hid (And.intro hM6 (And.intro hF6 hV6))
            clear hM6 hF6 hV6 hM5 hF5 hV5
            go_upto_region 26 with (fail)
            generalize w5.setCell ⟨vb, 1, none⟩ (.complex .f64 (floatOfInt .f64 (sg 32 (gt 0 32 u))) (floatOfInt .f64 (sg 32 (gt 32 32 u)))) = W6 at *
            have v0 := HZ.out.2.2.cell (i := 0) rfl
            have v1 := HZ.out.2.2.cell (i := 1) rfl
            have hml : k + 1 ≤ maxLen := by
              have : 400 ≤ maxLen := by decide
              omega
            go_wp2_with (at_builtin; refine wpList_append_own _ rfl _ _ 38 rfl (w1.heap.size + 1) 44 i0 (.agg #[.int .i64 0, .complex .f64 0 0]) 2 24 Tryd.underlying38 hi hz0 hz1 hz2 rfl (by decide) (.slice av lv cv) k _ rfl (HZ.out.1.alloc _).own ⟨W6.heap.size, 0, none⟩ 1 1 [.int .i64 0, .complex .f64 (floatOfInt .f64 (sg 32 (gt 0 32 u))) (floatOfInt .f64 (sg 32 (gt 32 32 u)))] rfl rfl (cell_two_any _ _ _ _) (by simp [Value.oneCell']) hml (by omega) (by have := HZ.out.1.bel.size; simp; omega) ?_; intro v' w7 hown' hgrow _; obtain ⟨g7, c7, rfl⟩ := ownsRow_succ hown'; have hM7 := (HZ.out.1.alloc _).app (Nat.le_refl _) hgrow hown'; have hF7 : Blk w7 fb [.int .i64 (y : Int), .int .i64 (n : Int)] := (HZ.out.2.1.alloc _).of_block (hgrow.block fb (HZ.out.2.1.alloc _).lt (fun e => hnew e.symm)); clear hgrow hown')
            have hS27 : SC [(fb, 0, .int .i64 (y : Int)), (fb, 1, .int .i64 (n : Int))] w7 := SC.cons (SC.cons (SC.nil _) (hF7.cell (i := 1) rfl)) (hF7.cell (i := 0) rfl)
            have r7 := hM7.b.cell HR.out.2.2.1
            have HY := Lib.hid (And.intro hM7 hF7)
            clear hM7 hF7 v0 v1
            go_wp2_with fail
            refine wp_region_held_drew (S := SC [(fb, 0, .int .i64 (y : Int)), (fb, 1, .int .i64 (n : Int))]) (by kernel_rfl) (hS27) (fun hHeld => ?_)
            refine wpAnyH_take (i := 0) (v := ?v1) rfl (by kernel_rfl) (by kernel_rfl) (by kernel_rfl) (fun _ _ _ h => h) (Or.inl ⟨by rfl, ?y1⟩) hHeld ?r1
            case y1 => (intro w hSw; have q0 : w.cell? ⟨fb, 0, none⟩ = some (.int .i64 (y : Int)) := hSw (fb, 0, .int .i64 (y : Int)) List.mem_cons_self; have q1 : w.cell? ⟨fb, 1, none⟩ = some (.int .i64 (n : Int)) := hSw (fb, 1, .int .i64 (n : Int)) (List.mem_cons_of_mem _ List.mem_cons_self); go_simp; try with_reducible rfl)
            simp only [List.getElem_toArray, List.getElem_cons_zero, Act.put, List.setIfInBounds_toArray, List.set_cons_zero, List.set_cons_succ]
            refine wpAnyH_take (i := 1) (v := ?v2) rfl (by kernel_rfl) (by kernel_rfl) (by kernel_rfl) (fun _ _ _ h => h) (Or.inl ⟨by rfl, ?y2⟩) hHeld ?r2
            case y2 => (intro w hSw; have q0 : w.cell? ⟨fb, 0, none⟩ = some (.int .i64 (y : Int)) := hSw (fb, 0, .int .i64 (y : Int)) List.mem_cons_self; have q1 : w.cell? ⟨fb, 1, none⟩ = some (.int .i64 (n : Int)) := hSw (fb, 1, .int .i64 (n : Int)) (List.mem_cons_of_mem _ List.mem_cons_self); go_simp; try with_reducible rfl)
            simp only [List.getElem_toArray, List.getElem_cons_zero, List.getElem_cons_succ, Act.put, List.setIfInBounds_toArray, List.set_cons_zero, List.set_cons_succ]
            refine wpAnyH_take (i := 2) (v := ?v3) rfl (by kernel_rfl) (by kernel_rfl) (by kernel_rfl) (fun _ _ _ h => h) (Or.inl ⟨by rfl, ?y3⟩) hHeld ?r3
            case y3 => (intro w hSw; have q0 : w.cell? ⟨fb, 0, none⟩ = some (.int .i64 (y : Int)) := hSw (fb, 0, .int .i64 (y : Int)) List.mem_cons_self; have q1 : w.cell? ⟨fb, 1, none⟩ = some (.int .i64 (n : Int)) := hSw (fb, 1, .int .i64 (n : Int)) (List.mem_cons_of_mem _ List.mem_cons_self); go_simp; try with_reducible rfl)
            simp only [List.getElem_toArray, List.getElem_cons_zero, List.getElem_cons_succ, Act.put, List.setIfInBounds_toArray, List.set_cons_zero, List.set_cons_succ]
            refine wpAnyH_take (i := 3) (v := ?v4) rfl (by kernel_rfl) (by kernel_rfl) (by kernel_rfl) (fun _ _ _ h => h) (Or.inl ⟨by rfl, ?y4⟩) hHeld ?r4
            case y4 => (intro w hSw; have q0 : w.cell? ⟨fb, 0, none⟩ = some (.int .i64 (y : Int)) := hSw (fb, 0, .int .i64 (y : Int)) List.mem_cons_self; have q1 : w.cell? ⟨fb, 1, none⟩ = some (.int .i64 (n : Int)) := hSw (fb, 1, .int .i64 (n : Int)) (List.mem_cons_of_mem _ List.mem_cons_self); go_simp; try with_reducible rfl)
            simp only [List.getElem_toArray, List.getElem_cons_zero, List.getElem_cons_succ, Act.put, List.setIfInBounds_toArray, List.set_cons_zero, List.set_cons_succ]
            refine wpAnyH_take (i := 4) (v := ?v5) rfl (by kernel_rfl) (by kernel_rfl) (by kernel_rfl) (fun _ _ _ h => h) (Or.inl ⟨by rfl, ?y5⟩) hHeld ?r5
            case y5 => (intro w hSw; have q0 : w.cell? ⟨fb, 0, none⟩ = some (.int .i64 (y : Int)) := hSw (fb, 0, .int .i64 (y : Int)) List.mem_cons_self; have q1 : w.cell? ⟨fb, 1, none⟩ = some (.int .i64 (n : Int)) := hSw (fb, 1, .int .i64 (n : Int)) (List.mem_cons_of_mem _ List.mem_cons_self); go_simp; try with_reducible rfl)
            simp only [List.getElem_toArray, List.getElem_cons_zero, List.getElem_cons_succ, Act.put, List.setIfInBounds_toArray, List.set_cons_zero, List.set_cons_succ]
            refine wpAnyH_take (i := 5) (v := ?v6) rfl (by kernel_rfl) (by kernel_rfl) (by kernel_rfl) (fun _ _ _ h => h) (Or.inl ⟨by rfl, ?y6⟩) hHeld ?r6
            case y6 => (intro w hSw; have q0 : w.cell? ⟨fb, 0, none⟩ = some (.int .i64 (y : Int)) := hSw (fb, 0, .int .i64 (y : Int)) List.mem_cons_self; have q1 : w.cell? ⟨fb, 1, none⟩ = some (.int .i64 (n : Int)) := hSw (fb, 1, .int .i64 (n : Int)) (List.mem_cons_of_mem _ List.mem_cons_self); go_simp; try with_reducible rfl)
            simp only [List.getElem_toArray, List.getElem_cons_zero, List.getElem_cons_succ, Act.put, List.setIfInBounds_toArray, List.set_cons_zero, List.set_cons_succ]
            refine wpAnyH_ready (rs := [6]) (by kernel_rfl) (by simp) (AllReadyH.cons rfl (fun K hK => ?_) AllReadyH.nil)
            go_simp
            refine hK.out _ _ (hS27.drew) (fun hHeld => ?_)
            clear hK K
            refine wpAnyH_ready (rs := [7]) (by kernel_rfl) (by simp) (AllReadyH.cons rfl (fun K hK => ?_) AllReadyH.nil)
            go_simp
            refine (rput_in y n lf 0 _ hn1' hyn hlf64 (Nat.zero_le _)).mono ?_
            rintro e w8 ⟨rfl, hb8⟩
            have hS8 := hS27.drew.next hb8
            have hM8 := HY.out.1.drew.next hb8
            have r8 := hM8.b.cell HR.out.2.2.1
            have z8 := hM8.b.frozen x
            go_wp2_with fail
            refine hK.out _ _ (hS8) (fun hHeld => ?_)
            clear hK K
            refine wpAnyH_take (i := 8) (v := ?v9) rfl (by kernel_rfl) (by kernel_rfl) (by kernel_rfl) (fun _ _ _ h => h) (Or.inl ⟨by rfl, ?y9⟩) hHeld ?r9
            case y9 => (intro w hSw; have q0 : w.cell? ⟨fb, 0, none⟩ = some (.int .i64 (y : Int)) := hSw (fb, 0, .int .i64 (y : Int)) List.mem_cons_self; have q1 : w.cell? ⟨fb, 1, none⟩ = some (.int .i64 (n : Int)) := hSw (fb, 1, .int .i64 (n : Int)) (List.mem_cons_of_mem _ List.mem_cons_self); go_simp; try with_reducible rfl)
            simp only [List.getElem_toArray, List.getElem_cons_zero, List.getElem_cons_succ, Act.put, List.setIfInBounds_toArray, List.set_cons_zero, List.set_cons_succ]
            refine wpAnyH_take (i := 9) (v := ?v10) rfl (by kernel_rfl) (by kernel_rfl) (by kernel_rfl) (fun _ _ _ h => h) (Or.inl ⟨by rfl, ?y10⟩) hHeld ?r10
            case y10 => (intro w hSw; have q0 : w.cell? ⟨fb, 0, none⟩ = some (.int .i64 (y : Int)) := hSw (fb, 0, .int .i64 (y : Int)) List.mem_cons_self; have q1 : w.cell? ⟨fb, 1, none⟩ = some (.int .i64 (n : Int)) := hSw (fb, 1, .int .i64 (n : Int)) (List.mem_cons_of_mem _ List.mem_cons_self); go_simp; try with_reducible rfl)
            simp only [List.getElem_toArray, List.getElem_cons_zero, List.getElem_cons_succ, Act.put, List.setIfInBounds_toArray, List.set_cons_zero, List.set_cons_succ]
            refine wpAnyH_take (i := 10) (v := ?v11) rfl (by kernel_rfl) (by kernel_rfl) (by kernel_rfl) (fun _ _ _ h => h) (Or.inl ⟨by rfl, ?y11⟩) hHeld ?r11
            case y11 => (intro w hSw; have q0 : w.cell? ⟨fb, 0, none⟩ = some (.int .i64 (y : Int)) := hSw (fb, 0, .int .i64 (y : Int)) List.mem_cons_self; have q1 : w.cell? ⟨fb, 1, none⟩ = some (.int .i64 (n : Int)) := hSw (fb, 1, .int .i64 (n : Int)) (List.mem_cons_of_mem _ List.mem_cons_self); go_simp; try with_reducible rfl)
            simp only [List.getElem_toArray, List.getElem_cons_zero, List.getElem_cons_succ, Act.put, List.setIfInBounds_toArray, List.set_cons_zero, List.set_cons_succ]
            refine wpAnyH_take (i := 11) (v := ?v12) rfl (by kernel_rfl) (by kernel_rfl) (by kernel_rfl) (fun _ _ _ h => h) (Or.inl ⟨by rfl, ?y12⟩) hHeld ?r12
            case y12 => (intro w hSw; have q0 : w.cell? ⟨fb, 0, none⟩ = some (.int .i64 (y : Int)) := hSw (fb, 0, .int .i64 (y : Int)) List.mem_cons_self; have q1 : w.cell? ⟨fb, 1, none⟩ = some (.int .i64 (n : Int)) := hSw (fb, 1, .int .i64 (n : Int)) (List.mem_cons_of_mem _ List.mem_cons_self); go_simp; try with_reducible rfl)
            simp only [List.getElem_toArray, List.getElem_cons_zero, List.getElem_cons_succ, Act.put, List.setIfInBounds_toArray, List.set_cons_zero, List.set_cons_succ]
            refine wpAnyH_ready (rs := [12]) (by kernel_rfl) (by simp) (AllReadyH.cons rfl (fun K hK => ?_) AllReadyH.nil)
            go_simp
            go_wp2_with fail
            have hS9 := hS8.set (g := w1.heap.size) (i := x) (.int .u64 ((pt y n lf 0 : Nat) : Int)) (fun c hc => by simp only [List.mem_cons, List.not_mem_nil, or_false] at hc; rcases hc with rfl | rfl <;> (dsimp only; omega))
            have hM9 := hM8.setB x (.int .u64 ((pt y n lf 0 : Nat) : Int)) (Nat.le_refl _)
            rw [us_set'] at hM9
            refine hK.out _ _ (hS9) (fun hHeld => ?_)
            clear hK K
            refine wpAnyH_done (by kernel_rfl) ?_ _
            go_wp2
            go_roundw
            case rel =>
              refine ⟨k + 1, ls.set x (pt y n lf 0), by omega, by go_num, HR.out.1, ?_, ⟨_, _, _, rfl⟩⟩
              rw [HR.out.2.1, vcl_app, hdvE]
              exact hM9
            case measure => simp [intOf]; omega
          by_cases k2 : kd = 2
          · subst k2
            have hdvE : vcl [(dvN 2 y n u, dvZ 2 u)] = [.int .i64 (sg n (gt y n u)), .complex .f64 0 0] := rfl
            go_wp2_with fail
            have hM3 := HX0.out.1.alloc (.cells #[.int .i64 0, .complex .f64 0 0] 44)
            have hF3 := HX0.out.2.1.alloc (.cells #[.int .i64 0, .complex .f64 0 0] 44)
            have hV3 := Blk.new W2 #[.int .i64 0, .complex .f64 0 0] 44
            have hU3 : SC [(wb, wo + x, .int .u64 (u : Int))] (W2.alloc (.cells #[.int .i64 0, .complex .f64 0 0] 44)) := (SC.cons (SC.nil _) uc).alloc _
            have HX := Lib.hid (And.intro hM3 (And.intro hF3 hV3))
            have hu3 := hU3 _ List.mem_cons_self
            dsimp only at hu3
            clear hM3 hF3 hV3 HX0 kc uc
            generalize W2.alloc (.cells #[.int .i64 0, .complex .f64 0 0] 44) = W3 at *
            have hvbg : w1.heap.size < W2.heap.size ∧ fb < W2.heap.size ∧ wb < W2.heap.size := by omega
            clear hfl hwbl hpbl
            generalize W2.heap.size = vb at *
            obtain ⟨hvb1, hvb2, hvb3⟩ := hvbg
            have hS19 : SC [(fb, 0, .int .i64 (y : Int)), (fb, 1, .int .i64 (n : Int)), (wb, wo + x, .int .u64 (u : Int))] W3 := SC.cons (SC.cons (SC.cons (SC.nil _) hu3) (HX.out.2.1.cell (i := 1) rfl)) (HX.out.2.1.cell (i := 0) rfl)
            refine wp_region_held_drew (S := SC [(fb, 0, .int .i64 (y : Int)), (fb, 1, .int .i64 (n : Int)), (wb, wo + x, .int .u64 (u : Int))]) (by kernel_rfl) (hS19) (fun hHeld => ?_)
            refine wpAnyH_take (i := 0) (v := ?v27) rfl (by kernel_rfl) (by kernel_rfl) (by kernel_rfl) (fun _ _ _ h => h) (Or.inl ⟨by rfl, ?y27⟩) hHeld ?r27
            case y27 => (intro w hSw; have q0 : w.cell? ⟨fb, 0, none⟩ = some (.int .i64 (y : Int)) := hSw (fb, 0, .int .i64 (y : Int)) List.mem_cons_self; have q1 : w.cell? ⟨fb, 1, none⟩ = some (.int .i64 (n : Int)) := hSw (fb, 1, .int .i64 (n : Int)) (List.mem_cons_of_mem _ List.mem_cons_self); have q2 : w.cell? ⟨wb, wo + x, none⟩ = some (.int .u64 (u : Int)) := hSw (wb, wo + x, .int .u64 (u : Int)) (List.mem_cons_of_mem _ (List.mem_cons_of_mem _ List.mem_cons_self)); go_simp; try with_reducible rfl)
            simp only [List.getElem_toArray, List.getElem_cons_zero, Act.put, List.setIfInBounds_toArray, List.set_cons_zero, List.set_cons_succ]
            refine wpAnyH_take (i := 1) (v := ?v28) rfl (by kernel_rfl) (by kernel_rfl) (by kernel_rfl) (fun _ _ _ h => h) (Or.inl ⟨by rfl, ?y28⟩) hHeld ?r28
            case y28 => (intro w hSw; have q0 : w.cell? ⟨fb, 0, none⟩ = some (.int .i64 (y : Int)) := hSw (fb, 0, .int .i64 (y : Int)) List.mem_cons_self; have q1 : w.cell? ⟨fb, 1, none⟩ = some (.int .i64 (n : Int)) := hSw (fb, 1, .int .i64 (n : Int)) (List.mem_cons_of_mem _ List.mem_cons_self); have q2 : w.cell? ⟨wb, wo + x, none⟩ = some (.int .u64 (u : Int)) := hSw (wb, wo + x, .int .u64 (u : Int)) (List.mem_cons_of_mem _ (List.mem_cons_of_mem _ List.mem_cons_self)); go_simp; try with_reducible rfl)
            simp only [List.getElem_toArray, List.getElem_cons_zero, List.getElem_cons_succ, Act.put, List.setIfInBounds_toArray, List.set_cons_zero, List.set_cons_succ]
            refine wpAnyH_take (i := 2) (v := ?v29) rfl (by kernel_rfl) (by kernel_rfl) (by kernel_rfl) (fun _ _ _ h => h) (Or.inl ⟨by rfl, ?y29⟩) hHeld ?r29
            case y29 => (intro w hSw; have q0 : w.cell? ⟨fb, 0, none⟩ = some (.int .i64 (y : Int)) := hSw (fb, 0, .int .i64 (y : Int)) List.mem_cons_self; have q1 : w.cell? ⟨fb, 1, none⟩ = some (.int .i64 (n : Int)) := hSw (fb, 1, .int .i64 (n : Int)) (List.mem_cons_of_mem _ List.mem_cons_self); have q2 : w.cell? ⟨wb, wo + x, none⟩ = some (.int .u64 (u : Int)) := hSw (wb, wo + x, .int .u64 (u : Int)) (List.mem_cons_of_mem _ (List.mem_cons_of_mem _ List.mem_cons_self)); go_simp; try with_reducible rfl)
            simp only [List.getElem_toArray, List.getElem_cons_zero, List.getElem_cons_succ, Act.put, List.setIfInBounds_toArray, List.set_cons_zero, List.set_cons_succ]
            refine wpAnyH_take (i := 3) (v := ?v30) rfl (by kernel_rfl) (by kernel_rfl) (by kernel_rfl) (fun _ _ _ h => h) (Or.inl ⟨by rfl, ?y30⟩) hHeld ?r30
            case y30 => (intro w hSw; have q0 : w.cell? ⟨fb, 0, none⟩ = some (.int .i64 (y : Int)) := hSw (fb, 0, .int .i64 (y : Int)) List.mem_cons_self; have q1 : w.cell? ⟨fb, 1, none⟩ = some (.int .i64 (n : Int)) := hSw (fb, 1, .int .i64 (n : Int)) (List.mem_cons_of_mem _ List.mem_cons_self); have q2 : w.cell? ⟨wb, wo + x, none⟩ = some (.int .u64 (u : Int)) := hSw (wb, wo + x, .int .u64 (u : Int)) (List.mem_cons_of_mem _ (List.mem_cons_of_mem _ List.mem_cons_self)); go_simp; try with_reducible rfl)
            simp only [List.getElem_toArray, List.getElem_cons_zero, List.getElem_cons_succ, Act.put, List.setIfInBounds_toArray, List.set_cons_zero, List.set_cons_succ]
            refine wpAnyH_take (i := 4) (v := ?v31) rfl (by kernel_rfl) (by kernel_rfl) (by kernel_rfl) (fun _ _ _ h => h) (Or.inl ⟨by rfl, ?y31⟩) hHeld ?r31
            case y31 => (intro w hSw; have q0 : w.cell? ⟨fb, 0, none⟩ = some (.int .i64 (y : Int)) := hSw (fb, 0, .int .i64 (y : Int)) List.mem_cons_self; have q1 : w.cell? ⟨fb, 1, none⟩ = some (.int .i64 (n : Int)) := hSw (fb, 1, .int .i64 (n : Int)) (List.mem_cons_of_mem _ List.mem_cons_self); have q2 : w.cell? ⟨wb, wo + x, none⟩ = some (.int .u64 (u : Int)) := hSw (wb, wo + x, .int .u64 (u : Int)) (List.mem_cons_of_mem _ (List.mem_cons_of_mem _ List.mem_cons_self)); go_simp; try with_reducible rfl)
            simp only [List.getElem_toArray, List.getElem_cons_zero, List.getElem_cons_succ, Act.put, List.setIfInBounds_toArray, List.set_cons_zero, List.set_cons_succ]
            refine wpAnyH_ready (rs := [5]) (by kernel_rfl) (by simp) (AllReadyH.cons rfl (fun K hK => ?_) AllReadyH.nil)
            go_simp
            refine (rsigned_in y n u _ hn1' hyn hu64).mono ?_
            rintro e w5 ⟨rfl, hb5⟩
            have hS5 := hS19.drew.next hb5
            have hM5 := HX.out.1.drew.next hb5
            have hF5 := HX.out.2.1.drew.low hb5
            have hV5 := HX.out.2.2.drew.low hb5
            have r50 := hV5.cell (i := 0) rfl
            have z50 := hV5.frozen 0
            go_wp2_with fail
            refine hK.out _ _ (hS5) (fun hHeld => ?_)
            clear hK K
            refine wpAnyH_take (i := 6) (v := ?v33) rfl (by kernel_rfl) (by kernel_rfl) (by kernel_rfl) (fun _ _ _ h => h) (Or.inl ⟨by rfl, ?y33⟩) hHeld ?r33
            case y33 => (intro w hSw; have q0 : w.cell? ⟨fb, 0, none⟩ = some (.int .i64 (y : Int)) := hSw (fb, 0, .int .i64 (y : Int)) List.mem_cons_self; have q1 : w.cell? ⟨fb, 1, none⟩ = some (.int .i64 (n : Int)) := hSw (fb, 1, .int .i64 (n : Int)) (List.mem_cons_of_mem _ List.mem_cons_self); have q2 : w.cell? ⟨wb, wo + x, none⟩ = some (.int .u64 (u : Int)) := hSw (wb, wo + x, .int .u64 (u : Int)) (List.mem_cons_of_mem _ (List.mem_cons_of_mem _ List.mem_cons_self)); go_simp; try with_reducible rfl)
            simp only [List.getElem_toArray, List.getElem_cons_zero, List.getElem_cons_succ, Act.put, List.setIfInBounds_toArray, List.set_cons_zero, List.set_cons_succ]
            refine wpAnyH_ready (rs := [7]) (by kernel_rfl) (by simp) (AllReadyH.cons rfl (fun K hK => ?_) AllReadyH.nil)
            go_simp
            go_wp2_with fail
            have hS6 := hS5.set (g := vb) (i := 0) (.int .i64 (sg n (gt y n u))) (fun c hc => by simp only [List.mem_cons, List.not_mem_nil, or_false] at hc; rcases hc with rfl | rfl | rfl <;> (dsimp only; omega))
            have hM6 := hM5.far (g' := vb) (i := 0) (.int .i64 (sg n (gt y n u))) (by omega) hnv (by omega)
            have hF6 := hF5.setFar (p := ⟨vb, 0, none⟩) (by dsimp only; omega) (.int .i64 (sg n (gt y n u)))
            have hV6 := hV5.put 0 (.int .i64 (sg n (gt y n u)))
            refine hK.out _ _ (hS6) (fun hHeld => ?_)
            clear hK K
            refine wpAnyH_done (by kernel_rfl) ?_ _
            have HZ := Lib.hid (And.intro hM6 (And.intro hF6 hV6))
            clear hM6 hF6 hV6 hS6 hS19
            generalize w5.setCell ⟨vb, 0, none⟩ (.int .i64 (sg n (gt y n u))) = W6 at *
            have v0 := HZ.out.2.2.cell (i := 0) rfl
            have v1 := HZ.out.2.2.cell (i := 1) rfl
            have hml : k + 1 ≤ maxLen := by
              have : 400 ≤ maxLen := by decide
              omega
            go_wp2_with (at_builtin; refine wpList_append_own _ rfl _ _ 38 rfl (w1.heap.size + 1) 44 i0 (.agg #[.int .i64 0, .complex .f64 0 0]) 2 24 Tryd.underlying38 hi hz0 hz1 hz2 rfl (by decide) (.slice av lv cv) k _ rfl (HZ.out.1.alloc _).own ⟨W6.heap.size, 0, none⟩ 1 1 [.int .i64 (sg n (gt y n u)), .complex .f64 0 0] rfl rfl (cell_two_any _ _ _ _) (by simp [Value.oneCell']) hml (by omega) (by have := HZ.out.1.bel.size; simp; omega) ?_; intro v' w7 hown' hgrow _; obtain ⟨g7, c7, rfl⟩ := ownsRow_succ hown'; have hM7 := (HZ.out.1.alloc _).app (Nat.le_refl _) hgrow hown'; have hF7 : Blk w7 fb [.int .i64 (y : Int), .int .i64 (n : Int)] := (HZ.out.2.1.alloc _).of_block (hgrow.block fb (HZ.out.2.1.alloc _).lt (fun e => hnew e.symm)); clear hgrow hown')
            have hS27 : SC [(fb, 0, .int .i64 (y : Int)), (fb, 1, .int .i64 (n : Int))] w7 := SC.cons (SC.cons (SC.nil _) (hF7.cell (i := 1) rfl)) (hF7.cell (i := 0) rfl)
            have r7 := hM7.b.cell HR.out.2.2.1
            have HY := Lib.hid (And.intro hM7 hF7)
            clear hM7 hF7 v0 v1
            go_wp2_with fail
            refine wp_region_held_drew (S := SC [(fb, 0, .int .i64 (y : Int)), (fb, 1, .int .i64 (n : Int))]) (by kernel_rfl) (hS27) (fun hHeld => ?_)
            refine wpAnyH_take (i := 0) (v := ?v14) rfl (by kernel_rfl) (by kernel_rfl) (by kernel_rfl) (fun _ _ _ h => h) (Or.inl ⟨by rfl, ?y14⟩) hHeld ?r14
            case y14 => (intro w hSw; have q0 : w.cell? ⟨fb, 0, none⟩ = some (.int .i64 (y : Int)) := hSw (fb, 0, .int .i64 (y : Int)) List.mem_cons_self; have q1 : w.cell? ⟨fb, 1, none⟩ = some (.int .i64 (n : Int)) := hSw (fb, 1, .int .i64 (n : Int)) (List.mem_cons_of_mem _ List.mem_cons_self); go_simp; try with_reducible rfl)
            simp only [List.getElem_toArray, List.getElem_cons_zero, Act.put, List.setIfInBounds_toArray, List.set_cons_zero, List.set_cons_succ]
            refine wpAnyH_take (i := 1) (v := ?v15) rfl (by kernel_rfl) (by kernel_rfl) (by kernel_rfl) (fun _ _ _ h => h) (Or.inl ⟨by rfl, ?y15⟩) hHeld ?r15
            case y15 => (intro w hSw; have q0 : w.cell? ⟨fb, 0, none⟩ = some (.int .i64 (y : Int)) := hSw (fb, 0, .int .i64 (y : Int)) List.mem_cons_self; have q1 : w.cell? ⟨fb, 1, none⟩ = some (.int .i64 (n : Int)) := hSw (fb, 1, .int .i64 (n : Int)) (List.mem_cons_of_mem _ List.mem_cons_self); go_simp; try with_reducible rfl)
            simp only [List.getElem_toArray, List.getElem_cons_zero, List.getElem_cons_succ, Act.put, List.setIfInBounds_toArray, List.set_cons_zero, List.set_cons_succ]
            refine wpAnyH_take (i := 2) (v := ?v16) rfl (by kernel_rfl) (by kernel_rfl) (by kernel_rfl) (fun _ _ _ h => h) (Or.inl ⟨by rfl, ?y16⟩) hHeld ?r16
            case y16 => (intro w hSw; have q0 : w.cell? ⟨fb, 0, none⟩ = some (.int .i64 (y : Int)) := hSw (fb, 0, .int .i64 (y : Int)) List.mem_cons_self; have q1 : w.cell? ⟨fb, 1, none⟩ = some (.int .i64 (n : Int)) := hSw (fb, 1, .int .i64 (n : Int)) (List.mem_cons_of_mem _ List.mem_cons_self); go_simp; try with_reducible rfl)
            simp only [List.getElem_toArray, List.getElem_cons_zero, List.getElem_cons_succ, Act.put, List.setIfInBounds_toArray, List.set_cons_zero, List.set_cons_succ]
            refine wpAnyH_take (i := 3) (v := ?v17) rfl (by kernel_rfl) (by kernel_rfl) (by kernel_rfl) (fun _ _ _ h => h) (Or.inl ⟨by rfl, ?y17⟩) hHeld ?r17
            case y17 => (intro w hSw; have q0 : w.cell? ⟨fb, 0, none⟩ = some (.int .i64 (y : Int)) := hSw (fb, 0, .int .i64 (y : Int)) List.mem_cons_self; have q1 : w.cell? ⟨fb, 1, none⟩ = some (.int .i64 (n : Int)) := hSw (fb, 1, .int .i64 (n : Int)) (List.mem_cons_of_mem _ List.mem_cons_self); go_simp; try with_reducible rfl)
            simp only [List.getElem_toArray, List.getElem_cons_zero, List.getElem_cons_succ, Act.put, List.setIfInBounds_toArray, List.set_cons_zero, List.set_cons_succ]
            refine wpAnyH_take (i := 4) (v := ?v18) rfl (by kernel_rfl) (by kernel_rfl) (by kernel_rfl) (fun _ _ _ h => h) (Or.inl ⟨by rfl, ?y18⟩) hHeld ?r18
            case y18 => (intro w hSw; have q0 : w.cell? ⟨fb, 0, none⟩ = some (.int .i64 (y : Int)) := hSw (fb, 0, .int .i64 (y : Int)) List.mem_cons_self; have q1 : w.cell? ⟨fb, 1, none⟩ = some (.int .i64 (n : Int)) := hSw (fb, 1, .int .i64 (n : Int)) (List.mem_cons_of_mem _ List.mem_cons_self); go_simp; try with_reducible rfl)
            simp only [List.getElem_toArray, List.getElem_cons_zero, List.getElem_cons_succ, Act.put, List.setIfInBounds_toArray, List.set_cons_zero, List.set_cons_succ]
            refine wpAnyH_take (i := 5) (v := ?v19) rfl (by kernel_rfl) (by kernel_rfl) (by kernel_rfl) (fun _ _ _ h => h) (Or.inl ⟨by rfl, ?y19⟩) hHeld ?r19
            case y19 => (intro w hSw; have q0 : w.cell? ⟨fb, 0, none⟩ = some (.int .i64 (y : Int)) := hSw (fb, 0, .int .i64 (y : Int)) List.mem_cons_self; have q1 : w.cell? ⟨fb, 1, none⟩ = some (.int .i64 (n : Int)) := hSw (fb, 1, .int .i64 (n : Int)) (List.mem_cons_of_mem _ List.mem_cons_self); go_simp; try with_reducible rfl)
            simp only [List.getElem_toArray, List.getElem_cons_zero, List.getElem_cons_succ, Act.put, List.setIfInBounds_toArray, List.set_cons_zero, List.set_cons_succ]
            refine wpAnyH_ready (rs := [6]) (by kernel_rfl) (by simp) (AllReadyH.cons rfl (fun K hK => ?_) AllReadyH.nil)
            go_simp
            refine hK.out _ _ (hS27.drew) (fun hHeld => ?_)
            clear hK K
            refine wpAnyH_ready (rs := [7]) (by kernel_rfl) (by simp) (AllReadyH.cons rfl (fun K hK => ?_) AllReadyH.nil)
            go_simp
            refine (rput_in y n lf 0 _ hn1' hyn hlf64 (Nat.zero_le _)).mono ?_
            rintro e w8 ⟨rfl, hb8⟩
            have hS8 := hS27.drew.next hb8
            have hM8 := HY.out.1.drew.next hb8
            have r8 := hM8.b.cell HR.out.2.2.1
            have z8 := hM8.b.frozen x
            go_wp2_with fail
            refine hK.out _ _ (hS8) (fun hHeld => ?_)
            clear hK K
            refine wpAnyH_take (i := 8) (v := ?v22) rfl (by kernel_rfl) (by kernel_rfl) (by kernel_rfl) (fun _ _ _ h => h) (Or.inl ⟨by rfl, ?y22⟩) hHeld ?r22
            case y22 => (intro w hSw; have q0 : w.cell? ⟨fb, 0, none⟩ = some (.int .i64 (y : Int)) := hSw (fb, 0, .int .i64 (y : Int)) List.mem_cons_self; have q1 : w.cell? ⟨fb, 1, none⟩ = some (.int .i64 (n : Int)) := hSw (fb, 1, .int .i64 (n : Int)) (List.mem_cons_of_mem _ List.mem_cons_self); go_simp; try with_reducible rfl)
            simp only [List.getElem_toArray, List.getElem_cons_zero, List.getElem_cons_succ, Act.put, List.setIfInBounds_toArray, List.set_cons_zero, List.set_cons_succ]
            refine wpAnyH_take (i := 9) (v := ?v23) rfl (by kernel_rfl) (by kernel_rfl) (by kernel_rfl) (fun _ _ _ h => h) (Or.inl ⟨by rfl, ?y23⟩) hHeld ?r23
            case y23 => (intro w hSw; have q0 : w.cell? ⟨fb, 0, none⟩ = some (.int .i64 (y : Int)) := hSw (fb, 0, .int .i64 (y : Int)) List.mem_cons_self; have q1 : w.cell? ⟨fb, 1, none⟩ = some (.int .i64 (n : Int)) := hSw (fb, 1, .int .i64 (n : Int)) (List.mem_cons_of_mem _ List.mem_cons_self); go_simp; try with_reducible rfl)
            simp only [List.getElem_toArray, List.getElem_cons_zero, List.getElem_cons_succ, Act.put, List.setIfInBounds_toArray, List.set_cons_zero, List.set_cons_succ]
            refine wpAnyH_take (i := 10) (v := ?v24) rfl (by kernel_rfl) (by kernel_rfl) (by kernel_rfl) (fun _ _ _ h => h) (Or.inl ⟨by rfl, ?y24⟩) hHeld ?r24
            case y24 => (intro w hSw; have q0 : w.cell? ⟨fb, 0, none⟩ = some (.int .i64 (y : Int)) := hSw (fb, 0, .int .i64 (y : Int)) List.mem_cons_self; have q1 : w.cell? ⟨fb, 1, none⟩ = some (.int .i64 (n : Int)) := hSw (fb, 1, .int .i64 (n : Int)) (List.mem_cons_of_mem _ List.mem_cons_self); go_simp; try with_reducible rfl)
            simp only [List.getElem_toArray, List.getElem_cons_zero, List.getElem_cons_succ, Act.put, List.setIfInBounds_toArray, List.set_cons_zero, List.set_cons_succ]
            refine wpAnyH_take (i := 11) (v := ?v25) rfl (by kernel_rfl) (by kernel_rfl) (by kernel_rfl) (fun _ _ _ h => h) (Or.inl ⟨by rfl, ?y25⟩) hHeld ?r25
            case y25 => (intro w hSw; have q0 : w.cell? ⟨fb, 0, none⟩ = some (.int .i64 (y : Int)) := hSw (fb, 0, .int .i64 (y : Int)) List.mem_cons_self; have q1 : w.cell? ⟨fb, 1, none⟩ = some (.int .i64 (n : Int)) := hSw (fb, 1, .int .i64 (n : Int)) (List.mem_cons_of_mem _ List.mem_cons_self); go_simp; try with_reducible rfl)
            simp only [List.getElem_toArray, List.getElem_cons_zero, List.getElem_cons_succ, Act.put, List.setIfInBounds_toArray, List.set_cons_zero, List.set_cons_succ]
            refine wpAnyH_ready (rs := [12]) (by kernel_rfl) (by simp) (AllReadyH.cons rfl (fun K hK => ?_) AllReadyH.nil)
            go_simp
            go_wp2_with fail
            have hS9 := hS8.set (g := w1.heap.size) (i := x) (.int .u64 ((pt y n lf 0 : Nat) : Int)) (fun c hc => by simp only [List.mem_cons, List.not_mem_nil, or_false] at hc; rcases hc with rfl | rfl <;> (dsimp only; omega))
            have hM9 := hM8.setB x (.int .u64 ((pt y n lf 0 : Nat) : Int)) (Nat.le_refl _)
            rw [us_set'] at hM9
            refine hK.out _ _ (hS9) (fun hHeld => ?_)
            clear hK K
            refine wpAnyH_done (by kernel_rfl) ?_ _
            go_wp2
            go_roundw
            case rel =>
              refine ⟨k + 1, ls.set x (pt y n lf 0), by omega, by go_num, HR.out.1, ?_, ⟨_, _, _, rfl⟩⟩
              rw [HR.out.2.1, vcl_app, hdvE]
              exact hM9
            case measure => simp [intOf]; omega
          have hk3 : ((kd : Int) == 3) = false := by rw [beq_eq_false_iff_ne]; omega
          have hk2 : ((kd : Int) == 2) = false := by rw [beq_eq_false_iff_ne]; omega
          have hg : gt y n u < 9223372036854775808 := Nat.lt_of_lt_of_le (gt_lt y n u) (Nat.le_trans (Nat.pow_le_pow_right (by omega) (hn63 (by omega))) (by decide))
          have hw := toI_small hg
          have hwI : IntKind.i64.wrap ((gt y n u : Nat) : Int) = ((gt y n u : Nat) : Int) := wrapI_small hg
          have Hw := Lib.hid (And.intro hw hwI)
          clear hw hwI
          have hdvE : vcl [(dvN kd y n u, dvZ kd u)] = [.int .i64 ((gt y n u : Nat) : Int), .complex .f64 0 0] := by
            have e1 : dvN kd y n u = ((gt y n u : Nat) : Int) := by unfold dvN; rw [if_neg k3, if_neg k2]
            have e2 : dvZ kd u = z0 := by unfold dvZ; rw [if_neg k3]
            rw [e1, e2]
            rfl
          have hwI := Hw.out.2
          go_wp2_with fail
          have hM3 := HX0.out.1.alloc (.cells #[.int .i64 0, .complex .f64 0 0] 44)
          have hF3 := HX0.out.2.1.alloc (.cells #[.int .i64 0, .complex .f64 0 0] 44)
          have hV3 := Blk.new W2 #[.int .i64 0, .complex .f64 0 0] 44
          have hU3 : SC [(wb, wo + x, .int .u64 (u : Int))] (W2.alloc (.cells #[.int .i64 0, .complex .f64 0 0] 44)) := (SC.cons (SC.nil _) uc).alloc _
          have HX := Lib.hid (And.intro hM3 (And.intro hF3 hV3))
          have hu3 := hU3 _ List.mem_cons_self
          dsimp only at hu3
          clear hM3 hF3 hV3 HX0 kc uc
          generalize W2.alloc (.cells #[.int .i64 0, .complex .f64 0 0] 44) = W3 at *
          have hvbg : w1.heap.size < W2.heap.size ∧ fb < W2.heap.size ∧ wb < W2.heap.size := by omega
          clear hfl hwbl hpbl
          generalize W2.heap.size = vb at *
          obtain ⟨hvb1, hvb2, hvb3⟩ := hvbg
          have hS19 : SC [(fb, 0, .int .i64 (y : Int)), (fb, 1, .int .i64 (n : Int)), (wb, wo + x, .int .u64 (u : Int))] W3 := SC.cons (SC.cons (SC.cons (SC.nil _) hu3) (HX.out.2.1.cell (i := 1) rfl)) (HX.out.2.1.cell (i := 0) rfl)
          refine wp_region_held_drew (S := SC [(fb, 0, .int .i64 (y : Int)), (fb, 1, .int .i64 (n : Int)), (wb, wo + x, .int .u64 (u : Int))]) (by kernel_rfl) (hS19) (fun hHeld => ?_)
          refine wpAnyH_take (i := 0) (v := ?v48) rfl (by kernel_rfl) (by kernel_rfl) (by kernel_rfl) (fun _ _ _ h => h) (Or.inl ⟨by rfl, ?y48⟩) hHeld ?r48
          case y48 => (intro w hSw; have q0 : w.cell? ⟨fb, 0, none⟩ = some (.int .i64 (y : Int)) := hSw (fb, 0, .int .i64 (y : Int)) List.mem_cons_self; have q1 : w.cell? ⟨fb, 1, none⟩ = some (.int .i64 (n : Int)) := hSw (fb, 1, .int .i64 (n : Int)) (List.mem_cons_of_mem _ List.mem_cons_self); have q2 : w.cell? ⟨wb, wo + x, none⟩ = some (.int .u64 (u : Int)) := hSw (wb, wo + x, .int .u64 (u : Int)) (List.mem_cons_of_mem _ (List.mem_cons_of_mem _ List.mem_cons_self)); go_simp; try with_reducible rfl)
          simp only [List.getElem_toArray, List.getElem_cons_zero, Act.put, List.setIfInBounds_toArray, List.set_cons_zero, List.set_cons_succ]
          refine wpAnyH_take (i := 1) (v := ?v49) rfl (by kernel_rfl) (by kernel_rfl) (by kernel_rfl) (fun _ _ _ h => h) (Or.inl ⟨by rfl, ?y49⟩) hHeld ?r49
          case y49 => (intro w hSw; have q0 : w.cell? ⟨fb, 0, none⟩ = some (.int .i64 (y : Int)) := hSw (fb, 0, .int .i64 (y : Int)) List.mem_cons_self; have q1 : w.cell? ⟨fb, 1, none⟩ = some (.int .i64 (n : Int)) := hSw (fb, 1, .int .i64 (n : Int)) (List.mem_cons_of_mem _ List.mem_cons_self); have q2 : w.cell? ⟨wb, wo + x, none⟩ = some (.int .u64 (u : Int)) := hSw (wb, wo + x, .int .u64 (u : Int)) (List.mem_cons_of_mem _ (List.mem_cons_of_mem _ List.mem_cons_self)); go_simp; try with_reducible rfl)
          simp only [List.getElem_toArray, List.getElem_cons_zero, List.getElem_cons_succ, Act.put, List.setIfInBounds_toArray, List.set_cons_zero, List.set_cons_succ]
          refine wpAnyH_take (i := 2) (v := ?v50) rfl (by kernel_rfl) (by kernel_rfl) (by kernel_rfl) (fun _ _ _ h => h) (Or.inl ⟨by rfl, ?y50⟩) hHeld ?r50
          case y50 => (intro w hSw; have q0 : w.cell? ⟨fb, 0, none⟩ = some (.int .i64 (y : Int)) := hSw (fb, 0, .int .i64 (y : Int)) List.mem_cons_self; have q1 : w.cell? ⟨fb, 1, none⟩ = some (.int .i64 (n : Int)) := hSw (fb, 1, .int .i64 (n : Int)) (List.mem_cons_of_mem _ List.mem_cons_self); have q2 : w.cell? ⟨wb, wo + x, none⟩ = some (.int .u64 (u : Int)) := hSw (wb, wo + x, .int .u64 (u : Int)) (List.mem_cons_of_mem _ (List.mem_cons_of_mem _ List.mem_cons_self)); go_simp; try with_reducible rfl)
          simp only [List.getElem_toArray, List.getElem_cons_zero, List.getElem_cons_succ, Act.put, List.setIfInBounds_toArray, List.set_cons_zero, List.set_cons_succ]
          refine wpAnyH_take (i := 3) (v := ?v51) rfl (by kernel_rfl) (by kernel_rfl) (by kernel_rfl) (fun _ _ _ h => h) (Or.inl ⟨by rfl, ?y51⟩) hHeld ?r51
          case y51 => (intro w hSw; have q0 : w.cell? ⟨fb, 0, none⟩ = some (.int .i64 (y : Int)) := hSw (fb, 0, .int .i64 (y : Int)) List.mem_cons_self; have q1 : w.cell? ⟨fb, 1, none⟩ = some (.int .i64 (n : Int)) := hSw (fb, 1, .int .i64 (n : Int)) (List.mem_cons_of_mem _ List.mem_cons_self); have q2 : w.cell? ⟨wb, wo + x, none⟩ = some (.int .u64 (u : Int)) := hSw (wb, wo + x, .int .u64 (u : Int)) (List.mem_cons_of_mem _ (List.mem_cons_of_mem _ List.mem_cons_self)); go_simp; try with_reducible rfl)
          simp only [List.getElem_toArray, List.getElem_cons_zero, List.getElem_cons_succ, Act.put, List.setIfInBounds_toArray, List.set_cons_zero, List.set_cons_succ]
          refine wpAnyH_take (i := 4) (v := ?v52) rfl (by kernel_rfl) (by kernel_rfl) (by kernel_rfl) (fun _ _ _ h => h) (Or.inl ⟨by rfl, ?y52⟩) hHeld ?r52
          case y52 => (intro w hSw; have q0 : w.cell? ⟨fb, 0, none⟩ = some (.int .i64 (y : Int)) := hSw (fb, 0, .int .i64 (y : Int)) List.mem_cons_self; have q1 : w.cell? ⟨fb, 1, none⟩ = some (.int .i64 (n : Int)) := hSw (fb, 1, .int .i64 (n : Int)) (List.mem_cons_of_mem _ List.mem_cons_self); have q2 : w.cell? ⟨wb, wo + x, none⟩ = some (.int .u64 (u : Int)) := hSw (wb, wo + x, .int .u64 (u : Int)) (List.mem_cons_of_mem _ (List.mem_cons_of_mem _ List.mem_cons_self)); go_simp; try with_reducible rfl)
          simp only [List.getElem_toArray, List.getElem_cons_zero, List.getElem_cons_succ, Act.put, List.setIfInBounds_toArray, List.set_cons_zero, List.set_cons_succ]
          refine wpAnyH_ready (rs := [5]) (by kernel_rfl) (by simp) (AllReadyH.cons rfl (fun K hK => ?_) AllReadyH.nil)
          go_simp
          refine (rget2 y n u _ hn1' hyn hu64).mono ?_
          rintro e w5 ⟨rfl, hb5⟩
          have hS5 := hS19.drew.next hb5
          have hM5 := HX.out.1.drew.next hb5
          have hF5 := HX.out.2.1.drew.low hb5
          have hV5 := HX.out.2.2.drew.low hb5
          have r50 := hV5.cell (i := 0) rfl
          have z50 := hV5.frozen 0
          go_wp2_with fail
          refine hK.out _ _ (hS5) (fun hHeld => ?_)
          clear hK K
          refine wpAnyH_take (i := 6) (v := .int .i64 ((gt y n u : Nat) : Int)) rfl (by kernel_rfl) (by kernel_rfl) (by kernel_rfl) (fun _ _ _ h => h) (Or.inl ⟨by rfl, ?y54⟩) hHeld ?r54
          case y54 => (intro w hSw; have q0 : w.cell? ⟨fb, 0, none⟩ = some (.int .i64 (y : Int)) := hSw (fb, 0, .int .i64 (y : Int)) List.mem_cons_self; have q1 : w.cell? ⟨fb, 1, none⟩ = some (.int .i64 (n : Int)) := hSw (fb, 1, .int .i64 (n : Int)) (List.mem_cons_of_mem _ List.mem_cons_self); have q2 : w.cell? ⟨wb, wo + x, none⟩ = some (.int .u64 (u : Int)) := hSw (wb, wo + x, .int .u64 (u : Int)) (List.mem_cons_of_mem _ (List.mem_cons_of_mem _ List.mem_cons_self)); go_simp; try with_reducible rfl)
          simp only [List.getElem_toArray, List.getElem_cons_zero, List.getElem_cons_succ, Act.put, List.setIfInBounds_toArray, List.set_cons_zero, List.set_cons_succ]
          refine wpAnyH_take (i := 7) (v := ?v55) rfl (by kernel_rfl) (by kernel_rfl) (by kernel_rfl) (fun _ _ _ h => h) (Or.inl ⟨by rfl, ?y55⟩) hHeld ?r55
          case y55 => (intro w hSw; have q0 : w.cell? ⟨fb, 0, none⟩ = some (.int .i64 (y : Int)) := hSw (fb, 0, .int .i64 (y : Int)) List.mem_cons_self; have q1 : w.cell? ⟨fb, 1, none⟩ = some (.int .i64 (n : Int)) := hSw (fb, 1, .int .i64 (n : Int)) (List.mem_cons_of_mem _ List.mem_cons_self); have q2 : w.cell? ⟨wb, wo + x, none⟩ = some (.int .u64 (u : Int)) := hSw (wb, wo + x, .int .u64 (u : Int)) (List.mem_cons_of_mem _ (List.mem_cons_of_mem _ List.mem_cons_self)); go_simp; try with_reducible rfl)
          simp only [List.getElem_toArray, List.getElem_cons_zero, List.getElem_cons_succ, Act.put, List.setIfInBounds_toArray, List.set_cons_zero, List.set_cons_succ]
          refine wpAnyH_ready (rs := [8]) (by kernel_rfl) (by simp) (AllReadyH.cons rfl (fun K hK => ?_) AllReadyH.nil)
          go_simp
          go_wp2_with fail
          have hS6 := hS5.set (g := vb) (i := 0) (.int .i64 ((gt y n u : Nat) : Int)) (fun c hc => by simp only [List.mem_cons, List.not_mem_nil, or_false] at hc; rcases hc with rfl | rfl | rfl <;> (dsimp only; omega))
          have hM6 := hM5.far (g' := vb) (i := 0) (.int .i64 ((gt y n u : Nat) : Int)) (by omega) hnv (by omega)
          have hF6 := hF5.setFar (p := ⟨vb, 0, none⟩) (by dsimp only; omega) (.int .i64 ((gt y n u : Nat) : Int))
          have hV6 := hV5.put 0 (.int .i64 ((gt y n u : Nat) : Int))
          refine hK.out _ _ (hS6) (fun hHeld => ?_)
          clear hK K
          refine wpAnyH_done (by kernel_rfl) ?_ _
          have HZ := Lib.hid (And.intro hM6 (And.intro hF6 hV6))
          clear hM6 hF6 hV6 hS6 hS19
          generalize w5.setCell ⟨vb, 0, none⟩ (.int .i64 ((gt y n u : Nat) : Int)) = W6 at *
          have v0 := HZ.out.2.2.cell (i := 0) rfl
          have v1 := HZ.out.2.2.cell (i := 1) rfl
          have hml : k + 1 ≤ maxLen := by
            have : 400 ≤ maxLen := by decide
            omega
          go_wp2_with (at_builtin; refine wpList_append_own _ rfl _ _ 38 rfl (w1.heap.size + 1) 44 i0 (.agg #[.int .i64 0, .complex .f64 0 0]) 2 24 Tryd.underlying38 hi hz0 hz1 hz2 rfl (by decide) (.slice av lv cv) k _ rfl (HZ.out.1.alloc _).own ⟨W6.heap.size, 0, none⟩ 1 1 [.int .i64 ((gt y n u : Nat) : Int), .complex .f64 0 0] rfl rfl (cell_two_any _ _ _ _) (by simp [Value.oneCell']) hml (by omega) (by have := HZ.out.1.bel.size; simp; omega) ?_; intro v' w7 hown' hgrow _; obtain ⟨g7, c7, rfl⟩ := ownsRow_succ hown'; have hM7 := (HZ.out.1.alloc _).app (Nat.le_refl _) hgrow hown'; have hF7 : Blk w7 fb [.int .i64 (y : Int), .int .i64 (n : Int)] := (HZ.out.2.1.alloc _).of_block (hgrow.block fb (HZ.out.2.1.alloc _).lt (fun e => hnew e.symm)); clear hgrow hown')
          have hS27 : SC [(fb, 0, .int .i64 (y : Int)), (fb, 1, .int .i64 (n : Int))] w7 := SC.cons (SC.cons (SC.nil _) (hF7.cell (i := 1) rfl)) (hF7.cell (i := 0) rfl)
          have r7 := hM7.b.cell HR.out.2.2.1
          have HY := Lib.hid (And.intro hM7 hF7)
          clear hM7 hF7 v0 v1
          go_wp2_with fail
          refine wp_region_held_drew (S := SC [(fb, 0, .int .i64 (y : Int)), (fb, 1, .int .i64 (n : Int))]) (by kernel_rfl) (hS27) (fun hHeld => ?_)
          refine wpAnyH_take (i := 0) (v := ?v35) rfl (by kernel_rfl) (by kernel_rfl) (by kernel_rfl) (fun _ _ _ h => h) (Or.inl ⟨by rfl, ?y35⟩) hHeld ?r35
          case y35 => (intro w hSw; have q0 : w.cell? ⟨fb, 0, none⟩ = some (.int .i64 (y : Int)) := hSw (fb, 0, .int .i64 (y : Int)) List.mem_cons_self; have q1 : w.cell? ⟨fb, 1, none⟩ = some (.int .i64 (n : Int)) := hSw (fb, 1, .int .i64 (n : Int)) (List.mem_cons_of_mem _ List.mem_cons_self); go_simp; try with_reducible rfl)
          simp only [List.getElem_toArray, List.getElem_cons_zero, Act.put, List.setIfInBounds_toArray, List.set_cons_zero, List.set_cons_succ]
          refine wpAnyH_take (i := 1) (v := ?v36) rfl (by kernel_rfl) (by kernel_rfl) (by kernel_rfl) (fun _ _ _ h => h) (Or.inl ⟨by rfl, ?y36⟩) hHeld ?r36
          case y36 => (intro w hSw; have q0 : w.cell? ⟨fb, 0, none⟩ = some (.int .i64 (y : Int)) := hSw (fb, 0, .int .i64 (y : Int)) List.mem_cons_self; have q1 : w.cell? ⟨fb, 1, none⟩ = some (.int .i64 (n : Int)) := hSw (fb, 1, .int .i64 (n : Int)) (List.mem_cons_of_mem _ List.mem_cons_self); go_simp; try with_reducible rfl)
          simp only [List.getElem_toArray, List.getElem_cons_zero, List.getElem_cons_succ, Act.put, List.setIfInBounds_toArray, List.set_cons_zero, List.set_cons_succ]
          refine wpAnyH_take (i := 2) (v := ?v37) rfl (by kernel_rfl) (by kernel_rfl) (by kernel_rfl) (fun _ _ _ h => h) (Or.inl ⟨by rfl, ?y37⟩) hHeld ?r37
          case y37 => (intro w hSw; have q0 : w.cell? ⟨fb, 0, none⟩ = some (.int .i64 (y : Int)) := hSw (fb, 0, .int .i64 (y : Int)) List.mem_cons_self; have q1 : w.cell? ⟨fb, 1, none⟩ = some (.int .i64 (n : Int)) := hSw (fb, 1, .int .i64 (n : Int)) (List.mem_cons_of_mem _ List.mem_cons_self); go_simp; try with_reducible rfl)
          simp only [List.getElem_toArray, List.getElem_cons_zero, List.getElem_cons_succ, Act.put, List.setIfInBounds_toArray, List.set_cons_zero, List.set_cons_succ]
          refine wpAnyH_take (i := 3) (v := ?v38) rfl (by kernel_rfl) (by kernel_rfl) (by kernel_rfl) (fun _ _ _ h => h) (Or.inl ⟨by rfl, ?y38⟩) hHeld ?r38
          case y38 => (intro w hSw; have q0 : w.cell? ⟨fb, 0, none⟩ = some (.int .i64 (y : Int)) := hSw (fb, 0, .int .i64 (y : Int)) List.mem_cons_self; have q1 : w.cell? ⟨fb, 1, none⟩ = some (.int .i64 (n : Int)) := hSw (fb, 1, .int .i64 (n : Int)) (List.mem_cons_of_mem _ List.mem_cons_self); go_simp; try with_reducible rfl)
          simp only [List.getElem_toArray, List.getElem_cons_zero, List.getElem_cons_succ, Act.put, List.setIfInBounds_toArray, List.set_cons_zero, List.set_cons_succ]
          refine wpAnyH_take (i := 4) (v := ?v39) rfl (by kernel_rfl) (by kernel_rfl) (by kernel_rfl) (fun _ _ _ h => h) (Or.inl ⟨by rfl, ?y39⟩) hHeld ?r39
          case y39 => (intro w hSw; have q0 : w.cell? ⟨fb, 0, none⟩ = some (.int .i64 (y : Int)) := hSw (fb, 0, .int .i64 (y : Int)) List.mem_cons_self; have q1 : w.cell? ⟨fb, 1, none⟩ = some (.int .i64 (n : Int)) := hSw (fb, 1, .int .i64 (n : Int)) (List.mem_cons_of_mem _ List.mem_cons_self); go_simp; try with_reducible rfl)
          simp only [List.getElem_toArray, List.getElem_cons_zero, List.getElem_cons_succ, Act.put, List.setIfInBounds_toArray, List.set_cons_zero, List.set_cons_succ]
          refine wpAnyH_take (i := 5) (v := ?v40) rfl (by kernel_rfl) (by kernel_rfl) (by kernel_rfl) (fun _ _ _ h => h) (Or.inl ⟨by rfl, ?y40⟩) hHeld ?r40
          case y40 => (intro w hSw; have q0 : w.cell? ⟨fb, 0, none⟩ = some (.int .i64 (y : Int)) := hSw (fb, 0, .int .i64 (y : Int)) List.mem_cons_self; have q1 : w.cell? ⟨fb, 1, none⟩ = some (.int .i64 (n : Int)) := hSw (fb, 1, .int .i64 (n : Int)) (List.mem_cons_of_mem _ List.mem_cons_self); go_simp; try with_reducible rfl)
          simp only [List.getElem_toArray, List.getElem_cons_zero, List.getElem_cons_succ, Act.put, List.setIfInBounds_toArray, List.set_cons_zero, List.set_cons_succ]
          refine wpAnyH_ready (rs := [6]) (by kernel_rfl) (by simp) (AllReadyH.cons rfl (fun K hK => ?_) AllReadyH.nil)
          go_simp
          refine hK.out _ _ (hS27.drew) (fun hHeld => ?_)
          clear hK K
          refine wpAnyH_ready (rs := [7]) (by kernel_rfl) (by simp) (AllReadyH.cons rfl (fun K hK => ?_) AllReadyH.nil)
          go_simp
          refine (rput_in y n lf 0 _ hn1' hyn hlf64 (Nat.zero_le _)).mono ?_
          rintro e w8 ⟨rfl, hb8⟩
          have hS8 := hS27.drew.next hb8
          have hM8 := HY.out.1.drew.next hb8
          have r8 := hM8.b.cell HR.out.2.2.1
          have z8 := hM8.b.frozen x
          go_wp2_with fail
          refine hK.out _ _ (hS8) (fun hHeld => ?_)
          clear hK K
          refine wpAnyH_take (i := 8) (v := ?v43) rfl (by kernel_rfl) (by kernel_rfl) (by kernel_rfl) (fun _ _ _ h => h) (Or.inl ⟨by rfl, ?y43⟩) hHeld ?r43
          case y43 => (intro w hSw; have q0 : w.cell? ⟨fb, 0, none⟩ = some (.int .i64 (y : Int)) := hSw (fb, 0, .int .i64 (y : Int)) List.mem_cons_self; have q1 : w.cell? ⟨fb, 1, none⟩ = some (.int .i64 (n : Int)) := hSw (fb, 1, .int .i64 (n : Int)) (List.mem_cons_of_mem _ List.mem_cons_self); go_simp; try with_reducible rfl)
          simp only [List.getElem_toArray, List.getElem_cons_zero, List.getElem_cons_succ, Act.put, List.setIfInBounds_toArray, List.set_cons_zero, List.set_cons_succ]
          refine wpAnyH_take (i := 9) (v := ?v44) rfl (by kernel_rfl) (by kernel_rfl) (by kernel_rfl) (fun _ _ _ h => h) (Or.inl ⟨by rfl, ?y44⟩) hHeld ?r44
          case y44 => (intro w hSw; have q0 : w.cell? ⟨fb, 0, none⟩ = some (.int .i64 (y : Int)) := hSw (fb, 0, .int .i64 (y : Int)) List.mem_cons_self; have q1 : w.cell? ⟨fb, 1, none⟩ = some (.int .i64 (n : Int)) := hSw (fb, 1, .int .i64 (n : Int)) (List.mem_cons_of_mem _ List.mem_cons_self); go_simp; try with_reducible rfl)
          simp only [List.getElem_toArray, List.getElem_cons_zero, List.getElem_cons_succ, Act.put, List.setIfInBounds_toArray, List.set_cons_zero, List.set_cons_succ]
          refine wpAnyH_take (i := 10) (v := ?v45) rfl (by kernel_rfl) (by kernel_rfl) (by kernel_rfl) (fun _ _ _ h => h) (Or.inl ⟨by rfl, ?y45⟩) hHeld ?r45
          case y45 => (intro w hSw; have q0 : w.cell? ⟨fb, 0, none⟩ = some (.int .i64 (y : Int)) := hSw (fb, 0, .int .i64 (y : Int)) List.mem_cons_self; have q1 : w.cell? ⟨fb, 1, none⟩ = some (.int .i64 (n : Int)) := hSw (fb, 1, .int .i64 (n : Int)) (List.mem_cons_of_mem _ List.mem_cons_self); go_simp; try with_reducible rfl)
          simp only [List.getElem_toArray, List.getElem_cons_zero, List.getElem_cons_succ, Act.put, List.setIfInBounds_toArray, List.set_cons_zero, List.set_cons_succ]
          refine wpAnyH_take (i := 11) (v := ?v46) rfl (by kernel_rfl) (by kernel_rfl) (by kernel_rfl) (fun _ _ _ h => h) (Or.inl ⟨by rfl, ?y46⟩) hHeld ?r46
          case y46 => (intro w hSw; have q0 : w.cell? ⟨fb, 0, none⟩ = some (.int .i64 (y : Int)) := hSw (fb, 0, .int .i64 (y : Int)) List.mem_cons_self; have q1 : w.cell? ⟨fb, 1, none⟩ = some (.int .i64 (n : Int)) := hSw (fb, 1, .int .i64 (n : Int)) (List.mem_cons_of_mem _ List.mem_cons_self); go_simp; try with_reducible rfl)
          simp only [List.getElem_toArray, List.getElem_cons_zero, List.getElem_cons_succ, Act.put, List.setIfInBounds_toArray, List.set_cons_zero, List.set_cons_succ]
          refine wpAnyH_ready (rs := [12]) (by kernel_rfl) (by simp) (AllReadyH.cons rfl (fun K hK => ?_) AllReadyH.nil)
          go_simp
          go_wp2_with fail
          have hS9 := hS8.set (g := w1.heap.size) (i := x) (.int .u64 ((pt y n lf 0 : Nat) : Int)) (fun c hc => by simp only [List.mem_cons, List.not_mem_nil, or_false] at hc; rcases hc with rfl | rfl <;> (dsimp only; omega))
          have hM9 := hM8.setB x (.int .u64 ((pt y n lf 0 : Nat) : Int)) (Nat.le_refl _)
          rw [us_set'] at hM9
          refine hK.out _ _ (hS9) (fun hHeld => ?_)
          clear hK K
          refine wpAnyH_done (by kernel_rfl) ?_ _
          go_wp2
          go_roundw
          case rel =>
            refine ⟨k + 1, ls.set x (pt y n lf 0), by omega, by go_num, HR.out.1, ?_, ⟨_, _, _, rfl⟩⟩
            rw [HR.out.2.1, vcl_app, hdvE]
            exact hM9
          case measure => simp [intOf]; omega
        · obtain rfl : k = l.length := by omega
          have hdl := hst.done
          have hll := hst.len
          have hown := hM.own
          rw [List.take_of_length_le (by rw [dV_len Hh.out.2.2.2]; omega)] at hown
          have hBf := hb1.trans (hM.bel.mono hb1.size)
          have Hx := Lib.hid (And.intro hdl (And.intro hll (And.intro hown (And.intro hM.b hBf))))
          clear hst hdl hll hown hBf hM hP1 hA hlt hk
          go_wp2
          go_loop [18] (fun i => ∃ j : Nat, j ≤ ws.length ∧ i = .int .i64 j ∧ Hid (∀ t, t < j → ls[t]? = some 0)) (fun i => ws.length - (intOf i).toNat)
          case atStart => exact ⟨0, by omega, rfl, Lib.hid (fun t ht => by omega)⟩
          case round =>
            obtain ⟨j, hj, rfl, hz⟩ := hrel
            by_cases hlt : j < ws.length
            · obtain ⟨z, hzj⟩ : ∃ z, ls[j]? = some z := ⟨ls[j]'(by rw [Hx.out.2.1]; exact hlt), List.getElem?_eq_getElem _⟩
              have hc := Hx.out.2.2.2.1.cell (us_at hzj)
              have Hzj := Lib.hid hzj
              clear hzj
              have hji : (j : Int) < ws.length := by omega
              by_cases h0 : z = 0
              · have hd0 : ((z : Int) != 0) = false := by simp [h0]
                have Hz0 := Lib.hid h0
                clear h0
                go_wp2
                go_round
                case rel =>
                  refine ⟨j + 1, by omega, by go_num, Lib.hid (fun t ht => ?_)⟩
                  by_cases h : t = j
                  · rw [h, Hzj.out, Hz0.out]
                  · exact hz.out t (by omega)
                case measure => simp [intOf]; omega
              · have hd0 : ((z : Int) != 0) = true := by simp; omega
                go_wp2
                go_ret2
                refine DecPost.bad (dErr_bit Hh.out.1 Hh.out.2.1 ?_) (by decide) Hx.out.2.2.2.2
                rw [Hpp.out, Hx.out.1, List.any_eq_true]
                exact ⟨z, List.mem_of_getElem? Hzj.out, by simpa using h0⟩
            · obtain rfl : j = ws.length := by omega
              go_wp2
              go_ret2
              have h0 : dErr l ws = 0 := dErr_ok Hh.out.1 Hh.out.2.1 (by
                rw [Hpp.out, Hx.out.1, List.any_eq_false]
                intro z hz'
                obtain ⟨t, ht, rfl⟩ := List.mem_iff_getElem.1 hz'
                have h1 := hz.out t (by rw [← Hx.out.2.1]; exact ht)
                rw [List.getElem?_eq_getElem ht] at h1
                simp at h1
                simp [h1])
              have hv := dVals_ok h0
              rw [Hpp.out] at hv
              have hO := Hx.out.2.2.1
              rw [← dV_len (ws := ws) Hh.out.2.2.2] at hO
              obtain ⟨a9, c9, hv9, hV9⟩ := owns_vls hO
              refine ⟨a9, c9, ?_, Hx.out.2.2.2.2, ?_⟩
              · rw [hv, h0, ← hv9]
                rfl
              · rw [hv]
                exact hV9
theorem rdecode_any (a : Option Addr) (len cap : Nat) (l : List (Int × Int)) (a2 : Option Addr) (len2 cap2 : Nat) (ws : List Nat) (w : World) (hl : len = l.length) (hl2 : len2 = ws.length) (hP : Prs w.heap.size w a l) (hW : Words w.heap.size w a2 ws) :
    Calls Tryd.prog 15 #[.slice a len cap, .slice a2 len2 cap2] w (DecPost l ws w) := by
  subst hl hl2
  by_cases h : plErr l = 0
  · by_cases h2 : (ws.length : Int) = plN l
    · exact rdecode_in a cap l a2 cap2 ws w hP hW h h2
    · exact rdecode_len a cap l a2 cap2 ws w hP h h2
  · exact rdecode_pl a cap l a2 cap2 ws w hP h
end Go.Proofs.YtenbbnmhgpclkaaDoor
