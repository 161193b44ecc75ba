/- config.line and config.Print: their contracts. -/
import Derived.Test.YthdchoagdipplaaDoorPrM
import Derived.Test.YthdchoagdipplaaDoorChecksW
import Derived.Deep.RegionHeld3
namespace Go.Proofs.YthdchoagdipplaaDoor
open Go.RowKit

set_option maxHeartbeats 1000000 in
theorem line_any (q : Nat) (a b c d e f : ByteArray) (w : World) (hq : Blk w q [.string a, .string b, .string c, .string d, .string e, .string f]) (hs : a.size + b.size + c.size + d.size + e.size + f.size ≤ 100000) :
    Calls Tryd.prog 36 #[.slice (some ⟨q, 0, none⟩) 6 6] w (Ret (.string (str (lin (bs a) (bs b) (bs c) (bs d) (bs e) (bs f)))) w) := by
  have hj : Lib.join ([a, b, c, d, e, f].map (·.data.toList)) (⟨#[32]⟩ : ByteArray).data.toList ++ [10] = lin (bs a) (bs b) (bs c) (bs d) (bs e) (bs f) := join6 (bs a) (bs b) (bs c) (bs d) (bs e) (bs f)
  have hjl : (Lib.join ([a, b, c, d, e, f].map (·.data.toList)) (⟨#[32]⟩ : ByteArray).data.toList).length + 1 = a.size + b.size + c.size + d.size + e.size + f.size + 6 := by
    have h1 := lin_len (bs a) (bs b) (bs c) (bs d) (bs e) (bs f)
    rw [← hj, List.length_append, bs_len, bs_len, bs_len, bs_len, bs_len, bs_len] at h1
    exact h1
  have hcells : ∀ (j : Nat) x, [a, b, c, d, e, f][j]? = some x → w.cell? ⟨q, 0 + j, none⟩ = some (.string x) := fun j x hx => by
    rw [Nat.zero_add]
    apply hq.cell
    match j, hx with
    | 0, hx | 1, hx | 2, hx | 3, hx | 4, hx | 5, hx => simp at hx; subst hx; rfl
  have HJ := Lib.hid (And.intro hj (And.intro hjl hcells))
  have hlt := hq.lt
  clear hj hjl hcells hq
  go_enter Tryd.func36, Tryd.ntmps36
  go_wp2_with fail
  refine (Tryd.strings_Join q 0 6 [a, b, c, d, e, f] ⟨#[32]⟩ w HJ.out.2.2 hlt (by simp) (by simp) (by have h := HJ.out.2.1; exact Nat.le_trans (Nat.le_succ _) (Nat.le_trans (Nat.le_of_eq h) (by omega)))).mono ?_
  rintro e' w1 ⟨rfl, hb1⟩
  have h1 := HJ.out.1
  have h2 := HJ.out.2.1
  generalize Lib.join ([a, b, c, d, e, f].map (·.data.toList)) (⟨#[32]⟩ : ByteArray).data.toList = jn at *
  have hcat := str_cat jn [10]
  have hsz : ¬ (9223372036854775807 < (str jn).size + 1) := by rw [str_size]; omega
  rw [h1] at hcat
  have Hc := Lib.hid (And.intro hb1 hcat)
  have hcat' : (⟨jn.toArray⟩ : ByteArray) ++ (⟨#[10]⟩ : ByteArray) = str (lin (bs a) (bs b) (bs c) (bs d) (bs e) (bs f)) := hcat
  have hsz' : ¬ (9223372036854775807 < (⟨jn.toArray⟩ : ByteArray).size + 1) := hsz
  clear h1 h2 HJ hcat hsz hb1
  generalize lin (bs a) (bs b) (bs c) (bs d) (bs e) (bs f) = ln at *
  generalize (⟨jn.toArray⟩ : ByteArray) = jb at *
  go_wp2
  go_ret
  exact ⟨by first | rfl | (rw [← hcat']; rfl), Hc.out.1⟩

/-- What Print tells. -/
def prT (T : Int) (l : List Tp) (R L : Int) : List UInt8 := if (chk T l R L).2 = 0 then txt T l R L else []
/-- At the head of Print's loop. -/
def RelPr (w : World) (T R L : Int) (l : List Tp) (s5 i : Value) (wr : World) : Prop :=
  ∃ k : Nat, k ≤ l.length ∧ i = .int .i64 k ∧ s5 = .string (str (hdT T R L ++ txT (l.take k))) ∧ Below w.heap.size w wr
/-- Three cells of a topic. -/
def T3 (D : Nat) (t : Tp) (w : World) : Prop := Blk w D [.string t.1, .int .i64 t.2.1, .int .i64 t.2.2]

set_option maxRecDepth 100000 in
set_option maxHeartbeats 2000000 in
theorem print_any (T R L : Int) (a : Option Addr) (cap : Nat) (l : List Tp) (w : World) (hT : Tps w.heap.size w a l) (hM : ML w) (hs : ∀ t ∈ l, t.1.size ≤ 100000) :
    Calls Tryd.prog 20 #[cfg T a l.length cap R L] w (Ret (.tuple #[.string (str (prT T l R L)), .int .i64 (chk T l R L).2]) w) := by
  have X0 := Lib.hid (Bx.new w T R L a cap l hT hM)
  have c0 := X0.out.1.cell (i := 0) rfl
  have c1 := X0.out.1.cell (i := 1) rfl
  have c2 := X0.out.1.cell (i := 2) rfl
  have c3 := X0.out.1.cell (i := 3) rfl
  have HT0 := Lib.hid hT
  clear hT hM
  go_enter Tryd.func20, Tryd.ntmps20
  go_wp2_with fail
  generalize w.alloc (.cells #[.int .i64 T, .slice a l.length cap, .int .i64 R, .int .i64 L] 24) = W0 at *
  refine (check_any T R L a cap l W0 X0.out.2.1 hs).mono ?_
  rintro e W1 ⟨rfl, hb1⟩
  by_cases hy : (chk T l R L).2 = 0
  · have hz := chk_zero hy
    obtain ⟨hh, htp⟩ := chk_ok hy
    obtain ⟨t1, t2, n1, n2, r1, r2, g1, g2⟩ := hd_ok hh
    have hpr : prT T l R L = txt T l R L := by unfold prT; rw [if_pos hy]
    rw [hz]
    have Hz := Lib.hid hz
    have HP := Lib.hid (And.intro hpr htp)
    have X1 := Lib.hid ((X0.out.next hb1).alloc (.cells #[.int .i64 0, .int .i64 0] 29))
    have hF := Blk.new W1 #[.int .i64 0, .int .i64 0] 29
    have f0 := hF.cell (i := 0) rfl
    have f1 := hF.cell (i := 1) rfl
    clear hz hh htp hpr hy hb1 X0 hF c0 c1 c2 c3
    have heq : ∀ w, (Op.equalIn 10000 29 (.agg #[.int .i64 0, .int .i64 0]) (.agg #[.int .i64 0, .int .i64 0])).run Tryd.prog w = .ok true w := fun w => by
      rw [eq29]
      rfl
    obtain ⟨tn, rfl⟩ : ∃ n : Nat, T = n := ⟨T.toNat, by omega⟩
    obtain ⟨rn, rfl⟩ : ∃ n : Nat, R = n := ⟨R.toNat, by omega⟩
    obtain ⟨gn, rfl⟩ : ∃ n : Nat, L = n := ⟨L.toNat, by omega⟩
    have i1 := Lib.hid (fun w => Tryd.strconv_Itoa_small tn (by omega) w)
    have i2 := Lib.hid (fun w => Tryd.strconv_Itoa_small rn (by omega) w)
    have i3 := Lib.hid (fun w => Tryd.strconv_Itoa_small gn (by omega) w)
    rw [dd_eq (by omega)] at i1 i2 i3
    go_wp2_with fail
    generalize hW2 : W1.alloc (.cells #[.int .i64 0, .int .i64 0] 29) = W2 at *
    have X2 : Hid (Bx w w.heap.size tn rn gn a cap l W2.drew) := Lib.hid ⟨X1.out.1, X1.out.2.1, X1.out.2.2.1, belN X1.out.2.2.2 1⟩
    clear X1 f0 f1 hW2
    refine wp_region_held_drew (S := fun w' => Blk w' w.heap.size (cfl tn a l.length cap rn gn)) (by kernel_rfl) (X2.out.1) (fun hHeld => ?_)
    refine wpAnyH_take (i := 0) (v := ?v14) rfl (by kernel_rfl) (by kernel_rfl) (by kernel_rfl) (fun _ _ _ h => h) (Or.inl ⟨by rfl, ?y14⟩) hHeld ?r14
    case y14 => (intro w hSw; have c0 := hSw.cell (i := 0) rfl; have c2 := hSw.cell (i := 2) rfl; have c3 := hSw.cell (i := 3) rfl; clear hSw; go_simp; try with_reducible rfl)
    simp only [List.getElem_toArray, List.getElem_cons_zero, Act.put, List.setIfInBounds_toArray, List.set_cons_zero, List.set_cons_succ]
    refine wpAnyH_take (i := 1) (v := ?v15) rfl (by kernel_rfl) (by kernel_rfl) (by kernel_rfl) (fun _ _ _ h => h) (Or.inl ⟨by rfl, ?y15⟩) hHeld ?r15
    case y15 => (intro w hSw; have c0 := hSw.cell (i := 0) rfl; have c2 := hSw.cell (i := 2) rfl; have c3 := hSw.cell (i := 3) rfl; clear hSw; go_simp; try with_reducible rfl)
    simp only [List.getElem_toArray, List.getElem_cons_zero, List.getElem_cons_succ, Act.put, List.setIfInBounds_toArray, List.set_cons_zero, List.set_cons_succ]
    refine wpAnyH_take (i := 3) (v := ?v16) rfl (by kernel_rfl) (by kernel_rfl) (by kernel_rfl) (fun _ _ _ h => h) (Or.inl ⟨by rfl, ?y16⟩) hHeld ?r16
    case y16 => (intro w hSw; have c0 := hSw.cell (i := 0) rfl; have c2 := hSw.cell (i := 2) rfl; have c3 := hSw.cell (i := 3) rfl; clear hSw; go_simp; try with_reducible rfl)
    simp only [List.getElem_toArray, List.getElem_cons_zero, List.getElem_cons_succ, Act.put, List.setIfInBounds_toArray, List.set_cons_zero, List.set_cons_succ]
    refine wpAnyH_take (i := 4) (v := ?v17) rfl (by kernel_rfl) (by kernel_rfl) (by kernel_rfl) (fun _ _ _ h => h) (Or.inl ⟨by rfl, ?y17⟩) hHeld ?r17
    case y17 => (intro w hSw; have c0 := hSw.cell (i := 0) rfl; have c2 := hSw.cell (i := 2) rfl; have c3 := hSw.cell (i := 3) rfl; clear hSw; go_simp; try with_reducible rfl)
    simp only [List.getElem_toArray, List.getElem_cons_zero, List.getElem_cons_succ, Act.put, List.setIfInBounds_toArray, List.set_cons_zero, List.set_cons_succ]
    refine wpAnyH_take (i := 6) (v := ?v18) rfl (by kernel_rfl) (by kernel_rfl) (by kernel_rfl) (fun _ _ _ h => h) (Or.inl ⟨by rfl, ?y18⟩) hHeld ?r18
    case y18 => (intro w hSw; have c0 := hSw.cell (i := 0) rfl; have c2 := hSw.cell (i := 2) rfl; have c3 := hSw.cell (i := 3) rfl; clear hSw; go_simp; try with_reducible rfl)
    simp only [List.getElem_toArray, List.getElem_cons_zero, List.getElem_cons_succ, Act.put, List.setIfInBounds_toArray, List.set_cons_zero, List.set_cons_succ]
    refine wpAnyH_take (i := 7) (v := ?v19) rfl (by kernel_rfl) (by kernel_rfl) (by kernel_rfl) (fun _ _ _ h => h) (Or.inl ⟨by rfl, ?y19⟩) hHeld ?r19
    case y19 => (intro w hSw; have c0 := hSw.cell (i := 0) rfl; have c2 := hSw.cell (i := 2) rfl; have c3 := hSw.cell (i := 3) rfl; clear hSw; go_simp; try with_reducible rfl)
    simp only [List.getElem_toArray, List.getElem_cons_zero, List.getElem_cons_succ, Act.put, List.setIfInBounds_toArray, List.set_cons_zero, List.set_cons_succ]
    refine wpAnyH_ready (rs := [2]) (by kernel_rfl) (by simp) (AllReadyH.cons rfl (fun K hK => ?_) AllReadyH.nil)
    go_simp
    refine (i1.out _).mono ?_
    rintro e w' ⟨rfl, rfl⟩
    go_wp2_with fail
    refine hK.out _ _ (X2.out.1) (fun hHeld => ?_)
    clear hK K
    refine wpAnyH_ready (rs := [5]) (by kernel_rfl) (by simp) (AllReadyH.cons rfl (fun K hK => ?_) AllReadyH.nil)
    go_simp
    refine (i2.out _).mono ?_
    rintro e w' ⟨rfl, rfl⟩
    go_wp2_with fail
    refine hK.out _ _ (X2.out.1) (fun hHeld => ?_)
    clear hK K
    refine wpAnyH_ready (rs := [8]) (by kernel_rfl) (by simp) (AllReadyH.cons rfl (fun K hK => ?_) AllReadyH.nil)
    go_simp
    refine (i3.out _).mono ?_
    rintro e w' ⟨rfl, rfl⟩
    go_wp2_with fail
    refine hK.out _ _ (X2.out.1) (fun hHeld => ?_)
    clear hK K
    refine wpAnyH_ready (rs := [9]) (by kernel_rfl) (by simp) (AllReadyH.cons rfl (fun K hK => ?_) AllReadyH.nil)
    go_simp
    have X3 := Lib.hid (X2.out.alloc (.cells #[.string kT, .string (str (dd2 tn)), .string kR, .string (str (dd2 rn)), .string kG, .string (str (dd2 gn))] 9))
    have hQ := Blk.new W2.drew #[.string kT, .string (str (dd2 tn)), .string kR, .string (str (dd2 rn)), .string kG, .string (str (dd2 gn))] 9
    refine hK.out _ _ (X3.out.1) (fun hHeld => ?_)
    clear hK K
    refine wpAnyH_ready (rs := [10]) (by kernel_rfl) (by simp) (AllReadyH.cons rfl (fun K hK => ?_) AllReadyH.nil)
    go_simp
    refine (line_any _ kT (str (dd2 tn)) kR (str (dd2 rn)) kG (str (dd2 gn)) _ hQ (by have h1 := dd_len tn; have h2 := dd_len rn; have h3 := dd_len gn; simp only [str_size]; show 5 + _ + 5 + _ + 3 + _ ≤ _; omega)).mono ?_
    rintro e W4 ⟨rfl, hb4⟩
    have X4 := Lib.hid (X3.out.next hb4)
    clear hb4 hQ X3
    go_wp2_with fail
    refine hK.out _ _ (X4.out.1) (fun hHeld => ?_)
    clear hK K
    refine wpAnyH_take (i := 11) (v := ?v25) rfl (by kernel_rfl) (by kernel_rfl) (by kernel_rfl) (fun _ _ _ h => h) (Or.inl ⟨by rfl, ?y25⟩) hHeld ?r25
    case y25 => (intro w hSw; have c0 := hSw.cell (i := 0) rfl; have c2 := hSw.cell (i := 2) rfl; have c3 := hSw.cell (i := 3) rfl; clear hSw; go_simp; try with_reducible rfl)
    simp only [List.getElem_toArray, List.getElem_cons_zero, List.getElem_cons_succ, Act.put, List.setIfInBounds_toArray, List.set_cons_zero, List.set_cons_succ]
    refine wpAnyH_done (by kernel_rfl) ?_ _
    have hst : lin (bs kT) (bs (str (dd2 tn))) (bs kR) (bs (str (dd2 rn))) (bs kG) (bs (str (dd2 gn))) = hdT tn rn gn := by rw [bs_str, bs_str, bs_str]; rfl
    rw [hst]
    clear hst i1 i2 i3
    have c1 := X4.out.1.cell (i := 1) rfl
    go_wp2_with fail
    go_loopw [5, 29] (RelPr w tn rn gn l) (fun _ i _ => l.length - (intOf i).toNat)
    case atStart => exact ⟨0, by omega, rfl, by simp [txT], X4.out.2.2.2⟩
    case round =>
      obtain ⟨k, hk, rfl, rfl, hB⟩ := hrel
      by_cases hkl : k < l.length
      · have k0 : (k : Int) < l.length := by omega
        obtain ⟨t, ht⟩ : ∃ t, l[k]? = some t := ⟨l[k], List.getElem?_eq_getElem hkl⟩
        have hok := HP.out.2 k t ht
        obtain ⟨o1, _, o3, o4, o5, o6⟩ := tp_ok hok
        have o2 := (nmB_len o1).2
        have htl := tpT_len hok
        have hyl : (hdT (tn : Int) (rn : Int) (gn : Int) ++ txT (l.take k)).length ≤ 3000 := by
          have q1 := hdT_len (tn : Int) (rn : Int) (gn : Int)
          have q2 := txT_len (l.take k) (fun x hx => by
            obtain ⟨j, hj, e⟩ := List.mem_take_iff_getElem.1 hx
            exact tpT_len (HP.out.2 j x (by rw [← e]; exact List.getElem?_eq_getElem _)))
          rw [List.length_append]
          rw [List.length_take] at q2
          omega
        have hst : hdT (tn : Int) (rn : Int) (gn : Int) ++ txT (l.take (k + 1)) = (hdT (tn : Int) (rn : Int) (gn : Int) ++ txT (l.take k)) ++ tpT t := by rw [(drop_at ht).2, txT_snoc, List.append_assoc]
        have hcat := str_cat (hdT (tn : Int) (rn : Int) (gn : Int) ++ txT (l.take k)) (tpT t)
        have hcat2 : str (hdT (tn : Int) (rn : Int) (gn : Int) ++ txT (l.take k)) ++ str (tpT t) = str ((hdT (tn : Int) (rn : Int) (gn : Int) ++ txT (l.take k)) ++ tpT t) := hcat
        rw [← hst] at hcat2
        have hsz : ¬ (9223372036854775807 < (str (hdT (tn : Int) (rn : Int) (gn : Int) ++ txT (l.take k))).size + (str (tpT t)).size) := by rw [str_size, str_size]; omega
        have hlx : tpT t = lin (bs kTo) (bs t.1) (bs kWo) (bs (str (dd2 t.2.1.toNat))) (bs kDe) (bs (str (dd2 t.2.2.toNat))) := by rw [bs_str, bs_str]; rfl
        have hTr := HT0.out.below hB
        obtain ⟨b, off, rfl, hbl, u0, u1, u2⟩ := hTr k t ht
        have hD : T3 wr.heap.size t (wr.alloc (.cells #[.string t.1, .int .i64 t.2.1, .int .i64 t.2.2] 45)) := Blk.new wr #[.string t.1, .int .i64 t.2.1, .int .i64 t.2.2] 45
        have hB1 := hB.alloc hB.size (.cells #[.string t.1, .int .i64 t.2.1, .int .i64 t.2.2] 45)
        obtain ⟨nm, wd, dp⟩ := t
        simp only at o1 o2 o3 o4 o5 o6
        obtain ⟨wn, rfl⟩ : ∃ n : Nat, wd = n := ⟨wd.toNat, by omega⟩
        obtain ⟨dn, rfl⟩ : ∃ n : Nat, dp = n := ⟨dp.toNat, by omega⟩
        have i1 := Lib.hid (fun w => Tryd.strconv_Itoa_small wn (by omega) w)
        have i2 := Lib.hid (fun w => Tryd.strconv_Itoa_small dn (by omega) w)
        rw [dd_eq (by omega)] at i1 i2
        rw [bs_len] at o2
        have Hst := Lib.hid (And.intro hst (And.intro hlx hB1))
        clear hst hcat hlx htl hyl hok ht hTr hB hB1
        generalize tpT (nm, (wn : Int), (dn : Int)) = ln at *
        generalize hdT (tn : Int) (rn : Int) (gn : Int) ++ txT (l.take k) = y at *
        generalize hy2 : hdT (tn : Int) (rn : Int) (gn : Int) ++ txT (l.take (k + 1)) = y2 at *
        have Hy2 := Lib.hid hy2
        clear hy2
        go_wp2_with fail
        clear c1 u0 u1 u2
        generalize hWE : wr.alloc (.cells #[.string nm, .int .i64 wn, .int .i64 dn] 45) = W at *
        have HD : Hid (T3 wr.heap.size (nm, (wn : Int), (dn : Int)) W.drew ∧ Below w.heap.size w W.drew) := Lib.hid ⟨hD, belN Hst.out.2.2 1⟩
        clear hWE hD
        generalize wr.heap.size = D at *
        refine wp_region_held_drew (S := T3 D (nm, (wn : Int), (dn : Int))) (by kernel_rfl) (HD.out.1) (fun hHeld => ?_)
        refine wpAnyH_take (i := 0) (v := ?v1) rfl (by kernel_rfl) (by kernel_rfl) (by kernel_rfl) (fun _ _ _ h => h) (Or.inl ⟨by rfl, ?y1⟩) hHeld ?r1
        case y1 => (intro w hSw; have c0 := (show Blk w _ _ from hSw).cell (i := 0) rfl; have c1 := (show Blk w _ _ from hSw).cell (i := 1) rfl; have c2 := (show Blk w _ _ from hSw).cell (i := 2) rfl; clear hSw; go_simp; try with_reducible rfl)
        simp only [List.getElem_toArray, List.getElem_cons_zero, Act.put, List.setIfInBounds_toArray, List.set_cons_zero, List.set_cons_succ]
        refine wpAnyH_take (i := 1) (v := ?v2) rfl (by kernel_rfl) (by kernel_rfl) (by kernel_rfl) (fun _ _ _ h => h) (Or.inl ⟨by rfl, ?y2⟩) hHeld ?r2
        case y2 => (intro w hSw; have c0 := (show Blk w _ _ from hSw).cell (i := 0) rfl; have c1 := (show Blk w _ _ from hSw).cell (i := 1) rfl; have c2 := (show Blk w _ _ from hSw).cell (i := 2) rfl; clear hSw; go_simp; try with_reducible rfl)
        simp only [List.getElem_toArray, List.getElem_cons_zero, List.getElem_cons_succ, Act.put, List.setIfInBounds_toArray, List.set_cons_zero, List.set_cons_succ]
        refine wpAnyH_take (i := 2) (v := ?v3) rfl (by kernel_rfl) (by kernel_rfl) (by kernel_rfl) (fun _ _ _ h => h) (Or.inl ⟨by rfl, ?y3⟩) hHeld ?r3
        case y3 => (intro w hSw; have c0 := (show Blk w _ _ from hSw).cell (i := 0) rfl; have c1 := (show Blk w _ _ from hSw).cell (i := 1) rfl; have c2 := (show Blk w _ _ from hSw).cell (i := 2) rfl; clear hSw; go_simp; try with_reducible rfl)
        simp only [List.getElem_toArray, List.getElem_cons_zero, List.getElem_cons_succ, Act.put, List.setIfInBounds_toArray, List.set_cons_zero, List.set_cons_succ]
        refine wpAnyH_take (i := 3) (v := ?v4) rfl (by kernel_rfl) (by kernel_rfl) (by kernel_rfl) (fun _ _ _ h => h) (Or.inl ⟨by rfl, ?y4⟩) hHeld ?r4
        case y4 => (intro w hSw; have c0 := (show Blk w _ _ from hSw).cell (i := 0) rfl; have c1 := (show Blk w _ _ from hSw).cell (i := 1) rfl; have c2 := (show Blk w _ _ from hSw).cell (i := 2) rfl; clear hSw; go_simp; try with_reducible rfl)
        simp only [List.getElem_toArray, List.getElem_cons_zero, List.getElem_cons_succ, Act.put, List.setIfInBounds_toArray, List.set_cons_zero, List.set_cons_succ]
        refine wpAnyH_take (i := 4) (v := ?v5) rfl (by kernel_rfl) (by kernel_rfl) (by kernel_rfl) (fun _ _ _ h => h) (Or.inl ⟨by rfl, ?y5⟩) hHeld ?r5
        case y5 => (intro w hSw; have c0 := (show Blk w _ _ from hSw).cell (i := 0) rfl; have c1 := (show Blk w _ _ from hSw).cell (i := 1) rfl; have c2 := (show Blk w _ _ from hSw).cell (i := 2) rfl; clear hSw; go_simp; try with_reducible rfl)
        simp only [List.getElem_toArray, List.getElem_cons_zero, List.getElem_cons_succ, Act.put, List.setIfInBounds_toArray, List.set_cons_zero, List.set_cons_succ]
        refine wpAnyH_take (i := 6) (v := ?v6) rfl (by kernel_rfl) (by kernel_rfl) (by kernel_rfl) (fun _ _ _ h => h) (Or.inl ⟨by rfl, ?y6⟩) hHeld ?r6
        case y6 => (intro w hSw; have c0 := (show Blk w _ _ from hSw).cell (i := 0) rfl; have c1 := (show Blk w _ _ from hSw).cell (i := 1) rfl; have c2 := (show Blk w _ _ from hSw).cell (i := 2) rfl; clear hSw; go_simp; try with_reducible rfl)
        simp only [List.getElem_toArray, List.getElem_cons_zero, List.getElem_cons_succ, Act.put, List.setIfInBounds_toArray, List.set_cons_zero, List.set_cons_succ]
        refine wpAnyH_take (i := 7) (v := ?v7) rfl (by kernel_rfl) (by kernel_rfl) (by kernel_rfl) (fun _ _ _ h => h) (Or.inl ⟨by rfl, ?y7⟩) hHeld ?r7
        case y7 => (intro w hSw; have c0 := (show Blk w _ _ from hSw).cell (i := 0) rfl; have c1 := (show Blk w _ _ from hSw).cell (i := 1) rfl; have c2 := (show Blk w _ _ from hSw).cell (i := 2) rfl; clear hSw; go_simp; try with_reducible rfl)
        simp only [List.getElem_toArray, List.getElem_cons_zero, List.getElem_cons_succ, Act.put, List.setIfInBounds_toArray, List.set_cons_zero, List.set_cons_succ]
        refine wpAnyH_ready (rs := [5]) (by kernel_rfl) (by simp) (AllReadyH.cons rfl (fun K hK => ?_) AllReadyH.nil)
        go_simp
        refine (i1.out _).mono ?_
        rintro e w' ⟨rfl, rfl⟩
        go_wp2_with fail
        refine hK.out _ _ (HD.out.1) (fun hHeld => ?_)
        clear hK K
        refine wpAnyH_ready (rs := [8]) (by kernel_rfl) (by simp) (AllReadyH.cons rfl (fun K hK => ?_) AllReadyH.nil)
        go_simp
        refine (i2.out _).mono ?_
        rintro e w' ⟨rfl, rfl⟩
        go_wp2_with fail
        refine hK.out _ _ (HD.out.1) (fun hHeld => ?_)
        clear hK K
        refine wpAnyH_ready (rs := [9]) (by kernel_rfl) (by simp) (AllReadyH.cons rfl (fun K hK => ?_) AllReadyH.nil)
        go_simp
        have hD3 : T3 D (nm, (wn : Int), (dn : Int)) (W.drew.alloc (.cells #[.string kTo, .string nm, .string kWo, .string (str (dd2 wn)), .string kDe, .string (str (dd2 dn))] 9)) := Blk.alloc HD.out.1 _
        have hB3 := HD.out.2.alloc HD.out.2.size (.cells #[.string kTo, .string nm, .string kWo, .string (str (dd2 wn)), .string kDe, .string (str (dd2 dn))] 9)
        have hQ := Blk.new W.drew #[.string kTo, .string nm, .string kWo, .string (str (dd2 wn)), .string kDe, .string (str (dd2 dn))] 9
        refine hK.out _ _ (hD3) (fun hHeld => ?_)
        clear hK K
        refine wpAnyH_ready (rs := [10]) (by kernel_rfl) (by simp) (AllReadyH.cons rfl (fun K hK => ?_) AllReadyH.nil)
        go_simp
        refine (line_any _ kTo nm kWo (str (dd2 wn)) kDe (str (dd2 dn)) _ hQ (by have h1 := dd_len wn; have h2 := dd_len dn; simp only [str_size]; show 5 + _ + 5 + _ + 5 + _ ≤ _; omega)).mono ?_
        rintro e W4 ⟨rfl, hb4⟩
        have hD4 : T3 D (nm, (wn : Int), (dn : Int)) W4 := Blk.low hD3 hb4
        have hB4 := hB3.trans (hb4.mono hB3.size)
        rw [show lin (bs kTo) (bs nm) (bs kWo) (bs (str (dd2 wn))) (bs kDe) (bs (str (dd2 dn))) = ln from Hst.out.2.1.symm]
        clear hb4 hQ hD3 hB3
        go_wp2_with fail
        refine hK.out _ _ (hD4) (fun hHeld => ?_)
        clear hK K
        refine wpAnyH_take (i := 11) (v := ?v12) rfl (by kernel_rfl) (by kernel_rfl) (by kernel_rfl) (fun _ _ _ h => h) (Or.inl ⟨by rfl, ?y12⟩) hHeld ?r12
        case y12 => (intro w hSw; have c0 := (show Blk w _ _ from hSw).cell (i := 0) rfl; have c1 := (show Blk w _ _ from hSw).cell (i := 1) rfl; have c2 := (show Blk w _ _ from hSw).cell (i := 2) rfl; clear hSw; go_simp; try with_reducible rfl)
        simp only [List.getElem_toArray, List.getElem_cons_zero, List.getElem_cons_succ, Act.put, List.setIfInBounds_toArray, List.set_cons_zero, List.set_cons_succ]
        refine wpAnyH_take (i := 12) (v := ?v13) rfl (by kernel_rfl) (by kernel_rfl) (by kernel_rfl) (fun _ _ _ h => h) (Or.inl ⟨by rfl, ?y13⟩) hHeld ?r13
        case y13 => (intro w hSw; have c0 := (show Blk w _ _ from hSw).cell (i := 0) rfl; have c1 := (show Blk w _ _ from hSw).cell (i := 1) rfl; have c2 := (show Blk w _ _ from hSw).cell (i := 2) rfl; clear hSw; go_simp; try with_reducible rfl)
        simp only [List.getElem_toArray, List.getElem_cons_zero, List.getElem_cons_succ, Act.put, List.setIfInBounds_toArray, List.set_cons_zero, List.set_cons_succ]
        refine wpAnyH_done (by kernel_rfl) ?_ _
        go_wp2
        go_roundw
        case rel => exact ⟨k + 1, by omega, by go_num, by rw [Hy2.out], hB4⟩
        case measure => simp [intOf]; omega
      · have k0 : decide ((k : Int) < (l.length : Int)) = false := decide_eq_false (by omega)
        have hfin : hdT (tn : Int) (rn : Int) (gn : Int) ++ txT (l.take k) = prT tn l rn gn := by rw [HP.out.1, List.take_of_length_le (by omega)]; rfl
        rw [hfin]
        have Hf := Lib.hid hB
        clear hfin hB
        go_wp2
        go_ret2
        exact ⟨by rw [Hz.out]; rfl, Hf.out⟩
  · have hpr : prT T l R L = [] := by unfold prT; rw [if_neg hy]
    have Hpr := Lib.hid hpr
    clear hpr
    obtain ⟨⟨x, y⟩, hxy⟩ : ∃ xy, chk T l R L = xy := ⟨_, rfl⟩
    rw [hxy] at hy
    simp only at hy
    rw [hxy]
    have Hxy := Lib.hid hxy
    clear hxy
    have heq : ∀ w, (Op.equalIn 10000 29 (.agg #[.int .i64 x, .int .i64 y]) (.agg #[.int .i64 0, .int .i64 0])).run Tryd.prog w = .ok false w := fun w => by
      rw [eq29]
      simp [hy]
    have X1 := Lib.hid ((X0.out.next hb1).alloc (.cells #[.int .i64 x, .int .i64 y] 29))
    have hF := Blk.new W1 #[.int .i64 x, .int .i64 y] 29
    have f0 := hF.cell (i := 0) rfl
    have f1 := hF.cell (i := 1) rfl
    clear hb1 X0 hF c0 c1 c2 c3 hy HT0
    go_wp2_with fail
    generalize W1.alloc (.cells #[.int .i64 x, .int .i64 y] 29) = W2 at *
    go_quiet (fail)
    go_wp2
    go_ret2
    exact ⟨by rw [Hpr.out, Hxy.out]; rfl, belN X1.out.2.2.2 _⟩
end Go.Proofs.YthdchoagdipplaaDoor
