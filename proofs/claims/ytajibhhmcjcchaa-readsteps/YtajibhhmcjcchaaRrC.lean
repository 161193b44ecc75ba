/- The document's reading: a word. -/
import Derived.Test.YtajibhhmcjcchaaRrA
import Derived.Deep.RegionHeld3
import Derived.BigQuiet
namespace Go.Proofs.Ytajibhhmcjcchaa
open Go.RowKit
section
variable {w : World} {o wb : Nat} {V : Value} {S : Sp} {tr : Int} {x : RSt} {ys : List Int}
/-- What the second line reads. -/
def RY (o : Nat) (S : Sp) (gen : Int) (V : Value) (w' : World) : Prop :=
  (w'.cell? ⟨o, 0, none⟩ = some (.int .i64 S.ow) ∧ w'.cell? ⟨o, 1, none⟩ = some (.int .i64 S.sq) ∧ w'.cell? ⟨o, 2, none⟩ = some (.int .i64 S.fs) ∧ w'.cell? ⟨o, 3, none⟩ = some (.int .i64 S.wd) ∧ w'.cell? ⟨o, 4, none⟩ = some (.int .i64 S.dp)) ∧
  w'.cell? ⟨o, 8, none⟩ = some (.int .u64 gen) ∧ w'.cell? ⟨o, 9, none⟩ = some V
theorem RY.of {w' : World} {nx hd bgn how dd : Int} {gen : Int} (h : Blk w' o (rfw S V tr nx hd gen bgn how dd)) : RY o S gen V w' := ⟨⟨h.cell rfl, h.cell rfl, h.cell rfl, h.cell rfl, h.cell rfl⟩, h.cell rfl, h.cell rfl⟩
/-- What the append reads. -/
def RV (wb i : Nat) (v : Int) (w' : World) : Prop := w'.cell? ⟨wb, i, none⟩ = some (.int .u64 v)
theorem owns_low {A B : World} {v : Value} {k : Nat} {xs : List Value} (h : A.ownsRow 0 43 1 v k xs) (u : Below A.heap.size A B) : B.ownsRow 0 43 1 v k xs := owns_blocks h (fun g hg => by
  rcases h.2 with ⟨c, _⟩ | ⟨g', _, _, e, _, hg', _⟩
  · rw [c] at hg; cases hg
  · have e' : g' = g := by rw [e] at hg; simpa [Value.ownBlock] using hg
    subst e'
    exact u.block g' (Array.getElem?_eq_some_iff.1 hg').1)
theorem owns_form {W : World} {v : Value} {k : Nat} {xs : List Value} (h : W.ownsRow 0 43 1 v k xs) : ∃ a c, v = .slice a k c := by
  rcases h.2 with ⟨rfl, rfl⟩ | ⟨g, cap, cur, rfl, _⟩
  · exact ⟨none, 0, rfl⟩
  · exact ⟨_, _, rfl⟩
/-- The document's append. -/
theorem rr_append {W : World} {k : Nat} {xs : List Value} (h : W.ownsRow 0 43 1 V k xs) (hk : k ≤ 100000) (v : Int) :
    ∃ V' W', (Builtin.append_ #[42, 42] 42 #[V, .slice (some ⟨W.heap.size, 0, none⟩) 1 1]).run Try.prog (W.alloc (.cells #[.int .u64 v] 43)) = .ok V' W' ∧ W'.ownsRow 0 43 1 V' (k + 1) (xs ++ [.int .u64 v]) ∧ (W.alloc (.cells #[.int .u64 v] 43)).grownBy W' V.ownBlock ∧ (V'.ownBlock = V.ownBlock ∨ ∀ p, V'.ownBlock = some p → W.heap.size + 1 ≤ p ∧ p < W'.heap.size) := by
  obtain ⟨i, hi, he⟩ := Option.map_eq_some_iff.1 info49
  simp only [Prod.mk.injEq] at he
  obtain ⟨hz, hs, hb⟩ := he
  have hA := owns_low h ((Below.refl W.heap.size W).alloc (Nat.le_refl _) (.cells #[.int .u64 v] 43))
  have hr := append_one (P := Try.prog) (W.alloc (.cells #[.int .u64 v] 43)) 42 43 i (.int .u64 0) 8 Try.underlying42 hi hz hs hb rfl (by omega) V k xs hA W.heap.size (.int .u64 v) ((Blk.new W #[.int .u64 v] 43).cell rfl) rfl hk
  simpa using hr
set_option maxRecDepth 100000 in
set_option maxHeartbeats 2000000 in
theorem rr_out1 (h : RrAt w o V S tr x) (hB : Row w wb ys) (hne : o ≠ wb) (hvw : V.ownBlock ≠ some wb) (hw : RWf S x) (hh : x.how = 0) (t1 : x.left ≤ tr) (t2 : tr ≤ 16) (p0 : 0 ≤ x.steps) (p1 : x.steps ≤ 1000000) (hyl : ys.length ≤ 1000) (hl : x.line = 1) (hv : getI ys (rdl S x) = none) :
    Calls Try.prog 15 #[.pointer (some ⟨o, 0, none⟩), .slice (some ⟨wb, 0, none⟩) ys.length ys.length] w (RrPost o wb V S tr ys ({ x with how := 3 }) w) := by
  have hb := h.cells
  unfold rfr at hb
  rw [hh, hl] at hb
  have Hl := Lib.hid hl
  have Hh := Lib.hid hh
  have hwb := hne.symm
  have hvo := h.ne
  simp only [show ((1 : Int) + 1) = 2 from rfl] at hb
  have c1 := hb.cell (i := 1) rfl
  have c6 := hb.cell (i := 6) rfl
  have c11 := hb.cell (i := 11) rfl
  have lo := hb.lt
  obtain ⟨ok, b0, b1⟩ := rdl_bd hw
  have hnl := hw.nl hl
  have h64 := hw.rt.2.1
  have Hat := Lib.hid (fun W => rat_any S.ow S.sq S.fs S.wd S.dp x.gen W hw.gen.1 hw.gen.2)
  unfold rdl at hv
  rw [if_pos hl] at hv
  generalize atv S.fs S.wd S.dp x.gen = A at *
  obtain ⟨m, hm0⟩ : ∃ m, x.rw.length = m := ⟨_, rfl⟩
  obtain ⟨va, vc, rfl⟩ := owns_form h.words
  have HwA := Lib.hid (show IntKind.i64.wrap (A + (x.rw.length : Int)) = A + (x.rw.length : Int) by rw [IntKind.wrap_i64]; omega)
  have H := Lib.hid (show Blk w.drew o _ ∧ Row w.drew wb ys ∧ w.drew.ownsRow 0 43 1 (.slice va x.rw.length vc) x.rw.length (x.rw.map (Value.int .u64)) ∧ Upd (fun k => k = o ∨ (Value.slice va x.rw.length vc).ownBlock = some k) w w.drew from ⟨hb.drew, hB.drew, owns_drew h.words 1, (Upd.refl _ w).drew⟩)
  have hq : RY o S x.gen (.slice va x.rw.length vc) w.drew := RY.of H.out.1
  have Hap0 := Lib.hid (And.intro hvo (And.intro hne hvw))
  have hlen : A + (x.rw.length : Int) < 0 ∨ (ys.length : Int) ≤ A + x.rw.length := getI_none hv
  have hlen2 : (ys.length : Int) ≤ A + x.rw.length := by omega
  have hA0 : 0 ≤ A + (x.rw.length : Int) := by omega
  have hrl : (x.rw.length : Int) ≤ 64 := by omega
  have Hrw := Lib.hid (And.intro hw.len hnl)
  clear h hb hB hl hv hw hh hvo hvw hnl h64 ok hm0 m hlen
  go_enter Try.func15, Try.ntmps15
  go_wp2_with fail
  refine wp_region_held_drew (S := RY o S x.gen (.slice va x.rw.length vc)) (by kernel_rfl) (hq) (fun hHeld => ?_)
  refine wpAnyH_take (i := 0) (v := ?v43) rfl (by kernel_rfl) (by kernel_rfl) (by kernel_rfl) (fun _ _ _ h => h) (Or.inl ⟨by rfl, ?y43⟩) hHeld ?r43
  case y43 => (intro w hSw; obtain ⟨⟨hS0, hS1, hS2, hS3, hS4⟩, hS5, hS6⟩ := hSw; go_simp; try with_reducible rfl)
  simp only [List.getElem_toArray, List.getElem_cons_zero, Act.put, List.setIfInBounds_toArray, List.set_cons_zero, List.set_cons_succ]
  refine wpAnyH_take (i := 1) (v := ?v44) rfl (by kernel_rfl) (by kernel_rfl) (by kernel_rfl) (fun _ _ _ h => h) (Or.inl ⟨by rfl, ?y44⟩) hHeld ?r44
  case y44 => (intro w hSw; obtain ⟨⟨hS0, hS1, hS2, hS3, hS4⟩, hS5, hS6⟩ := hSw; go_simp; try with_reducible rfl)
  simp only [List.getElem_toArray, List.getElem_cons_zero, List.getElem_cons_succ, Act.put, List.setIfInBounds_toArray, List.set_cons_zero, List.set_cons_succ]
  refine wpAnyH_take (i := 2) (v := ?v45) rfl (by kernel_rfl) (by kernel_rfl) (by kernel_rfl) (fun _ _ _ h => h) (Or.inl ⟨by rfl, ?y45⟩) hHeld ?r45
  case y45 => (intro w hSw; obtain ⟨⟨hS0, hS1, hS2, hS3, hS4⟩, hS5, hS6⟩ := hSw; go_simp; try with_reducible rfl)
  simp only [List.getElem_toArray, List.getElem_cons_zero, List.getElem_cons_succ, Act.put, List.setIfInBounds_toArray, List.set_cons_zero, List.set_cons_succ]
  refine wpAnyH_take (i := 3) (v := ?v46) rfl (by kernel_rfl) (by kernel_rfl) (by kernel_rfl) (fun _ _ _ h => h) (Or.inl ⟨by rfl, ?y46⟩) hHeld ?r46
  case y46 => (intro w hSw; obtain ⟨⟨hS0, hS1, hS2, hS3, hS4⟩, hS5, hS6⟩ := hSw; go_simp; try with_reducible rfl)
  simp only [List.getElem_toArray, List.getElem_cons_zero, List.getElem_cons_succ, Act.put, List.setIfInBounds_toArray, List.set_cons_zero, List.set_cons_succ]
  refine wpAnyH_take (i := 4) (v := ?v47) rfl (by kernel_rfl) (by kernel_rfl) (by kernel_rfl) (fun _ _ _ h => h) (Or.inl ⟨by rfl, ?y47⟩) hHeld ?r47
  case y47 => (intro w hSw; obtain ⟨⟨hS0, hS1, hS2, hS3, hS4⟩, hS5, hS6⟩ := hSw; go_simp; try with_reducible rfl)
  simp only [List.getElem_toArray, List.getElem_cons_zero, List.getElem_cons_succ, Act.put, List.setIfInBounds_toArray, List.set_cons_zero, List.set_cons_succ]
  refine wpAnyH_take (i := 5) (v := ?v48) rfl (by kernel_rfl) (by kernel_rfl) (by kernel_rfl) (fun _ _ _ h => h) (Or.inl ⟨by rfl, ?y48⟩) hHeld ?r48
  case y48 => (intro w hSw; obtain ⟨⟨hS0, hS1, hS2, hS3, hS4⟩, hS5, hS6⟩ := hSw; go_simp; try with_reducible rfl)
  simp only [List.getElem_toArray, List.getElem_cons_zero, List.getElem_cons_succ, Act.put, List.setIfInBounds_toArray, List.set_cons_zero, List.set_cons_succ]
  refine wpAnyH_take (i := 6) (v := ?v49) rfl (by kernel_rfl) (by kernel_rfl) (by kernel_rfl) (fun _ _ _ h => h) (Or.inl ⟨by rfl, ?y49⟩) hHeld ?r49
  case y49 => (intro w hSw; obtain ⟨⟨hS0, hS1, hS2, hS3, hS4⟩, hS5, hS6⟩ := hSw; go_simp; try with_reducible rfl)
  simp only [List.getElem_toArray, List.getElem_cons_zero, List.getElem_cons_succ, Act.put, List.setIfInBounds_toArray, List.set_cons_zero, List.set_cons_succ]
  refine wpAnyH_take (i := 7) (v := ?v50) rfl (by kernel_rfl) (by kernel_rfl) (by kernel_rfl) (fun _ _ _ h => h) (Or.inl ⟨by rfl, ?y50⟩) hHeld ?r50
  case y50 => (intro w hSw; obtain ⟨⟨hS0, hS1, hS2, hS3, hS4⟩, hS5, hS6⟩ := hSw; go_simp; try with_reducible rfl)
  simp only [List.getElem_toArray, List.getElem_cons_zero, List.getElem_cons_succ, Act.put, List.setIfInBounds_toArray, List.set_cons_zero, List.set_cons_succ]
  refine wpAnyH_take (i := 9) (v := ?v51) rfl (by kernel_rfl) (by kernel_rfl) (by kernel_rfl) (fun _ _ _ h => h) (Or.inl ⟨by rfl, ?y51⟩) hHeld ?r51
  case y51 => (intro w hSw; obtain ⟨⟨hS0, hS1, hS2, hS3, hS4⟩, hS5, hS6⟩ := hSw; go_simp; try with_reducible rfl)
  simp only [List.getElem_toArray, List.getElem_cons_zero, List.getElem_cons_succ, Act.put, List.setIfInBounds_toArray, List.set_cons_zero, List.set_cons_succ]
  refine wpAnyH_take (i := 10) (v := ?v52) rfl (by kernel_rfl) (by kernel_rfl) (by kernel_rfl) (fun _ _ _ h => h) (Or.inl ⟨by rfl, ?y52⟩) hHeld ?r52
  case y52 => (intro w hSw; obtain ⟨⟨hS0, hS1, hS2, hS3, hS4⟩, hS5, hS6⟩ := hSw; go_simp; try with_reducible rfl)
  simp only [List.getElem_toArray, List.getElem_cons_zero, List.getElem_cons_succ, Act.put, List.setIfInBounds_toArray, List.set_cons_zero, List.set_cons_succ]
  refine wpAnyH_take (i := 11) (v := ?v53) rfl (by kernel_rfl) (by kernel_rfl) (by kernel_rfl) (fun _ _ _ h => h) (Or.inl ⟨by rfl, ?y53⟩) hHeld ?r53
  case y53 => (intro w hSw; obtain ⟨⟨hS0, hS1, hS2, hS3, hS4⟩, hS5, hS6⟩ := hSw; go_simp; try with_reducible rfl)
  simp only [List.getElem_toArray, List.getElem_cons_zero, List.getElem_cons_succ, Act.put, List.setIfInBounds_toArray, List.set_cons_zero, List.set_cons_succ]
  refine wpAnyH_take (i := 12) (v := ?v54) rfl (by kernel_rfl) (by kernel_rfl) (by kernel_rfl) (fun _ _ _ h => h) (Or.inl ⟨by rfl, ?y54⟩) hHeld ?r54
  case y54 => (intro w hSw; obtain ⟨⟨hS0, hS1, hS2, hS3, hS4⟩, hS5, hS6⟩ := hSw; go_simp; try with_reducible rfl)
  simp only [List.getElem_toArray, List.getElem_cons_zero, List.getElem_cons_succ, Act.put, List.setIfInBounds_toArray, List.set_cons_zero, List.set_cons_succ]
  refine wpAnyH_take (i := 13) (v := ?v55) rfl (by kernel_rfl) (by kernel_rfl) (by kernel_rfl) (fun _ _ _ h => h) (Or.inl ⟨by rfl, ?y55⟩) hHeld ?r55
  case y55 => (intro w hSw; obtain ⟨⟨hS0, hS1, hS2, hS3, hS4⟩, hS5, hS6⟩ := hSw; go_simp; try with_reducible rfl)
  simp only [List.getElem_toArray, List.getElem_cons_zero, List.getElem_cons_succ, Act.put, List.setIfInBounds_toArray, List.set_cons_zero, List.set_cons_succ]
  refine wpAnyH_ready (rs := [8]) (by kernel_rfl) (by simp) (AllReadyH.cons rfl (fun K hK => ?_) AllReadyH.nil)
  go_simp
  refine (Hat.out _).mono ?_
  rintro e v3 ⟨rfl, hb3⟩
  obtain ⟨a1, a2, a3, a4⟩ := H.out
  have HV := Lib.hid (show Blk v3 o _ ∧ Row v3 wb ys ∧ v3.ownsRow 0 43 1 (.slice va x.rw.length vc) x.rw.length (x.rw.map (Value.int .u64)) ∧ Upd (fun k => k = o ∨ (Value.slice va x.rw.length vc).ownBlock = some k) w v3 from ⟨a1.low hb3, a2.below hb3, owns_low a3 hb3, a4.trans (Upd.of_below _ hb3)⟩)
  have hq3 : RY o S x.gen (.slice va x.rw.length vc) v3 := RY.of HV.out.1
  clear hb3 a1 a2 a3 a4
  go_wp2_with fail
  refine hK.out _ _ (hq3) (fun hHeld => ?_)
  clear hK K
  refine wpAnyH_take (i := 14) (v := ?v57) rfl (by kernel_rfl) (by kernel_rfl) (by kernel_rfl) (fun _ _ _ h => h) (Or.inl ⟨by rfl, ?y57⟩) hHeld ?r57
  case y57 => (intro w hSw; obtain ⟨⟨hS0, hS1, hS2, hS3, hS4⟩, hS5, hS6⟩ := hSw; go_simp; try with_reducible rfl)
  simp only [List.getElem_toArray, List.getElem_cons_zero, List.getElem_cons_succ, Act.put, List.setIfInBounds_toArray, List.set_cons_zero, List.set_cons_succ]
  refine wpAnyH_take (i := 15) (v := ?v58) rfl (by kernel_rfl) (by kernel_rfl) (by kernel_rfl) (fun _ _ _ h => h) (Or.inl ⟨by rfl, ?y58⟩) hHeld ?r58
  case y58 => (intro w hSw; obtain ⟨⟨hS0, hS1, hS2, hS3, hS4⟩, hS5, hS6⟩ := hSw; go_simp; try with_reducible rfl)
  simp only [List.getElem_toArray, List.getElem_cons_zero, List.getElem_cons_succ, Act.put, List.setIfInBounds_toArray, List.set_cons_zero, List.set_cons_succ]
  refine wpAnyH_done (by kernel_rfl) ?_ _
  clear hHeld hq hq3 Hat
  simp only [HwA.out]
  have e11 := HV.out.1.cell (i := 11) rfl
  have z11 := HV.out.1.frozen 11
  have lo3 := HV.out.1.lt
  go_wp2
  go_end0
  obtain ⟨a1, a2, a3, a4⟩ := HV.out
  obtain ⟨hvo, hne, hvw⟩ := Hap0.out
  exact ⟨rfl, _, ⟨(a1.put 11 (.int .i64 3)).to' (by unfold rfr; simp [Hl.out]), owns_set a3 hvo _, hvo⟩, a2.setFar hwb _, a4.setCell (.inl (.inl rfl)) _, .inl rfl⟩
set_option maxRecDepth 100000 in
set_option maxHeartbeats 2000000 in
theorem rr_word (h : RrAt w o V S tr x) (hB : Row w wb ys) (hne : o ≠ wb) (hvw : V.ownBlock ≠ some wb) (hw : RWf S x) (hh : x.how = 0) (t1 : x.left ≤ tr) (t2 : tr ≤ 16) (p0 : 0 ≤ x.steps) (p1 : x.steps ≤ 1000000) (hyl : ys.length ≤ 1000) (hl : x.line = 1) (v : Int) (hv : getI ys (rdl S x) = some v) (Hu : U64 v) (hm : ¬ (x.rw.length : Int) + 1 = S.wd)  :
    Calls Try.prog 15 #[.pointer (some ⟨o, 0, none⟩), .slice (some ⟨wb, 0, none⟩) ys.length ys.length] w (RrPost o wb V S tr ys ({ x with steps := x.steps + 1, rw := x.rw ++ [v], line := 1 }) w) := by
  have hb := h.cells
  unfold rfr at hb
  rw [hh, hl] at hb
  have Hl := Lib.hid hl
  have Hh := Lib.hid hh
  have hwb := hne.symm
  have hvo := h.ne
  simp only [show ((1 : Int) + 1) = 2 from rfl] at hb
  have c1 := hb.cell (i := 1) rfl
  have c6 := hb.cell (i := 6) rfl
  have c11 := hb.cell (i := 11) rfl
  have lo := hb.lt
  obtain ⟨ok, b0, b1⟩ := rdl_bd hw
  have hnl := hw.nl hl
  have h64 := hw.rt.2.1
  have Hat := Lib.hid (fun W => rat_any S.ow S.sq S.fs S.wd S.dp x.gen W hw.gen.1 hw.gen.2)
  unfold rdl at hv
  rw [if_pos hl] at hv
  generalize atv S.fs S.wd S.dp x.gen = A at *
  obtain ⟨m, hm0⟩ : ∃ m, x.rw.length = m := ⟨_, rfl⟩
  obtain ⟨va, vc, rfl⟩ := owns_form h.words
  have HwA := Lib.hid (show IntKind.i64.wrap (A + (x.rw.length : Int)) = A + (x.rw.length : Int) by rw [IntKind.wrap_i64]; omega)
  have H := Lib.hid (show Blk w.drew o _ ∧ Row w.drew wb ys ∧ w.drew.ownsRow 0 43 1 (.slice va x.rw.length vc) x.rw.length (x.rw.map (Value.int .u64)) ∧ Upd (fun k => k = o ∨ (Value.slice va x.rw.length vc).ownBlock = some k) w w.drew from ⟨hb.drew, hB.drew, owns_drew h.words 1, (Upd.refl _ w).drew⟩)
  have hq : RY o S x.gen (.slice va x.rw.length vc) w.drew := RY.of H.out.1
  have Hap0 := Lib.hid (And.intro hvo (And.intro hne hvw))
  obtain ⟨q0, hv1⟩ := getI_some hv
  have hlt := lt_of_some hv1
  obtain ⟨i, hi⟩ := Int.eq_ofNat_of_zero_le q0
  rw [hi, Int.toNat_natCast] at hv1 hlt
  have hlt2 : (i : Int) < ys.length := by omega
  have Hv1 := Lib.hid hv1
  have Hi := Lib.hid hi
  have hrl : (x.rw.length : Int) ≤ 64 := by omega
  have Hrw := Lib.hid (And.intro hw.len hnl)
  have Hm := Lib.hid hm
  clear h hb hB hl hv hw hh hvo hvw hnl h64 ok hm0 m hv1 hlt Hu q0 hi hm
  go_enter Try.func15, Try.ntmps15
  go_wp2_with fail
  refine wp_region_held_drew (S := RY o S x.gen (.slice va x.rw.length vc)) (by kernel_rfl) (hq) (fun hHeld => ?_)
  refine wpAnyH_take (i := 0) (v := ?v76) rfl (by kernel_rfl) (by kernel_rfl) (by kernel_rfl) (fun _ _ _ h => h) (Or.inl ⟨by rfl, ?y76⟩) hHeld ?r76
  case y76 => (intro w hSw; obtain ⟨⟨hS0, hS1, hS2, hS3, hS4⟩, hS5, hS6⟩ := hSw; go_simp; try with_reducible rfl)
  simp only [List.getElem_toArray, List.getElem_cons_zero, Act.put, List.setIfInBounds_toArray, List.set_cons_zero, List.set_cons_succ]
  refine wpAnyH_take (i := 1) (v := ?v77) rfl (by kernel_rfl) (by kernel_rfl) (by kernel_rfl) (fun _ _ _ h => h) (Or.inl ⟨by rfl, ?y77⟩) hHeld ?r77
  case y77 => (intro w hSw; obtain ⟨⟨hS0, hS1, hS2, hS3, hS4⟩, hS5, hS6⟩ := hSw; go_simp; try with_reducible rfl)
  simp only [List.getElem_toArray, List.getElem_cons_zero, List.getElem_cons_succ, Act.put, List.setIfInBounds_toArray, List.set_cons_zero, List.set_cons_succ]
  refine wpAnyH_take (i := 2) (v := ?v78) rfl (by kernel_rfl) (by kernel_rfl) (by kernel_rfl) (fun _ _ _ h => h) (Or.inl ⟨by rfl, ?y78⟩) hHeld ?r78
  case y78 => (intro w hSw; obtain ⟨⟨hS0, hS1, hS2, hS3, hS4⟩, hS5, hS6⟩ := hSw; go_simp; try with_reducible rfl)
  simp only [List.getElem_toArray, List.getElem_cons_zero, List.getElem_cons_succ, Act.put, List.setIfInBounds_toArray, List.set_cons_zero, List.set_cons_succ]
  refine wpAnyH_take (i := 3) (v := ?v79) rfl (by kernel_rfl) (by kernel_rfl) (by kernel_rfl) (fun _ _ _ h => h) (Or.inl ⟨by rfl, ?y79⟩) hHeld ?r79
  case y79 => (intro w hSw; obtain ⟨⟨hS0, hS1, hS2, hS3, hS4⟩, hS5, hS6⟩ := hSw; go_simp; try with_reducible rfl)
  simp only [List.getElem_toArray, List.getElem_cons_zero, List.getElem_cons_succ, Act.put, List.setIfInBounds_toArray, List.set_cons_zero, List.set_cons_succ]
  refine wpAnyH_take (i := 4) (v := ?v80) rfl (by kernel_rfl) (by kernel_rfl) (by kernel_rfl) (fun _ _ _ h => h) (Or.inl ⟨by rfl, ?y80⟩) hHeld ?r80
  case y80 => (intro w hSw; obtain ⟨⟨hS0, hS1, hS2, hS3, hS4⟩, hS5, hS6⟩ := hSw; go_simp; try with_reducible rfl)
  simp only [List.getElem_toArray, List.getElem_cons_zero, List.getElem_cons_succ, Act.put, List.setIfInBounds_toArray, List.set_cons_zero, List.set_cons_succ]
  refine wpAnyH_take (i := 5) (v := ?v81) rfl (by kernel_rfl) (by kernel_rfl) (by kernel_rfl) (fun _ _ _ h => h) (Or.inl ⟨by rfl, ?y81⟩) hHeld ?r81
  case y81 => (intro w hSw; obtain ⟨⟨hS0, hS1, hS2, hS3, hS4⟩, hS5, hS6⟩ := hSw; go_simp; try with_reducible rfl)
  simp only [List.getElem_toArray, List.getElem_cons_zero, List.getElem_cons_succ, Act.put, List.setIfInBounds_toArray, List.set_cons_zero, List.set_cons_succ]
  refine wpAnyH_take (i := 6) (v := ?v82) rfl (by kernel_rfl) (by kernel_rfl) (by kernel_rfl) (fun _ _ _ h => h) (Or.inl ⟨by rfl, ?y82⟩) hHeld ?r82
  case y82 => (intro w hSw; obtain ⟨⟨hS0, hS1, hS2, hS3, hS4⟩, hS5, hS6⟩ := hSw; go_simp; try with_reducible rfl)
  simp only [List.getElem_toArray, List.getElem_cons_zero, List.getElem_cons_succ, Act.put, List.setIfInBounds_toArray, List.set_cons_zero, List.set_cons_succ]
  refine wpAnyH_take (i := 7) (v := ?v83) rfl (by kernel_rfl) (by kernel_rfl) (by kernel_rfl) (fun _ _ _ h => h) (Or.inl ⟨by rfl, ?y83⟩) hHeld ?r83
  case y83 => (intro w hSw; obtain ⟨⟨hS0, hS1, hS2, hS3, hS4⟩, hS5, hS6⟩ := hSw; go_simp; try with_reducible rfl)
  simp only [List.getElem_toArray, List.getElem_cons_zero, List.getElem_cons_succ, Act.put, List.setIfInBounds_toArray, List.set_cons_zero, List.set_cons_succ]
  refine wpAnyH_take (i := 9) (v := ?v84) rfl (by kernel_rfl) (by kernel_rfl) (by kernel_rfl) (fun _ _ _ h => h) (Or.inl ⟨by rfl, ?y84⟩) hHeld ?r84
  case y84 => (intro w hSw; obtain ⟨⟨hS0, hS1, hS2, hS3, hS4⟩, hS5, hS6⟩ := hSw; go_simp; try with_reducible rfl)
  simp only [List.getElem_toArray, List.getElem_cons_zero, List.getElem_cons_succ, Act.put, List.setIfInBounds_toArray, List.set_cons_zero, List.set_cons_succ]
  refine wpAnyH_take (i := 10) (v := ?v85) rfl (by kernel_rfl) (by kernel_rfl) (by kernel_rfl) (fun _ _ _ h => h) (Or.inl ⟨by rfl, ?y85⟩) hHeld ?r85
  case y85 => (intro w hSw; obtain ⟨⟨hS0, hS1, hS2, hS3, hS4⟩, hS5, hS6⟩ := hSw; go_simp; try with_reducible rfl)
  simp only [List.getElem_toArray, List.getElem_cons_zero, List.getElem_cons_succ, Act.put, List.setIfInBounds_toArray, List.set_cons_zero, List.set_cons_succ]
  refine wpAnyH_take (i := 11) (v := ?v86) rfl (by kernel_rfl) (by kernel_rfl) (by kernel_rfl) (fun _ _ _ h => h) (Or.inl ⟨by rfl, ?y86⟩) hHeld ?r86
  case y86 => (intro w hSw; obtain ⟨⟨hS0, hS1, hS2, hS3, hS4⟩, hS5, hS6⟩ := hSw; go_simp; try with_reducible rfl)
  simp only [List.getElem_toArray, List.getElem_cons_zero, List.getElem_cons_succ, Act.put, List.setIfInBounds_toArray, List.set_cons_zero, List.set_cons_succ]
  refine wpAnyH_take (i := 12) (v := ?v87) rfl (by kernel_rfl) (by kernel_rfl) (by kernel_rfl) (fun _ _ _ h => h) (Or.inl ⟨by rfl, ?y87⟩) hHeld ?r87
  case y87 => (intro w hSw; obtain ⟨⟨hS0, hS1, hS2, hS3, hS4⟩, hS5, hS6⟩ := hSw; go_simp; try with_reducible rfl)
  simp only [List.getElem_toArray, List.getElem_cons_zero, List.getElem_cons_succ, Act.put, List.setIfInBounds_toArray, List.set_cons_zero, List.set_cons_succ]
  refine wpAnyH_take (i := 13) (v := ?v88) rfl (by kernel_rfl) (by kernel_rfl) (by kernel_rfl) (fun _ _ _ h => h) (Or.inl ⟨by rfl, ?y88⟩) hHeld ?r88
  case y88 => (intro w hSw; obtain ⟨⟨hS0, hS1, hS2, hS3, hS4⟩, hS5, hS6⟩ := hSw; go_simp; try with_reducible rfl)
  simp only [List.getElem_toArray, List.getElem_cons_zero, List.getElem_cons_succ, Act.put, List.setIfInBounds_toArray, List.set_cons_zero, List.set_cons_succ]
  refine wpAnyH_ready (rs := [8]) (by kernel_rfl) (by simp) (AllReadyH.cons rfl (fun K hK => ?_) AllReadyH.nil)
  go_simp
  refine (Hat.out _).mono ?_
  rintro e v3 ⟨rfl, hb3⟩
  obtain ⟨a1, a2, a3, a4⟩ := H.out
  have HV := Lib.hid (show Blk v3 o _ ∧ Row v3 wb ys ∧ v3.ownsRow 0 43 1 (.slice va x.rw.length vc) x.rw.length (x.rw.map (Value.int .u64)) ∧ Upd (fun k => k = o ∨ (Value.slice va x.rw.length vc).ownBlock = some k) w v3 from ⟨a1.low hb3, a2.below hb3, owns_low a3 hb3, a4.trans (Upd.of_below _ hb3)⟩)
  have hq3 : RY o S x.gen (.slice va x.rw.length vc) v3 := RY.of HV.out.1
  clear hb3 a1 a2 a3 a4
  go_wp2_with fail
  refine hK.out _ _ (hq3) (fun hHeld => ?_)
  clear hK K
  refine wpAnyH_take (i := 14) (v := ?v90) rfl (by kernel_rfl) (by kernel_rfl) (by kernel_rfl) (fun _ _ _ h => h) (Or.inl ⟨by rfl, ?y90⟩) hHeld ?r90
  case y90 => (intro w hSw; obtain ⟨⟨hS0, hS1, hS2, hS3, hS4⟩, hS5, hS6⟩ := hSw; go_simp; try with_reducible rfl)
  simp only [List.getElem_toArray, List.getElem_cons_zero, List.getElem_cons_succ, Act.put, List.setIfInBounds_toArray, List.set_cons_zero, List.set_cons_succ]
  refine wpAnyH_take (i := 15) (v := ?v91) rfl (by kernel_rfl) (by kernel_rfl) (by kernel_rfl) (fun _ _ _ h => h) (Or.inl ⟨by rfl, ?y91⟩) hHeld ?r91
  case y91 => (intro w hSw; obtain ⟨⟨hS0, hS1, hS2, hS3, hS4⟩, hS5, hS6⟩ := hSw; go_simp; try with_reducible rfl)
  simp only [List.getElem_toArray, List.getElem_cons_zero, List.getElem_cons_succ, Act.put, List.setIfInBounds_toArray, List.set_cons_zero, List.set_cons_succ]
  refine wpAnyH_done (by kernel_rfl) ?_ _
  clear hHeld hq hq3 Hat
  simp only [HwA.out]
  rw [Hi.out]
  have e12 := HV.out.1.cell (i := 12) rfl
  have z12 := HV.out.1.frozen 12
  have lo3 := HV.out.1.lt
  have lw3 := HV.out.2.1.lt
  have H4 : Hid (Blk (v3.setCell ⟨o, 12, none⟩ (.int .i64 (x.steps + 1))) o _ ∧ Row (v3.setCell ⟨o, 12, none⟩ (.int .i64 (x.steps + 1))) wb ys ∧ (v3.setCell ⟨o, 12, none⟩ (.int .i64 (x.steps + 1))).ownsRow 0 43 1 (.slice va x.rw.length vc) x.rw.length (x.rw.map (Value.int .u64)) ∧ Upd (fun k => k = o ∨ (Value.slice va x.rw.length vc).ownBlock = some k) w (v3.setCell ⟨o, 12, none⟩ (.int .i64 (x.steps + 1)))) := Lib.hid ⟨HV.out.1.put 12 (.int .i64 (x.steps + 1)), HV.out.2.1.setFar hwb _, owns_set HV.out.2.2.1 Hap0.out.1 _, HV.out.2.2.2.setCell (.inl (.inl rfl)) _⟩
  have f6 := H4.out.1.cell (i := 6) rfl
  clear HV H
  generalize hv4 : v3.setCell ⟨o, 12, none⟩ (.int .i64 (x.steps + 1)) = v4 at H4 f6
  have lo4 := H4.out.1.lt
  go_wp2_with fail
  have hqv : RV wb i v v4.drew := H4.out.2.1.drew.cell Hv1.out
  have e94 := H4.out.1.drew.cell (i := 9) rfl
  have lo4d := H4.out.1.drew.lt
  have lw4d := H4.out.2.1.drew.lt
  have hod : v4.drew.ownsRow 0 43 1 (.slice va x.rw.length vc) x.rw.length (x.rw.map (Value.int .u64)) := owns_drew H4.out.2.2.1 1
  obtain ⟨V5, W5, hr5, ho5, hg5, hv5⟩ := rr_append hod (by have := Hrw.out; omega) v
  have Hap := Lib.hid hr5
  have hV : (Value.slice va x.rw.length vc).ownBlock ≠ some wb := Hap0.out.2.2
  have hge : Upd (fun k => k = o ∨ (Value.slice va x.rw.length vc).ownBlock = some k) w W5 := ((H4.out.2.2.2.drew).alloc (.cells #[.int .u64 v] 43)).trans ⟨hg5.os, hg5.tape, hg5.output, hg5.size, fun k hk hn => hg5.block k hk (fun c => hn (.inr c.symm))⟩
  have hA0 := H4.out.1.drew.alloc (.cells #[.int .u64 v] 43)
  have hA1 := (Row.drew H4.out.2.1).alloc (.cells #[.int .u64 v] 43)
  have hb5 := hA0.of_block (hg5.block o hA0.lt (fun c => Hap0.out.1 c.symm))
  have hB5 : Row W5 wb ys := hA1.of_block (hg5.block wb hA1.lt (fun c => hV c.symm))
  have hqA : RV wb i v (v4.drew.alloc (.cells #[.int .u64 v] 43)) := hA1.cell Hv1.out
  have e9A := hA0.cell (i := 9) rfl
  have e9v : v4.cell? ⟨o, 9, none⟩ = some (.slice va x.rw.length vc) := H4.out.1.cell (i := 9) rfl
  have e9B : (v4.alloc (.cells #[.int .u64 v] 43)).cell? ⟨o, 9, none⟩ = some (.slice va x.rw.length vc) := (H4.out.1.alloc _).cell (i := 9) rfl
  have hq5 : RV wb i v W5 := hB5.cell Hv1.out
  have e95 := hb5.cell (i := 9) rfl
  have hne5 : V5.ownBlock ≠ some o := by
    rcases hv5 with c | c
    · rw [c]; exact Hap0.out.1
    · intro e
      have := (c o e).1
      have := H4.out.1.lt
      have e2 : v4.drew.heap.size = v4.heap.size := rfl
      omega
  obtain ⟨a5, c5, rfl⟩ := owns_form ho5
  have z9 := hb5.frozen 9
  have lo5 := hb5.lt
  have H6 : Hid (Blk (W5.setCell ⟨o, 9, none⟩ (.slice a5 (x.rw.length + 1) c5)) o _ ∧ Row (W5.setCell ⟨o, 9, none⟩ (.slice a5 (x.rw.length + 1) c5)) wb ys ∧ (W5.setCell ⟨o, 9, none⟩ (.slice a5 (x.rw.length + 1) c5)).ownsRow 0 43 1 (.slice a5 (x.rw.length + 1) c5) (x.rw.length + 1) (x.rw.map (Value.int .u64) ++ [.int .u64 v]) ∧ Upd (fun k => k = o ∨ (Value.slice va x.rw.length vc).ownBlock = some k) w (W5.setCell ⟨o, 9, none⟩ (.slice a5 (x.rw.length + 1) c5))) := Lib.hid ⟨hb5.put 9 (.slice a5 (x.rw.length + 1) c5), hB5.setFar hwb _, owns_set ho5 hne5 _, hge.setCell (.inl (.inl rfl)) _⟩
  have Hv5 : Hid ((Value.slice a5 (x.rw.length + 1) c5).ownBlock = (Value.slice va x.rw.length vc).ownBlock ∨ (Value.slice a5 (x.rw.length + 1) c5).ownBlock = none ∨ ∀ q, (Value.slice a5 (x.rw.length + 1) c5).ownBlock = some q → w.heap.size ≤ q ∧ q < W5.heap.size) := Lib.hid (by
    rcases hv5 with c | c
    · exact .inl c
    · refine .inr (.inr (fun q e => ⟨?_, (c q e).2⟩))
      have h1 := (c q e).1
      have h2 := H4.out.2.2.2.size
      have e2 : v4.drew.heap.size = v4.heap.size := rfl
      omega)
  have Hne5 := Lib.hid hne5
  clear hr5 ho5 hg5 hv5 hge hA0 hA1 hb5 hB5 hV hne5
  generalize hw6 : W5.setCell ⟨o, 9, none⟩ (.slice a5 (x.rw.length + 1) c5) = w6 at H6
  have hq6 : RV wb i v w6 := H6.out.2.1.cell Hv1.out
  refine wp_region_held_drew (S := RV wb i v) (by kernel_rfl) (hqv) (fun hHeld => ?_)
  refine wpAnyH_take (i := 0) (v := ?v59) rfl (by kernel_rfl) (by kernel_rfl) (by kernel_rfl) (fun _ _ _ h => h) (Or.inl ⟨by rfl, ?y59⟩) hHeld ?r59
  case y59 => (intro w hSw; have q0 := hSw; unfold RV at q0; go_simp; try with_reducible rfl)
  simp only [List.getElem_toArray, List.getElem_cons_zero, Act.put, List.setIfInBounds_toArray, List.set_cons_zero, List.set_cons_succ]
  refine wpAnyH_take (i := 1) (v := ?v60) rfl (by kernel_rfl) (by kernel_rfl) (by kernel_rfl) (fun _ _ _ h => h) (Or.inl ⟨by rfl, ?y60⟩) hHeld ?r60
  case y60 => (intro w hSw; have q0 := hSw; unfold RV at q0; go_simp; try with_reducible rfl)
  simp only [List.getElem_toArray, List.getElem_cons_zero, List.getElem_cons_succ, Act.put, List.setIfInBounds_toArray, List.set_cons_zero, List.set_cons_succ]
  refine wpAnyH_take (i := 2) (v := ?v61) rfl (by kernel_rfl) (by kernel_rfl) (by kernel_rfl) (fun _ _ _ h => h) (Or.inl ⟨by rfl, ?y61⟩) hHeld ?r61
  case y61 => (intro w hSw; have q0 := hSw; unfold RV at q0; go_simp; try with_reducible rfl)
  simp only [List.getElem_toArray, List.getElem_cons_zero, List.getElem_cons_succ, Act.put, List.setIfInBounds_toArray, List.set_cons_zero, List.set_cons_succ]
  refine wpAnyH_take (i := 3) (v := ?v62) rfl (by kernel_rfl) (by kernel_rfl) (by kernel_rfl) (fun _ _ _ h => h) (Or.inl ⟨by rfl, ?y62⟩) hHeld ?r62
  case y62 => (intro w hSw; have q0 := hSw; unfold RV at q0; go_simp; try with_reducible rfl)
  simp only [List.getElem_toArray, List.getElem_cons_zero, List.getElem_cons_succ, Act.put, List.setIfInBounds_toArray, List.set_cons_zero, List.set_cons_succ]
  refine wpAnyH_take (i := 5) (v := ?v63) rfl (by kernel_rfl) (by kernel_rfl) (by kernel_rfl) (fun _ _ _ h => h) (Or.inl ⟨by rfl, ?y63⟩) hHeld ?r63
  case y63 => (intro w hSw; have q0 := hSw; unfold RV at q0; go_simp; try with_reducible rfl)
  simp only [List.getElem_toArray, List.getElem_cons_zero, List.getElem_cons_succ, Act.put, List.setIfInBounds_toArray, List.set_cons_zero, List.set_cons_succ]
  refine wpAnyH_take (i := 6) (v := ?v64) rfl (by kernel_rfl) (by kernel_rfl) (by kernel_rfl) (fun _ _ _ h => h) (Or.inl ⟨by rfl, ?y64⟩) hHeld ?r64
  case y64 => (intro w hSw; have q0 := hSw; unfold RV at q0; go_simp; try with_reducible rfl)
  simp only [List.getElem_toArray, List.getElem_cons_zero, List.getElem_cons_succ, Act.put, List.setIfInBounds_toArray, List.set_cons_zero, List.set_cons_succ]
  refine wpAnyH_take (i := 7) (v := ?v65) rfl (by kernel_rfl) (by kernel_rfl) (by kernel_rfl) (fun _ _ _ h => h) (Or.inl ⟨by rfl, ?y65⟩) hHeld ?r65
  case y65 => (intro w hSw; have q0 := hSw; unfold RV at q0; go_simp; try with_reducible rfl)
  simp only [List.getElem_toArray, List.getElem_cons_zero, List.getElem_cons_succ, Act.put, List.setIfInBounds_toArray, List.set_cons_zero, List.set_cons_succ]
  refine wpAnyH_take (i := 8) (v := ?v66) rfl (by kernel_rfl) (by kernel_rfl) (by kernel_rfl) (fun _ _ _ h => h) (Or.inl ⟨by rfl, ?y66⟩) hHeld ?r66
  case y66 => (intro w hSw; have q0 := hSw; unfold RV at q0; go_simp; try with_reducible rfl)
  simp only [List.getElem_toArray, List.getElem_cons_zero, List.getElem_cons_succ, Act.put, List.setIfInBounds_toArray, List.set_cons_zero, List.set_cons_succ]
  refine wpAnyH_ready (rs := [4, 9]) (by kernel_rfl) (by simp) (AllReadyH.cons rfl (fun K hK => ?_) (AllReadyH.cons rfl (fun K hK => ?_) AllReadyH.nil))
  · go_simp
    refine hK.out _ _ (hqv) (fun hHeld => ?_)
    clear hK K
    refine wpAnyH_ready (rs := [9]) (by kernel_rfl) (by simp) (AllReadyH.cons rfl (fun K hK => ?_) AllReadyH.nil)
    go_simp
    refine hK.out _ _ (hqA) (fun hHeld => ?_)
    clear hK K
    refine wpAnyH_ready (rs := [10]) (by kernel_rfl) (by simp) (AllReadyH.cons rfl (fun K hK => ?_) AllReadyH.nil)
    refine wp_append_run _ (.tmp 86) (.tmp 91) 42 42 rfl _ _ rfl rfl Hap.out ?_
    refine hK.out _ _ (hq5) (fun hHeld => ?_)
    clear hK K
    refine wpAnyH_take (i := 11) (v := ?v69) rfl (by kernel_rfl) (by kernel_rfl) (by kernel_rfl) (fun _ _ _ h => h) (Or.inl ⟨by rfl, ?y69⟩) hHeld ?r69
    case y69 => (intro w hSw; have q0 := hSw; unfold RV at q0; go_simp; try with_reducible rfl)
    simp only [List.getElem_toArray, List.getElem_cons_zero, List.getElem_cons_succ, Act.put, List.setIfInBounds_toArray, List.set_cons_zero, List.set_cons_succ]
    refine wpAnyH_take (i := 12) (v := ?v70) rfl (by kernel_rfl) (by kernel_rfl) (by kernel_rfl) (fun _ _ _ h => h) (Or.inl ⟨by rfl, ?y70⟩) hHeld ?r70
    case y70 => (intro w hSw; have q0 := hSw; unfold RV at q0; go_simp; try with_reducible rfl)
    simp only [List.getElem_toArray, List.getElem_cons_zero, List.getElem_cons_succ, Act.put, List.setIfInBounds_toArray, List.set_cons_zero, List.set_cons_succ]
    refine wpAnyH_ready (rs := [13]) (by kernel_rfl) (by simp) (AllReadyH.cons rfl (fun K hK => ?_) AllReadyH.nil)
    go_simp
    go_wp2_with fail
    refine hK.out _ _ (hq6) (fun hHeld => ?_)
    clear hK K
    refine wpAnyH_done (by kernel_rfl) ?_ _
    clear hHeld hqv hqA hq5 hq6 Hap z9 lo5 H4 hv4 e94 e9A e95 lo4d lw4d e9v e9B hod
    have e9 := H6.out.1.cell (i := 9) rfl
    have e3 := H6.out.1.cell (i := 3) rfl
    have e6 := H6.out.1.cell (i := 6) rfl
    have z6 := H6.out.1.frozen 6
    have lo6 := H6.out.1.lt
    have hm2 : (((x.rw.length : Int) + 1) == S.wd) = false := by simpa using Hm.out
    go_wp2_with fail
    go_quiet (fail)
    go_wp2
    go_end0
    obtain ⟨a1, a2, a3, a4⟩ := H6.out
    have hsz : W5.heap.size = w6.heap.size := by rw [← hw6]; simp [World.setCell]
    have h5 := Hv5.out
    rw [hsz] at h5
    refine ⟨rfl, .slice a5 (x.rw.length + 1) c5, ⟨(blkN a1 _).to' ?_, ?_, Hne5.out⟩, row_drew a2 _, a4.drewN _, ?_⟩
    · unfold rfr; simp [Hh.out, Hl.out]
    · have h3 := owns_drew a3 nq
      rw [show (x.rw ++ [v]).length = x.rw.length + 1 by simp, List.map_append]
      exact h3
    · rcases h5 with c | c | c
      · exact .inl c
      · exact .inr (.inl c)
      · exact .inr (.inr (fun q e => by have := c q e; simpa [World.setCell] using this))
  · go_simp
    refine hK.out _ _ (hqA) (fun hHeld => ?_)
    clear hK K
    refine wpAnyH_ready (rs := [4]) (by kernel_rfl) (by simp) (AllReadyH.cons rfl (fun K hK => ?_) AllReadyH.nil)
    go_simp
    refine hK.out _ _ (hqA) (fun hHeld => ?_)
    clear hK K
    refine wpAnyH_ready (rs := [10]) (by kernel_rfl) (by simp) (AllReadyH.cons rfl (fun K hK => ?_) AllReadyH.nil)
    refine wp_append_run _ (.tmp 86) (.tmp 91) 42 42 rfl _ _ rfl rfl Hap.out ?_
    refine hK.out _ _ (hq5) (fun hHeld => ?_)
    clear hK K
    refine wpAnyH_take (i := 11) (v := ?v73) rfl (by kernel_rfl) (by kernel_rfl) (by kernel_rfl) (fun _ _ _ h => h) (Or.inl ⟨by rfl, ?y73⟩) hHeld ?r73
    case y73 => (intro w hSw; have q0 := hSw; unfold RV at q0; go_simp; try with_reducible rfl)
    simp only [List.getElem_toArray, List.getElem_cons_zero, List.getElem_cons_succ, Act.put, List.setIfInBounds_toArray, List.set_cons_zero, List.set_cons_succ]
    refine wpAnyH_take (i := 12) (v := ?v74) rfl (by kernel_rfl) (by kernel_rfl) (by kernel_rfl) (fun _ _ _ h => h) (Or.inl ⟨by rfl, ?y74⟩) hHeld ?r74
    case y74 => (intro w hSw; have q0 := hSw; unfold RV at q0; go_simp; try with_reducible rfl)
    simp only [List.getElem_toArray, List.getElem_cons_zero, List.getElem_cons_succ, Act.put, List.setIfInBounds_toArray, List.set_cons_zero, List.set_cons_succ]
    refine wpAnyH_ready (rs := [13]) (by kernel_rfl) (by simp) (AllReadyH.cons rfl (fun K hK => ?_) AllReadyH.nil)
    go_simp
    go_wp2_with fail
    refine hK.out _ _ (hq6) (fun hHeld => ?_)
    clear hK K
    refine wpAnyH_done (by kernel_rfl) ?_ _
    clear hHeld hqv hqA hq5 hq6 Hap z9 lo5 H4 hv4 e94 e9A e95 lo4d lw4d e9v e9B hod
    have e9 := H6.out.1.cell (i := 9) rfl
    have e3 := H6.out.1.cell (i := 3) rfl
    have e6 := H6.out.1.cell (i := 6) rfl
    have z6 := H6.out.1.frozen 6
    have lo6 := H6.out.1.lt
    have hm2 : (((x.rw.length : Int) + 1) == S.wd) = false := by simpa using Hm.out
    go_wp2_with fail
    go_quiet (fail)
    go_wp2
    go_end0
    obtain ⟨a1, a2, a3, a4⟩ := H6.out
    have hsz : W5.heap.size = w6.heap.size := by rw [← hw6]; simp [World.setCell]
    have h5 := Hv5.out
    rw [hsz] at h5
    refine ⟨rfl, .slice a5 (x.rw.length + 1) c5, ⟨(blkN a1 _).to' ?_, ?_, Hne5.out⟩, row_drew a2 _, a4.drewN _, ?_⟩
    · unfold rfr; simp [Hh.out, Hl.out]
    · have h3 := owns_drew a3 nq
      rw [show (x.rw ++ [v]).length = x.rw.length + 1 by simp, List.map_append]
      exact h3
    · rcases h5 with c | c | c
      · exact .inl c
      · exact .inr (.inl c)
      · exact .inr (.inr (fun q e => by have := c q e; simpa [World.setCell] using this))
set_option maxRecDepth 100000 in
set_option maxHeartbeats 2000000 in
theorem rr_word_last (h : RrAt w o V S tr x) (hB : Row w wb ys) (hne : o ≠ wb) (hvw : V.ownBlock ≠ some wb) (hw : RWf S x) (hh : x.how = 0) (t1 : x.left ≤ tr) (t2 : tr ≤ 16) (p0 : 0 ≤ x.steps) (p1 : x.steps ≤ 1000000) (hyl : ys.length ≤ 1000) (hl : x.line = 1) (v : Int) (hv : getI ys (rdl S x) = some v) (Hu : U64 v) (hm : (x.rw.length : Int) + 1 = S.wd)  :
    Calls Try.prog 15 #[.pointer (some ⟨o, 0, none⟩), .slice (some ⟨wb, 0, none⟩) ys.length ys.length] w (RrPost o wb V S tr ys ({ x with steps := x.steps + 1, rw := x.rw ++ [v], line := 2 }) w) := by
  have hb := h.cells
  unfold rfr at hb
  rw [hh, hl] at hb
  have Hl := Lib.hid hl
  have Hh := Lib.hid hh
  have hwb := hne.symm
  have hvo := h.ne
  simp only [show ((1 : Int) + 1) = 2 from rfl] at hb
  have c1 := hb.cell (i := 1) rfl
  have c6 := hb.cell (i := 6) rfl
  have c11 := hb.cell (i := 11) rfl
  have lo := hb.lt
  obtain ⟨ok, b0, b1⟩ := rdl_bd hw
  have hnl := hw.nl hl
  have h64 := hw.rt.2.1
  have Hat := Lib.hid (fun W => rat_any S.ow S.sq S.fs S.wd S.dp x.gen W hw.gen.1 hw.gen.2)
  unfold rdl at hv
  rw [if_pos hl] at hv
  generalize atv S.fs S.wd S.dp x.gen = A at *
  obtain ⟨m, hm0⟩ : ∃ m, x.rw.length = m := ⟨_, rfl⟩
  obtain ⟨va, vc, rfl⟩ := owns_form h.words
  have HwA := Lib.hid (show IntKind.i64.wrap (A + (x.rw.length : Int)) = A + (x.rw.length : Int) by rw [IntKind.wrap_i64]; omega)
  have H := Lib.hid (show Blk w.drew o _ ∧ Row w.drew wb ys ∧ w.drew.ownsRow 0 43 1 (.slice va x.rw.length vc) x.rw.length (x.rw.map (Value.int .u64)) ∧ Upd (fun k => k = o ∨ (Value.slice va x.rw.length vc).ownBlock = some k) w w.drew from ⟨hb.drew, hB.drew, owns_drew h.words 1, (Upd.refl _ w).drew⟩)
  have hq : RY o S x.gen (.slice va x.rw.length vc) w.drew := RY.of H.out.1
  have Hap0 := Lib.hid (And.intro hvo (And.intro hne hvw))
  obtain ⟨q0, hv1⟩ := getI_some hv
  have hlt := lt_of_some hv1
  obtain ⟨i, hi⟩ := Int.eq_ofNat_of_zero_le q0
  rw [hi, Int.toNat_natCast] at hv1 hlt
  have hlt2 : (i : Int) < ys.length := by omega
  have Hv1 := Lib.hid hv1
  have Hi := Lib.hid hi
  have hrl : (x.rw.length : Int) ≤ 64 := by omega
  have Hrw := Lib.hid (And.intro hw.len hnl)
  have Hm := Lib.hid hm
  clear h hb hB hl hv hw hh hvo hvw hnl h64 ok hm0 m hv1 hlt Hu q0 hi hm
  go_enter Try.func15, Try.ntmps15
  go_wp2_with fail
  refine wp_region_held_drew (S := RY o S x.gen (.slice va x.rw.length vc)) (by kernel_rfl) (hq) (fun hHeld => ?_)
  refine wpAnyH_take (i := 0) (v := ?v109) rfl (by kernel_rfl) (by kernel_rfl) (by kernel_rfl) (fun _ _ _ h => h) (Or.inl ⟨by rfl, ?y109⟩) hHeld ?r109
  case y109 => (intro w hSw; obtain ⟨⟨hS0, hS1, hS2, hS3, hS4⟩, hS5, hS6⟩ := hSw; go_simp; try with_reducible rfl)
  simp only [List.getElem_toArray, List.getElem_cons_zero, Act.put, List.setIfInBounds_toArray, List.set_cons_zero, List.set_cons_succ]
  refine wpAnyH_take (i := 1) (v := ?v110) rfl (by kernel_rfl) (by kernel_rfl) (by kernel_rfl) (fun _ _ _ h => h) (Or.inl ⟨by rfl, ?y110⟩) hHeld ?r110
  case y110 => (intro w hSw; obtain ⟨⟨hS0, hS1, hS2, hS3, hS4⟩, hS5, hS6⟩ := hSw; go_simp; try with_reducible rfl)
  simp only [List.getElem_toArray, List.getElem_cons_zero, List.getElem_cons_succ, Act.put, List.setIfInBounds_toArray, List.set_cons_zero, List.set_cons_succ]
  refine wpAnyH_take (i := 2) (v := ?v111) rfl (by kernel_rfl) (by kernel_rfl) (by kernel_rfl) (fun _ _ _ h => h) (Or.inl ⟨by rfl, ?y111⟩) hHeld ?r111
  case y111 => (intro w hSw; obtain ⟨⟨hS0, hS1, hS2, hS3, hS4⟩, hS5, hS6⟩ := hSw; go_simp; try with_reducible rfl)
  simp only [List.getElem_toArray, List.getElem_cons_zero, List.getElem_cons_succ, Act.put, List.setIfInBounds_toArray, List.set_cons_zero, List.set_cons_succ]
  refine wpAnyH_take (i := 3) (v := ?v112) rfl (by kernel_rfl) (by kernel_rfl) (by kernel_rfl) (fun _ _ _ h => h) (Or.inl ⟨by rfl, ?y112⟩) hHeld ?r112
  case y112 => (intro w hSw; obtain ⟨⟨hS0, hS1, hS2, hS3, hS4⟩, hS5, hS6⟩ := hSw; go_simp; try with_reducible rfl)
  simp only [List.getElem_toArray, List.getElem_cons_zero, List.getElem_cons_succ, Act.put, List.setIfInBounds_toArray, List.set_cons_zero, List.set_cons_succ]
  refine wpAnyH_take (i := 4) (v := ?v113) rfl (by kernel_rfl) (by kernel_rfl) (by kernel_rfl) (fun _ _ _ h => h) (Or.inl ⟨by rfl, ?y113⟩) hHeld ?r113
  case y113 => (intro w hSw; obtain ⟨⟨hS0, hS1, hS2, hS3, hS4⟩, hS5, hS6⟩ := hSw; go_simp; try with_reducible rfl)
  simp only [List.getElem_toArray, List.getElem_cons_zero, List.getElem_cons_succ, Act.put, List.setIfInBounds_toArray, List.set_cons_zero, List.set_cons_succ]
  refine wpAnyH_take (i := 5) (v := ?v114) rfl (by kernel_rfl) (by kernel_rfl) (by kernel_rfl) (fun _ _ _ h => h) (Or.inl ⟨by rfl, ?y114⟩) hHeld ?r114
  case y114 => (intro w hSw; obtain ⟨⟨hS0, hS1, hS2, hS3, hS4⟩, hS5, hS6⟩ := hSw; go_simp; try with_reducible rfl)
  simp only [List.getElem_toArray, List.getElem_cons_zero, List.getElem_cons_succ, Act.put, List.setIfInBounds_toArray, List.set_cons_zero, List.set_cons_succ]
  refine wpAnyH_take (i := 6) (v := ?v115) rfl (by kernel_rfl) (by kernel_rfl) (by kernel_rfl) (fun _ _ _ h => h) (Or.inl ⟨by rfl, ?y115⟩) hHeld ?r115
  case y115 => (intro w hSw; obtain ⟨⟨hS0, hS1, hS2, hS3, hS4⟩, hS5, hS6⟩ := hSw; go_simp; try with_reducible rfl)
  simp only [List.getElem_toArray, List.getElem_cons_zero, List.getElem_cons_succ, Act.put, List.setIfInBounds_toArray, List.set_cons_zero, List.set_cons_succ]
  refine wpAnyH_take (i := 7) (v := ?v116) rfl (by kernel_rfl) (by kernel_rfl) (by kernel_rfl) (fun _ _ _ h => h) (Or.inl ⟨by rfl, ?y116⟩) hHeld ?r116
  case y116 => (intro w hSw; obtain ⟨⟨hS0, hS1, hS2, hS3, hS4⟩, hS5, hS6⟩ := hSw; go_simp; try with_reducible rfl)
  simp only [List.getElem_toArray, List.getElem_cons_zero, List.getElem_cons_succ, Act.put, List.setIfInBounds_toArray, List.set_cons_zero, List.set_cons_succ]
  refine wpAnyH_take (i := 9) (v := ?v117) rfl (by kernel_rfl) (by kernel_rfl) (by kernel_rfl) (fun _ _ _ h => h) (Or.inl ⟨by rfl, ?y117⟩) hHeld ?r117
  case y117 => (intro w hSw; obtain ⟨⟨hS0, hS1, hS2, hS3, hS4⟩, hS5, hS6⟩ := hSw; go_simp; try with_reducible rfl)
  simp only [List.getElem_toArray, List.getElem_cons_zero, List.getElem_cons_succ, Act.put, List.setIfInBounds_toArray, List.set_cons_zero, List.set_cons_succ]
  refine wpAnyH_take (i := 10) (v := ?v118) rfl (by kernel_rfl) (by kernel_rfl) (by kernel_rfl) (fun _ _ _ h => h) (Or.inl ⟨by rfl, ?y118⟩) hHeld ?r118
  case y118 => (intro w hSw; obtain ⟨⟨hS0, hS1, hS2, hS3, hS4⟩, hS5, hS6⟩ := hSw; go_simp; try with_reducible rfl)
  simp only [List.getElem_toArray, List.getElem_cons_zero, List.getElem_cons_succ, Act.put, List.setIfInBounds_toArray, List.set_cons_zero, List.set_cons_succ]
  refine wpAnyH_take (i := 11) (v := ?v119) rfl (by kernel_rfl) (by kernel_rfl) (by kernel_rfl) (fun _ _ _ h => h) (Or.inl ⟨by rfl, ?y119⟩) hHeld ?r119
  case y119 => (intro w hSw; obtain ⟨⟨hS0, hS1, hS2, hS3, hS4⟩, hS5, hS6⟩ := hSw; go_simp; try with_reducible rfl)
  simp only [List.getElem_toArray, List.getElem_cons_zero, List.getElem_cons_succ, Act.put, List.setIfInBounds_toArray, List.set_cons_zero, List.set_cons_succ]
  refine wpAnyH_take (i := 12) (v := ?v120) rfl (by kernel_rfl) (by kernel_rfl) (by kernel_rfl) (fun _ _ _ h => h) (Or.inl ⟨by rfl, ?y120⟩) hHeld ?r120
  case y120 => (intro w hSw; obtain ⟨⟨hS0, hS1, hS2, hS3, hS4⟩, hS5, hS6⟩ := hSw; go_simp; try with_reducible rfl)
  simp only [List.getElem_toArray, List.getElem_cons_zero, List.getElem_cons_succ, Act.put, List.setIfInBounds_toArray, List.set_cons_zero, List.set_cons_succ]
  refine wpAnyH_take (i := 13) (v := ?v121) rfl (by kernel_rfl) (by kernel_rfl) (by kernel_rfl) (fun _ _ _ h => h) (Or.inl ⟨by rfl, ?y121⟩) hHeld ?r121
  case y121 => (intro w hSw; obtain ⟨⟨hS0, hS1, hS2, hS3, hS4⟩, hS5, hS6⟩ := hSw; go_simp; try with_reducible rfl)
  simp only [List.getElem_toArray, List.getElem_cons_zero, List.getElem_cons_succ, Act.put, List.setIfInBounds_toArray, List.set_cons_zero, List.set_cons_succ]
  refine wpAnyH_ready (rs := [8]) (by kernel_rfl) (by simp) (AllReadyH.cons rfl (fun K hK => ?_) AllReadyH.nil)
  go_simp
  refine (Hat.out _).mono ?_
  rintro e v3 ⟨rfl, hb3⟩
  obtain ⟨a1, a2, a3, a4⟩ := H.out
  have HV := Lib.hid (show Blk v3 o _ ∧ Row v3 wb ys ∧ v3.ownsRow 0 43 1 (.slice va x.rw.length vc) x.rw.length (x.rw.map (Value.int .u64)) ∧ Upd (fun k => k = o ∨ (Value.slice va x.rw.length vc).ownBlock = some k) w v3 from ⟨a1.low hb3, a2.below hb3, owns_low a3 hb3, a4.trans (Upd.of_below _ hb3)⟩)
  have hq3 : RY o S x.gen (.slice va x.rw.length vc) v3 := RY.of HV.out.1
  clear hb3 a1 a2 a3 a4
  go_wp2_with fail
  refine hK.out _ _ (hq3) (fun hHeld => ?_)
  clear hK K
  refine wpAnyH_take (i := 14) (v := ?v123) rfl (by kernel_rfl) (by kernel_rfl) (by kernel_rfl) (fun _ _ _ h => h) (Or.inl ⟨by rfl, ?y123⟩) hHeld ?r123
  case y123 => (intro w hSw; obtain ⟨⟨hS0, hS1, hS2, hS3, hS4⟩, hS5, hS6⟩ := hSw; go_simp; try with_reducible rfl)
  simp only [List.getElem_toArray, List.getElem_cons_zero, List.getElem_cons_succ, Act.put, List.setIfInBounds_toArray, List.set_cons_zero, List.set_cons_succ]
  refine wpAnyH_take (i := 15) (v := ?v124) rfl (by kernel_rfl) (by kernel_rfl) (by kernel_rfl) (fun _ _ _ h => h) (Or.inl ⟨by rfl, ?y124⟩) hHeld ?r124
  case y124 => (intro w hSw; obtain ⟨⟨hS0, hS1, hS2, hS3, hS4⟩, hS5, hS6⟩ := hSw; go_simp; try with_reducible rfl)
  simp only [List.getElem_toArray, List.getElem_cons_zero, List.getElem_cons_succ, Act.put, List.setIfInBounds_toArray, List.set_cons_zero, List.set_cons_succ]
  refine wpAnyH_done (by kernel_rfl) ?_ _
  clear hHeld hq hq3 Hat
  simp only [HwA.out]
  rw [Hi.out]
  have e12 := HV.out.1.cell (i := 12) rfl
  have z12 := HV.out.1.frozen 12
  have lo3 := HV.out.1.lt
  have lw3 := HV.out.2.1.lt
  have H4 : Hid (Blk (v3.setCell ⟨o, 12, none⟩ (.int .i64 (x.steps + 1))) o _ ∧ Row (v3.setCell ⟨o, 12, none⟩ (.int .i64 (x.steps + 1))) wb ys ∧ (v3.setCell ⟨o, 12, none⟩ (.int .i64 (x.steps + 1))).ownsRow 0 43 1 (.slice va x.rw.length vc) x.rw.length (x.rw.map (Value.int .u64)) ∧ Upd (fun k => k = o ∨ (Value.slice va x.rw.length vc).ownBlock = some k) w (v3.setCell ⟨o, 12, none⟩ (.int .i64 (x.steps + 1)))) := Lib.hid ⟨HV.out.1.put 12 (.int .i64 (x.steps + 1)), HV.out.2.1.setFar hwb _, owns_set HV.out.2.2.1 Hap0.out.1 _, HV.out.2.2.2.setCell (.inl (.inl rfl)) _⟩
  have f6 := H4.out.1.cell (i := 6) rfl
  clear HV H
  generalize hv4 : v3.setCell ⟨o, 12, none⟩ (.int .i64 (x.steps + 1)) = v4 at H4 f6
  have lo4 := H4.out.1.lt
  go_wp2_with fail
  have hqv : RV wb i v v4.drew := H4.out.2.1.drew.cell Hv1.out
  have e94 := H4.out.1.drew.cell (i := 9) rfl
  have lo4d := H4.out.1.drew.lt
  have lw4d := H4.out.2.1.drew.lt
  have hod : v4.drew.ownsRow 0 43 1 (.slice va x.rw.length vc) x.rw.length (x.rw.map (Value.int .u64)) := owns_drew H4.out.2.2.1 1
  obtain ⟨V5, W5, hr5, ho5, hg5, hv5⟩ := rr_append hod (by have := Hrw.out; omega) v
  have Hap := Lib.hid hr5
  have hV : (Value.slice va x.rw.length vc).ownBlock ≠ some wb := Hap0.out.2.2
  have hge : Upd (fun k => k = o ∨ (Value.slice va x.rw.length vc).ownBlock = some k) w W5 := ((H4.out.2.2.2.drew).alloc (.cells #[.int .u64 v] 43)).trans ⟨hg5.os, hg5.tape, hg5.output, hg5.size, fun k hk hn => hg5.block k hk (fun c => hn (.inr c.symm))⟩
  have hA0 := H4.out.1.drew.alloc (.cells #[.int .u64 v] 43)
  have hA1 := (Row.drew H4.out.2.1).alloc (.cells #[.int .u64 v] 43)
  have hb5 := hA0.of_block (hg5.block o hA0.lt (fun c => Hap0.out.1 c.symm))
  have hB5 : Row W5 wb ys := hA1.of_block (hg5.block wb hA1.lt (fun c => hV c.symm))
  have hqA : RV wb i v (v4.drew.alloc (.cells #[.int .u64 v] 43)) := hA1.cell Hv1.out
  have e9A := hA0.cell (i := 9) rfl
  have e9v : v4.cell? ⟨o, 9, none⟩ = some (.slice va x.rw.length vc) := H4.out.1.cell (i := 9) rfl
  have e9B : (v4.alloc (.cells #[.int .u64 v] 43)).cell? ⟨o, 9, none⟩ = some (.slice va x.rw.length vc) := (H4.out.1.alloc _).cell (i := 9) rfl
  have hq5 : RV wb i v W5 := hB5.cell Hv1.out
  have e95 := hb5.cell (i := 9) rfl
  have hne5 : V5.ownBlock ≠ some o := by
    rcases hv5 with c | c
    · rw [c]; exact Hap0.out.1
    · intro e
      have := (c o e).1
      have := H4.out.1.lt
      have e2 : v4.drew.heap.size = v4.heap.size := rfl
      omega
  obtain ⟨a5, c5, rfl⟩ := owns_form ho5
  have z9 := hb5.frozen 9
  have lo5 := hb5.lt
  have H6 : Hid (Blk (W5.setCell ⟨o, 9, none⟩ (.slice a5 (x.rw.length + 1) c5)) o _ ∧ Row (W5.setCell ⟨o, 9, none⟩ (.slice a5 (x.rw.length + 1) c5)) wb ys ∧ (W5.setCell ⟨o, 9, none⟩ (.slice a5 (x.rw.length + 1) c5)).ownsRow 0 43 1 (.slice a5 (x.rw.length + 1) c5) (x.rw.length + 1) (x.rw.map (Value.int .u64) ++ [.int .u64 v]) ∧ Upd (fun k => k = o ∨ (Value.slice va x.rw.length vc).ownBlock = some k) w (W5.setCell ⟨o, 9, none⟩ (.slice a5 (x.rw.length + 1) c5))) := Lib.hid ⟨hb5.put 9 (.slice a5 (x.rw.length + 1) c5), hB5.setFar hwb _, owns_set ho5 hne5 _, hge.setCell (.inl (.inl rfl)) _⟩
  have Hv5 : Hid ((Value.slice a5 (x.rw.length + 1) c5).ownBlock = (Value.slice va x.rw.length vc).ownBlock ∨ (Value.slice a5 (x.rw.length + 1) c5).ownBlock = none ∨ ∀ q, (Value.slice a5 (x.rw.length + 1) c5).ownBlock = some q → w.heap.size ≤ q ∧ q < W5.heap.size) := Lib.hid (by
    rcases hv5 with c | c
    · exact .inl c
    · refine .inr (.inr (fun q e => ⟨?_, (c q e).2⟩))
      have h1 := (c q e).1
      have h2 := H4.out.2.2.2.size
      have e2 : v4.drew.heap.size = v4.heap.size := rfl
      omega)
  have Hne5 := Lib.hid hne5
  clear hr5 ho5 hg5 hv5 hge hA0 hA1 hb5 hB5 hV hne5
  generalize hw6 : W5.setCell ⟨o, 9, none⟩ (.slice a5 (x.rw.length + 1) c5) = w6 at H6
  have hq6 : RV wb i v w6 := H6.out.2.1.cell Hv1.out
  refine wp_region_held_drew (S := RV wb i v) (by kernel_rfl) (hqv) (fun hHeld => ?_)
  refine wpAnyH_take (i := 0) (v := ?v92) rfl (by kernel_rfl) (by kernel_rfl) (by kernel_rfl) (fun _ _ _ h => h) (Or.inl ⟨by rfl, ?y92⟩) hHeld ?r92
  case y92 => (intro w hSw; have q0 := hSw; unfold RV at q0; go_simp; try with_reducible rfl)
  simp only [List.getElem_toArray, List.getElem_cons_zero, Act.put, List.setIfInBounds_toArray, List.set_cons_zero, List.set_cons_succ]
  refine wpAnyH_take (i := 1) (v := ?v93) rfl (by kernel_rfl) (by kernel_rfl) (by kernel_rfl) (fun _ _ _ h => h) (Or.inl ⟨by rfl, ?y93⟩) hHeld ?r93
  case y93 => (intro w hSw; have q0 := hSw; unfold RV at q0; go_simp; try with_reducible rfl)
  simp only [List.getElem_toArray, List.getElem_cons_zero, List.getElem_cons_succ, Act.put, List.setIfInBounds_toArray, List.set_cons_zero, List.set_cons_succ]
  refine wpAnyH_take (i := 2) (v := ?v94) rfl (by kernel_rfl) (by kernel_rfl) (by kernel_rfl) (fun _ _ _ h => h) (Or.inl ⟨by rfl, ?y94⟩) hHeld ?r94
  case y94 => (intro w hSw; have q0 := hSw; unfold RV at q0; go_simp; try with_reducible rfl)
  simp only [List.getElem_toArray, List.getElem_cons_zero, List.getElem_cons_succ, Act.put, List.setIfInBounds_toArray, List.set_cons_zero, List.set_cons_succ]
  refine wpAnyH_take (i := 3) (v := ?v95) rfl (by kernel_rfl) (by kernel_rfl) (by kernel_rfl) (fun _ _ _ h => h) (Or.inl ⟨by rfl, ?y95⟩) hHeld ?r95
  case y95 => (intro w hSw; have q0 := hSw; unfold RV at q0; go_simp; try with_reducible rfl)
  simp only [List.getElem_toArray, List.getElem_cons_zero, List.getElem_cons_succ, Act.put, List.setIfInBounds_toArray, List.set_cons_zero, List.set_cons_succ]
  refine wpAnyH_take (i := 5) (v := ?v96) rfl (by kernel_rfl) (by kernel_rfl) (by kernel_rfl) (fun _ _ _ h => h) (Or.inl ⟨by rfl, ?y96⟩) hHeld ?r96
  case y96 => (intro w hSw; have q0 := hSw; unfold RV at q0; go_simp; try with_reducible rfl)
  simp only [List.getElem_toArray, List.getElem_cons_zero, List.getElem_cons_succ, Act.put, List.setIfInBounds_toArray, List.set_cons_zero, List.set_cons_succ]
  refine wpAnyH_take (i := 6) (v := ?v97) rfl (by kernel_rfl) (by kernel_rfl) (by kernel_rfl) (fun _ _ _ h => h) (Or.inl ⟨by rfl, ?y97⟩) hHeld ?r97
  case y97 => (intro w hSw; have q0 := hSw; unfold RV at q0; go_simp; try with_reducible rfl)
  simp only [List.getElem_toArray, List.getElem_cons_zero, List.getElem_cons_succ, Act.put, List.setIfInBounds_toArray, List.set_cons_zero, List.set_cons_succ]
  refine wpAnyH_take (i := 7) (v := ?v98) rfl (by kernel_rfl) (by kernel_rfl) (by kernel_rfl) (fun _ _ _ h => h) (Or.inl ⟨by rfl, ?y98⟩) hHeld ?r98
  case y98 => (intro w hSw; have q0 := hSw; unfold RV at q0; go_simp; try with_reducible rfl)
  simp only [List.getElem_toArray, List.getElem_cons_zero, List.getElem_cons_succ, Act.put, List.setIfInBounds_toArray, List.set_cons_zero, List.set_cons_succ]
  refine wpAnyH_take (i := 8) (v := ?v99) rfl (by kernel_rfl) (by kernel_rfl) (by kernel_rfl) (fun _ _ _ h => h) (Or.inl ⟨by rfl, ?y99⟩) hHeld ?r99
  case y99 => (intro w hSw; have q0 := hSw; unfold RV at q0; go_simp; try with_reducible rfl)
  simp only [List.getElem_toArray, List.getElem_cons_zero, List.getElem_cons_succ, Act.put, List.setIfInBounds_toArray, List.set_cons_zero, List.set_cons_succ]
  refine wpAnyH_ready (rs := [4, 9]) (by kernel_rfl) (by simp) (AllReadyH.cons rfl (fun K hK => ?_) (AllReadyH.cons rfl (fun K hK => ?_) AllReadyH.nil))
  · go_simp
    refine hK.out _ _ (hqv) (fun hHeld => ?_)
    clear hK K
    refine wpAnyH_ready (rs := [9]) (by kernel_rfl) (by simp) (AllReadyH.cons rfl (fun K hK => ?_) AllReadyH.nil)
    go_simp
    refine hK.out _ _ (hqA) (fun hHeld => ?_)
    clear hK K
    refine wpAnyH_ready (rs := [10]) (by kernel_rfl) (by simp) (AllReadyH.cons rfl (fun K hK => ?_) AllReadyH.nil)
    refine wp_append_run _ (.tmp 86) (.tmp 91) 42 42 rfl _ _ rfl rfl Hap.out ?_
    refine hK.out _ _ (hq5) (fun hHeld => ?_)
    clear hK K
    refine wpAnyH_take (i := 11) (v := ?v102) rfl (by kernel_rfl) (by kernel_rfl) (by kernel_rfl) (fun _ _ _ h => h) (Or.inl ⟨by rfl, ?y102⟩) hHeld ?r102
    case y102 => (intro w hSw; have q0 := hSw; unfold RV at q0; go_simp; try with_reducible rfl)
    simp only [List.getElem_toArray, List.getElem_cons_zero, List.getElem_cons_succ, Act.put, List.setIfInBounds_toArray, List.set_cons_zero, List.set_cons_succ]
    refine wpAnyH_take (i := 12) (v := ?v103) rfl (by kernel_rfl) (by kernel_rfl) (by kernel_rfl) (fun _ _ _ h => h) (Or.inl ⟨by rfl, ?y103⟩) hHeld ?r103
    case y103 => (intro w hSw; have q0 := hSw; unfold RV at q0; go_simp; try with_reducible rfl)
    simp only [List.getElem_toArray, List.getElem_cons_zero, List.getElem_cons_succ, Act.put, List.setIfInBounds_toArray, List.set_cons_zero, List.set_cons_succ]
    refine wpAnyH_ready (rs := [13]) (by kernel_rfl) (by simp) (AllReadyH.cons rfl (fun K hK => ?_) AllReadyH.nil)
    go_simp
    go_wp2_with fail
    refine hK.out _ _ (hq6) (fun hHeld => ?_)
    clear hK K
    refine wpAnyH_done (by kernel_rfl) ?_ _
    clear hHeld hqv hqA hq5 hq6 Hap z9 lo5 H4 hv4 e94 e9A e95 lo4d lw4d e9v e9B hod
    have e9 := H6.out.1.cell (i := 9) rfl
    have e3 := H6.out.1.cell (i := 3) rfl
    have e6 := H6.out.1.cell (i := 6) rfl
    have z6 := H6.out.1.frozen 6
    have lo6 := H6.out.1.lt
    have hm2 : (((x.rw.length : Int) + 1) == S.wd) = true := by simpa using Hm.out
    go_wp2_with fail
    go_quiet (fail)
    have z6n : (w6.drewN nq).frozen? ⟨o, 6, none⟩ = false := z6
    have e6n : (w6.drewN nq).cell? ⟨o, 6, none⟩ = some (.int .i64 2) := e6
    go_wp2
    go_end0
    obtain ⟨a1, a2, a3, a4⟩ := H6.out
    have hsz : W5.heap.size = w6.heap.size := by rw [← hw6]; simp [World.setCell]
    have h5 := Hv5.out
    rw [hsz] at h5
    refine ⟨rfl, .slice a5 (x.rw.length + 1) c5, ⟨((blkN a1 _).put 6 (.int .i64 3)).to' ?_, ?_, Hne5.out⟩, (row_drew a2 _).setFar hwb _, (a4.drewN _).setCell (.inl (.inl rfl)) _, ?_⟩
    · unfold rfr; simp [Hh.out, Hl.out]
    · have h3 := owns_set (owns_drew a3 nq) (p := ⟨o, 6, none⟩) Hne5.out (.int .i64 3)
      rw [show (x.rw ++ [v]).length = x.rw.length + 1 by simp, List.map_append]
      exact h3
    · rcases h5 with c | c | c
      · exact .inl c
      · exact .inr (.inl c)
      · exact .inr (.inr (fun q e => by have := c q e; simpa [World.setCell] using this))
  · go_simp
    refine hK.out _ _ (hqA) (fun hHeld => ?_)
    clear hK K
    refine wpAnyH_ready (rs := [4]) (by kernel_rfl) (by simp) (AllReadyH.cons rfl (fun K hK => ?_) AllReadyH.nil)
    go_simp
    refine hK.out _ _ (hqA) (fun hHeld => ?_)
    clear hK K
    refine wpAnyH_ready (rs := [10]) (by kernel_rfl) (by simp) (AllReadyH.cons rfl (fun K hK => ?_) AllReadyH.nil)
    refine wp_append_run _ (.tmp 86) (.tmp 91) 42 42 rfl _ _ rfl rfl Hap.out ?_
    refine hK.out _ _ (hq5) (fun hHeld => ?_)
    clear hK K
    refine wpAnyH_take (i := 11) (v := ?v106) rfl (by kernel_rfl) (by kernel_rfl) (by kernel_rfl) (fun _ _ _ h => h) (Or.inl ⟨by rfl, ?y106⟩) hHeld ?r106
    case y106 => (intro w hSw; have q0 := hSw; unfold RV at q0; go_simp; try with_reducible rfl)
    simp only [List.getElem_toArray, List.getElem_cons_zero, List.getElem_cons_succ, Act.put, List.setIfInBounds_toArray, List.set_cons_zero, List.set_cons_succ]
    refine wpAnyH_take (i := 12) (v := ?v107) rfl (by kernel_rfl) (by kernel_rfl) (by kernel_rfl) (fun _ _ _ h => h) (Or.inl ⟨by rfl, ?y107⟩) hHeld ?r107
    case y107 => (intro w hSw; have q0 := hSw; unfold RV at q0; go_simp; try with_reducible rfl)
    simp only [List.getElem_toArray, List.getElem_cons_zero, List.getElem_cons_succ, Act.put, List.setIfInBounds_toArray, List.set_cons_zero, List.set_cons_succ]
    refine wpAnyH_ready (rs := [13]) (by kernel_rfl) (by simp) (AllReadyH.cons rfl (fun K hK => ?_) AllReadyH.nil)
    go_simp
    go_wp2_with fail
    refine hK.out _ _ (hq6) (fun hHeld => ?_)
    clear hK K
    refine wpAnyH_done (by kernel_rfl) ?_ _
    clear hHeld hqv hqA hq5 hq6 Hap z9 lo5 H4 hv4 e94 e9A e95 lo4d lw4d e9v e9B hod
    have e9 := H6.out.1.cell (i := 9) rfl
    have e3 := H6.out.1.cell (i := 3) rfl
    have e6 := H6.out.1.cell (i := 6) rfl
    have z6 := H6.out.1.frozen 6
    have lo6 := H6.out.1.lt
    have hm2 : (((x.rw.length : Int) + 1) == S.wd) = true := by simpa using Hm.out
    go_wp2_with fail
    go_quiet (fail)
    have z6n : (w6.drewN nq).frozen? ⟨o, 6, none⟩ = false := z6
    have e6n : (w6.drewN nq).cell? ⟨o, 6, none⟩ = some (.int .i64 2) := e6
    go_wp2
    go_end0
    obtain ⟨a1, a2, a3, a4⟩ := H6.out
    have hsz : W5.heap.size = w6.heap.size := by rw [← hw6]; simp [World.setCell]
    have h5 := Hv5.out
    rw [hsz] at h5
    refine ⟨rfl, .slice a5 (x.rw.length + 1) c5, ⟨((blkN a1 _).put 6 (.int .i64 3)).to' ?_, ?_, Hne5.out⟩, (row_drew a2 _).setFar hwb _, (a4.drewN _).setCell (.inl (.inl rfl)) _, ?_⟩
    · unfold rfr; simp [Hh.out, Hl.out]
    · have h3 := owns_set (owns_drew a3 nq) (p := ⟨o, 6, none⟩) Hne5.out (.int .i64 3)
      rw [show (x.rw ++ [v]).length = x.rw.length + 1 by simp, List.map_append]
      exact h3
    · rcases h5 with c | c | c
      · exact .inl c
      · exact .inr (.inl c)
      · exact .inr (.inr (fun q e => by have := c q e; simpa [World.setCell] using this))
end
end Go.Proofs.Ytajibhhmcjcchaa
