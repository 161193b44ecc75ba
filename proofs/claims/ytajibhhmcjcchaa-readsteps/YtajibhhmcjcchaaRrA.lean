/- The document's reading: what a step makes of it. -/
import Derived.Test.YtajibhhmcjcchaaRfR
import Derived.Deep.RegionHeld3
import Derived.BigQuiet
namespace Go.Proofs.Ytajibhhmcjcchaa
open Go.RowKit
abbrev rfw (S : Sp) (V : Value) (tr nx hd gen bgn how dd : Int) : List Value :=
  [.int .i64 S.ow, .int .i64 S.sq, .int .i64 S.fs, .int .i64 S.wd, .int .i64 S.dp, .int .i64 tr, .int .i64 nx, .int .i64 hd, .int .u64 gen, V, .int .i64 bgn, .int .i64 how, .int .i64 dd]
/-- What comes of a step. -/
def RrPost (o wb : Nat) (V : Value) (S : Sp) (tr : Int) (ys : List Int) (y : RSt) (w : World) (e : Ending) (w' : World) : Prop :=
  e = .returned (.tuple #[]) ∧ ∃ V', RrAt w' o V' S tr y ∧ Row w' wb ys ∧ Upd (fun k => k = o ∨ V.ownBlock = some k) w w' ∧ (V'.ownBlock = V.ownBlock ∨ V'.ownBlock = none ∨ ∀ q, V'.ownBlock = some q → w.heap.size ≤ q ∧ q < w'.heap.size)
section
variable {w : World} {o wb : Nat} {V : Value} {S : Sp} {tr : Int} {x : RSt} {ys : List Int}
set_option maxRecDepth 100000 in
theorem rr_ended (h : RrAt w o V S tr x) (bv : Value) (hh : ¬ x.how = 0) : Calls Try.prog 15 #[.pointer (some ⟨o, 0, none⟩), bv] w (Pur (.tuple #[]) w) := by
  have c11 := h.cells.cell (i := 11) rfl
  have lo := h.cells.lt
  clear h
  generalize x.how = y at *
  go_enter Try.func15, Try.ntmps15
  go_wp2
  go_end0
  exact ⟨rfl, rfl⟩
theorem owns_set {A : World} {v : Value} {k : Nat} {xs : List Value} (h : A.ownsRow 0 43 1 v k xs) {p : Addr} (hp : v.ownBlock ≠ some p.block) (u : Value) : (A.setCell p u).ownsRow 0 43 1 v k xs :=
  owns_blocks h (fun g hg => Below.heap_setCell _ _ _ _ (fun c => hp (by rw [hg, c])))
theorem owns_drew {A : World} {v : Value} {k : Nat} {xs : List Value} (h : A.ownsRow 0 43 1 v k xs) (m : Nat) : (A.drewN m).ownsRow 0 43 1 v k xs := owns_blocks h (fun _ _ => rfl)
theorem row_drew {A : World} {g : Nat} {zs : List Int} (h : Row A g zs) (m : Nat) : Row (A.drewN m) g zs := h
set_option maxRecDepth 100000 in
set_option maxHeartbeats 2000000 in
theorem rr_out0 (h : RrAt w o V S tr x) (hB : Row w wb ys) (hne : o ≠ wb) (hvw : V.ownBlock ≠ some wb) (hw : RWf S x) (hh : x.how = 0) (t1 : x.left ≤ tr) (t2 : tr ≤ 16) (p0 : 0 ≤ x.steps) (p1 : x.steps ≤ 1000000) (hyl : ys.length ≤ 1000) (hl : x.line = 0) (hv : getI ys (rdl S x) = none) :
    Calls Try.prog 15 #[.pointer (some ⟨o, 0, none⟩), .slice (some ⟨wb, 0, none⟩) ys.length ys.length] w (RrPost o wb V S tr ys { x with how := 3 } w) := by
  have hb := h.cells
  unfold rfr at hb
  rw [hh, hl] at hb
  have Hl := Lib.hid hl
  have Hh := Lib.hid hh
  have hwb := hne.symm
  have hvo := h.ne
  simp only [show ((0 : Int) + 1) = 1 from rfl] at hb
  have c1 := hb.cell (i := 1) rfl
  have c6 := hb.cell (i := 6) rfl
  have c11 := hb.cell (i := 11) rfl
  have z11 := hb.frozen 11
  have lo := hb.lt
  have lw := hB.lt
  have hlen : (ys.length : Int) ≤ S.sq := by
    have q0 := hw.rt
    unfold Rt at q0
    unfold rdl at hv
    rw [if_neg (by omega)] at hv
    rcases getI_none hv with c | c <;> omega
  have q0 : 0 ≤ S.sq := by have q0 := hw.rt; unfold Rt at q0; omega
  have H := Lib.hid (And.intro hb (And.intro hB (And.intro h.words (And.intro hvo (And.intro hne hvw)))))
  clear h hb hB hl hv hw hh hvo hvw hne
  go_enter Try.func15, Try.ntmps15
  go_wp2
  go_end0
  obtain ⟨hb, hB, hwd, hvo, hne, hvw⟩ := H.out
  exact ⟨rfl, V, ⟨(hb.put 11 (.int .i64 3)).to' (by unfold rfr; simp [Hl.out]), owns_set hwd hvo _, hvo⟩, hB.setFar hwb _, (Upd.refl _ w).setCell (.inl (.inl rfl)) _, .inl rfl⟩
set_option maxRecDepth 100000 in
set_option maxHeartbeats 2000000 in
theorem rr_out2 (h : RrAt w o V S tr x) (hB : Row w wb ys) (hne : o ≠ wb) (hvw : V.ownBlock ≠ some wb) (hw : RWf S x) (hh : x.how = 0) (t1 : x.left ≤ tr) (t2 : tr ≤ 16) (p0 : 0 ≤ x.steps) (p1 : x.steps ≤ 1000000) (hyl : ys.length ≤ 1000) (hl : x.line = 2) (hv : getI ys (rdl S x) = none) :
    Calls Try.prog 15 #[.pointer (some ⟨o, 0, none⟩), .slice (some ⟨wb, 0, none⟩) ys.length ys.length] w (RrPost o wb V S tr ys { x with how := 3 } w) := by
  have hb := h.cells
  unfold rfr at hb
  rw [hh, hl] at hb
  have Hl := Lib.hid hl
  have Hh := Lib.hid hh
  have hwb := hne.symm
  have hvo := h.ne
  simp only [show ((2 : Int) + 1) = 3 from rfl] at hb
  have c1 := hb.cell (i := 1) rfl
  have c6 := hb.cell (i := 6) rfl
  have c11 := hb.cell (i := 11) rfl
  have z11 := hb.frozen 11
  have lo := hb.lt
  have lw := hB.lt
  have hlen : (ys.length : Int) ≤ S.sq := by
    have q0 := hw.rt
    unfold Rt at q0
    unfold rdl at hv
    rw [if_neg (by omega)] at hv
    rcases getI_none hv with c | c <;> omega
  have q0 : 0 ≤ S.sq := by have q0 := hw.rt; unfold Rt at q0; omega
  have H := Lib.hid (And.intro hb (And.intro hB (And.intro h.words (And.intro hvo (And.intro hne hvw)))))
  clear h hb hB hl hv hw hh hvo hvw hne
  go_enter Try.func15, Try.ntmps15
  go_wp2
  go_end0
  obtain ⟨hb, hB, hwd, hvo, hne, hvw⟩ := H.out
  exact ⟨rfl, V, ⟨(hb.put 11 (.int .i64 3)).to' (by unfold rfr; simp [Hl.out]), owns_set hwd hvo _, hvo⟩, hB.setFar hwb _, (Upd.refl _ w).setCell (.inl (.inl rfl)) _, .inl rfl⟩
set_option maxRecDepth 100000 in
set_option maxHeartbeats 2000000 in
theorem rr_new (h : RrAt w o V S tr x) (hB : Row w wb ys) (hne : o ≠ wb) (hvw : V.ownBlock ≠ some wb) (hw : RWf S x) (hh : x.how = 0) (t1 : x.left ≤ tr) (t2 : tr ≤ 16) (p0 : 0 ≤ x.steps) (p1 : x.steps ≤ 1000000) (hyl : ys.length ≤ 1000) (hl : x.line = 0) (v : Int) (hv : getI ys (rdl S x) = some v) (Hu : U64 v) :
    Calls Try.prog 15 #[.pointer (some ⟨o, 0, none⟩), .slice (some ⟨wb, 0, none⟩) ys.length ys.length] w (RrPost o wb V S tr ys { x with steps := x.steps + 1, bgn := x.steps + 1, gen := v / 2, rw := [], line := 1 } w) := by
  have hb := h.cells
  unfold rfr at hb
  rw [hh, hl] at hb
  have Hl := Lib.hid hl
  have Hh := Lib.hid hh
  have hwb := hne.symm
  have hvo := h.ne
  simp only [show ((0 : Int) + 1) = 1 from rfl] at hb
  have c1 := hb.cell (i := 1) rfl
  have c6 := hb.cell (i := 6) rfl
  have c8 := hb.cell (i := 8) rfl
  have c9 := hb.cell (i := 9) rfl
  have c10 := hb.cell (i := 10) rfl
  have c11 := hb.cell (i := 11) rfl
  have c12 := hb.cell (i := 12) rfl
  have z6 := hb.frozen 6
  have z8 := hb.frozen 8
  have z9 := hb.frozen 9
  have z10 := hb.frozen 10
  have z12 := hb.frozen 12
  have lo := hb.lt
  have lw := hB.lt
  unfold rdl at hv
  rw [if_neg (by omega)] at hv
  obtain ⟨q0, hv1⟩ := getI_some hv
  have hlt := lt_of_some hv1
  have cv := hB.cell hv1
  obtain ⟨i, hi⟩ := Int.eq_ofNat_of_zero_le q0
  rw [hi] at c1
  rw [hi, Int.toNat_natCast] at hv1 hlt cv
  have hlt2 : (i : Int) < ys.length := by omega
  have hu : U64 v := Hu
  obtain ⟨u0, u1⟩ := hu
  have H := Lib.hid (And.intro hb (And.intro hB (And.intro hvo (And.intro hne hvw))))
  have Hi := Lib.hid hi
  clear h hb hB hl hv hv1 hw hh hvo hvw hne hlt Hu hi q0
  go_enter Try.func15, Try.ntmps15
  go_wp2
  go_end0
  obtain ⟨hb, hB, hvo, hne, hvw⟩ := H.out
  refine ⟨rfl, .slice none 0 0, ⟨(((((hb.put 12 (.int .i64 (x.steps + 1))).put 8 (.int .u64 (v / 2))).put 9 (.slice none 0 0)).put 10 (.int .i64 (x.steps + 1))).put 6 (.int .i64 2)).to' (by unfold rfr; simp [Hh.out]), World.ownsRow_nil _ _ _ _, by simp [Value.ownBlock]⟩, ((((hB.setFar hwb _).setFar hwb _).setFar hwb _).setFar hwb _).setFar hwb _, (((((Upd.refl _ w).setCell (.inl (.inl rfl)) _).setCell (.inl (.inl rfl)) _).setCell (.inl (.inl rfl)) _).setCell (.inl (.inl rfl)) _).setCell (.inl (.inl rfl)) _, .inr (.inl rfl)⟩
end
end Go.Proofs.Ytajibhhmcjcchaa
