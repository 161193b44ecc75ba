/- The document's lay: its contract. -/
import Derived.Test.YtdnjoflahiffhaaOf
import Derived.Test.YtdnjoflahiffhaaRdM
import Derived.Maps.AppendAt
namespace Go.Proofs.Ytdnjoflahiffhaa
open Go.RowKit

/-- What was there, but one block and one row, has not turned. -/
def Fr (p : Nat) (r : Option Nat) (w w' : World) : Prop :=
  w'.os = w.os ∧ w'.tape = w.tape ∧ w'.output = w.output ∧ w.heap.size ≤ w'.heap.size ∧ ∀ j, j < w.heap.size → j ≠ p → some j ≠ r → w'.heap[j]? = w.heap[j]?
theorem Fr.refl (p : Nat) (r : Option Nat) (w : World) : Fr p r w w := ⟨rfl, rfl, rfl, Nat.le_refl _, fun _ _ _ _ => rfl⟩
theorem Fr.step {p : Nat} {r r' : Option Nat} {w a b : World} (h : Fr p r w a) (k : Fr p r' a b) (hr : r' = r ∨ ∀ q, r' = some q → w.heap.size ≤ q) : Fr p r w b := by
  obtain ⟨h1, h2, h3, h4, h5⟩ := h
  obtain ⟨k1, k2, k3, k4, k5⟩ := k
  refine ⟨k1.trans h1, k2.trans h2, k3.trans h3, Nat.le_trans h4 k4, fun j hj hp hne => ?_⟩
  rw [k5 j (by omega) hp, h5 j hj hp hne]
  rcases hr with rfl | hr
  · exact hne
  · intro e
    have := hr j e.symm
    omega
theorem Fr.alloc (p : Nat) (r : Option Nat) (w : World) (o : Obj) : Fr p r w (w.alloc o) :=
  ⟨rfl, rfl, rfl, by simp, fun j hj _ _ => Below.heap_alloc _ _ _ hj⟩
theorem Fr.grown {p : Nat} {r : Option Nat} {w w' : World} (h : w.grownBy w' r) : Fr p r w w' := ⟨h.os, h.tape, h.output, h.size, fun j hj _ hne => h.block j hj hne⟩
theorem Fr.set (p : Nat) (r : Option Nat) (w : World) (i : Nat) (v : Value) : Fr p r w (w.setCell ⟨p, i, none⟩ v) :=
  ⟨rfl, rfl, rfl, by simp [World.setCell], fun j _ hp _ => Below.heap_setCell _ _ _ _ hp⟩
theorem Fr.blk {p : Nat} {r : Option Nat} {w w' : World} (h : Fr p r w w') {g : Nat} {vs : List Value} (b : Blk w g vs) (hg : g ≠ p) (hr : some g ≠ r) : Blk w' g vs := b.of_block (h.2.2.2.2 g b.lt hg hr)
theorem Fr.below {p : Nat} {r : Option Nat} {w w' : World} (h : Fr p r w w') {B : Nat} (hB : B ≤ w.heap.size) (hp : B ≤ p) (hr : ∀ q, r = some q → B ≤ q) : Below B w w' :=
  ⟨h.1, h.2.1, h.2.2.1, h.2.2.2.1, fun j hj => h.2.2.2.2 j (by omega) (by omega) (fun e => by have := hr j e.symm; omega)⟩
theorem Fr.owns {p : Nat} {r : Option Nat} {w w' : World} (h : Fr p r w w') {B : Nat} {e : TypeId} {size : Nat} {v : Value} {k : Nat} {xs : List Value} (o : w.ownsRow B e size v k xs) (hp : p < B) (hr : ∀ q, v.ownBlock = some q → r ≠ some q) : w'.ownsRow B e size v k xs := by
  refine ⟨o.1, ?_⟩
  rcases o.2 with hn | ⟨g, cap, cur, rfl, hb, hg, rest⟩
  · exact .inl hn
  · exact .inr ⟨g, cap, cur, rfl, hb, (h.2.2.2.2 g (Array.getElem?_eq_some_iff.1 hg).1 (by omega) (fun e => hr g (by simp [Value.ownBlock]) e.symm)).trans hg, rest⟩

/-- The words that are laid. -/
def Wr (B p : Nat) (rg lg ln : Int) (u v : Value) (ws : List Int) (W : World) : Prop :=
  Blk W p [.int .i64 rg, .int .i64 lg, .int .i64 ln, u, v] ∧ W.ownsRow B 3 1 v ws.length (icl ws)
def LayPost (B p : Nat) (rg lg ln : Int) (u v : Value) (ws : List Int) (who : Int) (n : Nat) (w : World) (w' : World) : Prop :=
  ∃ v', Wr B p rg lg ln u v' (ws ++ List.replicate n who) w' ∧ Fr p v.ownBlock w w' ∧ (v'.ownBlock = v.ownBlock ∨ ∀ q, v'.ownBlock = some q → w.heap.size ≤ q)
def RelL (B p : Nat) (rg lg ln : Int) (u v : Value) (ws : List Int) (who : Int) (n : Nat) (w : World) (i : Value) (wr : World) : Prop :=
  ∃ k : Nat, k ≤ n ∧ i = .int .i64 k ∧ LayPost B p rg lg ln u v ws who k w wr
theorem info3' : (Try.prog.info? 3).map (fun i => (i.zero, i.size, i.bytes)) = some (some (.int .i64 0), 1, 8) := by kernel_rfl

set_option maxRecDepth 100000 in
set_option maxHeartbeats 1000000 in
theorem lay_any (B p : Nat) (rg lg ln : Int) (u v : Value) (ws : List Int) (who : Int) (n : Nat) (w : World) (hpB : p < B) (hBw : B ≤ w.heap.size) (hn : n ≤ 2000) (hm : ws.length ≤ 100000) (hW : Wr B p rg lg ln u v ws w) :
    Calls Try.prog 22 #[.pointer (some ⟨p, 0, none⟩), .int .i64 who, .int .i64 n] w (fun e w' => e = .returned (.int .i64 ws.length) ∧ LayPost B p rg lg ln u v ws who n w w') := by
  obtain ⟨i0, hi, hz0, hz1, hz2⟩ := info_parts info3'
  obtain ⟨av, cv, rfl, _⟩ := owns_slice hW.2
  have c4 := hW.1.cell (i := 4) rfl
  have HW := Lib.hid hW
  clear hW
  go_enter Try.func22, Try.ntmps22
  go_wp2
  clear c4
  go_loopw [8] (RelL B p rg lg ln u (.slice av ws.length cv) ws who n w) (fun i _ => n - (intOf i).toNat)
  case atStart => exact ⟨0, by omega, rfl, _, by simpa using HW.out, Fr.refl _ _ _, .inl rfl⟩
  case round =>
    clear HW
    obtain ⟨k, hk, rfl, v1, hW, hF, hv⟩ := hrel
    obtain ⟨a1, c1, rfl, _⟩ := owns_slice hW.2
    by_cases hkn : k < n
    · have k0 : decide ((k : Int) < (n : Int)) = true := decide_eq_true (by omega)
      have c4 := hW.1.cell (i := 4) rfl
      have f4 := hW.1.frozen 4
      have hpl := hW.1.lt
      have hlen : (ws ++ List.replicate k who).length ≤ 200000 := by simp; omega
      have hml : (ws ++ List.replicate k who).length + 1 ≤ maxLen := Nat.le_trans (by omega : _ ≤ 200001) (by decide)
      have e1 : ws ++ List.replicate (k + 1) who = (ws ++ List.replicate k who) ++ [who] := by rw [List.replicate_succ', List.append_assoc]
      have hsz := hF.2.2.2.1
      have HX := Lib.hid (And.intro hW (And.intro hF (And.intro hv e1)))
      clear hW hF hv e1
      generalize ws ++ List.replicate k who = us at *
      go_wp2_with (at_builtin; refine wpList_append_own_at _ rfl _ _ 37 rfl B 3 i0 _ 1 8 Try.underlying37 hi hz0 hz1 hz2 rfl (by decide) (.slice a1 us.length c1) us.length _ rfl (HX.out.1.2.alloc _) ⟨wr.heap.size, 0, none⟩ 1 1 [.int .i64 who] rfl rfl (cell_one_new _ _ _) (by simp [Value.oneCell']) hml (by omega) (by simp; omega) ?_; intro v' w4 hown' hgrow _ hblk; obtain ⟨g', cap', rfl⟩ := ownsRow_succ hown'; have hC4 : Blk w4 p [.int .i64 rg, .int .i64 lg, .int .i64 ln, u, .slice a1 us.length c1] := (HX.out.1.1.alloc _).of_block (hgrow.block _ (HX.out.1.1.alloc _).lt (fun e => by have := (HX.out.1.2.lt _ e.symm).1; omega)); have r4 := hC4.cell (i := 4) rfl; have rf := hC4.frozen 4)
      have hW5 : Wr B p rg lg ln u (.slice (some ⟨g', 0, none⟩) (us.length + 1) cap') (us ++ [who]) (w4.setCell ⟨p, 4, none⟩ (.slice (some ⟨g', 0, none⟩) (us.length + 1) cap')) := by
        refine ⟨hC4.put 4 _, ?_⟩
        rw [icl_snoc, List.length_append]
        exact owns_far hown' (p := ⟨p, 4, none⟩) (fun q e => by have := (hown'.lt q e).1; show q ≠ p; omega) _
      have hF5 := ((Fr.alloc p (Value.slice a1 us.length c1).ownBlock wr (.cells #[.int .i64 who] 3)).step (Fr.grown (p := p) hgrow) (.inl rfl)).step (Fr.set p (Value.slice a1 us.length c1).ownBlock w4 4 (.slice (some ⟨g', 0, none⟩) (us.length + 1) cap')) (.inl rfl)
      have H5 := Lib.hid (And.intro hW5 (And.intro hF5 hblk))
      clear hC4 hown' hgrow hW5 hF5 hblk r4 rf c4 f4
      go_roundw
      case rel =>
        have hge : ∀ q, (Value.slice a1 us.length c1).ownBlock = some q → (Value.slice a1 us.length c1).ownBlock = (Value.slice av ws.length cv).ownBlock ∨ w.heap.size ≤ q := fun q e => by
          rcases HX.out.2.2.1 with h | h
          · exact .inl h
          · exact .inr (h q e)
        refine ⟨k + 1, by omega, by go_num, .slice (some ⟨g', 0, none⟩) (us.length + 1) cap', ?_, ?_, ?_⟩
        · rw [HX.out.2.2.2]
          exact H5.out.1
        · exact HX.out.2.1.step H5.out.2.1 HX.out.2.2.1
        · rcases H5.out.2.2 with h | h
          · rw [h]
            exact HX.out.2.2.1
          · right
            intro q e
            rw [h] at e
            have : q = wr.heap.size + 1 := by simpa using e.symm
            omega
      case measure => simp [intOf]; omega
    · obtain rfl : k = n := by omega
      have k0 : decide ((k : Int) < (k : Int)) = false := decide_eq_false (by omega)
      have HX := Lib.hid (And.intro hW (And.intro hF hv))
      clear hW hF hv
      go_wp2
      go_ret
      exact ⟨rfl, _, HX.out.1, HX.out.2.1, HX.out.2.2⟩
end Go.Proofs.Ytdnjoflahiffhaa
