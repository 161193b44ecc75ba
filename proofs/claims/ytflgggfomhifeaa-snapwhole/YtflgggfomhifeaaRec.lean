/- record: the words that a number tells. -/
import Derived.Test.YtflgggfomhifeaaLaG
import Derived.Test.YtflgggfomhifeaaLaP
import Derived.Test.YtflgggfomhifeaaSnS
namespace Go.Proofs.Ytflgggfomhifeaa
open Go.RowKit

/-- A word of a record. -/
def rcw (x : Int) (i : Nat) : Int := IntKind.u64.wrap (x + (i : Int) * 1000003)
theorem u64_rcw (x : Int) (i : Nat) : U64 (rcw x i) := by
  unfold rcw U64
  rw [IntKind.wrap_u64]
  omega
def rcd (n : Nat) (x : Int) : List Int := (List.range n).map (rcw x)
theorem rcd_len (n : Nat) (x : Int) : (rcd n x).length = n := by simp [rcd]
theorem rcd_at {n i : Nat} {x v : Int} (h : (rcd n x)[i]? = some v) : i < n ∧ v = rcw x i := by
  have hl := lt_of_some h
  rw [rcd_len] at hl
  simp [rcd, hl] at h
  exact ⟨hl, h.symm⟩
theorem rcd_get {n i : Nat} (x : Int) (h : i < n) : (rcd n x)[i]? = some (rcw x i) := by simp [rcd, h]
theorem rcd_zero {n : Nat} {x : Int} (h : 0 < n) (hx : U64 x) : (rcd n x)[0]? = some x := by
  rw [rcd_get x h]
  unfold rcw U64 at *
  rw [IntKind.wrap_u64]
  simp
  omega
theorem ap_u64 {W : World} {base : Nat} {v : Value} {k : Nat} {xs : List Value} (h : W.ownsRow base 42 1 v k xs) (hb : base ≤ W.heap.size) (hk : k ≤ 10000) (u : Int) :
    ∃ v' w', (Builtin.append_ #[41, 41] 41 #[v, .slice (some ⟨W.heap.size, 0, none⟩) 1 1]).run Try.prog (W.alloc (.cells #[.int .u64 u] 42)) = .ok v' w' ∧ w'.ownsRow base 42 1 v' (k + 1) (xs ++ [.int .u64 u]) ∧ Below base W w' := by
  obtain ⟨i, hi, he⟩ := Option.map_eq_some_iff.1 info49
  simp only [Prod.mk.injEq] at he
  obtain ⟨hz, hs, hbb⟩ := he
  have hA : (W.alloc (.cells #[.int .u64 u] 42)).ownsRow base 42 1 v k xs := owns_blocks h (fun g hg => Below.heap_alloc _ _ _ (h.lt g hg).2)
  have hB := Blk.new W #[.int .u64 u] 42
  obtain ⟨v', w', hr, ho, hg, _⟩ := run_append_own (P := Try.prog) (W.alloc (.cells #[.int .u64 u] 42)) base 41 41 42 i _ 1 8 Try.underlying41 hi hz hs hbb rfl (by omega) v k xs hA ⟨W.heap.size, 0, none⟩ 1 1 [.int .u64 u] rfl (fun j y hu => by
    match j, hu with
    | 0, hu => cases hu; exact hB.cell rfl) (fun y hu => by
    simp only [List.mem_cons, List.not_mem_nil, or_false] at hu
    subst hu
    rfl) (by simp only [maxLen]; omega) (by omega) (by simp; omega)
  refine ⟨v', w', hr, ho, ?_⟩
  have h2 : Below base (W.alloc (.cells #[.int .u64 u] 42)) w' := ⟨hg.os, hg.tape, hg.output, hg.size, fun q hq => hg.block q (by simp; omega) (fun c => by have := (h.lt q c.symm).1; omega)⟩
  exact ((Below.refl base W).alloc hb _).trans h2
theorem owns_sl {W : World} {base : Nat} {e : TypeId} {size : Nat} {v : Value} {k : Nat} {xs : List Value} (h : W.ownsRow base e size v k xs) : ∃ a c, v = .slice a k c := by
  rcases h.2 with ⟨rfl, rfl⟩ | ⟨g, cap, cur, rfl, _⟩
  · exact ⟨none, 0, rfl⟩
  · exact ⟨_, cap, rfl⟩
theorem owns_wds {W : World} {base : Nat} {a : Option Addr} {n k c : Nat} {ws : List Int} (h : W.ownsRow base 42 1 (.slice a n c) k (ws.map (Value.int .u64))) (hu : ∀ v ∈ ws, U64 v) : Wds W.heap.size W a ws := fun j x hx => by
  obtain ⟨hl, ⟨e, rfl⟩ | ⟨g, cap, cur, e, hb, hg, _⟩⟩ := h
  · have : ws = [] := List.eq_nil_of_length_eq_zero (by simpa using hl)
    rw [this] at hx
    simp at hx
  · cases e
    refine ⟨hu x (List.mem_of_getElem? hx), g, 0, rfl, (Array.getElem?_eq_some_iff.1 hg).1, ?_⟩
    have hc := World.ownsRow.cells (w := W) (base := base) (e := 42) (size := 1) (n := n) (xs := ws.map (Value.int .u64)) (v := .slice (some ⟨g, 0, none⟩) n c) ⟨hl, .inr ⟨g, c, cur, rfl, hb, hg, by assumption⟩⟩ rfl j (.int .u64 x) (by rw [List.getElem?_map, hx]; rfl)
    have e : (⟨g, 0, none⟩ : Addr).add j = ⟨g, j, none⟩ := by unfold Addr.add; split <;> simp_all
    rw [e] at hc
    rw [Nat.zero_add]
    exact hc
def RecPost (n : Nat) (x : Int) (w : World) (e : Ending) (w' : World) : Prop :=
  ∃ a cap, e = .returned (.slice a n cap) ∧ Wds w'.heap.size w' a (rcd n x) ∧ Below w.heap.size w w'
def RcRel (w : World) (n : Nat) (x : Int) (v i : Value) (wr : World) : Prop :=
  ∃ k : Nat, k ≤ n ∧ i = .int .i64 k ∧ wr.ownsRow w.heap.size 42 1 v k ((rcd k x).map (Value.int .u64)) ∧ Below w.heap.size w wr
theorem rcd_succ (k : Nat) (x : Int) : rcd (k + 1) x = rcd k x ++ [rcw x k] := by simp [rcd, List.range_succ]
set_option maxRecDepth 100000 in
set_option maxHeartbeats 1000000 in
theorem record_any (n : Nat) (x : Int) (w : World) (hn : n ≤ 64) (hx : U64 x) : Calls Try.prog 25 #[.int .i64 n, .int .u64 x] w (RecPost n x w) := by
  have hn64 : (n : Int) ≤ 64 := by omega
  have Hx := Lib.hid hx
  clear hx
  go_enter Try.func25, Try.ntmps25
  go_wp2_with fail
  go_loopw [5, 6] (fun v i wr => RcRel w n x v i wr) (fun _ i _ => n - (intOf i).toNat)
  case atStart => exact ⟨0, by omega, rfl, World.ownsRow_nil _ _ _ _, Below.refl _ _⟩
  case round =>
    obtain ⟨k, hk, rfl, hO, hb⟩ := hrel
    obtain ⟨va, vc, rfl⟩ := owns_sl hO
    have HK := Lib.hid (And.intro hO hb)
    clear hO hb
    by_cases hlt : (k : Int) < n
    · obtain ⟨v2, w2, hr2, ho2, hb2⟩ := ap_u64 HK.out.1 HK.out.2.size (by omega) (rcw x k)
      have Hap := Lib.hid hr2
      have HO2 := Lib.hid (And.intro ho2 (HK.out.2.trans hb2))
      clear hr2 ho2 hb2
      unfold rcw at Hap
      have hwk : IntKind.u64.wrap (k : Int) = k := by rw [IntKind.wrap_u64]; omega
      go_wp2_with (at_builtin; refine wpList_append_run _ rfl _ _ 41 41 rfl _ _ rfl rfl Hap.out ?_)
      go_roundw
      case rel =>
        obtain ⟨ho2, hb2⟩ := HO2.out
        exact ⟨k + 1, by omega, by go_num, by rw [rcd_succ, List.map_append]; exact ho2, hb2⟩
      case measure => simp [intOf]; omega
    · obtain rfl : k = n := by omega
      go_wp2_with fail
      go_ret
      exact ⟨va, vc, rfl, owns_wds HK.out.1 (fun v hv => by
        obtain ⟨j, hj⟩ := List.mem_iff_getElem?.1 hv
        rw [(rcd_at hj).2]
        exact u64_rcw _ _), HK.out.2⟩
end Go.Proofs.Ytflgggfomhifeaa
