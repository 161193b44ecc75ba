/- The copy of parts for the document's answer: its contract. -/
import Derived.Test.YtenbbnmhgpclkaaDoorRPla
import Derived.Deep.AppendLies
import Derived.StillTactics
namespace Go.Proofs.YtenbbnmhgpclkaaDoor
open Go.RowKit

theorem info56 : (Tryd.prog.info? 56).map (fun i => (i.zero, i.size, i.bytes)) = some (some (.agg #[.int .i64 0, .int .i64 0]), 2, 16) := by kernel_rfl

/-- A slice of these pairs is left. -/
def PrPost (l : List (Int × Int)) (w : World) (e : Ending) (W' : World) : Prop :=
  ∃ a cap, e = .returned (.slice a l.length cap) ∧ Below w.heap.size w W' ∧ Prs W'.heap.size W' a l

/-- At the head of plain's loop. -/
def RelC (w : World) (l : List (Int × Int)) (s3 s4 : Value) (wr : World) : Prop :=
  ∃ k : Nat, k ≤ l.length ∧ s4 = .int .i64 k ∧ wr.ownsRow w.heap.size 56 2 s3 k (fcl (l.take k)) ∧ (∃ a l c, s3 = .slice a l c) ∧ Below w.heap.size w wr

set_option maxRecDepth 100000 in
set_option maxHeartbeats 4000000 in
theorem plain_any (a : Option Addr) (len cap : Nat) (l : List (Int × Int)) (w : World) (hl : len = l.length) (h300 : l.length ≤ 300) (hP : Prs w.heap.size w a l) :
    Calls Tryd.prog 12 #[.slice a len cap] w (PrPost l w) := by
  subst hl
  obtain ⟨i0, hi, hz0, hz1, hz2⟩ := info_parts info56
  go_enter Tryd.func12, Tryd.ntmps12
  go_wp2
  go_loopw [3, 4] (RelC w l) (fun _ i _ => l.length - (intOf i).toNat)
  case atStart => exact ⟨0, by omega, rfl, World.ownsRow_nil _ _ _ _, ⟨_, _, _, rfl⟩, Below.refl _ _⟩
  case round =>
    obtain ⟨k, hk, rfl, ho, ⟨av, lv, cv, rfl⟩, hb⟩ := hrel
    have HO := Lib.hid ho
    clear ho
    by_cases hlt : k < l.length
    · obtain ⟨⟨kd, n⟩, hz⟩ : ∃ z, l[k]? = some z := ⟨l[k], List.getElem?_eq_getElem hlt⟩
      obtain ⟨b, off, rfl, hbl, hc0, hc1⟩ := hP k _ hz
      have d0 : wr.cell? ⟨b, off + k * 2, none⟩ = some (.int .i64 kd) := (hb.cell (p := ⟨b, off + k * 2, none⟩) hbl).trans hc0
      have d1 : wr.cell? ⟨b, off + k * 2 + 1, none⟩ = some (.int .i64 n) := (hb.cell (p := ⟨b, off + k * 2 + 1, none⟩) hbl).trans hc1
      have hsn : l.take (k + 1) = l.take k ++ [(kd, n)] := by
        rw [List.take_add_one, hz]; rfl
      have Hz := Lib.hid hsn
      have Hc := Lib.hid (And.intro hc0 hc1)
      clear hz hc0 hc1 hsn
      have hs := hb.size
      have hkl : (k : Int) < l.length := by omega
      have hml : k + 1 ≤ maxLen := by
        have : 400 ≤ maxLen := by decide
        omega
      go_wp2
      go_region_held3 (fun w' => w'.cell? ⟨b, off + k * 2, none⟩ = some (.int .i64 kd) ∧ w'.cell? ⟨b, off + k * 2 + 1, none⟩ = some (.int .i64 n))
        (first | go_keep | exact ⟨e0, e1⟩)
        ((refine step_append_lies _ (by rfl) _ _ _ (by rfl) w.heap.size 56 i0 _ 2 16 Tryd.underlying30 hi hz0 hz1 hz2 rfl (by omega) (.slice av lv cv) k (fcl (l.take k)) (by rfl) ((HO.out.alloc _).drew) ⟨wr.heap.size, 0, none⟩ 1 1 (fcells kd n) (by rfl) (by rfl) (World.news_of_block (cs := #[.int .i64 kd, .int .i64 n]) (t := 56) (fr := (0, 0)) (heap_alloc_new wr _)) (by simp [Value.oneCell']) (by omega) hml (by omega) (by simp; omega) (wr.heap.size + 1) (by simp) ?_; intro gg cap' w1 hown' hgrow hat hlt1; have hb1 : Below w.heap.size w w1 := (hb.drew.alloc hb.size _).grown hgrow (by simp; omega) (fun q e => (HO.out.lt q e).1); have e0 := (hb1.cell (p := ⟨b, off + k * 2, none⟩) hbl).trans Hc.out.1; have e1 := (hb1.cell (p := ⟨b, off + k * 2 + 1, none⟩) hbl).trans Hc.out.2))
      go_wp2
      go_roundw
      case rel =>
        refine ⟨k + 1, by omega, by go_num, ?_, ⟨_, _, _, rfl⟩, hb1⟩
        rw [Hz.out, fcl_snoc]
        exact hown'
      case measure => simp [intOf]; omega
    · obtain rfl : k = l.length := by omega
      go_wp2
      go_ret
      have hO := HO.out
      rw [List.take_length] at hO
      obtain ⟨a1, c1, hv, hpr⟩ := owns_prs hO
      exact ⟨a1, c1, by rw [← hv]; rfl, hb, hpr⟩
end Go.Proofs.YtenbbnmhgpclkaaDoor
