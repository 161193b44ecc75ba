/- Small calls: Gen and Held of a sequence, next, tried, Gen, Steps. -/
import Derived.Test.YtflgggfomhifeaaOpM
import Derived.Test.YtflgggfomhifeaaBank
import Derived.Test.YtflgggfomhifeaaChecked
import Derived.BigQuiet
import Derived.Test.YtflgggfomhifeaaFwd
namespace Go.Proofs.Ytflgggfomhifeaa
open Go.RowKit

def hl (s : Int) : Bool := s % 2 == 1
theorem hl_t {s : Int} (h : s % 2 = 1) : hl s = true := by simp [hl, h]
theorem hl_f {s : Int} (h : ¬ s % 2 = 1) : hl s = false := by simp [hl, h]
theorem sgen_any (s : Int) (hs : U64 s) (w : World) : Calls Try.prog 43 #[.int .u64 s] w (Pur (.int .u64 (s / 2)) w) := by
  obtain ⟨h0, h1⟩ := hs
  go_enter Try.func43, Try.ntmps43
  go_wp2
  go_ret
  exact ⟨rfl, rfl⟩
theorem held_any (s : Int) (hs : U64 s) (w : World) : Calls Try.prog 48 #[.int .u64 s] w (Pur (.bool (hl s)) w) := by
  obtain ⟨h0, h1⟩ := hs
  go_enter Try.func48, Try.ntmps48
  go_wp2
  go_ret
  exact ⟨rfl, rfl⟩
section
variable {w : World} {o g : Nat} {S : Sp} {ws : List Int} {x : St}
theorem next_any (h : OpAt w o g S ws x) (hs : U64 x.s) : Calls Try.prog 51 #[.pointer (some ⟨o, 0, none⟩)] w (Pur (.int .u64 (x.s / 2 + 1)) w) := by
  have c11 := h.cell (i := 11) (fun _ => rfl)
  have Hs := Lib.hid hs
  have lo := h.lto
  clear h
  obtain ⟨h0, h1⟩ := hs
  generalize x.s = s at *
  have h2 : s / 2 ≤ 9223372036854775807 := by omega
  have h3 : 0 ≤ s / 2 := by omega
  go_enter Try.func51, Try.ntmps51
  go_wp2_with fail
  refine (sgen_any s Hs.out _).mono ?_
  rintro e w' ⟨rfl, rfl⟩
  go_wp2
  go_ret
  exact ⟨rfl, rfl⟩
def htd (x : St) : St := { x with left := x.left - 1, how := if x.left - 1 = 0 then 2 else x.how }
def TriedPost (o g : Nat) (S : Sp) (ws : List Int) (y : St) (w : World) (e : Ending) (w' : World) : Prop := e = .returned (.tuple #[]) ∧ OpAt w' o g S ws y ∧ Upd (OwnS o o o) w w'
/-- tried: one of the tries. -/
theorem tried_any (h : OpAt w o g S ws x) (f0 : 0 ≤ x.left) (f1 : x.left ≤ 16) : Calls Try.prog 52 #[.pointer (some ⟨o, 0, none⟩)] w (TriedPost o g S ws (htd x) w) := by
  have c2 := h.cell (i := 2) (fun _ => rfl)
  have z2 := h.frozen 2
  have z0 := h.frozen 0
  have c0 := h.cell (i := 0) (fun _ => rfl)
  have lo := h.lto
  have H := Lib.hid h
  clear h
  by_cases k : x.left = 1
  · rw [k] at c2
    have Hk := Lib.hid k
    clear k f0 f1
    go_enter Try.func52, Try.ntmps52
    go_wp2
    go_end0
    refine ⟨rfl, ?_, ((Upd.refl (OwnS o o o) w).setCell (p := ⟨o, 2, none⟩) (.inl (.inl rfl)) _).setCell (p := ⟨o, 0, none⟩) (.inl (.inl rfl)) _⟩
    have hk := Hk.out
    refine (H.out.put 2 _ { x with left := 0 } (fun _ => rfl)).put 0 _ _ (fun _ => ?_)
    simp [opc, htd, hk]
  · have k1 : ¬ x.left - 1 = 0 := by omega
    have Hk := Lib.hid k1
    clear k
    generalize hl : x.left = l at *
    have Hl := Lib.hid hl
    clear hl
    go_enter Try.func52, Try.ntmps52
    go_wp2
    go_end0
    refine ⟨rfl, ?_, (Upd.refl (OwnS o o o) w).setCell (p := ⟨o, 2, none⟩) (.inl (.inl rfl)) _⟩
    refine H.out.put 2 _ _ (fun _ => ?_)
    simp [opc, htd, Hk.out, Hl.out]
theorem gen_any (h : OpAt w o g S ws x) (hs : U64 x.s) : Calls Try.prog 53 #[.pointer (some ⟨o, 0, none⟩)] w (Pur (.int .u64 (if x.how = 1 then x.s / 2 + 1 else 0)) w) := by
  have H := Lib.hid h
  have c0 := h.cell (i := 0) (fun _ => rfl)
  have lo := h.lto
  clear h
  have Hs := Lib.hid hs
  clear hs
  by_cases k : x.how = 1
  · rw [if_pos k]
    rw [k] at c0
    clear k
    go_enter Try.func53, Try.ntmps53
    go_wp2_with fail
    refine (next_any H.out Hs.out).mono ?_
    rintro e w' ⟨rfl, rfl⟩
    go_wp2
    go_ret
    exact ⟨rfl, rfl⟩
  · rw [if_neg k]
    generalize x.how = y at *
    go_enter Try.func53, Try.ntmps53
    go_wp2
    go_ret
    exact ⟨rfl, rfl⟩
end
theorem gen_nil (w : World) : Calls Try.prog 53 #[.pointer none] w (Pur (.int .u64 0) w) := by
  go_enter Try.func53, Try.ntmps53
  go_wp2
  go_ret
  exact ⟨rfl, rfl⟩
set_option maxRecDepth 100000 in
theorem step_nil (b : Value) (w : World) : Calls Try.prog 26 #[.pointer none, b] w (Pur (.int .i64 3) w) := by
  go_enter Try.func26, Try.ntmps26
  go_wp2
  refine wp_scope_straight ?_
  go_wp2
  rw [Exit.noGoto_ret]
  go_ret
  exact ⟨rfl, rfl⟩
end Go.Proofs.Ytflgggfomhifeaa
