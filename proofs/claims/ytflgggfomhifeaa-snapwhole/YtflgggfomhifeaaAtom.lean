/- What sync/atomic's methods do to one cell: contracts over the one translation, one goroutine. -/
import Derived.Test.YtflgggfomhifeaaRows
import Derived.Test.YtflgggfomhifeaaMem
import Derived.WalkKit
import Derived.WalkSpells
import Derived.WalkLawsBesides
import Derived.Laws.LoneSync
import Derived.Lib.Hide
namespace Go.Proofs.Ytflgggfomhifeaa
open Go.RowKit

set_option maxHeartbeats 400000 in
theorem i64_load (b off : Nat) (t : Int) (w : World) (hc : w.cell? ⟨b, off, none⟩ = some (.int .i64 t)) :
    Calls Try.prog 55 #[.pointer (some ⟨b, off, none⟩)] w fun e w' => e = .returned (.int .i64 t) ∧ w = w' := by
  have hl := run_call_load (P := Try.prog) Try.func66 (by kernel_rfl) (by kernel_rfl) (by kernel_rfl) .i64 (by kernel_rfl) hc
  go_enter Try.func55, Try.ntmps55
  go_wp2
  go_ret
  exact ⟨rfl, rfl⟩

set_option maxHeartbeats 400000 in
theorem u64_load (b off : Nat) (t : Int) (w : World) (hc : w.cell? ⟨b, off, none⟩ = some (.int .u64 t)) :
    Calls Try.prog 45 #[.pointer (some ⟨b, off, none⟩)] w fun e w' => e = .returned (.int .u64 t) ∧ w = w' := by
  have hl := run_call_load (P := Try.prog) Try.func61 (by kernel_rfl) (by kernel_rfl) (by kernel_rfl) .u64 (by kernel_rfl) hc
  go_enter Try.func45, Try.ntmps45
  go_wp2
  go_ret
  exact ⟨rfl, rfl⟩

set_option maxHeartbeats 400000 in
theorem i64_add (b off : Nat) (t d : Int) (w : World) (hc : w.cell? ⟨b, off, none⟩ = some (.int .i64 t)) (hf : w.frozen? ⟨b, off, none⟩ = false) :
    Calls Try.prog 37 #[.pointer (some ⟨b, off, none⟩), .int .i64 d] w fun e w' => e = .returned (.int .i64 (wrap64 (t + d))) ∧ w.setCell ⟨b, off, none⟩ (.int .i64 (wrap64 (t + d))) = w' := by
  have hl := run_call_add (P := Try.prog) (y := d) Try.func59 (by kernel_rfl) (by kernel_rfl) (by kernel_rfl) .i64 (by kernel_rfl) hc hf (s := wrap64 (t + d)) (by simp [go_sem, wrap64, IntKind.wrap_i64])
  go_enter Try.func37, Try.ntmps37
  go_wp2
  go_ret
  exact ⟨rfl, rfl⟩

set_option maxHeartbeats 400000 in
theorem u64_store (b off : Nat) (d : Int) (u : Value) (w : World) (hc : w.cell? ⟨b, off, none⟩ = some u) (hf : w.frozen? ⟨b, off, none⟩ = false) :
    Calls Try.prog 38 #[.pointer (some ⟨b, off, none⟩), .int .u64 d] w fun e w' => e = .returned (.tuple #[]) ∧ w.setCell ⟨b, off, none⟩ (.int .u64 d) = w' := by
  have hl := run_call_store (P := Try.prog) (y := d) (k := .u64) Try.func60 (by kernel_rfl) (by kernel_rfl) (by kernel_rfl) (by kernel_rfl) hc hf
  go_enter Try.func38, Try.ntmps38
  go_wp2
  go_end0
  exact ⟨rfl, rfl⟩

set_option maxHeartbeats 400000 in
theorem i64_store (b off : Nat) (d : Int) (u : Value) (w : World) (hc : w.cell? ⟨b, off, none⟩ = some u) (hf : w.frozen? ⟨b, off, none⟩ = false) :
    Calls Try.prog 54 #[.pointer (some ⟨b, off, none⟩), .int .i64 d] w fun e w' => e = .returned (.tuple #[]) ∧ w.setCell ⟨b, off, none⟩ (.int .i64 d) = w' := by
  have hl := run_call_store (P := Try.prog) (y := d) (k := .i64) Try.func65 (by kernel_rfl) (by kernel_rfl) (by kernel_rfl) (by kernel_rfl) hc hf
  go_enter Try.func54, Try.ntmps54
  go_wp2
  go_end0
  exact ⟨rfl, rfl⟩

set_option maxHeartbeats 400000 in
theorem u64_cas_hit (b off : Nat) (x y : Int) (w : World) (hc : w.cell? ⟨b, off, none⟩ = some (.int .u64 x)) (hf : w.frozen? ⟨b, off, none⟩ = false) :
    Calls Try.prog 63 #[.pointer (some ⟨b, off, none⟩), .int .u64 x, .int .u64 y] w fun e w' => e = .returned (.bool true) ∧ w.setCell ⟨b, off, none⟩ (.int .u64 y) = w' := by
  have hl := run_call_cas_hit (P := Try.prog) (y := y) Try.func69 (by kernel_rfl) (by kernel_rfl) (by kernel_rfl) .u64 (by kernel_rfl) hc hf
  go_enter Try.func63, Try.ntmps63
  go_wp2
  go_ret
  exact ⟨rfl, rfl⟩

set_option maxHeartbeats 400000 in
theorem u64_cas_miss (b off : Nat) (x o y : Int) (w : World) (hc : w.cell? ⟨b, off, none⟩ = some (.int .u64 x)) (hf : w.frozen? ⟨b, off, none⟩ = false) (hne : ¬ x = o) :
    Calls Try.prog 63 #[.pointer (some ⟨b, off, none⟩), .int .u64 o, .int .u64 y] w fun e w' => e = .returned (.bool false) ∧ w = w' := by
  have hl := run_call_cas_miss (P := Try.prog) (o := o) (y := y) Try.func69 (by kernel_rfl) (by kernel_rfl) (by kernel_rfl) .u64 (by kernel_rfl) hc hf hne
  go_enter Try.func63, Try.ntmps63
  go_wp2
  go_ret
  exact ⟨rfl, rfl⟩
end Go.Proofs.Ytflgggfomhifeaa
