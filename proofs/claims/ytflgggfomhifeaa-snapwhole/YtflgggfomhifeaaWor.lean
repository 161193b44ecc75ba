/- words: whether two rows of words are one. -/
import Derived.Test.YtflgggfomhifeaaMem2
import Derived.Test.YtflgggfomhifeaaChecked
import Derived.BigQuiet
namespace Go.Proofs.Ytflgggfomhifeaa
open Go.RowKit

/-- Words that can be read at a slice. -/
def Rdw (W : World) (a : Option Addr) (xs : List Int) : Prop := ∀ (j : Nat) (x : Int), xs[j]? = some x → ∃ b off, a = some ⟨b, off, none⟩ ∧ W.cell? ⟨b, off + j, none⟩ = some (.int .u64 x)
theorem Rdw.of_blk {W : World} {q : Nat} {xs : List Int} (h : Blk W q (xs.map (Value.int .u64))) : Rdw W (some ⟨q, 0, none⟩) xs := fun j x hx => ⟨q, 0, rfl, by
  rw [Nat.zero_add]
  exact h.cell (by rw [List.getElem?_map, hx]; rfl)⟩
def intOfW : Value → Int | .int _ q => q | _ => 0
def WoRel (w : World) (xs ys : List Int) (n : Nat) (i : Value) (wr : World) : Prop := ∃ k m : Nat, i = .int .i64 k ∧ k ≤ n ∧ wr = w.drewN m ∧ ∀ j, j < k → xs[j]? = ys[j]?
set_option maxRecDepth 100000 in
set_option maxHeartbeats 1000000 in
theorem words_any (a b : Option Addr) (xs ys : List Int) (ca cb : Nat) (w : World) (ha : Rdw w a xs) (hb : Rdw w b ys) (hmx : xs.length ≤ 1000000) :
    Calls Try.prog 20 #[.slice a xs.length ca, .slice b ys.length cb] w (Ret (.bool (decide (xs = ys))) w) := by
  by_cases hl : xs.length = ys.length
  · obtain ⟨n, hn⟩ : ∃ n, xs.length = n := ⟨_, rfl⟩
    have hn2 : ys.length = n := hl ▸ hn
    rw [hn, hn2]
    have Hl := Lib.hid (And.intro hn hn2)
    have hn6 : (n : Int) ≤ 1000000 := by omega
    clear hmx
    have Ha := Lib.hid ha
    have Hb := Lib.hid hb
    clear hl hn hn2 ha hb
    go_enter Try.func20, Try.ntmps20
    go_wp2_with fail
    go_loopw [5] (fun i wr => WoRel w xs ys n i wr) (fun i _ => n - (intOfW i).toNat)
    case atStart => exact ⟨0, 0, rfl, by omega, rfl, fun j hj => by omega⟩
    case round =>
      obtain ⟨k, m, rfl, hk, rfl, hE⟩ := hrel
      have HE := Lib.hid hE
      clear hE
      by_cases hlt : (k : Int) < n
      · obtain ⟨x, hx⟩ : ∃ x, xs[k]? = some x := ⟨_, List.getElem?_eq_getElem (by have := Hl.out.1; omega)⟩
        obtain ⟨y, hy⟩ : ∃ y, ys[k]? = some y := ⟨_, List.getElem?_eq_getElem (by have := Hl.out.2; omega)⟩
        obtain ⟨p, pf, rfl, cp⟩ := Ha.out k x hx
        obtain ⟨q, qf, rfl, cq⟩ := Hb.out k y hy
        have HX := Lib.hid (And.intro hx hy)
        clear hx hy
        by_cases e : x = y
        · have m0 : (x != y) = false := by simpa using e
          have He := Lib.hid e
          clear e
          go_wp2_with fail
          go_quiet (fail)
          go_wp2
          go_roundw
          case rel => exact ⟨k + 1, _, by go_num, by omega, rfl, fun j hj => by
            by_cases c : j = k
            · subst c; rw [HX.out.1, HX.out.2, He.out]
            · exact HE.out j (by omega)⟩
          case measure => simp [intOfW]; omega
        · have m0 : (x != y) = true := by simpa using e
          have He := Lib.hid e
          clear e
          go_wp2_with fail
          go_quiet (fail)
          go_wp2
          go_ret
          refine ⟨?_, belN (belN (Below.refl _ _) _) _⟩
          have : decide (xs = ys) = false := decide_eq_false (fun c => He.out (by have h := HX.out; rw [c, h.2] at h; exact (Option.some.inj h.1).symm))
          rw [this]
          rfl
      · obtain rfl : k = n := by omega
        go_wp2_with fail
        go_ret
        refine ⟨?_, belN (Below.refl _ _) _⟩
        have : decide (xs = ys) = true := decide_eq_true (List.ext_getElem? (fun j => by
          by_cases c : j < k
          · exact HE.out j c
          · rw [List.getElem?_eq_none_iff.2 (by have := Hl.out.1; omega), List.getElem?_eq_none_iff.2 (by have := Hl.out.2; omega)]))
        rw [this]
        rfl
  · have m0 : ((xs.length : Int) != ys.length) = true := by simp; omega
    rw [decide_eq_false (fun c => hl (by rw [c]))]
    clear hl ha hb
    go_enter Try.func20, Try.ntmps20
    go_wp2
    go_ret
    exact ⟨rfl, Below.refl _ _⟩
end Go.Proofs.Ytflgggfomhifeaa
