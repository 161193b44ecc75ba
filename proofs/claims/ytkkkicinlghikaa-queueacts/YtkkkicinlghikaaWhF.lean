/- Which acts may be played. -/
import Derived.Test.YtkkkicinlghikaaLzA
import Derived.Test.YtkkkicinlghikaaArgQ
namespace Go.Proofs.Ytkkkicinlghikaa
open Go.RowKit

/-- Acts that may be played, behind a generation. -/
def Whl (x : Int) (l : List (Int × Int)) : Prop := x ≤ 9223372036854767806 ∧ l.length ≤ 200 ∧ ∀ a ∈ l, 0 ≤ a.2 ∧ a.2 ≤ 40
instance (x : Int) (l : List (Int × Int)) : Decidable (Whl x l) := by unfold Whl; infer_instance
def whl (x : Int) (l : List (Int × Int)) : Bool := decide (Whl x l)
theorem whl_t {x : Int} {l : List (Int × Int)} (h : Whl x l) : whl x l = true := decide_eq_true h
theorem whl_f {x : Int} {l : List (Int × Int)} (h : ¬ Whl x l) : whl x l = false := decide_eq_false h
def WhRel (w : World) (l : List (Int × Int)) (i : Value) (wr : World) : Prop := ∃ k : Nat, i = .int .i64 k ∧ k ≤ l.length ∧ (∀ j a, j < k → l[j]? = some a → 0 ≤ a.2 ∧ a.2 ≤ 40) ∧ wr = w
set_option maxRecDepth 100000 in
set_option maxHeartbeats 1000000 in
theorem whole_any (x : Int) (a : Option Addr) (cap : Nat) (l : List (Int × Int)) (w : World) (hA : Ats w.heap.size w a l) :
    Calls Try.prog 9 #[.int .u64 x, .slice a l.length cap] w (Pur (.bool (whl x l)) w) := by
  obtain ⟨n, hn⟩ : ∃ n, l.length = n := ⟨_, rfl⟩
  have Hn := Lib.hid hn
  have HA := Lib.hid hA
  by_cases h1 : x ≤ 9223372036854767806
  · by_cases h2 : n ≤ 200
    · have hn2 : (n : Int) ≤ 200 := by omega
      have HW := Lib.hid (And.intro h1 h2)
      rw [hn]
      clear hn hA h2
      obtain ⟨B, hB⟩ : ∃ B, B = whl x l := ⟨_, rfl⟩
      rw [← hB]
      have HB := Lib.hid hB
      clear hB
      go_enter Try.func9, Try.ntmps9
      go_wp2_with fail
      go_loopw [5] (fun i wr => WhRel w l i wr) (fun i _ => n - (intOf i).toNat)
      case atStart => exact ⟨0, rfl, by omega, fun j S hj => absurd hj (by omega), rfl⟩
      case round =>
        obtain ⟨k, rfl, hk, hK, rfl⟩ := hrel
        rw [Hn.out] at hk
        have HK := Lib.hid hK
        clear hK
        by_cases hlt : (k : Int) < n
        · obtain ⟨⟨d, y⟩, hak⟩ : ∃ a, l[k]? = some a := ⟨_, List.getElem?_eq_getElem (by have := Hn.out; omega)⟩
          obtain ⟨b, off, rfl, hbl, c0, c1⟩ := HA.out k _ hak
          have Hak := Lib.hid hak
          clear hak hbl
          by_cases hy0 : y < 0
          · have m0 : decide (y < 0) = true := decide_eq_true hy0
            have hBf : B = false := by rw [HB.out]; exact whl_f (fun c => by have := (c.2.2 _ (List.mem_of_getElem? Hak.out)).1; simp only at this; omega)
            subst hBf
            go_wp2_with fail
            go_ret
            exact ⟨rfl, rfl⟩
          · have m0 : decide (y < 0) = false := decide_eq_false hy0
            by_cases hy1 : 40 < y
            · have m1 : decide (40 < y) = true := decide_eq_true hy1
              have hBf : B = false := by rw [HB.out]; exact whl_f (fun c => by have := (c.2.2 _ (List.mem_of_getElem? Hak.out)).2; simp only at this; omega)
              subst hBf
              go_wp2_with fail
              go_ret
              exact ⟨rfl, rfl⟩
            · have m1 : decide (40 < y) = false := decide_eq_false hy1
              have Hy := Lib.hid (show 0 ≤ y ∧ y ≤ 40 by omega)
              clear hy0 hy1
              go_wp2_with fail
              go_roundw
              case rel => exact ⟨k + 1, by go_num, by have := Hn.out; omega, fun j a' hj ha' => (by
                by_cases c : j = k
                · subst c
                  rw [Hak.out] at ha'
                  cases ha'
                  exact Hy.out
                · exact HK.out j a' (by omega) ha'), rfl⟩
              case measure => simp [intOf]; omega
        · obtain rfl : k = n := by omega
          have hBt : B = true := by
            rw [HB.out]
            exact whl_t ⟨HW.out.1, by have := Hn.out; have := HW.out.2; omega, fun a ha => by
              obtain ⟨j, hj, e⟩ := List.getElem_of_mem ha
              exact HK.out j a (by have := Hn.out; omega) (by rw [List.getElem?_eq_getElem hj, e])⟩
          subst hBt
          go_wp2_with fail
          go_ret
          exact ⟨rfl, rfl⟩
    · rw [whl_f (fun c => h2 (by have := c.2.1; omega)), hn]
      have h3 : (200 : Int) < n := by omega
      clear hn hA h2
      go_enter Try.func9, Try.ntmps9
      go_wp2
      go_ret
      exact ⟨rfl, rfl⟩
  · rw [whl_f (fun c => h1 c.1)]
    have h3 : 9223372036854767806 < x := by omega
    clear hA hn
    generalize l.length = m
    go_enter Try.func9, Try.ntmps9
    go_wp2
    go_ret
    exact ⟨rfl, rfl⟩
end Go.Proofs.Ytkkkicinlghikaa
