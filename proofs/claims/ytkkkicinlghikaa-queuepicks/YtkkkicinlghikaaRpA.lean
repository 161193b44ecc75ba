/- The document's Pick: its walk. -/
import Derived.Test.YtkkkicinlghikaaRpM
import Derived.BigQuiet
namespace Go.Proofs.Ytkkkicinlghikaa
open Go.RowKit

set_option maxRecDepth 100000 in
set_option maxHeartbeats 4000000 in
theorem rpick_wrong (b off b' off' : Nat) (cap cap' : Nat) (l : List Sb) (gs : List Int) (n : Nat) (hn : l.length = n) (hm : gs.length = n) (w : World) (hR : Rq w (some ⟨b, off, none⟩) (some ⟨b', off', none⟩) l gs w) (h40 : n ≤ 1000000) (hW : anyw l = true) :
    Calls Try.prog 23 #[.slice (some ⟨b, off, none⟩) n cap, .slice (some ⟨b', off', none⟩) n cap'] w (Ret (.tuple #[.int .i64 0, .int .i64 1]) w) := by
  have hn40 : (n : Int) ≤ 1000000 := by omega
  have Hn := Lib.hid (And.intro hn hm)
  have HR := Lib.hid hR
  have HRt := Lib.hid rright_w
  have HIs := Lib.hid is_w
  have hnn : ((n : Int) != n) = false := by simp
  have HW := Lib.hid (anyw_iff.1 hW)
  clear hW
  clear hn hm hR h40
  go_enter Try.func23, Try.ntmps23
  go_wp2_with fail
  go_loopw [6] (fun i wr => R1 w (some ⟨b, off, none⟩) (some ⟨b', off', none⟩) l gs n i wr) (fun i _ => n - (intOf i).toNat)
  case atStart => exact ⟨0, rfl, by omega, fun j S hj => absurd hj (by omega), HR.out⟩
  case round =>
    obtain ⟨k, rfl, hk, hK, hb⟩ := hrel
    have HK := Lib.hid (And.intro hK hb)
    clear hK hb
    by_cases hlt : (k : Int) < n
    · obtain ⟨S, hSk⟩ : ∃ S, l[k]? = some S := ⟨_, List.getElem?_eq_getElem (by have := Hn.out.1; omega)⟩
      obtain ⟨x, hxk⟩ : ∃ x, gs[k]? = some x := ⟨_, List.getElem?_eq_getElem (by have := Hn.out.2; omega)⟩
      have Hk := Lib.hid (And.intro hSk hxk)
      have G := HK.out.2.at hSk hxk
      have g1 := G.c1
      have g2 := G.c2
      have g3 := G.c3
      have g4 := G.c4
      clear G hSk hxk
      go_wp2_with fail
      refine (HRt.out S _).mono ?_
      rintro e w2 ⟨rfl, hb⟩
      have H2 := Lib.hid (HK.out.2.next hb)
      clear hb g1 g2 g3 g4
      cases q : wrg S with
      | true =>
        go_wp2_with fail
        go_ret2
        exact ⟨rfl, H2.out.b⟩
      | false =>
        have Hq := Lib.hid q
        clear q
        go_wp2_with fail
        go_roundw
        case rel => exact ⟨k + 1, by go_num, by omega, fun j S' hj hS' => (by
          by_cases c : j = k
          · subst c
            rw [Hk.out.1] at hS'
            cases hS'
            exact Hq.out
          · exact HK.out.1 j S' (by omega) hS'), H2.out⟩
        case measure => simp [intOf]; omega
    · obtain rfl : k = n := by omega
      obtain ⟨S, hS, hq⟩ := HW.out
      obtain ⟨j, hj, e⟩ := List.getElem_of_mem hS
      have := HK.out.1 j S (by have := Hn.out.1; omega) (by rw [List.getElem?_eq_getElem hj, e])
      rw [this] at hq
      cases hq
set_option maxRecDepth 100000 in
set_option maxHeartbeats 4000000 in
theorem rpick_gen (b off b' off' : Nat) (cap cap' : Nat) (l : List Sb) (gs : List Int) (n : Nat) (hn : l.length = n) (hm : gs.length = n) (w : World) (hR : Rq w (some ⟨b, off, none⟩) (some ⟨b', off', none⟩) l gs w) (h40 : n ≤ 1000000) (hW : anyw l = false) (hG : anyg gs = true) :
    Calls Try.prog 23 #[.slice (some ⟨b, off, none⟩) n cap, .slice (some ⟨b', off', none⟩) n cap'] w (Ret (.tuple #[.int .i64 0, .int .i64 10]) w) := by
  have hn40 : (n : Int) ≤ 1000000 := by omega
  have Hn := Lib.hid (And.intro hn hm)
  have HR := Lib.hid hR
  have HRt := Lib.hid rright_w
  have HIs := Lib.hid is_w
  have hnn : ((n : Int) != n) = false := by simp
  have HW := Lib.hid (all_w hW)
  have HG := Lib.hid (anyg_iff.1 hG)
  clear hW hG
  clear hn hm hR h40
  go_enter Try.func23, Try.ntmps23
  go_wp2_with fail
  go_loopw [6] (fun i wr => R1 w (some ⟨b, off, none⟩) (some ⟨b', off', none⟩) l gs n i wr) (fun i _ => n - (intOf i).toNat)
  case atStart => exact ⟨0, rfl, by omega, fun j S hj => absurd hj (by omega), HR.out⟩
  case round =>
    obtain ⟨k, rfl, hk, hK, hb⟩ := hrel
    have HK := Lib.hid (And.intro hK hb)
    clear hK hb
    by_cases hlt : (k : Int) < n
    · obtain ⟨S, hSk⟩ : ∃ S, l[k]? = some S := ⟨_, List.getElem?_eq_getElem (by have := Hn.out.1; omega)⟩
      obtain ⟨x, hxk⟩ : ∃ x, gs[k]? = some x := ⟨_, List.getElem?_eq_getElem (by have := Hn.out.2; omega)⟩
      have Hk := Lib.hid (And.intro hSk hxk)
      have G := HK.out.2.at hSk hxk
      have g1 := G.c1
      have g2 := G.c2
      have g3 := G.c3
      have g4 := G.c4
      clear G hSk hxk
      go_wp2_with fail
      refine (HRt.out S _).mono ?_
      rintro e w2 ⟨rfl, hb⟩
      have H2 := Lib.hid (HK.out.2.next hb)
      clear hb g1 g2 g3 g4
      have hq : wrg S = false := HW.out S (List.mem_of_getElem? Hk.out.1)
      rw [hq]
      clear hq
      go_wp2_with fail
      go_roundw
      case rel => exact ⟨k + 1, by go_num, by omega, fun j S' _ hS' => HW.out S' (List.mem_of_getElem? hS'), H2.out⟩
      case measure => simp [intOf]; omega
    · obtain rfl : k = n := by omega
      have HS2 := Lib.hid HK.out.2
      clear HK HR
      go_wp2_with fail
      go_loopw [7] (fun i wr => R2 w (some ⟨b, off, none⟩) (some ⟨b', off', none⟩) l gs k i wr) (fun i _ => k - (intOf i).toNat)
      case atStart => exact ⟨0, rfl, by omega, fun j S hj => absurd hj (by omega), HS2.out⟩
      case round =>
        obtain ⟨k2, rfl, hk2, hK2, hb⟩ := hrel
        have HK2 := Lib.hid (And.intro hK2 hb)
        clear hK2 hb HS2
        by_cases hlt2 : (k2 : Int) < k
        · obtain ⟨S, hSk⟩ : ∃ S, l[k2]? = some S := ⟨_, List.getElem?_eq_getElem (by have := Hn.out.1; omega)⟩
          obtain ⟨x, hxk⟩ : ∃ x, gs[k2]? = some x := ⟨_, List.getElem?_eq_getElem (by have := Hn.out.2; omega)⟩
          have Hk := Lib.hid (And.intro hSk hxk)
          have G := HK2.out.2.at hSk hxk
          have g1 := G.x0
          clear G hSk hxk
          go_wp2_with fail
          refine (HIs.out x _).mono ?_
          rintro e w' ⟨rfl, rfl⟩
          cases q : ng x with
          | true =>
            go_wp2_with fail
            go_ret2
            exact ⟨rfl, HK2.out.2.b⟩
          | false =>
            have Hq := Lib.hid q
            clear q
            go_wp2_with fail
            go_roundw
            case rel => exact ⟨k2 + 1, by go_num, by omega, fun j S' hj hS' => (by
              by_cases c : j = k2
              · subst c
                rw [Hk.out.2] at hS'
                cases hS'
                exact Hq.out
              · exact HK2.out.1 j S' (by omega) hS'), HK2.out.2⟩
            case measure => simp [intOf]; omega
        · obtain rfl : k2 = k := by omega
          obtain ⟨x, hx, hq⟩ := HG.out
          obtain ⟨j, hj, e⟩ := List.getElem_of_mem hx
          have := HK2.out.1 j x (by have := Hn.out.2; omega) (by rw [List.getElem?_eq_getElem hj, e])
          rw [this] at hq
          cases hq
end Go.Proofs.Ytkkkicinlghikaa
