/- The law BankMost returns true, whatever it is given. No condition. -/
import Derived.Test.YtckeoonbmpfmeaaNew
import Derived.Test.YtckeoonbmpfmeaaArgs
import Derived.Test.YtckeoonbmpfmeaaTurns
import Derived.ProofKit
import Derived.OpenShut
import Derived.ChangeOld
import Derived.Below
import Derived.Deep.RegionHeld3
import Derived.Deep.DeepCutAuto
namespace Go.Proofs.Ytckeoonbmpfmeaa.bankMost
open Go.ChangeShapes Go.WideShapes Go.ChangeAt Go.RowKit Go.Deep

theorem own : ownKnob Try.prog.godebug = none := by kernel_rfl
theorem laidOut : laidOutB Try.prog = true := by kernel_rfl

def pick1 (p : Int) : List Value := [.int .i64 p]
def Picks (w : World) (a : Option Addr) (len cap : Nat) (l : List Int) : Prop := Lies w (.slice a len cap) 1 (l.map pick1) ∧ ∀ p ∈ l, I64 p
theorem Picks.at {w wr : World} {a : Option Addr} {len cap : Nat} {l : List Int} (h : Picks w a len cap l) (hb : Below w.heap.size w wr) {k : Nat} (hk : k < len) :
    ∃ ab off p, a = some ⟨ab, off, none⟩ ∧ I64 p ∧ wr.cell? ⟨ab, off + k, none⟩ = some (.int .i64 p) := by
  have hl := h.1.len.1
  rw [List.length_map] at hl
  obtain ⟨ab, off, ha, _, hcell⟩ := h.1.at hb (i := k) (r := pick1 (l[k]'(by omega))) (by simp; exact ⟨_, List.getElem?_eq_getElem (by omega), rfl⟩)
  have := hcell 0 _ rfl
  rw [Nat.mul_one, Nat.add_zero] at this
  exact ⟨ab, off, _, ha, h.2 _ (List.getElem_mem (by omega)), this⟩

/-- As the greatest number is looked for. -/
def Rel1 (w : World) (b g xb sb lb : Nat) (xs : List Int) (m i : Value) (wr : World) : Prop :=
  ∃ (k : Nat) (most : Int), k ≤ 4 ∧ i = .int .i64 k ∧ m = .int .u64 most ∧ 0 ≤ most ∧ (∀ j, j < k → xs.getD j 0 ≤ most) ∧ (most = 0 ∨ ∃ j, j < 4 ∧ xs.getD j 0 = most) ∧
    Bk wr b g [0] 0 ∧ Row wr xb xs ∧ Row wr sb [0, 0, 0, 0] ∧ RowB wr lb [false, false, false, false] ∧ Below w.heap.size w wr
/-- As tasks take their turns. -/
def Rel2 (w : World) (b g xb sb lb len : Nat) (xs : List Int) (most : Int) (i : Value) (wr : World) : Prop :=
  ∃ (k : Nat) (s : St) (t : Int), k ≤ len + 40 ∧ i = .int .i64 k ∧ Ok xs most len k s ∧ Bk wr b g [s.W] t ∧ 0 ≤ t ∧ t ≤ k ∧ Row wr xb xs ∧ Row wr sb s.saw ∧ RowB wr lb s.ld ∧ Below w.heap.size w wr
/-- Whose turn it is. -/
def CutK (len i : Nat) (wr : World) (s : Value) (wx : World) : Prop := ∃ k : Nat, k < 4 ∧ (len ≤ i → k = (i - len) / 10) ∧ s = .int .i64 k ∧ wx = wr

theorem quo_ten (i len : Nat) (h : len ≤ i) : ((i : Int) - (len : Int)).tdiv 10 = (((i - len) / 10 : Nat) : Int) := by
  rw [Int.tdiv_eq_ediv_of_nonneg (by omega)]
  omega
/-- Go's remainder, made positive. -/
theorem pick_mod (p : Int) : ∃ q : Nat, q < 4 ∧ (wrap64 (p.tmod 4 + 4)).tmod 4 = (q : Int) := by
  have h1 : -4 < p.tmod 4 := by have := Int.lt_tmod_of_pos p (b := 4) (by omega); omega
  have h2 : p.tmod 4 < 4 := Int.tmod_lt_of_pos p (by omega)
  rw [show wrap64 (p.tmod 4 + 4) = p.tmod 4 + 4 from by unfold wrap64; omega]
  refine ⟨((p.tmod 4 + 4).tmod 4).toNat, ?_, ?_⟩
  · have := Int.tmod_lt_of_pos (p.tmod 4 + 4) (b := 4) (by omega)
    omega
  · have := Int.tmod_nonneg 4 (a := p.tmod 4 + 4) (by omega)
    omega

set_option maxRecDepth 100000 in
set_option maxHeartbeats 1000000 in
theorem walk_no (x0 x1 x2 x3 : Int) (a : Option Addr) (len cap : Nat) (l : List Int) (w : World) (hl : Picks w a len cap l) (hno : 60 < (len : Int)) :
    Calls Try.prog 7 #[.agg #[.int .u64 x0, .int .u64 x1, .int .u64 x2, .int .u64 x3], .slice a len cap] w (True1 w) := by
  have hmax := hl.1.len.2
  unfold maxLen at hmax
  have hu0 := (Below.refl w.heap.size w).alloc (Nat.le_refl _) (.cells #[.int .u64 x0, .int .u64 x1, .int .u64 x2, .int .u64 x3] 53)
  have hs0 := hu0.size
  go_enter Try.func7, Try.ntmps7
  go_wp2_with fail
  refine (new_ok 1 _ (by omega) (by omega)).mono ?_
  rintro e w1 ⟨b, g, hb, hg, rfl, hk1, hu1'⟩
  have hu1 := hu0.trans (hu1'.mono hs0)
  have hs1 := hu1.size
  clear hu1' hu0 hs0
  go_wp2_with fail
  refine (awake_any w1).mono ?_
  rintro e w7 ⟨rfl, hu7⟩
  have hu' := hu1.trans (hu7.mono hs1)
  clear hk1 hu1 hu7 hs1
  go_wp2
  go_ret
  exact ⟨rfl, hu'⟩

set_option maxRecDepth 100000 in
set_option maxHeartbeats 2000000 in
theorem walk_yes (x0 x1 x2 x3 : Int) (a : Option Addr) (len cap : Nat) (l : List Int) (w : World) (u0 : U64 x0) (u1 : U64 x1) (u2 : U64 x2) (u3 : U64 x3) (hl : Picks w a len cap l) (hyes : (len : Int) ≤ 60) :
    Calls Try.prog 7 #[.agg #[.int .u64 x0, .int .u64 x1, .int .u64 x2, .int .u64 x3], .slice a len cap] w (True1 w) := by
  have d1 : decide (60 < (len : Int)) = false := by simp; omega
  have hu0 := (Below.refl w.heap.size w).alloc (Nat.le_refl _) (.cells #[.int .u64 x0, .int .u64 x1, .int .u64 x2, .int .u64 x3] 53)
  have hs0 := hu0.size
  have hx0 : Row (w.alloc (.cells #[.int .u64 x0, .int .u64 x1, .int .u64 x2, .int .u64 x3] 53)) w.heap.size [x0, x1, x2, x3] := ⟨53, by show (w.heap.push _)[w.heap.size]? = _; simp⟩
  have Hx0 := Lib.hid hx0
  clear hx0
  go_enter Try.func7, Try.ntmps7
  go_wp2_with fail
  refine (new_ok 1 _ (by omega) (by omega)).mono ?_
  rintro e w1 ⟨b, g, hb, hg, rfl, hk1, hu1'⟩
  have hx1 := Hx0.out.below hu1'
  have hxl := Hx0.out.lt
  have hu1 := hu0.trans (hu1'.mono hs0)
  have hs1 := hu1.size
  have hs1' := hu1'.size
  have hne : b ≠ w.heap.size ∧ g ≠ w.heap.size ∧ w.heap.size ≤ b ∧ w.heap.size ≤ g ∧ w.heap.size ≤ w.heap.size := by
    have e := World.size_alloc w (.cells #[.int .u64 x0, .int .u64 x1, .int .u64 x2, .int .u64 x3] 53)
    omega
  clear hu1' hu0 hs0 Hx0 hb hg hxl hs1'
  obtain ⟨n1, n2, n3, n4, n5⟩ := hne
  obtain ⟨xs, Hxs⟩ : ∃ xs, Hid (xs = [x0, x1, x2, x3]) := ⟨_, rfl⟩
  rw [← Hxs.out] at hx1
  have hxlen : xs.length = 4 := by rw [Hxs.out]; rfl
  have hxu : ∀ v ∈ xs, U64 v := by rw [Hxs.out]; intro v hv; simp at hv; rcases hv with rfl | rfl | rfl | rfl <;> assumption
  have Hxl := Lib.hid hxlen
  have Hxu := Lib.hid hxu
  clear hxlen hxu u0 u1 u2 u3
  go_wp2_with fail
  have hk2 := (hk1.alloc (.cells #[.int .u64 0, .int .u64 0, .int .u64 0, .int .u64 0] 53)).alloc (.cells #[.bool false, .bool false, .bool false, .bool false] 55)
  have hx2 := (hx1.alloc (.cells #[.int .u64 0, .int .u64 0, .int .u64 0, .int .u64 0] 53)).alloc (.cells #[.bool false, .bool false, .bool false, .bool false] 55)
  have hu2 := (hu1.alloc hs1 (.cells #[.int .u64 0, .int .u64 0, .int .u64 0, .int .u64 0] 53)).alloc (by simp; omega) (.cells #[.bool false, .bool false, .bool false, .bool false] 55)
  have hsw : Row (w1.alloc (.cells #[.int .u64 0, .int .u64 0, .int .u64 0, .int .u64 0] 53)) w1.heap.size [0, 0, 0, 0] := ⟨53, by show (w1.heap.push _)[w1.heap.size]? = _; simp⟩
  have hsw2 := hsw.alloc (.cells #[.bool false, .bool false, .bool false, .bool false] 55)
  have hld2 : RowB ((w1.alloc (.cells #[.int .u64 0, .int .u64 0, .int .u64 0, .int .u64 0] 53)).alloc (.cells #[.bool false, .bool false, .bool false, .bool false] 55)) (w1.heap.size + 1) [false, false, false, false] := ⟨55, by
    show ((w1.heap.push _).push _)[w1.heap.size + 1]? = _
    rw [Array.getElem?_push, if_pos (by simp)]
    rfl⟩
  have hne : b < w1.heap.size ∧ g < w1.heap.size ∧ w.heap.size < w1.heap.size ∧ w1.heap.size < w1.heap.size + 1 := ⟨hk1.ltb, hk1.ltg, hx1.lt, by omega⟩
  generalize (w1.alloc (.cells #[.int .u64 0, .int .u64 0, .int .u64 0, .int .u64 0] 53)).alloc (.cells #[.bool false, .bool false, .bool false, .bool false] 55) = w2 at hk2 hx2 hu2 hsw2 hld2 ⊢
  generalize w1.heap.size + 1 = lb at hld2 hne ⊢
  clear hsw
  clear hk1 hx1 hu1 hs1
  generalize w1.heap.size = sb at hsw2 hne ⊢
  obtain ⟨m1, m2, m3, m4⟩ := hne
  go_loopw [9, 10] (fun m i wr => Rel1 w b g w.heap.size sb lb xs m i wr) (fun _ i _ => 4 - (intOf i).toNat)
  case atStart => exact ⟨0, 0, by omega, rfl, rfl, by omega, fun j hj => by omega, .inl rfl, hk2, hx2, hsw2, hld2, hu2⟩
  case round =>
    clear hk2 hx2 hsw2 hld2 hu2
    obtain ⟨k, most, hk, rfl, rfl, hm0, hmx, hmo, hk2, hx2, hsw2, hld2, hu2⟩ := hrel
    have Hmx := Lib.hid hmx
    have Hmo := Lib.hid hmo
    clear hmx hmo
    by_cases hlt : (k : Int) < 4
    · have hkx : k < xs.length := by have := Hxl.out; omega
      have hcx := hx2.cell (i := k) (v := xs[k]) (List.getElem?_eq_getElem _)
      have hgd : xs.getD k 0 = xs[k] := by simp [List.getD, hkx]
      have Hgd := Lib.hid hgd
      have huk : 0 ≤ xs[k] := (Hxu.out xs[k] (List.getElem_mem hkx)).1
      clear hgd
      generalize xs[k] = v at hcx Hgd huk
      by_cases hmv : most < v
      · go_wp2_with fail
        go_roundw
        case rel =>
          refine ⟨k + 1, v, by omega, by go_num, rfl, huk, fun j hj => ?_, .inr ⟨k, by omega, Hgd.out⟩, hk2, hx2, hsw2, hld2, hu2⟩
          by_cases hjk : j = k
          · rw [hjk, Hgd.out]; omega
          · have := Hmx.out j (by omega); omega
        case measure => simp [intOf]; omega
      · go_wp2_with fail
        go_roundw
        case rel =>
          refine ⟨k + 1, most, by omega, by go_num, rfl, hm0, fun j hj => ?_, Hmo.out, hk2, hx2, hsw2, hld2, hu2⟩
          by_cases hjk : j = k
          · rw [hjk, Hgd.out]; omega
          · exact Hmx.out j (by omega)
        case measure => simp [intOf]; omega
    · have Hmx' : Hid (∀ j, j < 4 → xs.getD j 0 ≤ most) := fun j hj => Hmx.out j (by omega)
      clear Hmx
      go_wp2_with fail
      go_loopw [11] (fun i wr => Rel2 w b g w.heap.size sb lb len xs most i wr) (fun i _ => len + 40 - (intOf i).toNat)
      case atStart => exact ⟨0, ⟨0, [0, 0, 0, 0], [false, false, false, false]⟩, 0, by omega, rfl, Ok.start xs most len hm0, hk2, by omega, by omega, hx2, hsw2, hld2, hu2⟩
      case round =>
        clear hk2 hx2 hsw2 hld2 hu2
        obtain ⟨i, s, t, hi, rfl, hok, hk2, ht0, ht1, hx2, hsw2, hld2, hu2⟩ := hrel
        have hs2 := hu2.size
        by_cases hlt : (i : Int) < (len : Int) + 40
        · go_upto_if 68 with (fail)
          go_cut [12] (fun s12 wx => CutK len i wr s12 wx)
          case first =>
            by_cases hil : (i : Int) < (len : Int)
            · obtain ⟨ab, off, p, ha, hp, hcp⟩ := hl.at hu2 (k := i) (by omega)
              subst ha
              have Hp := Lib.hid hp
              clear hp
              go_wp2_with fail
              go_meet
              obtain ⟨q, hq, hqe⟩ := pick_mod p
              exact ⟨q, hq, fun h => by omega, by rw [hqe], rfl⟩
            · go_wp2_with fail
              go_meet
              exact ⟨(i - len) / 10, by omega, fun _ => rfl, by rw [quo_ten i len (by omega)], rfl⟩
          case rest =>
            obtain ⟨q, hq, hqi, rfl, rfl⟩ := hcut
            have Hq := Lib.hid hqi
            clear hqi
            have hq' : (q : Int) < 4 := by omega
            obtain ⟨x, hxv⟩ : ∃ x, xs[q]? = some x := ⟨xs[q]'(by have := Hxl.out; omega), List.getElem?_eq_getElem _⟩
            obtain ⟨v, hsv⟩ : ∃ v, s.saw[q]? = some v := ⟨s.saw[q]'(by have := hok.sl; omega), List.getElem?_eq_getElem _⟩
            obtain ⟨lq, hlq⟩ : ∃ lq, s.ld[q]? = some lq := ⟨s.ld[q]'(by have := hok.ll; omega), List.getElem?_eq_getElem _⟩
            have Hxv := Lib.hid hxv
            have Hsv := Lib.hid hsv
            have Hlq := Lib.hid hlq
            have Hxq := Lib.hid (show xs.getD q 0 = x by simp [List.getD, hxv])
            have Hsq := Lib.hid (show s.saw.getD q 0 = v by simp [List.getD, hsv])
            have Hdq := Lib.hid (show s.ld.getD q false = lq by simp [List.getD, hlq])
            have hux := Hxu.out x (List.mem_of_getElem? hxv)
            clear hxv hsv hlq
            have hnot : ∀ (x : Bool) (w : World), (Op.unary .not (.bool x)).run Try.prog w = .ok (.bool (!x)) w := fun _ _ => rfl
            have hcx := hx2.cell Hxv.out
            have hcs := hsw2.cell Hsv.out
            have hfs := hsw2.frozen q
            have hcl := hld2.cell Hlq.out
            have hfl := hld2.frozen q
            have hnx : ¬ Own b g w.heap.size := by rintro (h | h) <;> omega
            have hns : ¬ Own b g sb := by rintro (h | h) <;> omega
            have hnl : ¬ Own b g lb := by rintro (h | h) <;> omega
            cases lq
            · have Htu := Lib.hid (show bankMost.turn x q s = ⟨s.W, s.saw.set q s.W, s.ld.set q true⟩ by unfold bankMost.turn; rw [if_pos Hdq.out])
              go_wp2_with fail
              refine (load_at b g [s.W] t s.W 0 _ (by omega) hk2 rfl (by omega) (by omega)).mono ?_
              rintro e w3 ⟨rfl, hk3, hu3'⟩
              have hu3 := Below.own hu2 hu3' hs2 n3 n4
              have hx3 := hx2.upd hu3' hnx
              have hsw3 := hsw2.upd hu3' hns
              have hld3 := hld2.upd hu3' hnl
              clear hk2 hu2 hu3' hx2 hsw2 hld2 hcx hcs hfs hcl hfl hs2
              have hcs := hsw3.cell Hsv.out
              have hfs := hsw3.frozen q
              have hld4 := hld3.setFar (p := ⟨sb, q, none⟩) (by simp; omega) (.int .u64 s.W)
              have hcl := hld4.cell Hlq.out
              have hfl := hld4.frozen q
              go_wp2_with fail
              have hkF := (hk3.setFar (p := ⟨sb, q, none⟩) (by simp; omega) (by simp; omega) (.int .u64 s.W)).setFar (p := ⟨lb, q, none⟩) (by simp; omega) (by simp; omega) (.bool true)
              have hxF := (hx3.setFar (p := ⟨sb, q, none⟩) (by simp; omega) (.int .u64 s.W)).setFar (p := ⟨lb, q, none⟩) (by simp; omega) (.bool true)
              have hswF := (hsw3.put q s.W).setFar (p := ⟨lb, q, none⟩) (by simp; omega) (.bool true)
              have hldF := hld4.put q true
              have huF := (hu3.setCell (p := ⟨sb, q, none⟩) (by simp; omega) (.int .u64 s.W)).setCell (p := ⟨lb, q, none⟩) (by simp; omega) (.bool true)
              generalize (w3.setCell ⟨sb, q, none⟩ (.int .u64 s.W)).setCell ⟨lb, q, none⟩ (.bool true) = wF at hkF hxF hswF hldF huF ⊢
              clear hk3 hx3 hsw3 hld3 hu3 hcs hfs hcl hfl hld4
              have ok' := Lib.hid (show Ok xs most len (i + 1) ⟨s.W, s.saw.set q s.W, s.ld.set q true⟩ by have := hok.turn hq (Hmx'.out q hq) Hq.out; rw [Hxq.out, Htu.out] at this; exact this)
              have hle : s.W ≤ most := ok'.out.wm
              refine (peek_at b g [s.W] _ (s.W) 0 _ (by omega) hkF rfl).mono ?_
              rintro e w20 ⟨rfl, hk20, hu20'⟩
              have hx20 := hxF.below hu20'
              have hsw20 := hswF.below hu20'
              have hld20 := hldF.below hu20'
              have hu20 := huF.trans (hu20'.mono huF.size)
              clear hkF hxF hswF hldF huF hu20'
              go_wp2_with fail
              go_roundw
              case rel => exact ⟨i + 1, ⟨s.W, s.saw.set q s.W, s.ld.set q true⟩, t + 1, by omega, by go_num, ok'.out, hk20, by omega, by omega, hx20, hsw20, hld20, hu20⟩
              case measure => simp [intOf]; omega
            · by_cases hvx : v < x
              · go_wp2_with fail
                refine wp_region_held_drew (S := fun w' => w'.cell? ⟨sb, q, none⟩ = some (.int .u64 v) ∧ w'.cell? ⟨w.heap.size, q, none⟩ = some (.int .u64 x)) (by kernel_rfl) (⟨hcs, hcx⟩) (fun hHeld => ?_)
                refine wpAnyH_take (i := 0) (v := ?v1) rfl (by kernel_rfl) (by kernel_rfl) (by kernel_rfl) (fun _ _ _ h => h) (Or.inl ⟨by rfl, ?y1⟩) hHeld ?r1
                case y1 => (intro w hSw; obtain ⟨hSa, hSb⟩ := hSw; go_simp; try with_reducible rfl)
                simp only [List.getElem_toArray, List.getElem_cons_zero, List.getElem_cons_succ, Act.put, List.setIfInBounds_toArray, List.set_cons_zero, List.set_cons_succ]
                refine wpAnyH_take (i := 1) (v := ?v2) rfl (by kernel_rfl) (by kernel_rfl) (by kernel_rfl) (fun _ _ _ h => h) (Or.inl ⟨by rfl, ?y2⟩) hHeld ?r2
                case y2 => (intro w hSw; obtain ⟨hSa, hSb⟩ := hSw; go_simp; try with_reducible rfl)
                simp only [List.getElem_toArray, List.getElem_cons_zero, List.getElem_cons_succ, Act.put, List.setIfInBounds_toArray, List.set_cons_zero, List.set_cons_succ]
                refine wpAnyH_take (i := 2) (v := ?v3) rfl (by kernel_rfl) (by kernel_rfl) (by kernel_rfl) (fun _ _ _ h => h) (Or.inl ⟨by rfl, ?y3⟩) hHeld ?r3
                case y3 => (intro w hSw; obtain ⟨hSa, hSb⟩ := hSw; go_simp; try with_reducible rfl)
                simp only [List.getElem_toArray, List.getElem_cons_zero, List.getElem_cons_succ, Act.put, List.setIfInBounds_toArray, List.set_cons_zero, List.set_cons_succ]
                refine wpAnyH_take (i := 3) (v := ?v4) rfl (by kernel_rfl) (by kernel_rfl) (by kernel_rfl) (fun _ _ _ h => h) (Or.inl ⟨by rfl, ?y4⟩) hHeld ?r4
                case y4 => (intro w hSw; obtain ⟨hSa, hSb⟩ := hSw; go_simp; try with_reducible rfl)
                simp only [List.getElem_toArray, List.getElem_cons_zero, List.getElem_cons_succ, Act.put, List.setIfInBounds_toArray, List.set_cons_zero, List.set_cons_succ]
                refine wpAnyH_take (i := 4) (v := ?v5) rfl (by kernel_rfl) (by kernel_rfl) (by kernel_rfl) (fun _ _ _ h => h) (Or.inl ⟨by rfl, ?y5⟩) hHeld ?r5
                case y5 => (intro w hSw; obtain ⟨hSa, hSb⟩ := hSw; go_simp; try with_reducible rfl)
                simp only [List.getElem_toArray, List.getElem_cons_zero, List.getElem_cons_succ, Act.put, List.setIfInBounds_toArray, List.set_cons_zero, List.set_cons_succ]
                refine wpAnyH_take (i := 5) (v := ?v6) rfl (by kernel_rfl) (by kernel_rfl) (by kernel_rfl) (fun _ _ _ h => h) (Or.inl ⟨by rfl, ?y6⟩) hHeld ?r6
                case y6 => (intro w hSw; obtain ⟨hSa, hSb⟩ := hSw; go_simp; try with_reducible rfl)
                simp only [List.getElem_toArray, List.getElem_cons_zero, List.getElem_cons_succ, Act.put, List.setIfInBounds_toArray, List.set_cons_zero, List.set_cons_succ]
                refine wpAnyH_take (i := 6) (v := ?v7) rfl (by kernel_rfl) (by kernel_rfl) (by kernel_rfl) (fun _ _ _ h => h) (Or.inl ⟨by rfl, ?y7⟩) hHeld ?r7
                case y7 => (intro w hSw; obtain ⟨hSa, hSb⟩ := hSw; go_simp; try with_reducible rfl)
                simp only [List.getElem_toArray, List.getElem_cons_zero, List.getElem_cons_succ, Act.put, List.setIfInBounds_toArray, List.set_cons_zero, List.set_cons_succ]
                refine wpAnyH_done (by kernel_rfl) ?_ _
                have hk3 := hk2.drew
                have hx3 := hx2.drew
                have hsw3 := hsw2.drew
                have hld3 := hld2.drew
                have hu3 := hu2.drew
                have hs3 := hu3.size
                generalize wr.drew = w3 at hk3 hx3 hsw3 hld3 hu3 hs3 ⊢
                clear hHeld hk2 hx2 hsw2 hld2 hu2 hcx hcs hfs hcl hfl hs2
                have hcx := hx3.cell Hxv.out
                have hcs := hsw3.cell Hsv.out
                go_wp2_with fail
                have hk3 := hk3.drew
                have hx3 := hx3.drew
                have hsw3 := hsw3.drew
                have hld3 := hld3.drew
                have hu3 := hu3.drew
                by_cases hWv : s.W = v
                · have Htu := Lib.hid (show bankMost.turn x q s = ⟨x, s.saw, s.ld.set q false⟩ by unfold bankMost.turn; rw [if_neg (by rw [Hdq.out]; simp), Hsq.out, if_pos hvx, if_pos hWv])
                  have HWv := Lib.hid hWv
                  clear hWv
                  refine wp_region_held_drew (S := fun w' => w'.cell? ⟨sb, q, none⟩ = some (.int .u64 v) ∧ w'.cell? ⟨w.heap.size, q, none⟩ = some (.int .u64 x)) (by kernel_rfl) (⟨hcs, hcx⟩) (fun hHeld => ?_)
                  refine wpAnyH_take (i := 0) (v := ?v8) rfl (by kernel_rfl) (by kernel_rfl) (by kernel_rfl) (fun _ _ _ h => h) (Or.inl ⟨by rfl, ?y8⟩) hHeld ?r8
                  case y8 => (intro w hSw; obtain ⟨hSa, hSb⟩ := hSw; go_simp; try with_reducible rfl)
                  simp only [List.getElem_toArray, List.getElem_cons_zero, List.getElem_cons_succ, Act.put, List.setIfInBounds_toArray, List.set_cons_zero, List.set_cons_succ]
                  refine wpAnyH_take (i := 1) (v := ?v9) rfl (by kernel_rfl) (by kernel_rfl) (by kernel_rfl) (fun _ _ _ h => h) (Or.inl ⟨by rfl, ?y9⟩) hHeld ?r9
                  case y9 => (intro w hSw; obtain ⟨hSa, hSb⟩ := hSw; go_simp; try with_reducible rfl)
                  simp only [List.getElem_toArray, List.getElem_cons_zero, List.getElem_cons_succ, Act.put, List.setIfInBounds_toArray, List.set_cons_zero, List.set_cons_succ]
                  refine wpAnyH_take (i := 2) (v := ?v10) rfl (by kernel_rfl) (by kernel_rfl) (by kernel_rfl) (fun _ _ _ h => h) (Or.inl ⟨by rfl, ?y10⟩) hHeld ?r10
                  case y10 => (intro w hSw; obtain ⟨hSa, hSb⟩ := hSw; go_simp; try with_reducible rfl)
                  simp only [List.getElem_toArray, List.getElem_cons_zero, List.getElem_cons_succ, Act.put, List.setIfInBounds_toArray, List.set_cons_zero, List.set_cons_succ]
                  refine wpAnyH_take (i := 3) (v := ?v11) rfl (by kernel_rfl) (by kernel_rfl) (by kernel_rfl) (fun _ _ _ h => h) (Or.inl ⟨by rfl, ?y11⟩) hHeld ?r11
                  case y11 => (intro w hSw; obtain ⟨hSa, hSb⟩ := hSw; go_simp; try with_reducible rfl)
                  simp only [List.getElem_toArray, List.getElem_cons_zero, List.getElem_cons_succ, Act.put, List.setIfInBounds_toArray, List.set_cons_zero, List.set_cons_succ]
                  refine wpAnyH_take (i := 4) (v := ?v12) rfl (by kernel_rfl) (by kernel_rfl) (by kernel_rfl) (fun _ _ _ h => h) (Or.inl ⟨by rfl, ?y12⟩) hHeld ?r12
                  case y12 => (intro w hSw; obtain ⟨hSa, hSb⟩ := hSw; go_simp; try with_reducible rfl)
                  simp only [List.getElem_toArray, List.getElem_cons_zero, List.getElem_cons_succ, Act.put, List.setIfInBounds_toArray, List.set_cons_zero, List.set_cons_succ]
                  refine wpAnyH_take (i := 5) (v := ?v13) rfl (by kernel_rfl) (by kernel_rfl) (by kernel_rfl) (fun _ _ _ h => h) (Or.inl ⟨by rfl, ?y13⟩) hHeld ?r13
                  case y13 => (intro w hSw; obtain ⟨hSa, hSb⟩ := hSw; go_simp; try with_reducible rfl)
                  simp only [List.getElem_toArray, List.getElem_cons_zero, List.getElem_cons_succ, Act.put, List.setIfInBounds_toArray, List.set_cons_zero, List.set_cons_succ]
                  refine wpAnyH_take (i := 6) (v := ?v14) rfl (by kernel_rfl) (by kernel_rfl) (by kernel_rfl) (fun _ _ _ h => h) (Or.inl ⟨by rfl, ?y14⟩) hHeld ?r14
                  case y14 => (intro w hSw; obtain ⟨hSa, hSb⟩ := hSw; go_simp; try with_reducible rfl)
                  simp only [List.getElem_toArray, List.getElem_cons_zero, List.getElem_cons_succ, Act.put, List.setIfInBounds_toArray, List.set_cons_zero, List.set_cons_succ]
                  refine wpAnyH_ready (rs := [7]) (by kernel_rfl) (by simp) (AllReadyH.cons rfl (fun K hK => ?_) AllReadyH.nil)
                  go_simp
                  refine (cas_hit_at b g [s.W] t x v 0 _ (by omega) hk3 (by rw [HWv.out]; rfl) (by omega) (by omega) hux).mono ?_
                  rintro e w9 ⟨rfl, hk9, hu9'⟩
                  have hx9 := hx3.upd hu9' hnx
                  have hsw9 := hsw3.upd hu9' hns
                  have hld9 := hld3.upd hu9' hnl
                  have hu9 := Below.own hu3 hu9' hs3 n3 n4
                  go_wp2_with fail
                  refine hK.out _ _ (⟨hsw9.cell Hsv.out, hx9.cell Hxv.out⟩) (fun hHeld => ?_)
                  clear hK K
                  refine wpAnyH_take (i := 8) (v := ?v16) rfl (by kernel_rfl) (by kernel_rfl) (by kernel_rfl) (fun _ _ _ h => h) (Or.inl ⟨by rfl, ?y16⟩) hHeld ?r16
                  case y16 => (intro w hSw; obtain ⟨hSa, hSb⟩ := hSw; go_simp; try with_reducible rfl)
                  simp only [List.getElem_toArray, List.getElem_cons_zero, List.getElem_cons_succ, Act.put, List.setIfInBounds_toArray, List.set_cons_zero, List.set_cons_succ]
                  refine wpAnyH_take (i := 9) (v := ?v17) rfl (by kernel_rfl) (by kernel_rfl) (by kernel_rfl) (fun _ _ _ h => h) (Or.inl ⟨by rfl, ?y17⟩) hHeld ?r17
                  case y17 => (intro w hSw; obtain ⟨hSa, hSb⟩ := hSw; go_simp; try with_reducible rfl)
                  simp only [List.getElem_toArray, List.getElem_cons_zero, List.getElem_cons_succ, Act.put, List.setIfInBounds_toArray, List.set_cons_zero, List.set_cons_succ]
                  refine wpAnyH_take (i := 10) (v := ?v18) rfl (by kernel_rfl) (by kernel_rfl) (by kernel_rfl) (fun _ _ _ h => h) (Or.inl ⟨by rfl, ?y18⟩) hHeld ?r18
                  case y18 => (intro w hSw; obtain ⟨hSa, hSb⟩ := hSw; go_simp; try with_reducible rfl)
                  simp only [List.getElem_toArray, List.getElem_cons_zero, List.getElem_cons_succ, Act.put, List.setIfInBounds_toArray, List.set_cons_zero, List.set_cons_succ]
                  refine wpAnyH_take (i := 11) (v := ?v19) rfl (by kernel_rfl) (by kernel_rfl) (by kernel_rfl) (fun _ _ _ h => h) (Or.inl ⟨by rfl, ?y19⟩) hHeld ?r19
                  case y19 => (intro w hSw; obtain ⟨hSa, hSb⟩ := hSw; go_simp; try with_reducible rfl)
                  simp only [List.getElem_toArray, List.getElem_cons_zero, List.getElem_cons_succ, Act.put, List.setIfInBounds_toArray, List.set_cons_zero, List.set_cons_succ]
                  refine wpAnyH_take (i := 12) (v := ?v20) rfl (by kernel_rfl) (by kernel_rfl) (by kernel_rfl) (fun _ _ _ h => h) (Or.inl ⟨by rfl, ?y20⟩) hHeld ?r20
                  case y20 => (intro w hSw; obtain ⟨hSa, hSb⟩ := hSw; go_simp; try with_reducible rfl)
                  simp only [List.getElem_toArray, List.getElem_cons_zero, List.getElem_cons_succ, Act.put, List.setIfInBounds_toArray, List.set_cons_zero, List.set_cons_succ]
                  refine wpAnyH_done (by kernel_rfl) ?_ _
                  have hs9 := hu9.size
                  clear hHeld
                  go_wp2_with fail
                  refine wp_region_held_drew (S := fun w' => w'.cell? ⟨w.heap.size, q, none⟩ = some (.int .u64 x)) (by kernel_rfl) (hx9.cell Hxv.out) (fun hHeld => ?_)
                  refine wpAnyH_take (i := 0) (v := ?v21) rfl (by kernel_rfl) (by kernel_rfl) (by kernel_rfl) (fun _ _ _ h => h) (Or.inl ⟨by rfl, ?y21⟩) hHeld ?r21
                  case y21 => (intro w hSw; go_simp; try with_reducible rfl)
                  simp only [List.getElem_toArray, List.getElem_cons_zero, List.getElem_cons_succ, Act.put, List.setIfInBounds_toArray, List.set_cons_zero, List.set_cons_succ]
                  refine wpAnyH_take (i := 1) (v := ?v22) rfl (by kernel_rfl) (by kernel_rfl) (by kernel_rfl) (fun _ _ _ h => h) (Or.inl ⟨by rfl, ?y22⟩) hHeld ?r22
                  case y22 => (intro w hSw; go_simp; try with_reducible rfl)
                  simp only [List.getElem_toArray, List.getElem_cons_zero, List.getElem_cons_succ, Act.put, List.setIfInBounds_toArray, List.set_cons_zero, List.set_cons_succ]
                  refine wpAnyH_take (i := 2) (v := ?v23) rfl (by kernel_rfl) (by kernel_rfl) (by kernel_rfl) (fun _ _ _ h => h) (Or.inl ⟨by rfl, ?y23⟩) hHeld ?r23
                  case y23 => (intro w hSw; go_simp; try with_reducible rfl)
                  simp only [List.getElem_toArray, List.getElem_cons_zero, List.getElem_cons_succ, Act.put, List.setIfInBounds_toArray, List.set_cons_zero, List.set_cons_succ]
                  refine wpAnyH_take (i := 3) (v := ?v24) rfl (by kernel_rfl) (by kernel_rfl) (by kernel_rfl) (fun _ _ _ h => h) (Or.inl ⟨by rfl, ?y24⟩) hHeld ?r24
                  case y24 => (intro w hSw; go_simp; try with_reducible rfl)
                  simp only [List.getElem_toArray, List.getElem_cons_zero, List.getElem_cons_succ, Act.put, List.setIfInBounds_toArray, List.set_cons_zero, List.set_cons_succ]
                  refine wpAnyH_take (i := 4) (v := ?v25) rfl (by kernel_rfl) (by kernel_rfl) (by kernel_rfl) (fun _ _ _ h => h) (Or.inl ⟨by rfl, ?y25⟩) hHeld ?r25
                  case y25 => (intro w hSw; go_simp; try with_reducible rfl)
                  simp only [List.getElem_toArray, List.getElem_cons_zero, List.getElem_cons_succ, Act.put, List.setIfInBounds_toArray, List.set_cons_zero, List.set_cons_succ]
                  refine wpAnyH_take (i := 6) (v := ?v26) rfl (by kernel_rfl) (by kernel_rfl) (by kernel_rfl) (fun _ _ _ h => h) (Or.inl ⟨by rfl, ?y26⟩) hHeld ?r26
                  case y26 => (intro w hSw; go_simp; try with_reducible rfl)
                  simp only [List.getElem_toArray, List.getElem_cons_zero, List.getElem_cons_succ, Act.put, List.setIfInBounds_toArray, List.set_cons_zero, List.set_cons_succ]
                  refine wpAnyH_take (i := 7) (v := ?v27) rfl (by kernel_rfl) (by kernel_rfl) (by kernel_rfl) (fun _ _ _ h => h) (Or.inl ⟨by rfl, ?y27⟩) hHeld ?r27
                  case y27 => (intro w hSw; go_simp; try with_reducible rfl)
                  simp only [List.getElem_toArray, List.getElem_cons_zero, List.getElem_cons_succ, Act.put, List.setIfInBounds_toArray, List.set_cons_zero, List.set_cons_succ]
                  refine wpAnyH_take (i := 8) (v := ?v28) rfl (by kernel_rfl) (by kernel_rfl) (by kernel_rfl) (fun _ _ _ h => h) (Or.inl ⟨by rfl, ?y28⟩) hHeld ?r28
                  case y28 => (intro w hSw; go_simp; try with_reducible rfl)
                  simp only [List.getElem_toArray, List.getElem_cons_zero, List.getElem_cons_succ, Act.put, List.setIfInBounds_toArray, List.set_cons_zero, List.set_cons_succ]
                  refine wpAnyH_ready (rs := [5]) (by kernel_rfl) (by simp) (AllReadyH.cons rfl (fun K hK => ?_) AllReadyH.nil)
                  go_simp
                  refine (peek_at b g [x] _ x 0 _ (by omega) hk9.drew rfl).mono ?_
                  rintro e w10 ⟨rfl, hk10, hu10'⟩
                  have hx10 := hx9.drew.below hu10'
                  have hsw10 := hsw9.drew.below hu10'
                  have hld10 := hld9.drew.below hu10'
                  have hu10 := hu9.drew.trans (hu10'.mono hs9)
                  go_wp2_with fail
                  refine hK.out _ _ (hx10.cell Hxv.out) (fun hHeld => ?_)
                  clear hK K
                  refine wpAnyH_take (i := 9) (v := ?v30) rfl (by kernel_rfl) (by kernel_rfl) (by kernel_rfl) (fun _ _ _ h => h) (Or.inl ⟨by rfl, ?y30⟩) hHeld ?r30
                  case y30 => (intro w hSw; go_simp; try with_reducible rfl)
                  simp only [List.getElem_toArray, List.getElem_cons_zero, List.getElem_cons_succ, Act.put, List.setIfInBounds_toArray, List.set_cons_zero, List.set_cons_succ]
                  refine wpAnyH_take (i := 10) (v := ?v31) rfl (by kernel_rfl) (by kernel_rfl) (by kernel_rfl) (fun _ _ _ h => h) (Or.inl ⟨by rfl, ?y31⟩) hHeld ?r31
                  case y31 => (intro w hSw; go_simp; try with_reducible rfl)
                  simp only [List.getElem_toArray, List.getElem_cons_zero, List.getElem_cons_succ, Act.put, List.setIfInBounds_toArray, List.set_cons_zero, List.set_cons_succ]
                  refine wpAnyH_take (i := 11) (v := ?v32) rfl (by kernel_rfl) (by kernel_rfl) (by kernel_rfl) (fun _ _ _ h => h) (Or.inl ⟨by rfl, ?y32⟩) hHeld ?r32
                  case y32 => (intro w hSw; go_simp; try with_reducible rfl)
                  simp only [List.getElem_toArray, List.getElem_cons_zero, List.getElem_cons_succ, Act.put, List.setIfInBounds_toArray, List.set_cons_zero, List.set_cons_succ]
                  refine wpAnyH_take (i := 12) (v := ?v33) rfl (by kernel_rfl) (by kernel_rfl) (by kernel_rfl) (fun _ _ _ h => h) (Or.inl ⟨by rfl, ?y33⟩) hHeld ?r33
                  case y33 => (intro w hSw; go_simp; try with_reducible rfl)
                  simp only [List.getElem_toArray, List.getElem_cons_zero, List.getElem_cons_succ, Act.put, List.setIfInBounds_toArray, List.set_cons_zero, List.set_cons_succ]
                  refine wpAnyH_take (i := 13) (v := ?v34) rfl (by kernel_rfl) (by kernel_rfl) (by kernel_rfl) (fun _ _ _ h => h) (Or.inl ⟨by rfl, ?y34⟩) hHeld ?r34
                  case y34 => (intro w hSw; go_simp; try with_reducible rfl)
                  simp only [List.getElem_toArray, List.getElem_cons_zero, List.getElem_cons_succ, Act.put, List.setIfInBounds_toArray, List.set_cons_zero, List.set_cons_succ]
                  refine wpAnyH_take (i := 14) (v := ?v35) rfl (by kernel_rfl) (by kernel_rfl) (by kernel_rfl) (fun _ _ _ h => h) (Or.inl ⟨by rfl, ?y35⟩) hHeld ?r35
                  case y35 => (intro w hSw; go_simp; try with_reducible rfl)
                  simp only [List.getElem_toArray, List.getElem_cons_zero, List.getElem_cons_succ, Act.put, List.setIfInBounds_toArray, List.set_cons_zero, List.set_cons_succ]
                  refine wpAnyH_done (by kernel_rfl) ?_ _
                  clear hHeld
                  have hcl := hld10.cell Hlq.out
                  have hfl := hld10.frozen q
                  go_wp2_with fail
                  have hkF := hk10.setFar (p := ⟨lb, q, none⟩) (by simp; omega) (by simp; omega) (.bool false)
                  have hxF := hx10.setFar (p := ⟨lb, q, none⟩) (by simp; omega) (.bool false)
                  have hswF := hsw10.setFar (p := ⟨lb, q, none⟩) (by simp; omega) (.bool false)
                  have hldF := hld10.put q false
                  have huF := hu10.setCell (p := ⟨lb, q, none⟩) (by simp; omega) (.bool false)
                  generalize w10.setCell ⟨lb, q, none⟩ (.bool false) = wF at hkF hxF hswF hldF huF ⊢
                  clear hk10 hx10 hsw10 hld10 hu10 hcl hfl
                  have ok' := Lib.hid (show Ok xs most len (i + 1) ⟨x, s.saw, s.ld.set q false⟩ by have := hok.turn hq (Hmx'.out q hq) Hq.out; rw [Hxq.out, Htu.out] at this; exact this)
                  have hle : x ≤ most := ok'.out.wm
                  refine (peek_at b g [x] _ (x) 0 _ (by omega) hkF rfl).mono ?_
                  rintro e w20 ⟨rfl, hk20, hu20'⟩
                  have hx20 := hxF.below hu20'
                  have hsw20 := hswF.below hu20'
                  have hld20 := hldF.below hu20'
                  have hu20 := huF.trans (hu20'.mono huF.size)
                  clear hkF hxF hswF hldF huF hu20'
                  go_wp2_with fail
                  go_roundw
                  case rel => exact ⟨i + 1, ⟨x, s.saw, s.ld.set q false⟩, t + 1, by omega, by go_num, ok'.out, hk20, by omega, by omega, hx20, hsw20, hld20, hu20⟩
                  case measure => simp [intOf]; omega
                · have Htu := Lib.hid (show bankMost.turn x q s = ⟨s.W, s.saw, s.ld.set q false⟩ by unfold bankMost.turn; rw [if_neg (by rw [Hdq.out]; simp), Hsq.out, if_pos hvx, if_neg hWv])
                  by_cases hWx : s.W = x
                  · have hWx' : (s.W == x) = true := by simp [hWx]
                    have HWv := Lib.hid hWv
                    clear hWv hWx
                    refine wp_region_held_drew (S := fun w' => w'.cell? ⟨sb, q, none⟩ = some (.int .u64 v) ∧ w'.cell? ⟨w.heap.size, q, none⟩ = some (.int .u64 x)) (by kernel_rfl) (⟨hcs, hcx⟩) (fun hHeld => ?_)
                    refine wpAnyH_take (i := 0) (v := ?v36) rfl (by kernel_rfl) (by kernel_rfl) (by kernel_rfl) (fun _ _ _ h => h) (Or.inl ⟨by rfl, ?y36⟩) hHeld ?r36
                    case y36 => (intro w hSw; obtain ⟨hSa, hSb⟩ := hSw; go_simp; try with_reducible rfl)
                    simp only [List.getElem_toArray, List.getElem_cons_zero, List.getElem_cons_succ, Act.put, List.setIfInBounds_toArray, List.set_cons_zero, List.set_cons_succ]
                    refine wpAnyH_take (i := 1) (v := ?v37) rfl (by kernel_rfl) (by kernel_rfl) (by kernel_rfl) (fun _ _ _ h => h) (Or.inl ⟨by rfl, ?y37⟩) hHeld ?r37
                    case y37 => (intro w hSw; obtain ⟨hSa, hSb⟩ := hSw; go_simp; try with_reducible rfl)
                    simp only [List.getElem_toArray, List.getElem_cons_zero, List.getElem_cons_succ, Act.put, List.setIfInBounds_toArray, List.set_cons_zero, List.set_cons_succ]
                    refine wpAnyH_take (i := 2) (v := ?v38) rfl (by kernel_rfl) (by kernel_rfl) (by kernel_rfl) (fun _ _ _ h => h) (Or.inl ⟨by rfl, ?y38⟩) hHeld ?r38
                    case y38 => (intro w hSw; obtain ⟨hSa, hSb⟩ := hSw; go_simp; try with_reducible rfl)
                    simp only [List.getElem_toArray, List.getElem_cons_zero, List.getElem_cons_succ, Act.put, List.setIfInBounds_toArray, List.set_cons_zero, List.set_cons_succ]
                    refine wpAnyH_take (i := 3) (v := ?v39) rfl (by kernel_rfl) (by kernel_rfl) (by kernel_rfl) (fun _ _ _ h => h) (Or.inl ⟨by rfl, ?y39⟩) hHeld ?r39
                    case y39 => (intro w hSw; obtain ⟨hSa, hSb⟩ := hSw; go_simp; try with_reducible rfl)
                    simp only [List.getElem_toArray, List.getElem_cons_zero, List.getElem_cons_succ, Act.put, List.setIfInBounds_toArray, List.set_cons_zero, List.set_cons_succ]
                    refine wpAnyH_take (i := 4) (v := ?v40) rfl (by kernel_rfl) (by kernel_rfl) (by kernel_rfl) (fun _ _ _ h => h) (Or.inl ⟨by rfl, ?y40⟩) hHeld ?r40
                    case y40 => (intro w hSw; obtain ⟨hSa, hSb⟩ := hSw; go_simp; try with_reducible rfl)
                    simp only [List.getElem_toArray, List.getElem_cons_zero, List.getElem_cons_succ, Act.put, List.setIfInBounds_toArray, List.set_cons_zero, List.set_cons_succ]
                    refine wpAnyH_take (i := 5) (v := ?v41) rfl (by kernel_rfl) (by kernel_rfl) (by kernel_rfl) (fun _ _ _ h => h) (Or.inl ⟨by rfl, ?y41⟩) hHeld ?r41
                    case y41 => (intro w hSw; obtain ⟨hSa, hSb⟩ := hSw; go_simp; try with_reducible rfl)
                    simp only [List.getElem_toArray, List.getElem_cons_zero, List.getElem_cons_succ, Act.put, List.setIfInBounds_toArray, List.set_cons_zero, List.set_cons_succ]
                    refine wpAnyH_take (i := 6) (v := ?v42) rfl (by kernel_rfl) (by kernel_rfl) (by kernel_rfl) (fun _ _ _ h => h) (Or.inl ⟨by rfl, ?y42⟩) hHeld ?r42
                    case y42 => (intro w hSw; obtain ⟨hSa, hSb⟩ := hSw; go_simp; try with_reducible rfl)
                    simp only [List.getElem_toArray, List.getElem_cons_zero, List.getElem_cons_succ, Act.put, List.setIfInBounds_toArray, List.set_cons_zero, List.set_cons_succ]
                    refine wpAnyH_ready (rs := [7]) (by kernel_rfl) (by simp) (AllReadyH.cons rfl (fun K hK => ?_) AllReadyH.nil)
                    go_simp
                    refine (cas_miss_at b g [s.W] t v x s.W 0 _ (by omega) hk3 rfl (by omega) (by omega) HWv.out).mono ?_
                    rintro e w9 ⟨rfl, hk9, hu9'⟩
                    have hx9 := hx3.upd hu9' hnx
                    have hsw9 := hsw3.upd hu9' hns
                    have hld9 := hld3.upd hu9' hnl
                    have hu9 := Below.own hu3 hu9' hs3 n3 n4
                    go_wp2_with fail
                    refine hK.out _ _ (⟨hsw9.cell Hsv.out, hx9.cell Hxv.out⟩) (fun hHeld => ?_)
                    clear hK K
                    refine wpAnyH_take (i := 8) (v := ?v44) rfl (by kernel_rfl) (by kernel_rfl) (by kernel_rfl) (fun _ _ _ h => h) (Or.inl ⟨by rfl, ?y44⟩) hHeld ?r44
                    case y44 => (intro w hSw; obtain ⟨hSa, hSb⟩ := hSw; go_simp; try with_reducible rfl)
                    simp only [List.getElem_toArray, List.getElem_cons_zero, List.getElem_cons_succ, Act.put, List.setIfInBounds_toArray, List.set_cons_zero, List.set_cons_succ]
                    refine wpAnyH_take (i := 9) (v := ?v45) rfl (by kernel_rfl) (by kernel_rfl) (by kernel_rfl) (fun _ _ _ h => h) (Or.inl ⟨by rfl, ?y45⟩) hHeld ?r45
                    case y45 => (intro w hSw; obtain ⟨hSa, hSb⟩ := hSw; go_simp; try with_reducible rfl)
                    simp only [List.getElem_toArray, List.getElem_cons_zero, List.getElem_cons_succ, Act.put, List.setIfInBounds_toArray, List.set_cons_zero, List.set_cons_succ]
                    refine wpAnyH_take (i := 10) (v := ?v46) rfl (by kernel_rfl) (by kernel_rfl) (by kernel_rfl) (fun _ _ _ h => h) (Or.inl ⟨by rfl, ?y46⟩) hHeld ?r46
                    case y46 => (intro w hSw; obtain ⟨hSa, hSb⟩ := hSw; go_simp; try with_reducible rfl)
                    simp only [List.getElem_toArray, List.getElem_cons_zero, List.getElem_cons_succ, Act.put, List.setIfInBounds_toArray, List.set_cons_zero, List.set_cons_succ]
                    refine wpAnyH_take (i := 11) (v := ?v47) rfl (by kernel_rfl) (by kernel_rfl) (by kernel_rfl) (fun _ _ _ h => h) (Or.inl ⟨by rfl, ?y47⟩) hHeld ?r47
                    case y47 => (intro w hSw; obtain ⟨hSa, hSb⟩ := hSw; go_simp; try with_reducible rfl)
                    simp only [List.getElem_toArray, List.getElem_cons_zero, List.getElem_cons_succ, Act.put, List.setIfInBounds_toArray, List.set_cons_zero, List.set_cons_succ]
                    refine wpAnyH_take (i := 12) (v := ?v48) rfl (by kernel_rfl) (by kernel_rfl) (by kernel_rfl) (fun _ _ _ h => h) (Or.inl ⟨by rfl, ?y48⟩) hHeld ?r48
                    case y48 => (intro w hSw; obtain ⟨hSa, hSb⟩ := hSw; go_simp; try with_reducible rfl)
                    simp only [List.getElem_toArray, List.getElem_cons_zero, List.getElem_cons_succ, Act.put, List.setIfInBounds_toArray, List.set_cons_zero, List.set_cons_succ]
                    refine wpAnyH_done (by kernel_rfl) ?_ _
                    have hs9 := hu9.size
                    clear hHeld
                    go_wp2_with fail
                    refine wp_region_held_drew (S := fun w' => w'.cell? ⟨w.heap.size, q, none⟩ = some (.int .u64 x)) (by kernel_rfl) (hx9.cell Hxv.out) (fun hHeld => ?_)
                    refine wpAnyH_take (i := 0) (v := ?v49) rfl (by kernel_rfl) (by kernel_rfl) (by kernel_rfl) (fun _ _ _ h => h) (Or.inl ⟨by rfl, ?y49⟩) hHeld ?r49
                    case y49 => (intro w hSw; go_simp; try with_reducible rfl)
                    simp only [List.getElem_toArray, List.getElem_cons_zero, List.getElem_cons_succ, Act.put, List.setIfInBounds_toArray, List.set_cons_zero, List.set_cons_succ]
                    refine wpAnyH_take (i := 1) (v := ?v50) rfl (by kernel_rfl) (by kernel_rfl) (by kernel_rfl) (fun _ _ _ h => h) (Or.inl ⟨by rfl, ?y50⟩) hHeld ?r50
                    case y50 => (intro w hSw; go_simp; try with_reducible rfl)
                    simp only [List.getElem_toArray, List.getElem_cons_zero, List.getElem_cons_succ, Act.put, List.setIfInBounds_toArray, List.set_cons_zero, List.set_cons_succ]
                    refine wpAnyH_take (i := 2) (v := ?v51) rfl (by kernel_rfl) (by kernel_rfl) (by kernel_rfl) (fun _ _ _ h => h) (Or.inl ⟨by rfl, ?y51⟩) hHeld ?r51
                    case y51 => (intro w hSw; go_simp; try with_reducible rfl)
                    simp only [List.getElem_toArray, List.getElem_cons_zero, List.getElem_cons_succ, Act.put, List.setIfInBounds_toArray, List.set_cons_zero, List.set_cons_succ]
                    refine wpAnyH_take (i := 3) (v := ?v52) rfl (by kernel_rfl) (by kernel_rfl) (by kernel_rfl) (fun _ _ _ h => h) (Or.inl ⟨by rfl, ?y52⟩) hHeld ?r52
                    case y52 => (intro w hSw; go_simp; try with_reducible rfl)
                    simp only [List.getElem_toArray, List.getElem_cons_zero, List.getElem_cons_succ, Act.put, List.setIfInBounds_toArray, List.set_cons_zero, List.set_cons_succ]
                    refine wpAnyH_take (i := 4) (v := ?v53) rfl (by kernel_rfl) (by kernel_rfl) (by kernel_rfl) (fun _ _ _ h => h) (Or.inl ⟨by rfl, ?y53⟩) hHeld ?r53
                    case y53 => (intro w hSw; go_simp; try with_reducible rfl)
                    simp only [List.getElem_toArray, List.getElem_cons_zero, List.getElem_cons_succ, Act.put, List.setIfInBounds_toArray, List.set_cons_zero, List.set_cons_succ]
                    refine wpAnyH_take (i := 6) (v := ?v54) rfl (by kernel_rfl) (by kernel_rfl) (by kernel_rfl) (fun _ _ _ h => h) (Or.inl ⟨by rfl, ?y54⟩) hHeld ?r54
                    case y54 => (intro w hSw; go_simp; try with_reducible rfl)
                    simp only [List.getElem_toArray, List.getElem_cons_zero, List.getElem_cons_succ, Act.put, List.setIfInBounds_toArray, List.set_cons_zero, List.set_cons_succ]
                    refine wpAnyH_take (i := 7) (v := ?v55) rfl (by kernel_rfl) (by kernel_rfl) (by kernel_rfl) (fun _ _ _ h => h) (Or.inl ⟨by rfl, ?y55⟩) hHeld ?r55
                    case y55 => (intro w hSw; go_simp; try with_reducible rfl)
                    simp only [List.getElem_toArray, List.getElem_cons_zero, List.getElem_cons_succ, Act.put, List.setIfInBounds_toArray, List.set_cons_zero, List.set_cons_succ]
                    refine wpAnyH_take (i := 8) (v := ?v56) rfl (by kernel_rfl) (by kernel_rfl) (by kernel_rfl) (fun _ _ _ h => h) (Or.inl ⟨by rfl, ?y56⟩) hHeld ?r56
                    case y56 => (intro w hSw; go_simp; try with_reducible rfl)
                    simp only [List.getElem_toArray, List.getElem_cons_zero, List.getElem_cons_succ, Act.put, List.setIfInBounds_toArray, List.set_cons_zero, List.set_cons_succ]
                    refine wpAnyH_ready (rs := [5]) (by kernel_rfl) (by simp) (AllReadyH.cons rfl (fun K hK => ?_) AllReadyH.nil)
                    go_simp
                    refine (peek_at b g [s.W] _ s.W 0 _ (by omega) hk9.drew rfl).mono ?_
                    rintro e w10 ⟨rfl, hk10, hu10'⟩
                    have hx10 := hx9.drew.below hu10'
                    have hsw10 := hsw9.drew.below hu10'
                    have hld10 := hld9.drew.below hu10'
                    have hu10 := hu9.drew.trans (hu10'.mono hs9)
                    go_wp2_with fail
                    refine hK.out _ _ (hx10.cell Hxv.out) (fun hHeld => ?_)
                    clear hK K
                    refine wpAnyH_take (i := 9) (v := ?v58) rfl (by kernel_rfl) (by kernel_rfl) (by kernel_rfl) (fun _ _ _ h => h) (Or.inl ⟨by rfl, ?y58⟩) hHeld ?r58
                    case y58 => (intro w hSw; go_simp; try with_reducible rfl)
                    simp only [List.getElem_toArray, List.getElem_cons_zero, List.getElem_cons_succ, Act.put, List.setIfInBounds_toArray, List.set_cons_zero, List.set_cons_succ]
                    refine wpAnyH_take (i := 10) (v := ?v59) rfl (by kernel_rfl) (by kernel_rfl) (by kernel_rfl) (fun _ _ _ h => h) (Or.inl ⟨by rfl, ?y59⟩) hHeld ?r59
                    case y59 => (intro w hSw; go_simp; try with_reducible rfl)
                    simp only [List.getElem_toArray, List.getElem_cons_zero, List.getElem_cons_succ, Act.put, List.setIfInBounds_toArray, List.set_cons_zero, List.set_cons_succ]
                    refine wpAnyH_take (i := 11) (v := ?v60) rfl (by kernel_rfl) (by kernel_rfl) (by kernel_rfl) (fun _ _ _ h => h) (Or.inl ⟨by rfl, ?y60⟩) hHeld ?r60
                    case y60 => (intro w hSw; go_simp; try with_reducible rfl)
                    simp only [List.getElem_toArray, List.getElem_cons_zero, List.getElem_cons_succ, Act.put, List.setIfInBounds_toArray, List.set_cons_zero, List.set_cons_succ]
                    refine wpAnyH_take (i := 12) (v := ?v61) rfl (by kernel_rfl) (by kernel_rfl) (by kernel_rfl) (fun _ _ _ h => h) (Or.inl ⟨by rfl, ?y61⟩) hHeld ?r61
                    case y61 => (intro w hSw; go_simp; try with_reducible rfl)
                    simp only [List.getElem_toArray, List.getElem_cons_zero, List.getElem_cons_succ, Act.put, List.setIfInBounds_toArray, List.set_cons_zero, List.set_cons_succ]
                    refine wpAnyH_take (i := 13) (v := ?v62) rfl (by kernel_rfl) (by kernel_rfl) (by kernel_rfl) (fun _ _ _ h => h) (Or.inl ⟨by rfl, ?y62⟩) hHeld ?r62
                    case y62 => (intro w hSw; go_simp; try with_reducible rfl)
                    simp only [List.getElem_toArray, List.getElem_cons_zero, List.getElem_cons_succ, Act.put, List.setIfInBounds_toArray, List.set_cons_zero, List.set_cons_succ]
                    refine wpAnyH_take (i := 14) (v := ?v63) rfl (by kernel_rfl) (by kernel_rfl) (by kernel_rfl) (fun _ _ _ h => h) (Or.inl ⟨by rfl, ?y63⟩) hHeld ?r63
                    case y63 => (intro w hSw; go_simp; try with_reducible rfl)
                    simp only [List.getElem_toArray, List.getElem_cons_zero, List.getElem_cons_succ, Act.put, List.setIfInBounds_toArray, List.set_cons_zero, List.set_cons_succ]
                    refine wpAnyH_done (by kernel_rfl) ?_ _
                    clear hHeld
                    have hcl := hld10.cell Hlq.out
                    have hfl := hld10.frozen q
                    go_wp2_with fail
                    have hkF := hk10.setFar (p := ⟨lb, q, none⟩) (by simp; omega) (by simp; omega) (.bool false)
                    have hxF := hx10.setFar (p := ⟨lb, q, none⟩) (by simp; omega) (.bool false)
                    have hswF := hsw10.setFar (p := ⟨lb, q, none⟩) (by simp; omega) (.bool false)
                    have hldF := hld10.put q false
                    have huF := hu10.setCell (p := ⟨lb, q, none⟩) (by simp; omega) (.bool false)
                    generalize w10.setCell ⟨lb, q, none⟩ (.bool false) = wF at hkF hxF hswF hldF huF ⊢
                    clear hk10 hx10 hsw10 hld10 hu10 hcl hfl
                    have ok' := Lib.hid (show Ok xs most len (i + 1) ⟨s.W, s.saw, s.ld.set q false⟩ by have := hok.turn hq (Hmx'.out q hq) Hq.out; rw [Hxq.out, Htu.out] at this; exact this)
                    have hle : s.W ≤ most := ok'.out.wm
                    refine (peek_at b g [s.W] _ (s.W) 0 _ (by omega) hkF rfl).mono ?_
                    rintro e w20 ⟨rfl, hk20, hu20'⟩
                    have hx20 := hxF.below hu20'
                    have hsw20 := hswF.below hu20'
                    have hld20 := hldF.below hu20'
                    have hu20 := huF.trans (hu20'.mono huF.size)
                    clear hkF hxF hswF hldF huF hu20'
                    go_wp2_with fail
                    go_roundw
                    case rel => exact ⟨i + 1, ⟨s.W, s.saw, s.ld.set q false⟩, t + 1, by omega, by go_num, ok'.out, hk20, by omega, by omega, hx20, hsw20, hld20, hu20⟩
                    case measure => simp [intOf]; omega
                  · have hWx' : (s.W == x) = false := by simp [hWx]
                    have HWv := Lib.hid hWv
                    clear hWv hWx
                    refine wp_region_held_drew (S := fun w' => w'.cell? ⟨sb, q, none⟩ = some (.int .u64 v) ∧ w'.cell? ⟨w.heap.size, q, none⟩ = some (.int .u64 x)) (by kernel_rfl) (⟨hcs, hcx⟩) (fun hHeld => ?_)
                    refine wpAnyH_take (i := 0) (v := ?v64) rfl (by kernel_rfl) (by kernel_rfl) (by kernel_rfl) (fun _ _ _ h => h) (Or.inl ⟨by rfl, ?y64⟩) hHeld ?r64
                    case y64 => (intro w hSw; obtain ⟨hSa, hSb⟩ := hSw; go_simp; try with_reducible rfl)
                    simp only [List.getElem_toArray, List.getElem_cons_zero, List.getElem_cons_succ, Act.put, List.setIfInBounds_toArray, List.set_cons_zero, List.set_cons_succ]
                    refine wpAnyH_take (i := 1) (v := ?v65) rfl (by kernel_rfl) (by kernel_rfl) (by kernel_rfl) (fun _ _ _ h => h) (Or.inl ⟨by rfl, ?y65⟩) hHeld ?r65
                    case y65 => (intro w hSw; obtain ⟨hSa, hSb⟩ := hSw; go_simp; try with_reducible rfl)
                    simp only [List.getElem_toArray, List.getElem_cons_zero, List.getElem_cons_succ, Act.put, List.setIfInBounds_toArray, List.set_cons_zero, List.set_cons_succ]
                    refine wpAnyH_take (i := 2) (v := ?v66) rfl (by kernel_rfl) (by kernel_rfl) (by kernel_rfl) (fun _ _ _ h => h) (Or.inl ⟨by rfl, ?y66⟩) hHeld ?r66
                    case y66 => (intro w hSw; obtain ⟨hSa, hSb⟩ := hSw; go_simp; try with_reducible rfl)
                    simp only [List.getElem_toArray, List.getElem_cons_zero, List.getElem_cons_succ, Act.put, List.setIfInBounds_toArray, List.set_cons_zero, List.set_cons_succ]
                    refine wpAnyH_take (i := 3) (v := ?v67) rfl (by kernel_rfl) (by kernel_rfl) (by kernel_rfl) (fun _ _ _ h => h) (Or.inl ⟨by rfl, ?y67⟩) hHeld ?r67
                    case y67 => (intro w hSw; obtain ⟨hSa, hSb⟩ := hSw; go_simp; try with_reducible rfl)
                    simp only [List.getElem_toArray, List.getElem_cons_zero, List.getElem_cons_succ, Act.put, List.setIfInBounds_toArray, List.set_cons_zero, List.set_cons_succ]
                    refine wpAnyH_take (i := 4) (v := ?v68) rfl (by kernel_rfl) (by kernel_rfl) (by kernel_rfl) (fun _ _ _ h => h) (Or.inl ⟨by rfl, ?y68⟩) hHeld ?r68
                    case y68 => (intro w hSw; obtain ⟨hSa, hSb⟩ := hSw; go_simp; try with_reducible rfl)
                    simp only [List.getElem_toArray, List.getElem_cons_zero, List.getElem_cons_succ, Act.put, List.setIfInBounds_toArray, List.set_cons_zero, List.set_cons_succ]
                    refine wpAnyH_take (i := 5) (v := ?v69) rfl (by kernel_rfl) (by kernel_rfl) (by kernel_rfl) (fun _ _ _ h => h) (Or.inl ⟨by rfl, ?y69⟩) hHeld ?r69
                    case y69 => (intro w hSw; obtain ⟨hSa, hSb⟩ := hSw; go_simp; try with_reducible rfl)
                    simp only [List.getElem_toArray, List.getElem_cons_zero, List.getElem_cons_succ, Act.put, List.setIfInBounds_toArray, List.set_cons_zero, List.set_cons_succ]
                    refine wpAnyH_take (i := 6) (v := ?v70) rfl (by kernel_rfl) (by kernel_rfl) (by kernel_rfl) (fun _ _ _ h => h) (Or.inl ⟨by rfl, ?y70⟩) hHeld ?r70
                    case y70 => (intro w hSw; obtain ⟨hSa, hSb⟩ := hSw; go_simp; try with_reducible rfl)
                    simp only [List.getElem_toArray, List.getElem_cons_zero, List.getElem_cons_succ, Act.put, List.setIfInBounds_toArray, List.set_cons_zero, List.set_cons_succ]
                    refine wpAnyH_ready (rs := [7]) (by kernel_rfl) (by simp) (AllReadyH.cons rfl (fun K hK => ?_) AllReadyH.nil)
                    go_simp
                    refine (cas_miss_at b g [s.W] t v x s.W 0 _ (by omega) hk3 rfl (by omega) (by omega) HWv.out).mono ?_
                    rintro e w9 ⟨rfl, hk9, hu9'⟩
                    have hx9 := hx3.upd hu9' hnx
                    have hsw9 := hsw3.upd hu9' hns
                    have hld9 := hld3.upd hu9' hnl
                    have hu9 := Below.own hu3 hu9' hs3 n3 n4
                    go_wp2_with fail
                    refine hK.out _ _ (⟨hsw9.cell Hsv.out, hx9.cell Hxv.out⟩) (fun hHeld => ?_)
                    clear hK K
                    refine wpAnyH_take (i := 8) (v := ?v72) rfl (by kernel_rfl) (by kernel_rfl) (by kernel_rfl) (fun _ _ _ h => h) (Or.inl ⟨by rfl, ?y72⟩) hHeld ?r72
                    case y72 => (intro w hSw; obtain ⟨hSa, hSb⟩ := hSw; go_simp; try with_reducible rfl)
                    simp only [List.getElem_toArray, List.getElem_cons_zero, List.getElem_cons_succ, Act.put, List.setIfInBounds_toArray, List.set_cons_zero, List.set_cons_succ]
                    refine wpAnyH_take (i := 9) (v := ?v73) rfl (by kernel_rfl) (by kernel_rfl) (by kernel_rfl) (fun _ _ _ h => h) (Or.inl ⟨by rfl, ?y73⟩) hHeld ?r73
                    case y73 => (intro w hSw; obtain ⟨hSa, hSb⟩ := hSw; go_simp; try with_reducible rfl)
                    simp only [List.getElem_toArray, List.getElem_cons_zero, List.getElem_cons_succ, Act.put, List.setIfInBounds_toArray, List.set_cons_zero, List.set_cons_succ]
                    refine wpAnyH_take (i := 10) (v := ?v74) rfl (by kernel_rfl) (by kernel_rfl) (by kernel_rfl) (fun _ _ _ h => h) (Or.inl ⟨by rfl, ?y74⟩) hHeld ?r74
                    case y74 => (intro w hSw; obtain ⟨hSa, hSb⟩ := hSw; go_simp; try with_reducible rfl)
                    simp only [List.getElem_toArray, List.getElem_cons_zero, List.getElem_cons_succ, Act.put, List.setIfInBounds_toArray, List.set_cons_zero, List.set_cons_succ]
                    refine wpAnyH_take (i := 11) (v := ?v75) rfl (by kernel_rfl) (by kernel_rfl) (by kernel_rfl) (fun _ _ _ h => h) (Or.inl ⟨by rfl, ?y75⟩) hHeld ?r75
                    case y75 => (intro w hSw; obtain ⟨hSa, hSb⟩ := hSw; go_simp; try with_reducible rfl)
                    simp only [List.getElem_toArray, List.getElem_cons_zero, List.getElem_cons_succ, Act.put, List.setIfInBounds_toArray, List.set_cons_zero, List.set_cons_succ]
                    refine wpAnyH_take (i := 12) (v := ?v76) rfl (by kernel_rfl) (by kernel_rfl) (by kernel_rfl) (fun _ _ _ h => h) (Or.inl ⟨by rfl, ?y76⟩) hHeld ?r76
                    case y76 => (intro w hSw; obtain ⟨hSa, hSb⟩ := hSw; go_simp; try with_reducible rfl)
                    simp only [List.getElem_toArray, List.getElem_cons_zero, List.getElem_cons_succ, Act.put, List.setIfInBounds_toArray, List.set_cons_zero, List.set_cons_succ]
                    refine wpAnyH_done (by kernel_rfl) ?_ _
                    have hs9 := hu9.size
                    clear hHeld
                    go_wp2_with fail
                    refine wp_region_held_drew (S := fun w' => w'.cell? ⟨w.heap.size, q, none⟩ = some (.int .u64 x)) (by kernel_rfl) (hx9.cell Hxv.out) (fun hHeld => ?_)
                    refine wpAnyH_take (i := 0) (v := ?v77) rfl (by kernel_rfl) (by kernel_rfl) (by kernel_rfl) (fun _ _ _ h => h) (Or.inl ⟨by rfl, ?y77⟩) hHeld ?r77
                    case y77 => (intro w hSw; go_simp; try with_reducible rfl)
                    simp only [List.getElem_toArray, List.getElem_cons_zero, List.getElem_cons_succ, Act.put, List.setIfInBounds_toArray, List.set_cons_zero, List.set_cons_succ]
                    refine wpAnyH_take (i := 1) (v := ?v78) rfl (by kernel_rfl) (by kernel_rfl) (by kernel_rfl) (fun _ _ _ h => h) (Or.inl ⟨by rfl, ?y78⟩) hHeld ?r78
                    case y78 => (intro w hSw; go_simp; try with_reducible rfl)
                    simp only [List.getElem_toArray, List.getElem_cons_zero, List.getElem_cons_succ, Act.put, List.setIfInBounds_toArray, List.set_cons_zero, List.set_cons_succ]
                    refine wpAnyH_take (i := 2) (v := ?v79) rfl (by kernel_rfl) (by kernel_rfl) (by kernel_rfl) (fun _ _ _ h => h) (Or.inl ⟨by rfl, ?y79⟩) hHeld ?r79
                    case y79 => (intro w hSw; go_simp; try with_reducible rfl)
                    simp only [List.getElem_toArray, List.getElem_cons_zero, List.getElem_cons_succ, Act.put, List.setIfInBounds_toArray, List.set_cons_zero, List.set_cons_succ]
                    refine wpAnyH_take (i := 3) (v := ?v80) rfl (by kernel_rfl) (by kernel_rfl) (by kernel_rfl) (fun _ _ _ h => h) (Or.inl ⟨by rfl, ?y80⟩) hHeld ?r80
                    case y80 => (intro w hSw; go_simp; try with_reducible rfl)
                    simp only [List.getElem_toArray, List.getElem_cons_zero, List.getElem_cons_succ, Act.put, List.setIfInBounds_toArray, List.set_cons_zero, List.set_cons_succ]
                    refine wpAnyH_take (i := 4) (v := ?v81) rfl (by kernel_rfl) (by kernel_rfl) (by kernel_rfl) (fun _ _ _ h => h) (Or.inl ⟨by rfl, ?y81⟩) hHeld ?r81
                    case y81 => (intro w hSw; go_simp; try with_reducible rfl)
                    simp only [List.getElem_toArray, List.getElem_cons_zero, List.getElem_cons_succ, Act.put, List.setIfInBounds_toArray, List.set_cons_zero, List.set_cons_succ]
                    refine wpAnyH_take (i := 6) (v := ?v82) rfl (by kernel_rfl) (by kernel_rfl) (by kernel_rfl) (fun _ _ _ h => h) (Or.inl ⟨by rfl, ?y82⟩) hHeld ?r82
                    case y82 => (intro w hSw; go_simp; try with_reducible rfl)
                    simp only [List.getElem_toArray, List.getElem_cons_zero, List.getElem_cons_succ, Act.put, List.setIfInBounds_toArray, List.set_cons_zero, List.set_cons_succ]
                    refine wpAnyH_take (i := 7) (v := ?v83) rfl (by kernel_rfl) (by kernel_rfl) (by kernel_rfl) (fun _ _ _ h => h) (Or.inl ⟨by rfl, ?y83⟩) hHeld ?r83
                    case y83 => (intro w hSw; go_simp; try with_reducible rfl)
                    simp only [List.getElem_toArray, List.getElem_cons_zero, List.getElem_cons_succ, Act.put, List.setIfInBounds_toArray, List.set_cons_zero, List.set_cons_succ]
                    refine wpAnyH_take (i := 8) (v := ?v84) rfl (by kernel_rfl) (by kernel_rfl) (by kernel_rfl) (fun _ _ _ h => h) (Or.inl ⟨by rfl, ?y84⟩) hHeld ?r84
                    case y84 => (intro w hSw; go_simp; try with_reducible rfl)
                    simp only [List.getElem_toArray, List.getElem_cons_zero, List.getElem_cons_succ, Act.put, List.setIfInBounds_toArray, List.set_cons_zero, List.set_cons_succ]
                    refine wpAnyH_ready (rs := [5]) (by kernel_rfl) (by simp) (AllReadyH.cons rfl (fun K hK => ?_) AllReadyH.nil)
                    go_simp
                    refine (peek_at b g [s.W] _ s.W 0 _ (by omega) hk9.drew rfl).mono ?_
                    rintro e w10 ⟨rfl, hk10, hu10'⟩
                    have hx10 := hx9.drew.below hu10'
                    have hsw10 := hsw9.drew.below hu10'
                    have hld10 := hld9.drew.below hu10'
                    have hu10 := hu9.drew.trans (hu10'.mono hs9)
                    go_wp2_with fail
                    refine hK.out _ _ (hx10.cell Hxv.out) (fun hHeld => ?_)
                    clear hK K
                    refine wpAnyH_take (i := 9) (v := ?v86) rfl (by kernel_rfl) (by kernel_rfl) (by kernel_rfl) (fun _ _ _ h => h) (Or.inl ⟨by rfl, ?y86⟩) hHeld ?r86
                    case y86 => (intro w hSw; go_simp; try with_reducible rfl)
                    simp only [List.getElem_toArray, List.getElem_cons_zero, List.getElem_cons_succ, Act.put, List.setIfInBounds_toArray, List.set_cons_zero, List.set_cons_succ]
                    refine wpAnyH_take (i := 10) (v := ?v87) rfl (by kernel_rfl) (by kernel_rfl) (by kernel_rfl) (fun _ _ _ h => h) (Or.inl ⟨by rfl, ?y87⟩) hHeld ?r87
                    case y87 => (intro w hSw; go_simp; try with_reducible rfl)
                    simp only [List.getElem_toArray, List.getElem_cons_zero, List.getElem_cons_succ, Act.put, List.setIfInBounds_toArray, List.set_cons_zero, List.set_cons_succ]
                    refine wpAnyH_take (i := 11) (v := undef) rfl (by kernel_rfl) (by kernel_rfl) (by kernel_rfl) (fun _ _ _ h => h) (Or.inr ⟨by rfl, rfl⟩) hHeld ?_
                    simp only [List.getElem_toArray, List.getElem_cons_zero, List.getElem_cons_succ, Act.put, List.setIfInBounds_toArray, List.set_cons_zero, List.set_cons_succ]
                    refine wpAnyH_take (i := 12) (v := ?v89) rfl (by kernel_rfl) (by kernel_rfl) (by kernel_rfl) (fun _ _ _ h => h) (Or.inl ⟨by rfl, ?y89⟩) hHeld ?r89
                    case y89 => (intro w hSw; go_simp; try with_reducible rfl)
                    simp only [List.getElem_toArray, List.getElem_cons_zero, List.getElem_cons_succ, Act.put, List.setIfInBounds_toArray, List.set_cons_zero, List.set_cons_succ]
                    refine wpAnyH_take (i := 13) (v := ?v90) rfl (by kernel_rfl) (by kernel_rfl) (by kernel_rfl) (fun _ _ _ h => h) (Or.inl ⟨by rfl, ?y90⟩) hHeld ?r90
                    case y90 => (intro w hSw; go_simp; try with_reducible rfl)
                    simp only [List.getElem_toArray, List.getElem_cons_zero, List.getElem_cons_succ, Act.put, List.setIfInBounds_toArray, List.set_cons_zero, List.set_cons_succ]
                    refine wpAnyH_take (i := 14) (v := ?v91) rfl (by kernel_rfl) (by kernel_rfl) (by kernel_rfl) (fun _ _ _ h => h) (Or.inl ⟨by rfl, ?y91⟩) hHeld ?r91
                    case y91 => (intro w hSw; go_simp; try with_reducible rfl)
                    simp only [List.getElem_toArray, List.getElem_cons_zero, List.getElem_cons_succ, Act.put, List.setIfInBounds_toArray, List.set_cons_zero, List.set_cons_succ]
                    refine wpAnyH_done (by kernel_rfl) ?_ _
                    clear hHeld
                    have hcl := hld10.cell Hlq.out
                    have hfl := hld10.frozen q
                    go_wp2_with fail
                    have hkF := hk10.setFar (p := ⟨lb, q, none⟩) (by simp; omega) (by simp; omega) (.bool false)
                    have hxF := hx10.setFar (p := ⟨lb, q, none⟩) (by simp; omega) (.bool false)
                    have hswF := hsw10.setFar (p := ⟨lb, q, none⟩) (by simp; omega) (.bool false)
                    have hldF := hld10.put q false
                    have huF := hu10.setCell (p := ⟨lb, q, none⟩) (by simp; omega) (.bool false)
                    generalize w10.setCell ⟨lb, q, none⟩ (.bool false) = wF at hkF hxF hswF hldF huF ⊢
                    clear hk10 hx10 hsw10 hld10 hu10 hcl hfl
                    have ok' := Lib.hid (show Ok xs most len (i + 1) ⟨s.W, s.saw, s.ld.set q false⟩ by have := hok.turn hq (Hmx'.out q hq) Hq.out; rw [Hxq.out, Htu.out] at this; exact this)
                    have hle : s.W ≤ most := ok'.out.wm
                    refine (peek_at b g [s.W] _ (s.W) 0 _ (by omega) hkF rfl).mono ?_
                    rintro e w20 ⟨rfl, hk20, hu20'⟩
                    have hx20 := hxF.below hu20'
                    have hsw20 := hswF.below hu20'
                    have hld20 := hldF.below hu20'
                    have hu20 := huF.trans (hu20'.mono huF.size)
                    clear hkF hxF hswF hldF huF hu20'
                    go_wp2_with fail
                    go_roundw
                    case rel => exact ⟨i + 1, ⟨s.W, s.saw, s.ld.set q false⟩, t + 1, by omega, by go_num, ok'.out, hk20, by omega, by omega, hx20, hsw20, hld20, hu20⟩
                    case measure => simp [intOf]; omega
              · have Htu := Lib.hid (show bankMost.turn x q s = s by unfold bankMost.turn; rw [if_neg (by rw [Hdq.out]; simp), Hsq.out, if_neg hvx])
                go_wp2_with fail
                refine wp_region_held_drew (S := fun w' => w'.cell? ⟨sb, q, none⟩ = some (.int .u64 v) ∧ w'.cell? ⟨w.heap.size, q, none⟩ = some (.int .u64 x)) (by kernel_rfl) (⟨hcs, hcx⟩) (fun hHeld => ?_)
                refine wpAnyH_take (i := 0) (v := ?v92) rfl (by kernel_rfl) (by kernel_rfl) (by kernel_rfl) (fun _ _ _ h => h) (Or.inl ⟨by rfl, ?y92⟩) hHeld ?r92
                case y92 => (intro w hSw; obtain ⟨hSa, hSb⟩ := hSw; go_simp; try with_reducible rfl)
                simp only [List.getElem_toArray, List.getElem_cons_zero, List.getElem_cons_succ, Act.put, List.setIfInBounds_toArray, List.set_cons_zero, List.set_cons_succ]
                refine wpAnyH_take (i := 1) (v := ?v93) rfl (by kernel_rfl) (by kernel_rfl) (by kernel_rfl) (fun _ _ _ h => h) (Or.inl ⟨by rfl, ?y93⟩) hHeld ?r93
                case y93 => (intro w hSw; obtain ⟨hSa, hSb⟩ := hSw; go_simp; try with_reducible rfl)
                simp only [List.getElem_toArray, List.getElem_cons_zero, List.getElem_cons_succ, Act.put, List.setIfInBounds_toArray, List.set_cons_zero, List.set_cons_succ]
                refine wpAnyH_take (i := 2) (v := ?v94) rfl (by kernel_rfl) (by kernel_rfl) (by kernel_rfl) (fun _ _ _ h => h) (Or.inl ⟨by rfl, ?y94⟩) hHeld ?r94
                case y94 => (intro w hSw; obtain ⟨hSa, hSb⟩ := hSw; go_simp; try with_reducible rfl)
                simp only [List.getElem_toArray, List.getElem_cons_zero, List.getElem_cons_succ, Act.put, List.setIfInBounds_toArray, List.set_cons_zero, List.set_cons_succ]
                refine wpAnyH_take (i := 3) (v := ?v95) rfl (by kernel_rfl) (by kernel_rfl) (by kernel_rfl) (fun _ _ _ h => h) (Or.inl ⟨by rfl, ?y95⟩) hHeld ?r95
                case y95 => (intro w hSw; obtain ⟨hSa, hSb⟩ := hSw; go_simp; try with_reducible rfl)
                simp only [List.getElem_toArray, List.getElem_cons_zero, List.getElem_cons_succ, Act.put, List.setIfInBounds_toArray, List.set_cons_zero, List.set_cons_succ]
                refine wpAnyH_take (i := 4) (v := ?v96) rfl (by kernel_rfl) (by kernel_rfl) (by kernel_rfl) (fun _ _ _ h => h) (Or.inl ⟨by rfl, ?y96⟩) hHeld ?r96
                case y96 => (intro w hSw; obtain ⟨hSa, hSb⟩ := hSw; go_simp; try with_reducible rfl)
                simp only [List.getElem_toArray, List.getElem_cons_zero, List.getElem_cons_succ, Act.put, List.setIfInBounds_toArray, List.set_cons_zero, List.set_cons_succ]
                refine wpAnyH_take (i := 5) (v := ?v97) rfl (by kernel_rfl) (by kernel_rfl) (by kernel_rfl) (fun _ _ _ h => h) (Or.inl ⟨by rfl, ?y97⟩) hHeld ?r97
                case y97 => (intro w hSw; obtain ⟨hSa, hSb⟩ := hSw; go_simp; try with_reducible rfl)
                simp only [List.getElem_toArray, List.getElem_cons_zero, List.getElem_cons_succ, Act.put, List.setIfInBounds_toArray, List.set_cons_zero, List.set_cons_succ]
                refine wpAnyH_take (i := 6) (v := ?v98) rfl (by kernel_rfl) (by kernel_rfl) (by kernel_rfl) (fun _ _ _ h => h) (Or.inl ⟨by rfl, ?y98⟩) hHeld ?r98
                case y98 => (intro w hSw; obtain ⟨hSa, hSb⟩ := hSw; go_simp; try with_reducible rfl)
                simp only [List.getElem_toArray, List.getElem_cons_zero, List.getElem_cons_succ, Act.put, List.setIfInBounds_toArray, List.set_cons_zero, List.set_cons_succ]
                refine wpAnyH_done (by kernel_rfl) ?_ _
                have hkF := hk2.drew
                have hxF := hx2.drew
                have hswF := hsw2.drew
                have hldF := hld2.drew
                have huF := hu2.drew
                generalize wr.drew = wF at hkF hxF hswF hldF huF ⊢
                clear hHeld hk2 hx2 hsw2 hld2 hu2 hcx hcs hfs hcl hfl hs2
                go_wp2_with fail
                have ok' := Lib.hid (show Ok xs most len (i + 1) s by have := hok.turn hq (Hmx'.out q hq) Hq.out; rw [Hxq.out, Htu.out] at this; exact this)
                have hle : s.W ≤ most := ok'.out.wm
                refine (peek_at b g [s.W] _ (s.W) 0 _ (by omega) hkF rfl).mono ?_
                rintro e w20 ⟨rfl, hk20, hu20'⟩
                have hx20 := hxF.below hu20'
                have hsw20 := hswF.below hu20'
                have hld20 := hldF.below hu20'
                have hu20 := huF.trans (hu20'.mono huF.size)
                clear hkF hxF hswF hldF huF hu20'
                go_wp2_with fail
                go_roundw
                case rel => exact ⟨i + 1, s, t, by omega, by go_num, ok'.out, hk20, by omega, by omega, hx20, hsw20, hld20, hu20⟩
                case measure => simp [intOf]; omega
        · have hi40 : i = len + 40 := by omega
          have hW : s.W = most := by
            rw [hi40] at hok
            have h1 := hok.wm
            rcases Hmo.out with h2 | ⟨j, hj, h2⟩
            · have := hok.w0; omega
            · have := hok.fin hj; omega
          have HW := Lib.hid hW
          clear hW hi40
          go_wp2_with fail
          refine (peek_at b g [s.W] _ most 0 _ (by omega) hk2 (by rw [HW.out]; rfl)).mono ?_
          rintro e w3 ⟨rfl, _, hu3⟩
          have hu := hu2.trans (hu3.mono hs2)
          have hs := hu.size
          clear hk2 hx2 hsw2 hld2 hu2 hu3 hs2
          go_wp2_with fail
          refine (awake_any _).mono ?_
          rintro e w4 ⟨rfl, hu4⟩
          have hu' := hu.trans (hu4.mono hs)
          clear hu hu4 hs
          go_wp2
          go_ret
          exact ⟨rfl, hu'⟩
theorem walk (x0 x1 x2 x3 : Int) (a : Option Addr) (len cap : Nat) (l : List Int) (w : World) (u0 : U64 x0) (u1 : U64 x1) (u2 : U64 x2) (u3 : U64 x3) (hl : Picks w a len cap l) :
    Calls Try.prog 7 #[.agg #[.int .u64 x0, .int .u64 x1, .int .u64 x2, .int .u64 x3], .slice a len cap] w (True1 w) := by
  by_cases h : 60 < (len : Int)
  · exact walk_no x0 x1 x2 x3 a len cap l w hl h
  · exact walk_yes x0 x1 x2 x3 a len cap l w u0 u1 u2 u3 hl (by omega)

theorem four_of {H : Type} {enc : TypeId × Value → H} {W : World} {base b0 : Nat} {r : Reach} {spare : Nat → Bool} {held : Bool} {v : Value} {d : DataW H} {p : List MemPlace}
    (hv : Value.okWide Try.prog W r b0 53 v) (h : DataW.Trod enc Try.prog W base spare held 53 v d p) :
    ∃ x0 x1 x2 x3 : Int, v = .agg #[.int .u64 x0, .int .u64 x1, .int .u64 x2, .int .u64 x3] ∧ U64 x0 ∧ U64 x1 ∧ U64 x2 ∧ U64 x3 := by
  simp only [Value.okWide, Try.underlying53] at hv
  obtain ⟨cs, rfl, hsz, _⟩ := hv
  obtain ⟨fuel, hf⟩ := h
  rw [show Try.prog.cellsOf 53 = 4 from by kernel_rfl] at hsz
  obtain ⟨xs, m, _, _, _, hxl, hg⟩ := DataW.trod_array Try.underlying53 hf
  rw [show Try.prog.cellsOf 31 = 1 from by kernel_rfl] at hg
  obtain ⟨l⟩ := cs
  match l, hsz with
  | [c0, c1, c2, c3], _ =>
    have g0 := hg 0 (by omega)
    have g1 := hg 1 (by omega)
    have g2 := hg 2 (by omega)
    have g3 := hg 3 (by omega)
    rw [List.getElem?_eq_getElem (by omega)] at g0 g1 g2 g3
    obtain ⟨x0, e0, _, w0⟩ := DataW.trod_int Try.underlying31 (by simpa [Value.cells] using g0)
    obtain ⟨x1, e1, _, w1⟩ := DataW.trod_int Try.underlying31 (by simpa [Value.cells] using g1)
    obtain ⟨x2, e2, _, w2⟩ := DataW.trod_int Try.underlying31 (by simpa [Value.cells] using g2)
    obtain ⟨x3, e3, _, w3⟩ := DataW.trod_int Try.underlying31 (by simpa [Value.cells] using g3)
    simp only [List.cons.injEq, and_true] at e0 e1 e2 e3
    exact ⟨x0, x1, x2, x3, by rw [e0, e1, e2, e3], u64_of_wf w0, u64_of_wf w1, u64_of_wf w2, u64_of_wf w3⟩

theorem picks_of {H : Type} {enc : TypeId × Value → H} {W : World} {base : Nat} {spare : Nat → Bool} {held : Bool} {a : Option Addr} {len cap : Nat} {d : DataW H} {p : List MemPlace}
    (h : DataW.Trod enc Try.prog W base spare held 54 (.slice a len cap) d p) : ∃ l, Picks W a len cap l := by
  obtain ⟨fuel, hf⟩ := h
  obtain ⟨rows, hlies, hrow⟩ := lies_of (n := 1) Try.underlying54 (by kernel_rfl) (by omega) (by simpa [Value.cells] using hf)
  obtain ⟨l, rfl, hl⟩ := list_map pick1 I64 rows (fun r hr => by
    obtain ⟨m, y, hy⟩ := hrow r hr
    obtain ⟨n0, e0, _, w0⟩ := DataW.trod_int Try.underlying3 hy
    exact ⟨n0, e0, i64_of_wf w0⟩)
  exact ⟨l, hlies, hl⟩

set_option maxRecDepth 100000 in
theorem lifted (os : Os) (started : os.Started) (H : Type) (enc : TypeId × Value → H) :
    ReturnsInHanded {} Try.checked os 7 .any (Rows.bankMostSpec.pre6 enc Try.prog Try.f7 Rows.bankMostRow.domain false) (Rows.bankMostSpec.post enc Try.prog Try.f7 false true false false) := by
  refine returnsInHanded_of_change (C := Try.checked) own started (by kernel_rfl) Try.func7
    (ChangeSpec.witness6 (enc := enc) (C := Try.checked) false ⟨#[], #[.agg #[.int .u64 0, .int .u64 0, .int .u64 0, .int .u64 0], .slice none 0 0], []⟩ 8 (by kernel_rfl) (by kernel_rfl) (by kernel_rfl) (by kernel_rfl)) ?_
  intro W base args ds gs before hval0 hW _ _
  have hval : ∀ (j : Nat) t v, Try.f7.params[j]? = some t → args[j]? = some v → Value.okWide Try.prog W .any base t v := hval0
  have hW' := hW
  obtain ⟨p, q, hA0, hV, rfl, _, _⟩ := hW
  have hA : DataW.TrodAll enc Try.prog W 0 (fun _ => true) true Try.f7.params.toList args.toList ds p := hA0
  rw [Try.params7] at hA hval
  obtain ⟨v0, vs0, d0, ds0, p0, q0, hargs, rfl, rfl, h0, r0⟩ := trodAll_cons hA
  obtain ⟨v1, vs1, d1, ds1, p1, q1, rfl, rfl, rfl, h1, r1⟩ := trodAll_cons r0
  obtain ⟨rfl, rfl, rfl⟩ := trodAll_nil r1
  obtain rfl : args = #[v0, v1] := by cases args; simp_all
  obtain ⟨rfl, rfl⟩ := trodVars_none hV
  have k0 := h0
  have lt0 : ∀ x ∈ p0, x.block < W.heap.size := by obtain ⟨m, hm⟩ := k0; exact DataW.trod_lt m _ _ _ hm
  obtain ⟨x0, x1, x2, x3, rfl, u0, u1, u2, u3⟩ := four_of (hval 0 53 v0 rfl rfl) h0
  have k1 := h1
  have lt1 : ∀ x ∈ p1, x.block < W.heap.size := by obtain ⟨m, hm⟩ := k1; exact DataW.trod_lt m _ _ _ hm
  obtain ⟨a1, len1, cap1, rfl⟩ := okWide_slice Try.underlying54 (hval 1 54 v1 rfl rfl)
  obtain ⟨l1, hl1⟩ := picks_of h1
  clear hA0 hval0
  refine (walk x0 x1 x2 x3 a1 len1 cap1 l1 W u0 u1 u2 u3 hl1).mono fun e W' ⟨he, bel⟩ => ?_
  subst he
  exact ⟨_, rfl, _, _, _, [], _, [], hW', trodAll_mk1 (shut_bool Try.underlying4 _), (trodAll_cons_mk (Below.trod laidOut (by kernel_rfl) (of_decide_eq_true (by kernel_rfl)) k0 bel lt0) (trodAll_cons_mk (Below.trod laidOut (by kernel_rfl) (of_decide_eq_true (by kernel_rfl)) k1 bel lt1) trodAll_mk0)), rfl, bel.frame _, fun h => by cases h⟩

theorem over : Rows.bankMostRow.holds Try.pinned (OpenSpec.ofChange Rows.bankMostSpec) :=
  OpenClaim.holds_of_wide 7 Try.f7 rfl rfl rfl rfl rfl rfl rfl ⟨rfl, rfl, rfl, rfl, rfl⟩ rfl rfl rfl rfl rfl (by kernel_rfl) Try.func7 (by kernel_rfl)
    (of_decide_eq_true (by kernel_rfl)) (by unfold Func.isWrapper; first | (rw [if_pos (by decide +kernel)]; kernel_rfl) | (rw [if_neg (by decide +kernel)]; exact ⟨rfl, rfl⟩))
    (fun os started H enc _ => lifted os started H enc)

theorem proved : Rows.BankMostSaid := over
#print axioms proved
end Go.Proofs.Ytckeoonbmpfmeaa.bankMost
