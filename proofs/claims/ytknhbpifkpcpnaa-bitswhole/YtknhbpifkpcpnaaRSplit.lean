/- The document's answer for Split, and rows of words held against one another: contracts. -/
import Derived.Test.YtknhbpifkpcpnaaAny
namespace Go.Proofs.Ytknhbpifkpcpnaa
open Go.RowKit

/-- At the head of Split's loop. -/
def RelRS (w w1 : World) (fs : List (Int × Int)) (x : Nat) (v i : Value) (wr : World) : Prop :=
  ∃ k : Nat, k ≤ fs.length ∧ i = .int .i64 k ∧ wr.ownsRow w1.heap.size 24 1 v k (wcl ((fs.take k).map fun y => gtI y.1 y.2 x)) ∧ (∃ a l c, v = .slice a l c) ∧ Below w1.heap.size w1 wr

set_option maxRecDepth 100000 in
set_option maxHeartbeats 4000000 in
theorem rsplit_any (a : Option Addr) (len cap : Nat) (zs : List Int) (x : Nat) (hx : W64 x) (hlen : len = zs.length) (hl80 : zs.length ≤ 80) (w : World) (hI : Ints w.heap.size w a zs) :
    Calls Try.prog 31 #[.slice a len cap, .int .u64 x] w (SplitPost zs x w) := by
  obtain ⟨i0, hi, hz0, hz1, hz2⟩ := info_parts info24
  subst hlen
  go_enter Try.func31, Try.ntmps31
  go_wp2_with fail
  refine (rrow_any a _ cap zs rfl hl80 w hI).mono ?_
  rintro e w1 ⟨v, rfl, hb, h1, h2⟩
  by_cases he : rowE 0 zs = 0
  · obtain ⟨av, cv, rfl, hf⟩ := owns_flds (h2 he)
    have hfl : (rowF 0 zs).length ≤ 80 := Nat.le_trans (rowF_len zs 0) hl80
    have Hpost : Hid (∀ (v : Value) (W' : World), Below w.heap.size w W' → W'.ownsRow w.heap.size 24 1 v (rowF 0 zs).length (wcl ((rowF 0 zs).map fun y => gtI y.1 y.2 x)) → SplitPost zs x w (.returned (.tuple #[v, .int .i64 0])) W') :=
      fun v W' hB hO => ⟨v, by rw [he], hB, fun h => absurd he h, fun _ => hO⟩
    rw [he]
    generalize rowF 0 zs = fs at *
    clear h1 h2 he hI
    have hs := hb.size
    have Hf := Lib.hid hf
    clear hf
    go_wp2_with fail
    go_loopw [8, 9] (RelRS w w1 fs x) (fun _ i _ => fs.length - (intOf i).toNat)
    case atStart => exact ⟨0, by omega, rfl, World.ownsRow_nil _ _ _ _, ⟨_, _, _, rfl⟩, Below.refl _ _⟩
    case round =>
      obtain ⟨k, hk, rfl, ho, ⟨a3, l3, k3, rfl⟩, hu⟩ := hrel
      have Ho := Lib.hid ho
      clear ho
      have hsu := hu.size
      by_cases hlt : k < fs.length
      · obtain ⟨f, hfk⟩ : ∃ f, fs[k]? = some f := ⟨fs[k], List.getElem?_eq_getElem hlt⟩
        obtain ⟨g, rfl, hg1, hg2, c0, c1⟩ := (Hf.out.below hu) k f hfk
        have htk : fs.take (k + 1) = fs.take k ++ [f] := by rw [List.take_add_one, hfk]; rfl
        have Htk := Lib.hid htk
        clear htk hfk hg1 hg2
        have hkl : (k : Int) < fs.length := by omega
        have hml : k + 1 ≤ maxLen := by
          have : 100 ≤ maxLen := by decide
          omega
        go_wp2_with fail
        refine (rget_any f.1 f.2 x wr hx).mono ?_
        rintro e w3 ⟨rfl, hb3⟩
        have hb13 : Below w1.heap.size w1 w3 := hu.trans (hb3.mono hsu)
        have ho3 := owns_low Ho.out hb3
        have Ho3 := Lib.hid ho3
        have hs3 := hb13.size
        clear ho3 c0 c1
        generalize hG : gtI f.1 f.2 x = G
        have HG := Lib.hid hG
        clear hG
        go_wp2_with (first | (refine wpList_append_own _ rfl _ _ 56 rfl w1.heap.size 24 i0 (.int .u64 0) 1 8 Try.underlying56 hi hz0 hz1 hz2 rfl (by decide) _ _ _ rfl (Ho3.out.alloc _) ⟨w3.heap.size, 0, none⟩ 1 1 [.int .u64 (G : Int)] rfl rfl (cell_one_new _ _ _) (by simp [Value.oneCell']) hml (by omega) (by simp; omega) ?_; intro v' w4 hown' hgrow _; obtain ⟨g', cap', rfl⟩ := ownsRow_succ hown'; have hb14 : Below w1.heap.size w1 w4 := (hb13.alloc hb13.size _).grown hgrow (by simp; omega) (fun q e => (Ho3.out.lt q e).1); clear hgrow) | fail)
        go_roundw
        case rel =>
          refine ⟨k + 1, by omega, by go_num, ?_, ⟨_, _, _, rfl⟩, hb14⟩
          rw [Htk.out, List.map_append]
          simp only [List.map_cons, List.map_nil]
          rw [wcl_snoc, HG.out]
          exact hown'
        case measure => simp [intOf]; omega
      · obtain rfl : k = fs.length := by omega
        go_wp2
        go_ret2
        refine Hpost.out _ _ (hb.trans (hu.mono hs)) (owns_mono ?_ hs)
        have := Ho.out
        rw [List.take_length] at this
        exact this
  · obtain rfl := h1 he
    have Hpost : Hid (∀ (W' : World), Below w.heap.size w W' → SplitPost zs x w (.returned (.tuple #[.slice none 0 0, .int .i64 (rowE 0 zs)])) W') :=
      fun W' hB => ⟨_, rfl, hB, fun _ => rfl, fun h => absurd h he⟩
    generalize rowE 0 zs = er at *
    clear h2 h1
    have hd : (er != 0) = true := by simp [he]
    go_wp2
    go_ret2
    exact Hpost.out _ hb

theorem owns_words {W : World} {base : Nat} {v : Value} {xs : List Nat} (h : W.ownsRow base 24 1 v xs.length (wcl xs)) (hw : ∀ x ∈ xs, W64 x) : ∃ a c, v = .slice a xs.length c ∧ Words W.heap.size W a xs := by
  obtain ⟨a, c, hv, hc⟩ := owns_slice h
  refine ⟨a, c, hv, fun j x hx => ⟨hw x (List.mem_of_getElem? hx), ?_⟩⟩
  obtain ⟨g, ha, _, hl, hcell⟩ := hc j (.int .u64 (x : Int)) (by simp [wcl, hx])
  exact ⟨g, 0, ha, hl, by rw [Nat.zero_add]; exact hcell⟩

/-- At the head of the loop of words. -/
def RelWd (w : World) (len : Nat) (i : Value) (wr : World) : Prop := ∃ k : Nat, k ≤ len ∧ i = .int .i64 k ∧ Below w.heap.size w wr

set_option maxHeartbeats 2000000 in
theorem words_eq (a b : Option Addr) (c d : Nat) (xs : List Nat) (w : World) (h80 : xs.length ≤ 80) (ha : Words w.heap.size w a xs) (hb : Words w.heap.size w b xs) :
    Calls Try.prog 32 #[.slice a xs.length c, .slice b xs.length d] w (Ret (.bool true) w) := by
  go_enter Try.func32, Try.ntmps32
  go_wp2
  go_loopw [5] (RelWd w xs.length) (fun i _ => xs.length - (intOf i).toNat)
  case atStart => exact ⟨0, by omega, rfl, Below.refl _ _⟩
  case round =>
    obtain ⟨k, hk, rfl, hu⟩ := hrel
    by_cases hlt : k < xs.length
    · obtain ⟨x, hxk⟩ : ∃ x, xs[k]? = some x := ⟨xs[k], List.getElem?_eq_getElem hlt⟩
      obtain ⟨_, g, o, rfl, hg, c1⟩ := (ha.below hu) k x hxk
      obtain ⟨_, g', o', rfl, hg', c2⟩ := (hb.below hu) k x hxk
      have hkl : (k : Int) < xs.length := by omega
      clear hxk hg hg'
      go_wp2_with fail
      go_region
      have hud := hu.drew
      go_wp2
      go_roundw
      case rel => exact ⟨k + 1, by omega, by go_num, hud⟩
      case measure => simp [intOf]; omega
    · obtain rfl : k = xs.length := by omega
      go_wp2
      go_ret
      exact ⟨rfl, hu⟩
end Go.Proofs.Ytknhbpifkpcpnaa
