/- codec.Print: its contract. -/
import Derived.Test.YtenbbnmhgpclkaaDoorEncX
import Derived.Test.YtenbbnmhgpclkaaDoorShelf
namespace Go.Proofs.YtenbbnmhgpclkaaDoor
open Go.RowKit

/-- The words of kinds, and of parts. -/
def kName : Nat → List UInt8
  | 0 => [102, 108, 97, 103]
  | 1 => [99, 111, 117, 110, 116]
  | 2 => [119, 104, 111, 108, 101]
  | _ => [112, 111, 105, 110, 116]
def tld : Nat → Bool
  | 1 => true
  | 2 => true
  | _ => false
def wrd (p : Int × Int) : List UInt8 := kName p.1.toNat ++ if tld p.1.toNat then Lib.decDigits p.2.toNat else []
def txt (l : List (Int × Int)) : List UInt8 := Lib.join (l.map wrd) [32]
def str (s : List UInt8) : ByteArray := ⟨s.toArray⟩
theorem KD.name {w : World} (h : KD w) {k : Nat} (hk : k < 4) : w.cell? ⟨0, k * 3, none⟩ = some (.string (str (kName k))) := by
  apply h.2
  match k, hk with
  | 0, _ | 1, _ | 2, _ | 3, _ => rfl
theorem pl_all : ∀ (l : List (Int × Int)) (wd fr : Nat), plE wd fr l = 0 → ∀ p ∈ l, bad p.1 p.2 = 0
  | [], _, _, _, p, hp => by cases hp
  | q :: r, wd, fr, h, p, hp => by
    by_cases hb : bad q.1 q.2 = 0
    · have key : ∃ wd' fr', plE wd' fr' r = 0 := by
        by_cases h2 : (fr : Int) < q.2
        · by_cases h3 : wd = 64
          · rw [pl_full hb h2 h3] at h
            exact absurd h (by decide)
          · rw [(pl_next hb h2 h3).1] at h
            exact ⟨_, _, h⟩
        · rw [(pl_same hb (by omega)).1] at h
          exact ⟨_, _, h⟩
      obtain ⟨wd', fr', hr⟩ := key
      rcases List.mem_cons.1 hp with rfl | hp
      · exact hb
      · exact pl_all r wd' fr' hr p hp
    · rw [pl_bad hb] at h
      exact absurd h hb
theorem plErr_all {l : List (Int × Int)} (h : plErr l = 0) : l.length ≠ 0 ∧ l.length ≤ 256 ∧ ∀ p ∈ l, bad p.1 p.2 = 0 := by
  by_cases hl : l.length = 0 ∨ 256 < l.length
  · rw [plErr_long hl] at h
    exact absurd h (by decide)
  · rw [plErr_in (by omega) (by omega)] at h
    exact ⟨by omega, by omega, pl_all l 0 0 h⟩

theorem told_any (k : Nat) (hk : k < 4) (w : World) (hK : KD w) : Calls Tryd.prog 29 #[.int .i64 k] w (fun e w' => e = .returned (.bool (tld k)) ∧ ∃ n, w' = w.drewN n) := by
  have t1 := hK.lo hk
  have t2 := hK.hi hk
  have hd : (kLo k != kHi k) = tld k := by
    match k, hk with
    | 0, _ | 1, _ | 2, _ | 3, _ => rfl
  have Hd := Lib.hid hd
  clear hd
  generalize kLo k = lo at *
  generalize kHi k = hi at *
  have h4 : (k : Int) < 4 := by omega
  go_enter Tryd.func29, Tryd.ntmps29
  go_wp2_with fail
  go_quiet (fail)
  go_wp2
  go_ret
  exact ⟨by rw [← Hd.out]; rfl, _, rfl⟩

theorem dd_len (m : Nat) (h : m < 100) : (Lib.decDigits m).length ≤ 2 := by
  unfold Lib.decDigits
  split
  · simp
  · rw [Lib.decDigits, dif_pos (by omega)]
    simp
theorem nm_len (k : Nat) : (kName k).length ≤ 5 := by
  unfold kName
  split <;> simp
theorem str_cat (a b : List UInt8) : str a ++ (⟨b.toArray⟩ : ByteArray) = str (a ++ b) := by
  apply ByteArray.ext
  simp [str, ByteArray.data_append]

theorem wrd_len (p : Int × Int) (h : bad p.1 p.2 = 0) : (wrd p).length ≤ 7 := by
  obtain ⟨_, _, _, _, h1, h2⟩ := ok_bad h
  have h3 := nm_len p.1.toNat
  have h4 := dd_len p.2.toNat (by omega)
  unfold wrd
  rw [List.length_append]
  split
  · omega
  · simp; omega
theorem tail_len : ∀ l : List (List UInt8), (∀ x ∈ l, x.length ≤ 7) → (Lib.joinTail [32] l).length ≤ l.length * 8
  | [], _ => by simp [Lib.joinTail]
  | x :: r, h => by
    have h1 := tail_len r (fun y hy => h y (List.mem_cons_of_mem _ hy))
    have h2 := h x List.mem_cons_self
    simp only [Lib.joinTail, List.map_cons, List.flatten_cons, List.length_append, List.length_cons, List.length_nil] at h1 ⊢
    omega
theorem txt_len (l : List (Int × Int)) (h : ∀ p ∈ l, bad p.1 p.2 = 0) : (txt l).length ≤ l.length * 8 := by
  unfold txt
  have hm : ∀ x ∈ l.map wrd, x.length ≤ 7 := fun x hx => by
    obtain ⟨p, hp, rfl⟩ := List.mem_map.1 hx
    exact wrd_len p (h p hp)
  rw [← List.length_map (f := wrd)]
  generalize l.map wrd = ws at *
  cases ws with
  | nil => simp [Lib.join_nil]
  | cons x r =>
    rw [Lib.join_cons, List.length_append]
    have h1 := tail_len r (fun y hy => hm y (List.mem_cons_of_mem _ hy))
    have h2 := hm x List.mem_cons_self
    simp only [List.length_cons]
    omega
theorem join_txt (l : List (Int × Int)) : Lib.join ((l.map fun p => str (wrd p)).map (·.data.toList)) (str [32]).data.toList = txt l := by
  unfold txt
  rw [List.map_map]
  rfl
theorem join_le (l : List (Int × Int)) (h : l.length ≤ 256) (ha : ∀ p ∈ l, bad p.1 p.2 = 0) : (Lib.join ((l.map fun p => str (wrd p)).map (·.data.toList)) (str [32]).data.toList).length ≤ 140737488355328 := by
  rw [join_txt]
  have := txt_len l ha
  omega

/-- Words ahead, empty ones behind. -/
def strs (l : List (Int × Int)) : List Value := l.map fun p => .string (str (wrd p))
def shlf (l : List (Int × Int)) (n : Nat) : List Value := strs l ++ List.replicate n (.string (str []))
theorem strs_len (l : List (Int × Int)) : (strs l).length = l.length := by simp [strs]
theorem shlf_set (l : List (Int × Int)) (n k : Nat) (x : Value) (h : l.length = k) : (shlf l (n + 1)).set k x = strs l ++ x :: List.replicate n (.string (str [])) := by
  unfold shlf
  rw [List.set_append_right _ _ (by rw [strs_len]; omega), show k - (strs l).length = 0 by rw [strs_len]; omega, List.replicate_succ]
  rfl
theorem shlf_snoc (l : List (Int × Int)) (p : Int × Int) (n : Nat) : strs l ++ (.string (str (wrd p))) :: List.replicate n (.string (str [])) = shlf (l ++ [p]) n := by
  simp [shlf, strs]
theorem info9 : (Tryd.prog.info? 9).map (fun i => (i.zero, i.size, i.bytes)) = some (some (.string (str [])), 1, 16) := by kernel_rfl
theorem made_strs (n : Nat) : madeCells #[.string (str [])] n = (shlf [] n).toArray := by
  apply Array.ext
  · simp [madeCells, shlf, strs]
  · intro i h1 h2
    simp [madeCells, shlf, strs, Nat.mod_one]
theorem make_strs (n : Nat) (h : n ≤ 256) (w : World) :
    (Instr.makeSlice 78 (.int .i64 n) (.int .i64 n)).run Tryd.prog w = .ok (.slice (some ⟨w.heap.size, 0, none⟩) n n) (w.alloc (.cells (shlf [] n).toArray 9)) := by
  obtain ⟨i, hi, he⟩ := Option.map_eq_some_iff.1 info9
  simp only [Prod.mk.injEq] at he
  obtain ⟨hz, hs, hb⟩ := he
  have hr := run_make (P := Tryd.prog) w 78 9 i _ Tryd.underlying78 hi hz .i64 .i64 n n (by omega) (by omega) (by rw [hb]; omega) (by omega)
  rw [hs] at hr
  simp only [Int.toNat_natCast, Nat.mul_one] at hr
  rw [show (Value.string (str [])).cells = #[Value.string (str [])] from rfl, made_strs] at hr
  exact hr

/-- What Print tells. -/
def prT (l : List (Int × Int)) : List UInt8 := if plErr l = 0 then txt l else []
/-- At the head of Print's loop: g is the block of words. -/
def RelS (w1 : World) (l : List (Int × Int)) (s18 : Value) (wr : World) : Prop :=
  ∃ k : Nat, k ≤ l.length ∧ s18 = .int .i64 k ∧ Blk wr w1.heap.size (shlf (l.take k) (l.length - k)) ∧ Below w1.heap.size w1 wr

theorem print_bad (a : Option Addr) (cap : Nat) (l : List (Int × Int)) (w : World) (hP : Prs w.heap.size w a l) (hK : KD w) (h : plErr l ≠ 0) :
    Calls Tryd.prog 16 #[.slice a l.length cap] w (Ret (.tuple #[.string (str (prT l)), .int .i64 (plErr l)]) w) := by
  have hp : prT l = [] := by unfold prT; rw [if_neg h]
  rw [hp]
  have h' : (plErr l != 0) = true := by simpa using h
  go_enter Tryd.func16, Tryd.ntmps16
  go_wp2_with fail
  refine (check_any a _ cap l w rfl hP hK).mono ?_
  rintro e w1 ⟨rfl, hb⟩
  generalize plErr l = e at *
  clear h
  go_wp2
  go_ret2
  exact ⟨rfl, hb⟩

set_option maxRecDepth 100000 in
set_option maxHeartbeats 4000000 in
theorem print_ok (a : Option Addr) (cap : Nat) (l : List (Int × Int)) (w : World) (hP : Prs w.heap.size w a l) (hK : KD w) (h : plErr l = 0) :
    Calls Tryd.prog 16 #[.slice a l.length cap] w (Ret (.tuple #[.string (str (prT l)), .int .i64 (plErr l)]) w) := by
  have hp : prT l = txt l := by unfold prT; rw [if_pos h]
  obtain ⟨hl0, hl256, hall⟩ := plErr_all h
  have Hall := Lib.hid hall
  rw [hp, h]
  go_enter Tryd.func16, Tryd.ntmps16
  go_wp2_with fail
  refine (check_any a _ cap l w rfl hP hK).mono ?_
  rintro e w1 ⟨rfl, hb1⟩
  rw [h]
  have hP1 := hP.next hb1
  have hK1 := hK.next hb1
  clear h hp hall hP hK
  have hmk := make_strs l.length hl256
  have hN := Blk.new w1 (shlf [] l.length).toArray 9
  have hB := (Below.refl w1.heap.size w1).alloc (Nat.le_refl _) (.cells (shlf [] l.length).toArray 9)
  have HN := Lib.hid (And.intro hN hB)
  clear hN hB
  go_wp2
  go_loopw [18] (RelS w1 l) (fun i _ => l.length - (intOf i).toNat)
  case atStart => exact ⟨0, by omega, rfl, HN.out.1, HN.out.2⟩
  case round =>
    obtain ⟨k, hk, rfl, hblk, hb⟩ := hrel
    clear HN hmk
    have hs := hb.size
    by_cases hlt : k < l.length
    · obtain ⟨⟨kd, n⟩, hz⟩ : ∃ z, l[k]? = some z := ⟨l[k], List.getElem?_eq_getElem hlt⟩
      obtain ⟨b, off, rfl, hbl, hc0, hc1⟩ := hP1 k _ hz
      have d0 : wr.cell? ⟨b, off + k * 2, none⟩ = some (.int .i64 kd) := (hb.cell (p := ⟨b, off + k * 2, none⟩) hbl).trans hc0
      have d1 : wr.cell? ⟨b, off + k * 2 + 1, none⟩ = some (.int .i64 n) := (hb.cell (p := ⟨b, off + k * 2 + 1, none⟩) hbl).trans hc1
      obtain ⟨q0, q1, q2, q3, hn1, hn64⟩ := ok_bad (Hall.out _ (List.mem_of_getElem? hz))
      obtain ⟨q, rfl⟩ : ∃ q : Nat, kd = q := ⟨kd.toNat, by omega⟩
      obtain ⟨m, rfl⟩ : ∃ m : Nat, n = m := ⟨n.toNat, by omega⟩
      have hq : q < 4 := by omega
      have htk : l.take (k + 1) = l.take k ++ [((q : Int), (m : Int))] := by rw [List.take_add_one, hz]; rfl
      have hlk : (l.take k).length = k := by simp; omega
      have hbk := hblk
      rw [show l.length - k = (l.length - (k + 1)) + 1 by omega] at hbk
      have HB := Lib.hid (And.intro htk (And.intro hlk hbk))
      have hKr := hK1.next hb
      have t0 := hKr.name hq
      have h0r : 0 < wr.heap.size := hKr.1
      have gf := hblk.frozen k
      have gl := hblk.lt
      have gc : wr.cell? ⟨w1.heap.size, k, none⟩ = some (.string (str [])) := hbk.cell (by
        unfold shlf
        rw [List.getElem?_append_right (by rw [strs_len]; omega), strs_len, hlk, Nat.sub_self, List.replicate_succ]
        rfl)
      clear hz hc0 hc1 q0 q1 q2 q3 htk hlk hblk hbk
      have h4 : (q : Int) < 4 := by omega
      have hkl : (k : Int) < l.length := by omega
      generalize hnm : kName q = nm at *
      have Hnm := Lib.hid hnm
      clear hnm
      go_wp2_with fail
      have hBa := hb.setCell (p := ⟨w1.heap.size, k, none⟩) (Nat.le_refl _) (.string (str nm))
      have hBb := hBa.alloc hBa.size (.cells #[.int .i64 (q : Int), .int .i64 (m : Int)] 47)
      have hG := (HB.out.2.2.put k (.string (str nm))).alloc (.cells #[.int .i64 (q : Int), .int .i64 (m : Int)] 47)
      rw [shlf_set _ _ _ _ HB.out.2.1] at hG
      have hV := Blk.new (wr.setCell ⟨w1.heap.size, k, none⟩ (.string (str nm))) #[.int .i64 (q : Int), .int .i64 (m : Int)] 47
      rw [World.size_setCell] at hV
      have hKa := hK1.next hBb
      have htk := HB.out.1
      have hlk := HB.out.2.1
      have HG := Lib.hid (And.intro hBb (And.intro hG (And.intro htk hlk)))
      have f1 := hV.cell (i := 1) rfl
      have hvne : wr.heap.size ≠ w1.heap.size := by omega
      clear hBa hBb hG hV HB hKr t0 gc gf gl d0 d1 h0r hs hb htk hlk
      generalize (wr.setCell ⟨w1.heap.size, k, none⟩ (.string (str nm))).alloc (.cells #[.int .i64 (q : Int), .int .i64 (m : Int)] 47) = W1 at *
      generalize wr.heap.size = v at *
      refine (told_any q hq W1 hKa).mono ?_
      rintro e w2 ⟨rfl, nd, rfl⟩
      by_cases ht : tld q = true
      · rw [ht]
        have hwd : wrd ((q : Int), (m : Int)) = nm ++ Lib.decDigits m := by
          unfold wrd
          simp [ht, Hnm.out]
        have Hwd := Lib.hid hwd
        have hG2 := blkN HG.out.2.1 nd
        have gc := hG2.cell (i := k) (v := .string (str nm)) (by rw [List.getElem?_append_right (by rw [strs_len, HG.out.2.2.2]; omega), strs_len, HG.out.2.2.2, Nat.sub_self]; rfl)
        have gf := hG2.frozen k
        have hB2 := belN HG.out.1 nd
        have f1' : (W1.drewN nd).cell? ⟨v, 1, none⟩ = some (.int .i64 m) := f1
        have hsz : ¬ (9223372036854775807 < (str nm).size + (Lib.decDigits m).length) := by
          have h1 := dd_len m (by omega)
          have h2 := nm_len q
          rw [Hnm.out] at h2
          have h3 : (str nm).size = nm.length := rfl
          omega
        have hcat := str_cat nm (Lib.decDigits m)
        clear hwd ht f1
        have f1 := f1'
        clear f1'
        have HG2 := Lib.hid (And.intro hG2 (And.intro hB2 HG.out.2.2))
        clear hG2 hB2 HG hKa
        generalize W1.drewN nd = W2 at *
        go_wp2_with fail
        refine wp_region_held_drew (S := fun w' => w'.cell? ⟨v, 1, none⟩ = some (.int .i64 m)) (by kernel_rfl) (f1) (fun hHeld => ?_)
        refine wpAnyH_take (i := 0) (v := ?v1) rfl (by kernel_rfl) (by kernel_rfl) (by kernel_rfl) (fun _ _ _ h => h) (Or.inl ⟨by rfl, ?y1⟩) hHeld ?r1
        case y1 => (intro w hSw; skip; go_simp; try with_reducible rfl)
        simp only [List.getElem_toArray, List.getElem_cons_zero, Act.put, List.setIfInBounds_toArray, List.set_cons_zero, List.set_cons_succ]
        refine wpAnyH_take (i := 1) (v := ?v2) rfl (by kernel_rfl) (by kernel_rfl) (by kernel_rfl) (fun _ _ _ h => h) (Or.inl ⟨by rfl, ?y2⟩) hHeld ?r2
        case y2 => (intro w hSw; skip; go_simp; try with_reducible rfl)
        simp only [List.getElem_toArray, List.getElem_cons_zero, List.getElem_cons_succ, Act.put, List.setIfInBounds_toArray, List.set_cons_zero, List.set_cons_succ]
        refine wpAnyH_take (i := 2) (v := ?v3) rfl (by kernel_rfl) (by kernel_rfl) (by kernel_rfl) (fun _ _ _ h => h) (Or.inl ⟨by rfl, ?y3⟩) hHeld ?r3
        case y3 => (intro w hSw; skip; go_simp; try with_reducible rfl)
        simp only [List.getElem_toArray, List.getElem_cons_zero, List.getElem_cons_succ, Act.put, List.setIfInBounds_toArray, List.set_cons_zero, List.set_cons_succ]
        refine wpAnyH_take (i := 4) (v := ?v4) rfl (by kernel_rfl) (by kernel_rfl) (by kernel_rfl) (fun _ _ _ h => h) (Or.inl ⟨by rfl, ?y4⟩) hHeld ?r4
        case y4 => (intro w hSw; skip; go_simp; try with_reducible rfl)
        simp only [List.getElem_toArray, List.getElem_cons_zero, List.getElem_cons_succ, Act.put, List.setIfInBounds_toArray, List.set_cons_zero, List.set_cons_succ]
        refine wpAnyH_take (i := 5) (v := ?v5) rfl (by kernel_rfl) (by kernel_rfl) (by kernel_rfl) (fun _ _ _ h => h) (Or.inl ⟨by rfl, ?y5⟩) hHeld ?r5
        case y5 => (intro w hSw; skip; go_simp; try with_reducible rfl)
        simp only [List.getElem_toArray, List.getElem_cons_zero, List.getElem_cons_succ, Act.put, List.setIfInBounds_toArray, List.set_cons_zero, List.set_cons_succ]
        refine wpAnyH_ready (rs := [3, 6]) (by kernel_rfl) (by simp) (AllReadyH.cons rfl (fun K hK => ?_) (AllReadyH.cons rfl (fun K hK => ?_) AllReadyH.nil))
        · go_simp
          refine hK.out _ _ (f1) (fun hHeld => ?_)
          clear hK K
          refine wpAnyH_ready (rs := [6]) (by kernel_rfl) (by simp) (AllReadyH.cons rfl (fun K hK => ?_) AllReadyH.nil)
          go_simp
          refine (Tryd.strconv_Itoa_small m (by omega) _).mono ?_
          rintro e w' ⟨rfl, rfl⟩
          go_wp2_with fail
          refine hK.out _ _ (f1) (fun hHeld => ?_)
          clear hK K
          refine wpAnyH_take (i := 7) (v := .string (str (nm ++ Lib.decDigits m))) rfl (by kernel_rfl) (by kernel_rfl) (by kernel_rfl) (fun _ _ _ h => h) (Or.inl ⟨by rfl, ?y8⟩) hHeld ?r8
          case y8 => (intro w hSw; skip; go_simp; try with_reducible rfl)
          simp only [List.getElem_toArray, List.getElem_cons_zero, List.getElem_cons_succ, Act.put, List.setIfInBounds_toArray, List.set_cons_zero, List.set_cons_succ]
          refine wpAnyH_take (i := 8) (v := ?v9) rfl (by kernel_rfl) (by kernel_rfl) (by kernel_rfl) (fun _ _ _ h => h) (Or.inl ⟨by rfl, ?y9⟩) hHeld ?r9
          case y9 => (intro w hSw; skip; go_simp; try with_reducible rfl)
          simp only [List.getElem_toArray, List.getElem_cons_zero, List.getElem_cons_succ, Act.put, List.setIfInBounds_toArray, List.set_cons_zero, List.set_cons_succ]
          refine wpAnyH_ready (rs := [9]) (by kernel_rfl) (by simp) (AllReadyH.cons rfl (fun K hK => ?_) AllReadyH.nil)
          go_simp
          go_wp2_with fail
          refine hK.out _ _ (by simpa [cell_far _ hvne] using f1) (fun hHeld => ?_)
          clear hK K
          refine wpAnyH_done (by kernel_rfl) ?_ _
          go_wp2
          go_roundw
          case rel =>
            have hG3 := HG2.out.1.drew.put k (.string (str (nm ++ Lib.decDigits m)))
            rw [← Hwd.out, List.set_append_right _ _ (by rw [strs_len, HG2.out.2.2.2]; omega), strs_len, HG2.out.2.2.2, Nat.sub_self, List.set_cons_zero, shlf_snoc, ← HG2.out.2.2.1] at hG3
            rw [Hwd.out] at hG3
            exact ⟨k + 1, by omega, by go_num, hG3, HG2.out.2.1.drew.setCell (p := ⟨w1.heap.size, k, none⟩) (Nat.le_refl _) _⟩
          case measure => simp [intOf]; omega
        · go_simp
          refine (Tryd.strconv_Itoa_small m (by omega) _).mono ?_
          rintro e w' ⟨rfl, rfl⟩
          go_wp2_with fail
          refine hK.out _ _ (f1) (fun hHeld => ?_)
          clear hK K
          refine wpAnyH_ready (rs := [3]) (by kernel_rfl) (by simp) (AllReadyH.cons rfl (fun K hK => ?_) AllReadyH.nil)
          go_simp
          refine hK.out _ _ (f1) (fun hHeld => ?_)
          clear hK K
          refine wpAnyH_take (i := 7) (v := .string (str (nm ++ Lib.decDigits m))) rfl (by kernel_rfl) (by kernel_rfl) (by kernel_rfl) (fun _ _ _ h => h) (Or.inl ⟨by rfl, ?y12⟩) hHeld ?r12
          case y12 => (intro w hSw; skip; go_simp; try with_reducible rfl)
          simp only [List.getElem_toArray, List.getElem_cons_zero, List.getElem_cons_succ, Act.put, List.setIfInBounds_toArray, List.set_cons_zero, List.set_cons_succ]
          refine wpAnyH_take (i := 8) (v := ?v13) rfl (by kernel_rfl) (by kernel_rfl) (by kernel_rfl) (fun _ _ _ h => h) (Or.inl ⟨by rfl, ?y13⟩) hHeld ?r13
          case y13 => (intro w hSw; skip; go_simp; try with_reducible rfl)
          simp only [List.getElem_toArray, List.getElem_cons_zero, List.getElem_cons_succ, Act.put, List.setIfInBounds_toArray, List.set_cons_zero, List.set_cons_succ]
          refine wpAnyH_ready (rs := [9]) (by kernel_rfl) (by simp) (AllReadyH.cons rfl (fun K hK => ?_) AllReadyH.nil)
          go_simp
          go_wp2_with fail
          refine hK.out _ _ (by simpa [cell_far _ hvne] using f1) (fun hHeld => ?_)
          clear hK K
          refine wpAnyH_done (by kernel_rfl) ?_ _
          go_wp2
          go_roundw
          case rel =>
            have hG3 := HG2.out.1.drew.put k (.string (str (nm ++ Lib.decDigits m)))
            rw [← Hwd.out, List.set_append_right _ _ (by rw [strs_len, HG2.out.2.2.2]; omega), strs_len, HG2.out.2.2.2, Nat.sub_self, List.set_cons_zero, shlf_snoc, ← HG2.out.2.2.1] at hG3
            rw [Hwd.out] at hG3
            exact ⟨k + 1, by omega, by go_num, hG3, HG2.out.2.1.drew.setCell (p := ⟨w1.heap.size, k, none⟩) (Nat.le_refl _) _⟩
          case measure => simp [intOf]; omega
      · have ht' : tld q = false := by simpa using ht
        rw [ht']
        have hwd : wrd ((q : Int), (m : Int)) = nm := by
          unfold wrd
          simp [ht', Hnm.out]
        have Hwd := Lib.hid hwd
        clear hwd ht ht'
        go_wp2
        go_roundw
        case rel =>
          have hG2 := blkN HG.out.2.1 nd
          rw [← Hwd.out, shlf_snoc, ← HG.out.2.2.1] at hG2
          exact ⟨k + 1, by omega, by go_num, hG2, belN HG.out.1 nd⟩
        case measure => simp [intOf]; omega
    · obtain rfl : k = l.length := by omega
      rw [List.take_length, Nat.sub_self] at hblk
      have hj := Tryd.strings_Join w1.heap.size 0 l.length (l.map fun p => str (wrd p)) (str [32]) wr (fun j x hx => by
        rw [Nat.zero_add]
        refine hblk.cell ?_
        rw [List.getElem?_map, Option.map_eq_some_iff] at hx
        obtain ⟨p, hp, rfl⟩ := hx
        simp [shlf, strs, hp]) hblk.lt (by rw [List.length_map]; omega) (by rw [List.length_map]; omega) (join_le l hl256 Hall.out)
      rw [List.length_map, join_txt] at hj
      clear hblk
      go_wp2_with fail
      refine hj.mono ?_
      rintro e w2 ⟨rfl, hb2⟩
      have hfin := hb1.trans ((hb.trans (hb2.mono hs)).mono hb1.size)
      clear hj hb2 hb hb1
      go_wp2
      go_ret2
      exact ⟨rfl, hfin⟩
theorem print_any (a : Option Addr) (len cap : Nat) (l : List (Int × Int)) (w : World) (hl : len = l.length) (hP : Prs w.heap.size w a l) (hK : KD w) :
    Calls Tryd.prog 16 #[.slice a len cap] w (Ret (.tuple #[.string (str (prT l)), .int .i64 (plErr l)]) w) := by
  subst hl
  by_cases h : plErr l = 0
  · exact print_ok a cap l w hP hK h
  · exact print_bad a cap l w hP hK h
end Go.Proofs.YtenbbnmhgpclkaaDoor
