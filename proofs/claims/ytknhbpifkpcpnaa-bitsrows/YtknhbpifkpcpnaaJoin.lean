/- bits.Join: its contract. -/
import Derived.Test.YtknhbpifkpcpnaaSplit
namespace Go.Proofs.Ytknhbpifkpcpnaa
open Go.RowKit

/-- A slice of words in blocks below n₀. -/
def Words (n₀ : Nat) (W : World) (a : Option Addr) (xs : List Nat) : Prop :=
  ∀ j x, xs[j]? = some x → W64 x ∧ ∃ b off, a = some ⟨b, off, none⟩ ∧ b < n₀ ∧ W.cell? ⟨b, off + j, none⟩ = some (.int .u64 (x : Int))
theorem Words.below {n₀ : Nat} {A B : World} (h : Below n₀ A B) {a : Option Addr} {xs : List Nat} (k : Words n₀ A a xs) : Words n₀ B a xs := fun j x hx => by
  obtain ⟨hw, b, off, e, hb, hc⟩ := k j x hx
  exact ⟨hw, b, off, e, hb, (h.cell (p := ⟨b, off + j, none⟩) hb).trans hc⟩
theorem Words.mono {n m : Nat} {A : World} {a : Option Addr} {xs : List Nat} (k : Words n A a xs) (h : n ≤ m) : Words m A a xs := fun j x hx => by
  obtain ⟨hw, b, off, e, hb, hc⟩ := k j x hx
  exact ⟨hw, b, off, e, Nat.lt_of_lt_of_le hb h, hc⟩

/-- Numbers put into fields, one by one. -/
def joinS : List (Int × Int) → List Nat → Nat → Nat × Int
  | f :: fs, x :: xs, w => if mx f.2.toNat < x then (0, 10) else joinS fs xs (pt f.1.toNat f.2.toNat w x)
  | _, _, w => (w, 0)
/-- What Join tells. -/
def joinE (zs : List Int) (xs : List Nat) : Nat × Int :=
  if rowE 0 zs ≠ 0 then (0, rowE 0 zs) else if xs.length ≠ (rowF 0 zs).length then (0, 17) else joinS (rowF 0 zs) xs 0

theorem rowF_may : ∀ (zs : List Int) (t : Int), 0 ≤ t → t ≤ 64 → ∀ f ∈ rowF t zs, May f.1 f.2
  | [], _, _, _, f, hf => by cases hf
  | n :: r, t, h0, h1, f, hf => by
    unfold rowF at hf
    split at hf
    · cases hf
    · rename_i hn
      split at hf
      · cases hf
      · rename_i hl
        rcases List.mem_cons.1 hf with rfl | hf
        · exact ⟨h0, by show t < 64; omega, by show 1 ≤ n; omega, by show n ≤ 64 - t; omega⟩
        · exact rowF_may r (t + n) (by omega) (by omega) f hf

theorem rowF_len : ∀ (zs : List Int) (t : Int), (rowF t zs).length ≤ zs.length
  | [], _ => by simp [rowF]
  | n :: r, t => by
    unfold rowF
    have := rowF_len r (t + n)
    split
    · simp
    · split
      · simp
      · simp; omega

theorem fcl_at : ∀ (l : List (Int × Int)) (k : Nat) (f : Int × Int), l[k]? = some f → (fcl l)[k * 2]? = some (.int .i64 f.1) ∧ (fcl l)[k * 2 + 1]? = some (.int .i64 f.2)
  | [], _, _, h => by simp at h
  | x :: r, 0, f, h => by
    simp at h
    subst h
    simp [fcl]
  | x :: r, k + 1, f, h => by
    have h' : r[k]? = some f := by simpa using h
    obtain ⟨e1, e2⟩ := fcl_at r k f h'
    have e : fcl (x :: r) = .int .i64 x.1 :: .int .i64 x.2 :: fcl r := by simp [fcl]
    rw [e, show (k + 1) * 2 = k * 2 + 1 + 1 by omega]
    simp only [List.getElem?_cons_succ]
    exact ⟨e1, e2⟩

/-- A row of one's own is a slice. -/
theorem owns_slice {W : World} {base : Nat} {e : TypeId} {size : Nat} {v : Value} {k : Nat} {xs : List Value} (h : W.ownsRow base e size v k xs) :
    ∃ a c, v = .slice a k c ∧ ∀ j u, xs[j]? = some u → ∃ g, a = some ⟨g, 0, none⟩ ∧ base ≤ g ∧ g < W.heap.size ∧ W.cell? ⟨g, j, none⟩ = some u := by
  rcases h.2 with ⟨rfl, rfl⟩ | ⟨g, cap, cur, rfl, hb, hg, _⟩
  · refine ⟨none, 0, rfl, fun j u hu => ?_⟩
    have h0 : xs = [] := by
      have := h.1
      simp at this
      exact this
    rw [h0] at hu
    simp at hu
  · refine ⟨some ⟨g, 0, none⟩, cap, rfl, fun j u hu => ⟨g, rfl, hb, (Array.getElem?_eq_some_iff.1 hg).1, ?_⟩⟩
    have := h.cells (g := g) rfl j u hu
    have e : (⟨g, 0, none⟩ : Addr).add j = ⟨g, j, none⟩ := by unfold Addr.add; split <;> simp_all
    rw [e] at this
    exact this

/-- A row of fields in a slice, in blocks from base on. -/
def Flds (base top : Nat) (W : World) (a : Option Addr) (fs : List (Int × Int)) : Prop :=
  ∀ k f, fs[k]? = some f → ∃ g, a = some ⟨g, 0, none⟩ ∧ base ≤ g ∧ g < top ∧ W.cell? ⟨g, k * 2, none⟩ = some (.int .i64 f.1) ∧ W.cell? ⟨g, k * 2 + 1, none⟩ = some (.int .i64 f.2)
theorem owns_flds {W : World} {base : Nat} {e : TypeId} {v : Value} {fs : List (Int × Int)} (h : W.ownsRow base e 2 v fs.length (fcl fs)) :
    ∃ a c, v = .slice a fs.length c ∧ Flds base W.heap.size W a fs := by
  obtain ⟨a, c, hv, hc⟩ := owns_slice h
  refine ⟨a, c, hv, fun k f hf => ?_⟩
  obtain ⟨e1, e2⟩ := fcl_at fs k f hf
  obtain ⟨g, ha, hb, hl, c1⟩ := hc _ _ e1
  obtain ⟨g', ha', _, _, c2⟩ := hc _ _ e2
  rw [ha] at ha'
  cases ha'
  exact ⟨g, ha, hb, hl, c1, c2⟩
theorem Flds.below {base top : Nat} {A B : World} {a : Option Addr} {fs : List (Int × Int)} (h : Flds base top A a fs) (u : Below top A B) : Flds base top B a fs := fun k f hf => by
  obtain ⟨g, ha, hb, hl, c1, c2⟩ := h k f hf
  exact ⟨g, ha, hb, hl, (u.cell (p := ⟨g, k * 2, none⟩) hl).trans c1, (u.cell (p := ⟨g, k * 2 + 1, none⟩) hl).trans c2⟩

/-- At the head of Join's loop: w1 is the world behind Row. -/
def RelJ (w1 : World) (fs : List (Int × Int)) (xs : List Nat) (s7 s8 s26 : Value) (wr : World) : Prop :=
  ∃ k y : Nat, k ≤ fs.length ∧ s26 = .int .i64 k ∧ s7 = .int .i64 0 ∧ s8 = .int .u64 y ∧ W64 y ∧ joinS fs xs 0 = joinS (fs.drop k) (xs.drop k) y ∧ Below w1.heap.size w1 wr

set_option maxHeartbeats 4000000 in
theorem join_any (a : Option Addr) (len cap : Nat) (zs : List Int) (hlen : len = zs.length) (hl80 : zs.length ≤ 80) (a2 : Option Addr) (len2 cap2 : Nat) (xs : List Nat) (hlen2 : len2 = xs.length)
    (w : World) (hI : Ints w.heap.size w a zs) (hX : Words w.heap.size w a2 xs) :
    Calls Try.prog 28 #[.slice a len cap, .slice a2 len2 cap2] w (Ret (.tuple #[.int .u64 (joinE zs xs).1, .int .i64 (joinE zs xs).2]) w) := by
  subst hlen hlen2
  go_enter Try.func28, Try.ntmps28
  go_wp2_with fail
  refine (row_any a _ cap zs rfl hl80 w hI).mono ?_
  rintro e w1 ⟨v, rfl, hb, h1, h2⟩
  by_cases he : rowE 0 zs = 0
  · obtain ⟨av, cv, rfl, hf⟩ := owns_flds (h2 he)
    have hj : joinE zs xs = if xs.length ≠ (rowF 0 zs).length then (0, 17) else joinS (rowF 0 zs) xs 0 := by unfold joinE; rw [if_neg (by simp [he])]
    have hmay := rowF_may zs 0 (by omega) (by omega)
    have hfl : (rowF 0 zs).length ≤ 80 := Nat.le_trans (rowF_len zs 0) hl80
    rw [he]
    generalize rowF 0 zs = fs at *
    generalize joinE zs xs = je at *
    clear h1 h2 he hI
    by_cases hlen : xs.length = fs.length
    · rw [if_neg (by simp [hlen])] at hj
      subst hj
      have hX1 := hX.below hb
      have hd : ((xs.length : Int) != (fs.length : Int)) = false := by simp; omega
      have Hlen := Lib.hid hlen
      clear hlen
      have Hmay := Lib.hid hmay
      have hs := hb.size
      clear hX hmay
      go_wp2_with fail
      go_loopw [7, 8, 26] (RelJ w1 fs xs) (fun _ _ i _ => fs.length - (intOf i).toNat)
      case atStart => exact ⟨0, 0, by omega, rfl, rfl, rfl, by decide, rfl, Below.refl _ _⟩
      case round =>
        obtain ⟨k, y, hk, rfl, rfl, rfl, hy, hjs, hu⟩ := hrel
        have Hjs := Lib.hid hjs
        clear hjs
        have hsu := hu.size
        have hlen := Hlen.out
        by_cases hlt : k < fs.length
        · obtain ⟨f, hfk⟩ : ∃ f, fs[k]? = some f := ⟨fs[k], List.getElem?_eq_getElem hlt⟩
          obtain ⟨x, hxk⟩ : ∃ x, xs[k]? = some x := ⟨xs[k]'(by omega), List.getElem?_eq_getElem _⟩
          obtain ⟨g, rfl, hg1, hg2, hc1, hc2⟩ := (hf.below hu) k f hfk
          obtain ⟨hxw, xb, xo, rfl, hxb, hcx⟩ := hX1 k x hxk
          have hcx' : wr.cell? ⟨xb, xo + k, none⟩ = some (.int .u64 (x : Int)) := (hu.cell (p := ⟨xb, xo + k, none⟩) (by show xb < _; omega)).trans hcx
          obtain ⟨p, q, hp, hq, hq1, hq2⟩ := may_split (Hmay.out f (List.mem_of_getElem? hfk))
          have hdf : fs.drop k = f :: fs.drop (k + 1) := by
            rw [List.drop_eq_getElem_cons hlt]
            congr 1
            exact (List.getElem?_eq_some_iff.1 hfk).2
          have hdx : xs.drop k = x :: xs.drop (k + 1) := by
            rw [List.drop_eq_getElem_cons (by omega)]
            congr 1
            exact (List.getElem?_eq_some_iff.1 hxk).2
          have hjn : joinS fs xs 0 = if mx q < x then (0, 10) else joinS (fs.drop (k + 1)) (xs.drop (k + 1)) (pt p q y x) := by
            rw [Hjs.out, hdf, hdx, joinS, hp, hq]
            simp
          have Hjn := Lib.hid hjn
          have hkl : (k : Int) < fs.length := by omega
          have hkx : (k : Int) < xs.length := by omega
          have hw2 : wrap64 ((k : Int) + 1) = (k : Int) + 1 := by unfold wrap64; omega
          rw [hp] at hc1
          rw [hq] at hc2
          have hcxa : (wr.alloc (.cells #[.int .i64 (p : Int), .int .i64 (q : Int)] 23)).cell? ⟨xb, xo + k, none⟩ = some (.int .u64 (x : Int)) :=
            (((Below.refl wr.heap.size wr).alloc (Nat.le_refl _) _).cell (p := ⟨xb, xo + k, none⟩) (by show xb < _; omega)).trans hcx'
          have hba := hu.alloc hsu (.cells #[.int .i64 (p : Int), .int .i64 (q : Int)] 23)
          clear hjn hdf hdx hp hq hfk hxk hcx hX1 hlen
          have m0 : (wr.alloc (.cells #[.int .i64 (p : Int), .int .i64 (q : Int)] 23)).cell? ⟨wr.heap.size, 0, none⟩ = some (.int .i64 (p : Int)) := by simp
          have m1 : (wr.alloc (.cells #[.int .i64 (p : Int), .int .i64 (q : Int)] 23)).cell? ⟨wr.heap.size, 1, none⟩ = some (.int .i64 (q : Int)) := by simp
          have hlw : wr.heap.size < (wr.alloc (.cells #[.int .i64 (p : Int), .int .i64 (q : Int)] 23)).heap.size := by simp
          have Hm := Lib.hid (And.intro m0 (And.intro m1 (And.intro hlw (And.intro hcxa hba))))
          clear m0 m1 hlw hcxa hba
          by_cases hbig : mx q < x
          · rw [if_pos hbig] at Hjn
            go_wp2_with fail
            obtain ⟨m0, m1, hlw, hcxa, hba⟩ := Hm.out
            clear Hm hc1 hc2 hcx'
            generalize wr.alloc (.cells #[.int .i64 (p : Int), .int .i64 (q : Int)] 23) = w2 at *
            refine wp_region_held_drew (S := fun w' => w'.cell? ⟨wr.heap.size, 0, none⟩ = some (.int .i64 p) ∧ w'.cell? ⟨wr.heap.size, 1, none⟩ = some (.int .i64 q) ∧ w'.cell? ⟨xb, xo + k, none⟩ = some (.int .u64 (x : Int))) (by kernel_rfl) (⟨m0, m1, hcxa⟩) (fun hHeld => ?_)
            refine wpAnyH_take (i := 0) (v := ?v1) rfl (by kernel_rfl) (by kernel_rfl) (by kernel_rfl) (fun _ _ _ h => h) (Or.inl ⟨by rfl, ?y1⟩) hHeld ?r1
            case y1 => (intro w hSw; obtain ⟨s0, s1, s2⟩ := hSw; go_simp; try with_reducible rfl)
            simp only [List.getElem_toArray, List.getElem_cons_zero, List.getElem_cons_succ, Act.put, List.setIfInBounds_toArray, List.set_cons_zero, List.set_cons_succ]
            refine wpAnyH_take (i := 1) (v := ?v2) rfl (by kernel_rfl) (by kernel_rfl) (by kernel_rfl) (fun _ _ _ h => h) (Or.inl ⟨by rfl, ?y2⟩) hHeld ?r2
            case y2 => (intro w hSw; obtain ⟨s0, s1, s2⟩ := hSw; go_simp; try with_reducible rfl)
            simp only [List.getElem_toArray, List.getElem_cons_zero, List.getElem_cons_succ, Act.put, List.setIfInBounds_toArray, List.set_cons_zero, List.set_cons_succ]
            refine wpAnyH_take (i := 2) (v := ?v3) rfl (by kernel_rfl) (by kernel_rfl) (by kernel_rfl) (fun _ _ _ h => h) (Or.inl ⟨by rfl, ?y3⟩) hHeld ?r3
            case y3 => (intro w hSw; obtain ⟨s0, s1, s2⟩ := hSw; go_simp; try with_reducible rfl)
            simp only [List.getElem_toArray, List.getElem_cons_zero, List.getElem_cons_succ, Act.put, List.setIfInBounds_toArray, List.set_cons_zero, List.set_cons_succ]
            refine wpAnyH_take (i := 3) (v := ?v4) rfl (by kernel_rfl) (by kernel_rfl) (by kernel_rfl) (fun _ _ _ h => h) (Or.inl ⟨by rfl, ?y4⟩) hHeld ?r4
            case y4 => (intro w hSw; obtain ⟨s0, s1, s2⟩ := hSw; go_simp; try with_reducible rfl)
            simp only [List.getElem_toArray, List.getElem_cons_zero, List.getElem_cons_succ, Act.put, List.setIfInBounds_toArray, List.set_cons_zero, List.set_cons_succ]
            refine wpAnyH_take (i := 4) (v := ?v5) rfl (by kernel_rfl) (by kernel_rfl) (by kernel_rfl) (fun _ _ _ h => h) (Or.inl ⟨by rfl, ?y5⟩) hHeld ?r5
            case y5 => (intro w hSw; obtain ⟨s0, s1, s2⟩ := hSw; go_simp; try with_reducible rfl)
            simp only [List.getElem_toArray, List.getElem_cons_zero, List.getElem_cons_succ, Act.put, List.setIfInBounds_toArray, List.set_cons_zero, List.set_cons_succ]
            refine wpAnyH_take (i := 5) (v := ?v6) rfl (by kernel_rfl) (by kernel_rfl) (by kernel_rfl) (fun _ _ _ h => h) (Or.inl ⟨by rfl, ?y6⟩) hHeld ?r6
            case y6 => (intro w hSw; obtain ⟨s0, s1, s2⟩ := hSw; go_simp; try with_reducible rfl)
            simp only [List.getElem_toArray, List.getElem_cons_zero, List.getElem_cons_succ, Act.put, List.setIfInBounds_toArray, List.set_cons_zero, List.set_cons_succ]
            refine wpAnyH_ready (rs := [6]) (by kernel_rfl) (by simp) (AllReadyH.cons rfl (fun K hK => ?_) AllReadyH.nil)
            go_simp
            refine (put_big p q x _ _ hq1 hq2 hbig).mono ?_
            rintro e w3 ⟨rfl, hb3⟩
            have hb4 : Below w1.heap.size w1 w3 := hba.trans (Below.mono ⟨hb3.os, hb3.tape, hb3.output, hb3.size, hb3.block⟩ hba.size)
            have n0 := (Below.cell hb3 (p := ⟨wr.heap.size, 0, none⟩) hlw).trans m0
            have n1 := (Below.cell hb3 (p := ⟨wr.heap.size, 1, none⟩) hlw).trans m1
            have nx := (Below.cell hb3 (p := ⟨xb, xo + k, none⟩) (Nat.lt_of_lt_of_le (Nat.lt_of_lt_of_le hxb hs) hba.size)).trans hcxa
            clear hb3
            go_wp2_with fail
            refine hK.out _ _ (⟨n0, n1, nx⟩) (fun hHeld => ?_)
            clear hK K
            refine wpAnyH_take (i := 7) (v := ?v8) rfl (by kernel_rfl) (by kernel_rfl) (by kernel_rfl) (fun _ _ _ h => h) (Or.inl ⟨by rfl, ?y8⟩) hHeld ?r8
            case y8 => (intro w hSw; obtain ⟨s0, s1, s2⟩ := hSw; go_simp; try with_reducible rfl)
            simp only [List.getElem_toArray, List.getElem_cons_zero, List.getElem_cons_succ, Act.put, List.setIfInBounds_toArray, List.set_cons_zero, List.set_cons_succ]
            refine wpAnyH_take (i := 8) (v := ?v9) rfl (by kernel_rfl) (by kernel_rfl) (by kernel_rfl) (fun _ _ _ h => h) (Or.inl ⟨by rfl, ?y9⟩) hHeld ?r9
            case y9 => (intro w hSw; obtain ⟨s0, s1, s2⟩ := hSw; go_simp; try with_reducible rfl)
            simp only [List.getElem_toArray, List.getElem_cons_zero, List.getElem_cons_succ, Act.put, List.setIfInBounds_toArray, List.set_cons_zero, List.set_cons_succ]
            refine wpAnyH_take (i := 9) (v := ?v10) rfl (by kernel_rfl) (by kernel_rfl) (by kernel_rfl) (fun _ _ _ h => h) (Or.inl ⟨by rfl, ?y10⟩) hHeld ?r10
            case y10 => (intro w hSw; obtain ⟨s0, s1, s2⟩ := hSw; go_simp; try with_reducible rfl)
            simp only [List.getElem_toArray, List.getElem_cons_zero, List.getElem_cons_succ, Act.put, List.setIfInBounds_toArray, List.set_cons_zero, List.set_cons_succ]
            refine wpAnyH_take (i := 10) (v := ?v11) rfl (by kernel_rfl) (by kernel_rfl) (by kernel_rfl) (fun _ _ _ h => h) (Or.inl ⟨by rfl, ?y11⟩) hHeld ?r11
            case y11 => (intro w hSw; obtain ⟨s0, s1, s2⟩ := hSw; go_simp; try with_reducible rfl)
            simp only [List.getElem_toArray, List.getElem_cons_zero, List.getElem_cons_succ, Act.put, List.setIfInBounds_toArray, List.set_cons_zero, List.set_cons_succ]
            refine wpAnyH_take (i := 11) (v := ?v12) rfl (by kernel_rfl) (by kernel_rfl) (by kernel_rfl) (fun _ _ _ h => h) (Or.inl ⟨by rfl, ?y12⟩) hHeld ?r12
            case y12 => (intro w hSw; obtain ⟨s0, s1, s2⟩ := hSw; go_simp; try with_reducible rfl)
            simp only [List.getElem_toArray, List.getElem_cons_zero, List.getElem_cons_succ, Act.put, List.setIfInBounds_toArray, List.set_cons_zero, List.set_cons_succ]
            refine wpAnyH_done (by kernel_rfl) ?_ _
            go_wp2
            go_ret2
            exact ⟨by rw [Hjn.out]; rfl, hb.trans (hb4.mono hs)⟩
          · rw [if_neg hbig] at Hjn
            have Hle := Lib.hid (Nat.le_of_not_lt hbig)
            clear hbig
            go_wp2_with fail
            obtain ⟨m0, m1, hlw, hcxa, hba⟩ := Hm.out
            clear Hm hc1 hc2 hcx'
            generalize wr.alloc (.cells #[.int .i64 (p : Int), .int .i64 (q : Int)] 23) = w2 at *
            refine wp_region_held_drew (S := fun w' => w'.cell? ⟨wr.heap.size, 0, none⟩ = some (.int .i64 p) ∧ w'.cell? ⟨wr.heap.size, 1, none⟩ = some (.int .i64 q) ∧ w'.cell? ⟨xb, xo + k, none⟩ = some (.int .u64 (x : Int))) (by kernel_rfl) (⟨m0, m1, hcxa⟩) (fun hHeld => ?_)
            refine wpAnyH_take (i := 0) (v := ?v13) rfl (by kernel_rfl) (by kernel_rfl) (by kernel_rfl) (fun _ _ _ h => h) (Or.inl ⟨by rfl, ?y13⟩) hHeld ?r13
            case y13 => (intro w hSw; obtain ⟨s0, s1, s2⟩ := hSw; go_simp; try with_reducible rfl)
            simp only [List.getElem_toArray, List.getElem_cons_zero, List.getElem_cons_succ, Act.put, List.setIfInBounds_toArray, List.set_cons_zero, List.set_cons_succ]
            refine wpAnyH_take (i := 1) (v := ?v14) rfl (by kernel_rfl) (by kernel_rfl) (by kernel_rfl) (fun _ _ _ h => h) (Or.inl ⟨by rfl, ?y14⟩) hHeld ?r14
            case y14 => (intro w hSw; obtain ⟨s0, s1, s2⟩ := hSw; go_simp; try with_reducible rfl)
            simp only [List.getElem_toArray, List.getElem_cons_zero, List.getElem_cons_succ, Act.put, List.setIfInBounds_toArray, List.set_cons_zero, List.set_cons_succ]
            refine wpAnyH_take (i := 2) (v := ?v15) rfl (by kernel_rfl) (by kernel_rfl) (by kernel_rfl) (fun _ _ _ h => h) (Or.inl ⟨by rfl, ?y15⟩) hHeld ?r15
            case y15 => (intro w hSw; obtain ⟨s0, s1, s2⟩ := hSw; go_simp; try with_reducible rfl)
            simp only [List.getElem_toArray, List.getElem_cons_zero, List.getElem_cons_succ, Act.put, List.setIfInBounds_toArray, List.set_cons_zero, List.set_cons_succ]
            refine wpAnyH_take (i := 3) (v := ?v16) rfl (by kernel_rfl) (by kernel_rfl) (by kernel_rfl) (fun _ _ _ h => h) (Or.inl ⟨by rfl, ?y16⟩) hHeld ?r16
            case y16 => (intro w hSw; obtain ⟨s0, s1, s2⟩ := hSw; go_simp; try with_reducible rfl)
            simp only [List.getElem_toArray, List.getElem_cons_zero, List.getElem_cons_succ, Act.put, List.setIfInBounds_toArray, List.set_cons_zero, List.set_cons_succ]
            refine wpAnyH_take (i := 4) (v := ?v17) rfl (by kernel_rfl) (by kernel_rfl) (by kernel_rfl) (fun _ _ _ h => h) (Or.inl ⟨by rfl, ?y17⟩) hHeld ?r17
            case y17 => (intro w hSw; obtain ⟨s0, s1, s2⟩ := hSw; go_simp; try with_reducible rfl)
            simp only [List.getElem_toArray, List.getElem_cons_zero, List.getElem_cons_succ, Act.put, List.setIfInBounds_toArray, List.set_cons_zero, List.set_cons_succ]
            refine wpAnyH_take (i := 5) (v := ?v18) rfl (by kernel_rfl) (by kernel_rfl) (by kernel_rfl) (fun _ _ _ h => h) (Or.inl ⟨by rfl, ?y18⟩) hHeld ?r18
            case y18 => (intro w hSw; obtain ⟨s0, s1, s2⟩ := hSw; go_simp; try with_reducible rfl)
            simp only [List.getElem_toArray, List.getElem_cons_zero, List.getElem_cons_succ, Act.put, List.setIfInBounds_toArray, List.set_cons_zero, List.set_cons_succ]
            refine wpAnyH_ready (rs := [6]) (by kernel_rfl) (by simp) (AllReadyH.cons rfl (fun K hK => ?_) AllReadyH.nil)
            go_simp
            refine (put_in p q y x _ hq1 hq2 hy Hle.out).mono ?_
            rintro e w3 ⟨rfl, hb3⟩
            have hb4 : Below w1.heap.size w1 w3 := hba.trans (Below.mono ⟨hb3.os, hb3.tape, hb3.output, hb3.size, hb3.block⟩ hba.size)
            have n0 := (Below.cell hb3 (p := ⟨wr.heap.size, 0, none⟩) hlw).trans m0
            have n1 := (Below.cell hb3 (p := ⟨wr.heap.size, 1, none⟩) hlw).trans m1
            have nx := (Below.cell hb3 (p := ⟨xb, xo + k, none⟩) (Nat.lt_of_lt_of_le (Nat.lt_of_lt_of_le hxb hs) hba.size)).trans hcxa
            clear hb3
            go_wp2_with fail
            refine hK.out _ _ (⟨n0, n1, nx⟩) (fun hHeld => ?_)
            clear hK K
            refine wpAnyH_take (i := 7) (v := ?v20) rfl (by kernel_rfl) (by kernel_rfl) (by kernel_rfl) (fun _ _ _ h => h) (Or.inl ⟨by rfl, ?y20⟩) hHeld ?r20
            case y20 => (intro w hSw; obtain ⟨s0, s1, s2⟩ := hSw; go_simp; try with_reducible rfl)
            simp only [List.getElem_toArray, List.getElem_cons_zero, List.getElem_cons_succ, Act.put, List.setIfInBounds_toArray, List.set_cons_zero, List.set_cons_succ]
            refine wpAnyH_take (i := 8) (v := ?v21) rfl (by kernel_rfl) (by kernel_rfl) (by kernel_rfl) (fun _ _ _ h => h) (Or.inl ⟨by rfl, ?y21⟩) hHeld ?r21
            case y21 => (intro w hSw; obtain ⟨s0, s1, s2⟩ := hSw; go_simp; try with_reducible rfl)
            simp only [List.getElem_toArray, List.getElem_cons_zero, List.getElem_cons_succ, Act.put, List.setIfInBounds_toArray, List.set_cons_zero, List.set_cons_succ]
            refine wpAnyH_take (i := 9) (v := ?v22) rfl (by kernel_rfl) (by kernel_rfl) (by kernel_rfl) (fun _ _ _ h => h) (Or.inl ⟨by rfl, ?y22⟩) hHeld ?r22
            case y22 => (intro w hSw; obtain ⟨s0, s1, s2⟩ := hSw; go_simp; try with_reducible rfl)
            simp only [List.getElem_toArray, List.getElem_cons_zero, List.getElem_cons_succ, Act.put, List.setIfInBounds_toArray, List.set_cons_zero, List.set_cons_succ]
            refine wpAnyH_take (i := 10) (v := ?v23) rfl (by kernel_rfl) (by kernel_rfl) (by kernel_rfl) (fun _ _ _ h => h) (Or.inl ⟨by rfl, ?y23⟩) hHeld ?r23
            case y23 => (intro w hSw; obtain ⟨s0, s1, s2⟩ := hSw; go_simp; try with_reducible rfl)
            simp only [List.getElem_toArray, List.getElem_cons_zero, List.getElem_cons_succ, Act.put, List.setIfInBounds_toArray, List.set_cons_zero, List.set_cons_succ]
            refine wpAnyH_take (i := 11) (v := ?v24) rfl (by kernel_rfl) (by kernel_rfl) (by kernel_rfl) (fun _ _ _ h => h) (Or.inl ⟨by rfl, ?y24⟩) hHeld ?r24
            case y24 => (intro w hSw; obtain ⟨s0, s1, s2⟩ := hSw; go_simp; try with_reducible rfl)
            simp only [List.getElem_toArray, List.getElem_cons_zero, List.getElem_cons_succ, Act.put, List.setIfInBounds_toArray, List.set_cons_zero, List.set_cons_succ]
            refine wpAnyH_done (by kernel_rfl) ?_ _
            have hzw := pt_w hq2 Hle.out y
            have Hz := Lib.hid (And.intro Hjn.out hzw)
            clear hzw Hjn
            generalize pt p q y x = z at *
            clear hHeld n0 n1 nx m0 m1 hcxa hba hlw hw2 hkx hkl hq1 hq2 hxw hg1 hg2 hsu
            go_wp2
            go_roundw
            case rel => exact ⟨k + 1, z, by omega, by go_num, rfl, rfl, Hz.out.2, Hz.out.1, hb4⟩
            case measure => simp [intOf]; omega
        · obtain rfl : k = fs.length := by omega
          have hjn : joinS fs xs 0 = (y, 0) := by
            rw [Hjs.out]
            simp [joinS]
          have Hjn := Lib.hid hjn
          clear hjn hlen
          go_wp2
          go_ret2
          exact ⟨by rw [Hjn.out]; rfl, hb.trans (hu.mono hs)⟩
    · rw [if_pos hlen] at hj
      subst hj
      have hd : ((xs.length : Int) != (fs.length : Int)) = true := by simp; omega
      go_wp2
      go_ret2
      exact ⟨rfl, hb⟩
  · have hj : joinE zs xs = (0, rowE 0 zs) := by unfold joinE; rw [if_pos he]
    generalize joinE zs xs = je at *
    subst hj
    generalize rowE 0 zs = er at *
    obtain rfl := h1 he
    clear h2
    have hd : (er != 0) = true := by simp [he]
    go_wp2
    go_ret2
    exact ⟨rfl, hb⟩
end Go.Proofs.Ytknhbpifkpcpnaa
