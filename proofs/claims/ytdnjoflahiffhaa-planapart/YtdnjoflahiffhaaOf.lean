/- plan.Of: its contract. -/
import Derived.Test.YtdnjoflahiffhaaPlM
import Derived.Test.YtdnjoflahiffhaaChk
import Derived.Deep.AppendLies
import Derived.Deep.RegionLaw
import Derived.Laws.AppendOwn
import Derived.OwnWalk
import Derived.RangeFuncBox
namespace Go.Proofs.Ytdnjoflahiffhaa
open Go.RowKit

/-- The closure that counts. -/
theorem behind_any (n z0 z1 : Int) (z : Nat) (w : World) (hz : Blk w z [.int .i64 z0]) (h1 : z0 + n = z1) (h2 : 0 ≤ z1) (h3 : z1 ≤ 10000000) :
    Calls Try.prog 20 #[.int .i64 n, .pointer (some ⟨z, 0, none⟩)] w (fun e w' => e = .returned (.int .i64 z0) ∧ w' = w.setCell ⟨z, 0, none⟩ (.int .i64 z1)) := by
  have c0 := hz.cell (i := 0) rfl
  have f0 := hz.frozen 0
  have hf : wrap64 (z0 + n) = z1 := by unfold wrap64; omega
  have Hf := Lib.hid hf
  clear hf hz h1 h2 h3
  go_enter Try.func20, Try.ntmps20
  go_wp2
  go_ret
  exact ⟨rfl, by rw [Hf.out]⟩

set_option maxRecDepth 100000 in
set_option maxHeartbeats 1000000 in
theorem of_bad (T R L : Int) (a : Option Addr) (cap : Nat) (l : List Tp) (w : World) (hT : Tps w.heap.size w a l) (hs : ∀ t ∈ l, t.1.size ≤ 100000) (hbad : (chk T l R L).2 ≠ 0) :
    Calls Try.prog 11 #[cfg T a l.length cap R L] w (Ret (.tuple #[plv 0 0 0 (.slice none 0 0) 0, .int .i64 (chk T l R L).2]) w) := by
  have hC := (Blk.new w #[.int .i64 T, .slice a l.length cap, .int .i64 R, .int .i64 L] 24).alloc (.cells #[.int .i64 0, .int .i64 0, .int .i64 0, .slice none 0 0, .int .i64 0] 29)
  have hR := Blk.new (w.alloc (.cells #[.int .i64 T, .slice a l.length cap, .int .i64 R, .int .i64 L] 24)) #[.int .i64 0, .int .i64 0, .int .i64 0, .slice none 0 0, .int .i64 0] 29
  have hB := ((Below.refl w.heap.size w).alloc (Nat.le_refl _) (.cells #[.int .i64 T, .slice a l.length cap, .int .i64 R, .int .i64 L] 24)).alloc (by simp) (.cells #[.int .i64 0, .int .i64 0, .int .i64 0, .slice none 0 0, .int .i64 0] 29)
  simp only [World.size_alloc] at hR
  have c0 := hC.cell (i := 0) rfl
  have c1 := hC.cell (i := 1) rfl
  have c2 := hC.cell (i := 2) rfl
  have c3 := hC.cell (i := 3) rfl
  have HB := Lib.hid (And.intro hR hB)
  have HT := Lib.hid (And.intro (hT.next hB) hs)
  have Hbad := Lib.hid hbad
  clear hC hR hB hT hs hbad
  go_enter Try.func11, Try.ntmps11
  go_wp2_with fail
  refine (check_any T R L a cap l _ HT.out.1 HT.out.2).mono ?_
  rintro e w1 ⟨rfl, hb1⟩
  have hR1 := HB.out.1.low hb1
  have hB1 := HB.out.2.trans (hb1.mono HB.out.2.size)
  have hl1 := hR1.lt
  generalize hq : chk T l R L = q at *
  obtain ⟨x, y⟩ := q
  have hy : (y != 0) = true := by simpa using Hbad.out
  have hR2 := hR1.alloc (.cells #[.int .i64 x, .int .i64 y] 61)
  have hF2 := Blk.new w1 #[.int .i64 x, .int .i64 y] 61
  have hB2 := hB1.alloc hB1.size (.cells #[.int .i64 x, .int .i64 y] 61)
  have H2 := Lib.hid (And.intro hR2 (And.intro hF2 (And.intro hB1 hR1)))
  have r0 := hR1.cell (i := 0) rfl
  have f0 := hR1.frozen 0
  have r1 := hR1.cell (i := 1) rfl
  have f1 := hR1.frozen 1
  have r2 := hR1.cell (i := 2) rfl
  have f2 := hR1.frozen 2
  have r3 := hR1.cell (i := 3) rfl
  have f3 := hR1.frozen 3
  have r4 := hR1.cell (i := 4) rfl
  have f4 := hR1.frozen 4
  clear hR1 hB1 hb1 hR2 hF2 hB2 HB HT c0 c1 c2 c3 Hbad hq
  go_wp2_with fail
  have q1 := H2.out.2.1.cell (i := 1) rfl
  have hRf := ((((((H2.out.2.2.2.put 0 (.int .i64 0)).put 1 (.int .i64 0)).put 2 (.int .i64 0)).put 3 (.slice none 0 0)).put 4 (.int .i64 0)).alloc (.cells #[.int .i64 x, .int .i64 y] 61)).drew
  have hBf := belN ((((((H2.out.2.2.1.setCell (p := ⟨w.heap.size + 1, 0, none⟩) (by simp) (.int .i64 0)).setCell (p := ⟨w.heap.size + 1, 1, none⟩) (by simp) (.int .i64 0)).setCell (p := ⟨w.heap.size + 1, 2, none⟩) (by simp) (.int .i64 0)).setCell (p := ⟨w.heap.size + 1, 3, none⟩) (by simp) (.slice none 0 0)).setCell (p := ⟨w.heap.size + 1, 4, none⟩) (by simp) (.int .i64 0)).alloc (by simp [World.setCell]; exact H2.out.2.2.1.size) (.cells #[.int .i64 x, .int .i64 y] 61)) 1
  have HF := Lib.hid (And.intro hRf hBf)
  clear hRf hBf
  go_region
  all_goals
    go_wp2
    have d0 := HF.out.1.cell (i := 0) rfl
    have d1 := HF.out.1.cell (i := 1) rfl
    have d2 := HF.out.1.cell (i := 2) rfl
    have d3 := HF.out.1.cell (i := 3) rfl
    have d4 := HF.out.1.cell (i := 4) rfl
    exact bodyPost_ret (v := .tuple #[plv 0 0 0 (.slice none 0 0) 0, .int .i64 y]) (by simp [results, Try.results11, go_sem, d0, d1, d2, d3, d4]) rfl ⟨rfl, HF.out.2⟩

/-- What Of has laid. -/
def OfS (w : World) (T R L : Int) (a : Option Addr) (n cap z P : Nat) (zv rg lg : Int) (v : Value) (W : World) : Prop :=
  Blk W w.heap.size (cfl T a n cap R L) ∧ Blk W (w.heap.size + 1) (plc 0 0 0 (.slice none 0 0) 0) ∧ Blk W z [.int .i64 zv] ∧ Blk W P (plc rg lg L v 0) ∧ Below w.heap.size w W
section
variable {w : World} {T R L : Int} {a : Option Addr} {n cap z P : Nat} {zv rg lg : Int} {v : Value} {W : World}
theorem OfS.alloc (h : OfS w T R L a n cap z P zv rg lg v W) (o : Obj) : OfS w T R L a n cap z P zv rg lg v (W.alloc o) :=
  ⟨h.1.alloc o, h.2.1.alloc o, h.2.2.1.alloc o, h.2.2.2.1.alloc o, h.2.2.2.2.alloc h.2.2.2.2.size o⟩
theorem OfS.setZ (h : OfS w T R L a n cap z P zv rg lg v W) (hz : w.heap.size + 1 < z) (hP : z < P) (x : Int) : OfS w T R L a n cap z P x rg lg v (W.setCell ⟨z, 0, none⟩ (.int .i64 x)) :=
  ⟨h.1.setFar (by show w.heap.size ≠ z; omega) _, h.2.1.setFar (by show w.heap.size + 1 ≠ z; omega) _, h.2.2.1.put 0 _, h.2.2.2.1.setFar (by show P ≠ z; omega) _, h.2.2.2.2.setCell (by show w.heap.size ≤ z; omega) _⟩
theorem OfS.setP0 (h : OfS w T R L a n cap z P zv rg lg v W) (hz : w.heap.size + 1 < z) (hP : z < P) (x : Int) : OfS w T R L a n cap z P zv x lg v (W.setCell ⟨P, 0, none⟩ (.int .i64 x)) :=
  ⟨h.1.setFar (by show w.heap.size ≠ P; omega) _, h.2.1.setFar (by show w.heap.size + 1 ≠ P; omega) _, h.2.2.1.setFar (by show z ≠ P; omega) _, h.2.2.2.1.put 0 _, h.2.2.2.2.setCell (by show w.heap.size ≤ P; omega) _⟩
theorem OfS.setP1 (h : OfS w T R L a n cap z P zv rg lg v W) (hz : w.heap.size + 1 < z) (hP : z < P) (x : Int) : OfS w T R L a n cap z P zv rg x v (W.setCell ⟨P, 1, none⟩ (.int .i64 x)) :=
  ⟨h.1.setFar (by show w.heap.size ≠ P; omega) _, h.2.1.setFar (by show w.heap.size + 1 ≠ P; omega) _, h.2.2.1.setFar (by show z ≠ P; omega) _, h.2.2.2.1.put 1 _, h.2.2.2.2.setCell (by show w.heap.size ≤ P; omega) _⟩
theorem OfS.setP3 (h : OfS w T R L a n cap z P zv rg lg v W) (hz : w.heap.size + 1 < z) (hP : z < P) (x : Value) : OfS w T R L a n cap z P zv rg lg x (W.setCell ⟨P, 3, none⟩ x) :=
  ⟨h.1.setFar (by show w.heap.size ≠ P; omega) _, h.2.1.setFar (by show w.heap.size + 1 ≠ P; omega) _, h.2.2.1.setFar (by show z ≠ P; omega) _, h.2.2.2.1.put 3 _, h.2.2.2.2.setCell (by show w.heap.size ≤ P; omega) _⟩
theorem OfS.far (h : OfS w T R L a n cap z P zv rg lg v W) (hz : w.heap.size + 1 < z) (hP : z < P) {p : Addr} (hp : P < p.block) (x : Value) : OfS w T R L a n cap z P zv rg lg v (W.setCell p x) :=
  ⟨h.1.setFar (by omega) _, h.2.1.setFar (by omega) _, h.2.2.1.setFar (by omega) _, h.2.2.2.1.setFar (by omega) _, h.2.2.2.2.setCell (by omega) _⟩
theorem OfS.grown (h : OfS w T R L a n cap z P zv rg lg v W) (hz : w.heap.size + 1 < z) (hP : z < P) {W' : World} {r : Option Nat} (hg : W.grownBy W' r) (hr : ∀ q, r = some q → P < q) : OfS w T R L a n cap z P zv rg lg v W' := by
  have ne : ∀ j, j ≤ P → some j ≠ r := fun j hj e => by have := hr j e.symm; omega
  exact ⟨h.1.of_block (hg.block _ h.1.lt (ne _ (by omega))), h.2.1.of_block (hg.block _ h.2.1.lt (ne _ (by omega))), h.2.2.1.of_block (hg.block _ h.2.2.1.lt (ne _ (by omega))), h.2.2.2.1.of_block (hg.block _ h.2.2.2.1.lt (ne _ (by omega))),
    h.2.2.2.2.grown hg h.2.2.2.2.size (fun q e => by have := hr q e; omega)⟩
end
theorem owns_far {A : World} {base : Nat} {e : TypeId} {size : Nat} {v : Value} {k : Nat} {xs : List Value} (h : A.ownsRow base e size v k xs) {p : Addr} (hp : ∀ q, v.ownBlock = some q → q ≠ p.block) (u : Value) : (A.setCell p u).ownsRow base e size v k xs := by
  refine ⟨h.1, ?_⟩
  rcases h.2 with hn | ⟨g, cap, cur, rfl, hb, hg, rest⟩
  · exact .inl hn
  · exact .inr ⟨g, cap, cur, rfl, hb, (Below.heap_setCell _ _ _ _ (hp g (by simp [Value.ownBlock]))).trans hg, rest⟩
/-- In Of's round. -/
def OfR (w : World) (T R L : Int) (a : Option Addr) (n cap z P : Nat) (zv : Int) (v : Value) (k : Nat) (xs : List Value) (D : Nat) (nm : ByteArray) (wd dp o q f : Int) (W : World) : Prop :=
  OfS w T R L a n cap z P zv 0 1 v W ∧ W.ownsRow (P + 1) 43 5 v k xs ∧ Blk W D [.string nm, .int .i64 wd, .int .i64 dp] ∧ Blk W (D + 1) (spc o q f wd dp)
section
variable {w : World} {T R L : Int} {a : Option Addr} {n cap z P : Nat} {zv : Int} {v : Value} {k : Nat} {xs : List Value} {D : Nat} {nm : ByteArray} {wd dp o q f : Int} {W : World}
theorem OfR.setZ (h : OfR w T R L a n cap z P zv v k xs D nm wd dp o q f W) (hz : w.heap.size + 1 < z) (hP : z < P) (hD : P < D) (x : Int) : OfR w T R L a n cap z P x v k xs D nm wd dp o q f (W.setCell ⟨z, 0, none⟩ (.int .i64 x)) :=
  ⟨h.1.setZ hz hP x, owns_far h.2.1 (fun q e => by have := (h.2.1.lt q e).1; show q ≠ z; omega) _, h.2.2.1.setFar (by show D ≠ z; omega) _, h.2.2.2.setFar (by show D + 1 ≠ z; omega) _⟩
theorem OfR.set0 (h : OfR w T R L a n cap z P zv v k xs D nm wd dp o q f W) (hz : w.heap.size + 1 < z) (hP : z < P) (hD : P < D) (hv : ∀ q, v.ownBlock = some q → q < D) (x : Int) : OfR w T R L a n cap z P zv v k xs D nm wd dp x q f (W.setCell ⟨D + 1, 0, none⟩ (.int .i64 x)) :=
  ⟨h.1.far hz hP (by show P < D + 1; omega) _, owns_far h.2.1 (fun q e => by have := hv q e; show q ≠ D + 1; omega) _, h.2.2.1.setFar (by show D ≠ D + 1; omega) _, h.2.2.2.put 0 _⟩
theorem OfR.set1 (h : OfR w T R L a n cap z P zv v k xs D nm wd dp o q f W) (hz : w.heap.size + 1 < z) (hP : z < P) (hD : P < D) (hv : ∀ q, v.ownBlock = some q → q < D) (x : Int) : OfR w T R L a n cap z P zv v k xs D nm wd dp o x f (W.setCell ⟨D + 1, 1, none⟩ (.int .i64 x)) :=
  ⟨h.1.far hz hP (by show P < D + 1; omega) _, owns_far h.2.1 (fun q e => by have := hv q e; show q ≠ D + 1; omega) _, h.2.2.1.setFar (by show D ≠ D + 1; omega) _, h.2.2.2.put 1 _⟩
theorem OfR.set2 (h : OfR w T R L a n cap z P zv v k xs D nm wd dp o q f W) (hz : w.heap.size + 1 < z) (hP : z < P) (hD : P < D) (hv : ∀ q, v.ownBlock = some q → q < D) (x : Int) : OfR w T R L a n cap z P zv v k xs D nm wd dp o q x (W.setCell ⟨D + 1, 2, none⟩ (.int .i64 x)) :=
  ⟨h.1.far hz hP (by show P < D + 1; omega) _, owns_far h.2.1 (fun q e => by have := hv q e; show q ≠ D + 1; omega) _, h.2.2.1.setFar (by show D ≠ D + 1; omega) _, h.2.2.2.put 2 _⟩
end
theorem cell_five_new (w : World) (x0 x1 x2 x3 x4 : Value) (t : TypeId) : ∀ j u, [x0, x1, x2, x3, x4][j]? = some u → (w.alloc (.cells #[x0, x1, x2, x3, x4] t)).cell? ((⟨w.heap.size, 0, none⟩ : Addr).add j) = some u := by
  intro j u hj
  match j, hj with
  | 0, hj => simp at hj; subst hj; simp [Addr.add]
  | 1, hj => simp at hj; subst hj; simp [Addr.add]
  | 2, hj => simp at hj; subst hj; simp [Addr.add]
  | 3, hj => simp at hj; subst hj; simp [Addr.add]
  | 4, hj => simp at hj; subst hj; simp [Addr.add]
  | j + 5, hj => simp at hj
theorem info43 : (Try.prog.info? 43).map (fun i => (i.zero, i.size, i.bytes)) = some (some (spv 0 0 0 0 0), 5, 40) := by kernel_rfl
/-- At the head of Of's loop. -/
def RelOf (w : World) (T R L : Int) (a : Option Addr) (cap z P : Nat) (l : List Tp) (i : Value) (wr : World) : Prop :=
  ∃ (k : Nat) (v : Value), k ≤ l.length ∧ i = .int .i64 k ∧ OfS w T R L a l.length cap z P (tot (1 + L) (l.take k)) 0 1 v wr ∧ wr.ownsRow (P + 1) 43 5 v k (scl (spots (1 + L) (l.take k)))
/-- What Of leaves of a config that may be. -/
def OfPost (L : Int) (l : List Tp) (w : World) (e : Ending) (w' : World) : Prop :=
  ∃ a cap, e = .returned (.tuple #[plv 0 1 L (.slice a l.length cap) (tot (1 + L) l), .int .i64 0]) ∧ Sps w'.heap.size w' a (spots (1 + L) l) ∧ Below w.heap.size w w'

set_option maxRecDepth 100000 in
set_option maxHeartbeats 2000000 in
theorem of_ok (T R L : Int) (a : Option Addr) (cap : Nat) (l : List Tp) (w : World) (hT : Tps w.heap.size w a l) (hs : ∀ t ∈ l, t.1.size ≤ 100000) (hok : (chk T l R L).2 = 0) :
    Calls Try.prog 11 #[cfg T a l.length cap R L] w (OfPost L l w) := by
  have hC := (Blk.new w #[.int .i64 T, .slice a l.length cap, .int .i64 R, .int .i64 L] 24).alloc (.cells #[.int .i64 0, .int .i64 0, .int .i64 0, .slice none 0 0, .int .i64 0] 29)
  have hR := Blk.new (w.alloc (.cells #[.int .i64 T, .slice a l.length cap, .int .i64 R, .int .i64 L] 24)) #[.int .i64 0, .int .i64 0, .int .i64 0, .slice none 0 0, .int .i64 0] 29
  have hB := ((Below.refl w.heap.size w).alloc (Nat.le_refl _) (.cells #[.int .i64 T, .slice a l.length cap, .int .i64 R, .int .i64 L] 24)).alloc (by simp) (.cells #[.int .i64 0, .int .i64 0, .int .i64 0, .slice none 0 0, .int .i64 0] 29)
  simp only [World.size_alloc] at hR
  have c0 := hC.cell (i := 0) rfl
  have c1 := hC.cell (i := 1) rfl
  have c2 := hC.cell (i := 2) rfl
  have c3 := hC.cell (i := 3) rfl
  obtain ⟨hl1, hl64, hL1, hL64, hall⟩ := chk_rng hok
  obtain ⟨i0, hi, hz0, hz1, hz2⟩ := info_parts info43
  have HB := Lib.hid (And.intro hC (And.intro hR hB))
  have HT := Lib.hid (And.intro (hT.next hB) (And.intro hs hT))
  have Hok := Lib.hid (And.intro hok hall)
  clear hC hR hB hT hs hok hall
  go_enter Try.func11, Try.ntmps11
  go_wp2_with fail
  refine (check_any T R L a cap l _ HT.out.1 HT.out.2.1).mono ?_
  rintro e w1 ⟨rfl, hb1⟩
  have hR1 := HB.out.2.1.low hb1
  have hC1 := HB.out.1.low hb1
  have hB1 := HB.out.2.2.trans (hb1.mono HB.out.2.2.size)
  have hT' := HT.out.2.2
  have hl1 := hR1.lt
  clear c0 c1 c2 c3
  generalize hq : chk T l R L = q at *
  obtain ⟨x, y⟩ := q
  obtain rfl : y = 0 := Hok.out.1
  have hS := ((show OfS w T R L a l.length cap (w1.heap.size + 1) (w1.heap.size + 1 + 1) 0 0 0 (.slice none 0 0) (((w1.alloc (.cells #[.int .i64 x, .int .i64 0] 61)).alloc (.cells #[.int .i64 0] 3)).alloc (.cells #[.int .i64 0, .int .i64 0, .int .i64 L, .slice none 0 0, .int .i64 0] 29)) from by
    have b2 := Blk.new (w1.alloc (.cells #[.int .i64 x, .int .i64 0] 61)) #[.int .i64 0] 3
    have b3 := Blk.new ((w1.alloc (.cells #[.int .i64 x, .int .i64 0] 61)).alloc (.cells #[.int .i64 0] 3)) #[.int .i64 0, .int .i64 0, .int .i64 L, .slice none 0 0, .int .i64 0] 29
    simp only [World.size_alloc] at b2 b3
    exact ⟨((hC1.alloc _).alloc _).alloc _, ((hR1.alloc _).alloc _).alloc _, b2.alloc _, b3, ((hB1.alloc hB1.size _).alloc (by simp; have := hB1.size; omega) _).alloc (by simp; have := hB1.size; omega) _⟩))
  have HS := Lib.hid hS
  have HTT := Lib.hid hT'
  have Hall := Lib.hid Hok.out.2
  have cc := ((hC1.alloc (.cells #[.int .i64 x, .int .i64 0] 61)).alloc (.cells #[.int .i64 0] 3)).cell (i := 3) rfl
  have cl := hS.1.cell (i := 3) rfl
  clear hS hT' HT HB hR1 hC1 hB1 hb1 Hok hq
  go_wp2_with fail
  generalize (((w1.alloc (.cells #[.int .i64 x, .int .i64 0] 61)).alloc (.cells #[.int .i64 0] 3)).alloc (.cells #[.int .i64 0, .int .i64 0, .int .i64 L, .slice none 0 0, .int .i64 0] 29)) = W2 at *
  generalize hz : w1.heap.size + 1 = z at *
  generalize hP : z + 1 = P at *
  have ho1 : w.heap.size + 1 < z := by omega
  have ho2 : z < P := by omega
  have Ho := Lib.hid (And.intro ho1 ho2)
  clear hz hP ho1 ho2 hl1 cc cl
  refine (behind_any 1 0 1 z W2 HS.out.2.2.1 rfl (by omega) (by omega)).mono ?_
  rintro e W3 ⟨rfl, rfl⟩
  have H3 := Lib.hid (HS.out.setZ Ho.out.1 Ho.out.2 1)
  have H3' := Lib.hid ((HS.out.setZ Ho.out.1 Ho.out.2 1).setP0 Ho.out.1 Ho.out.2 0)
  generalize hW3 : W2.setCell ⟨z, 0, none⟩ (.int .i64 1) = W3 at *
  have p0 := H3.out.2.2.2.1.cell (i := 0) rfl
  have z0 := H3.out.2.2.2.1.frozen 0
  have cl := H3'.out.1.cell (i := 3) rfl
  clear HS hW3
  go_wp2_with fail
  generalize W3.setCell ⟨P, 0, none⟩ (.int .i64 0) = W4 at *
  clear H3 p0 z0 cl
  refine (behind_any L 1 (1 + L) z W4 H3'.out.2.2.1 rfl (by omega) (by omega)).mono ?_
  rintro e W5 ⟨rfl, rfl⟩
  have H5 := Lib.hid (H3'.out.setZ Ho.out.1 Ho.out.2 (1 + L))
  have H5' := Lib.hid ((H3'.out.setZ Ho.out.1 Ho.out.2 (1 + L)).setP1 Ho.out.1 Ho.out.2 1)
  generalize hW3 : W4.setCell ⟨z, 0, none⟩ (.int .i64 (1 + L)) = W5 at *
  have p0 := H5.out.2.2.2.1.cell (i := 1) rfl
  have z0 := H5.out.2.2.2.1.frozen 1
  have cl := H5'.out.1.cell (i := 1) rfl
  clear H3' hW3
  go_wp2_with fail
  generalize W5.setCell ⟨P, 1, none⟩ (.int .i64 1) = W6 at *
  clear H5 p0 z0 cl
  go_loopw [34] (RelOf w T R L a cap z P l) (fun i _ => l.length - (intOf i).toNat)
  case atStart => exact ⟨0, .slice none 0 0, by omega, rfl, H5'.out, World.ownsRow_nil _ _ _ _⟩
  case round =>
    clear H5'
    obtain ⟨k, v, hk, rfl, hS, hO⟩ := hrel
    obtain ⟨av, cv, rfl, _⟩ := owns_slice hO
    have HS := Lib.hid (And.intro hS hO)
    clear hS hO
    by_cases hkl : k < l.length
    · obtain ⟨t, ht⟩ : ∃ t, l[k]? = some t := ⟨l[k], List.getElem?_eq_getElem hkl⟩
      have k0 : (k : Int) < l.length := by omega
      obtain ⟨b, off, rfl, _, u0, u1, u2⟩ := (HTT.out.below HS.out.1.2.2.2.2) k t ht
      have hokt := Hall.out t (List.mem_of_getElem? ht)
      have hbd := take_bd k hk hl64 (1 + L) Hall.out
      have hm := mul_bd (m := 64) (n := 16) (by have := hokt.1; omega : 0 ≤ t.2.1) hokt.2.1 (by have := hokt.2.2.1; omega : 0 ≤ t.2.2) hokt.2.2.2
      have e2 := (drop_at ht).2
      have Ht := Lib.hid (And.intro ht (And.intro hokt (And.intro hbd (And.intro hm e2))))
      clear ht hokt hbd hm e2
      obtain ⟨nm, wd, dp⟩ := t
      generalize hzz : tot (1 + L) (l.take k) = z0 at *
      have Hz0 := Lib.hid hzz
      clear hzz
      have hD : P < wr.heap.size := HS.out.1.2.2.2.1.lt
      have hv := fun q e => (HS.out.2.lt q e).2
      have h1 := (show OfR w T R L (some ⟨b, off, none⟩) l.length cap z P z0 (.slice av k cv) k (scl (spots (1 + L) (l.take k))) wr.heap.size nm wd dp 0 0 0 ((wr.alloc (.cells #[.string nm, .int .i64 wd, .int .i64 dp] 58)).alloc (.cells #[.int .i64 0, .int .i64 0, .int .i64 0, .int .i64 wd, .int .i64 dp] 43)) from by
        have b1 := Blk.new wr #[.string nm, .int .i64 wd, .int .i64 dp] 58
        have b2 := Blk.new (wr.alloc (.cells #[.string nm, .int .i64 wd, .int .i64 dp] 58)) #[.int .i64 0, .int .i64 0, .int .i64 0, .int .i64 wd, .int .i64 dp] 43
        simp only [World.size_alloc] at b2
        exact ⟨(HS.out.1.alloc _).alloc _, (HS.out.2.alloc _).alloc _, b1.alloc _, b2⟩)
      have H1 := Lib.hid h1
      have Hv := Lib.hid (And.intro hv hD)
      clear h1 hv hD HS HTT
      go_wp2_with fail
      clear u0 u1 u2
      generalize ((wr.alloc (.cells #[.string nm, .int .i64 wd, .int .i64 dp] 58)).alloc (.cells #[.int .i64 0, .int .i64 0, .int .i64 0, .int .i64 wd, .int .i64 dp] 43)) = V1 at *
      generalize wr.heap.size = D at *
      refine (behind_any 1 z0 (z0 + 1) z V1 H1.out.1.2.2.1 rfl (by have := Ht.out.2.2.1; omega) (by have := Ht.out.2.2.1; omega)).mono ?_
      rintro e V2 ⟨rfl, rfl⟩
      have H2 := Lib.hid (H1.out.setZ Ho.out.1 Ho.out.2 Hv.out.2 (z0 + 1))
      clear H1
      generalize V1.setCell ⟨z, 0, none⟩ (.int .i64 (z0 + 1)) = V2 at *
      have q0 := H2.out.2.2.2.cell (i := 0) rfl
      have f0 := H2.out.2.2.2.frozen 0
      have H3 := Lib.hid (H2.out.set0 Ho.out.1 Ho.out.2 Hv.out.2 Hv.out.1 z0)
      clear H2
      go_wp2_with fail
      clear q0 f0
      generalize V2.setCell ⟨D + 1, 0, none⟩ (.int .i64 z0) = V3 at *
      refine (behind_any 1 (z0 + 1) (z0 + 2) z V3 H3.out.1.2.2.1 (by omega) (by have := Ht.out.2.2.1; omega) (by have := Ht.out.2.2.1; omega)).mono ?_
      rintro e V4 ⟨rfl, rfl⟩
      have H4 := Lib.hid (H3.out.setZ Ho.out.1 Ho.out.2 Hv.out.2 (z0 + 2))
      clear H3
      generalize V3.setCell ⟨z, 0, none⟩ (.int .i64 (z0 + 2)) = V4 at *
      have q0 := H4.out.2.2.2.cell (i := 1) rfl
      have f0 := H4.out.2.2.2.frozen 1
      have H5 := Lib.hid (H4.out.set1 Ho.out.1 Ho.out.2 Hv.out.2 Hv.out.1 (z0 + 1))
      have d1 := H5.out.2.2.1.cell (i := 1) rfl
      have d2 := H5.out.2.2.1.cell (i := 2) rfl
      have hw : wrap64 (wd * dp) = wd * dp := by have := Ht.out.2.2.2.1; unfold wrap64; omega
      clear H4
      go_wp2_with fail
      clear q0 f0 d1 d2 hw
      generalize V4.setCell ⟨D + 1, 1, none⟩ (.int .i64 (z0 + 1)) = V5 at *
      refine (behind_any (wd * dp) (z0 + 2) (z0 + (2 + wd * dp)) z V5 H5.out.1.2.2.1 (by omega) (by have := Ht.out.2.2; omega) (by have := Ht.out.2.2; omega)).mono ?_
      rintro e V6 ⟨rfl, rfl⟩
      have H6 := Lib.hid (H5.out.setZ Ho.out.1 Ho.out.2 Hv.out.2 (z0 + (2 + wd * dp)))
      clear H5
      generalize V5.setCell ⟨z, 0, none⟩ (.int .i64 (z0 + (2 + wd * dp))) = V6 at *
      have q0 := H6.out.2.2.2.cell (i := 2) rfl
      have f0 := H6.out.2.2.2.frozen 2
      have H7 := Lib.hid (H6.out.set2 Ho.out.1 Ho.out.2 Hv.out.2 Hv.out.1 (z0 + 2))
      have s0 := H7.out.2.2.2.cell (i := 0) rfl
      have s1 := H7.out.2.2.2.cell (i := 1) rfl
      have s2 := H7.out.2.2.2.cell (i := 2) rfl
      have s3 := H7.out.2.2.2.cell (i := 3) rfl
      have s4 := H7.out.2.2.2.cell (i := 4) rfl
      have p3 := H7.out.1.2.2.2.1.cell (i := 3) rfl
      clear H6
      have hml : k + 1 ≤ maxLen := Nat.le_trans (by omega : k + 1 ≤ 65) (by decide)
      obtain ⟨V7, hV7⟩ : ∃ V7, V6.setCell ⟨D + 1, 2, none⟩ (.int .i64 (z0 + 2)) = V7 := ⟨_, rfl⟩
      rw [hV7] at H7 s0 s1 s2 s3 s4 p3
      have hP7 : P < V7.heap.size := H7.out.1.2.2.2.1.lt
      go_wp2_with (at_builtin; refine wpList_append_own _ rfl _ _ 27 rfl (P + 1) 43 i0 _ 5 40 Try.underlying27 hi hz0 hz1 hz2 rfl (by decide) (.slice av k cv) k _ rfl (H7.out.2.1.alloc _) ⟨V7.heap.size, 0, none⟩ 1 1 (spc z0 (z0 + 1) (z0 + 2) wd dp) rfl rfl (cell_five_new _ _ _ _ _ _ _) (by simp [Value.oneCell']) hml (by omega) (by simp; omega) ?_; intro v' w1 hown' hgrow _; obtain ⟨g', cap', rfl⟩ := ownsRow_succ hown'; have h8 := (H7.out.1.alloc (.cells #[.int .i64 z0, .int .i64 (z0 + 1), .int .i64 (z0 + 2), .int .i64 wd, .int .i64 dp] 43)).grown Ho.out.1 Ho.out.2 hgrow (fun q e => by have := (H7.out.2.1.lt q e).1; omega); have r3 := h8.2.2.2.1.cell (i := 3) rfl; have rf := h8.2.2.2.1.frozen 3)
      have h9 := (h8.setP3 Ho.out.1 Ho.out.2 (.slice (some ⟨g', 0, none⟩) (k + 1) cap'))
      have ho9 := owns_far hown' (p := ⟨P, 3, none⟩) (fun q e => by have := (hown'.lt q e).1; show q ≠ P; omega) (.slice (some ⟨g', 0, none⟩) (k + 1) cap')
      have H9 := Lib.hid (And.intro h9 ho9)
      clear h8 h9 ho9 r3 rf hown' hgrow
      go_roundw
      case rel =>
        refine ⟨k + 1, .slice (some ⟨g', 0, none⟩) (k + 1) cap', by omega, by go_num, ?_, ?_⟩
        · rw [Ht.out.2.2.2.2, tot_snoc, Hz0.out]
          exact H9.out.1
        · rw [Ht.out.2.2.2.2, spots_snoc, scl_snoc, Hz0.out]
          exact H9.out.2
      case measure => simp [intOf]; omega
    · have k0 : decide ((k : Int) < (l.length : Int)) = false := decide_eq_false (by omega)
      obtain rfl : k = l.length := by omega
      obtain ⟨a', c', hv', hT5⟩ := owns_sps (by rw [List.take_length, spots_len]) HS.out.2
      simp only [Value.slice.injEq] at hv'
      obtain ⟨rfl, _, rfl⟩ := hv'
      rw [List.take_length] at hT5
      have hz := HS.out.1.2.2.1.cell (i := 0) rfl
      rw [List.take_length] at hz
      obtain ⟨zt, hzt⟩ : ∃ zt, tot (1 + L) l = zt := ⟨_, rfl⟩
      rw [hzt] at hz
      have Hzt := Lib.hid hzt
      clear hzt
      have p4 := HS.out.1.2.2.2.1.cell (i := 4) rfl
      have f4 := HS.out.1.2.2.2.1.frozen 4
      have hp := HS.out.1.2.2.2.1.put 4 (.int .i64 zt)
      have hr := HS.out.1.2.1.setFar (p := ⟨P, 4, none⟩) (by have := Ho.out; show w.heap.size + 1 ≠ P; omega) (.int .i64 zt)
      have hb := HS.out.1.2.2.2.2.setCell (p := ⟨P, 4, none⟩) (by have := Ho.out; show w.heap.size ≤ P; omega) (.int .i64 zt)
      have ho := owns_far HS.out.2 (p := ⟨P, 4, none⟩) (fun q e => by have := (HS.out.2.lt q e).1; show q ≠ P; omega) (.int .i64 zt)
      obtain ⟨V, hV⟩ : ∃ V, wr.setCell ⟨P, 4, none⟩ (.int .i64 zt) = V := ⟨_, rfl⟩
      rw [hV] at hp hr hb ho
      have x0 := hp.cell (i := 0) rfl
      have x1 := hp.cell (i := 1) rfl
      have x2 := hp.cell (i := 2) rfl
      have x3 := hp.cell (i := 3) rfl
      have x4 := hp.cell (i := 4) rfl
      have r0 := hr.cell (i := 0) rfl
      have r1 := hr.cell (i := 1) rfl
      have r2 := hr.cell (i := 2) rfl
      have r3 := hr.cell (i := 3) rfl
      have r4 := hr.cell (i := 4) rfl
      have y0 := hr.frozen 0
      have y1 := hr.frozen 1
      have y2 := hr.frozen 2
      have y3 := hr.frozen 3
      have y4 := hr.frozen 4
      have hrf := ((((hr.put 0 (.int .i64 0)).put 1 (.int .i64 1)).put 2 (.int .i64 L)).put 3 (.slice av l.length cv)).put 4 (.int .i64 zt)
      have hbf := ((((hb.setCell (p := ⟨w.heap.size + 1, 0, none⟩) (by simp) (.int .i64 0)).setCell (p := ⟨w.heap.size + 1, 1, none⟩) (by simp) (.int .i64 1)).setCell (p := ⟨w.heap.size + 1, 2, none⟩) (by simp) (.int .i64 L)).setCell (p := ⟨w.heap.size + 1, 3, none⟩) (by simp) (.slice av l.length cv)).setCell (p := ⟨w.heap.size + 1, 4, none⟩) (by simp) (.int .i64 zt)
      have nf : ∀ q, (Value.slice av l.length cv).ownBlock = some q → q ≠ w.heap.size + 1 := fun q e => by have := (ho.lt q e).1; have := Ho.out; omega
      have hof := owns_far (owns_far (owns_far (owns_far (owns_far ho (p := ⟨w.heap.size + 1, 0, none⟩) nf (.int .i64 0)) (p := ⟨w.heap.size + 1, 1, none⟩) nf (.int .i64 1)) (p := ⟨w.heap.size + 1, 2, none⟩) nf (.int .i64 L)) (p := ⟨w.heap.size + 1, 3, none⟩) nf (.slice av l.length cv)) (p := ⟨w.heap.size + 1, 4, none⟩) nf (.int .i64 zt)
      have HF := Lib.hid (And.intro hrf (And.intro hbf hof))
      clear HS hT5 hp hr hb ho hrf hbf hof nf
      go_wp2
      have d0 := HF.out.1.cell (i := 0) rfl
      have d1 := HF.out.1.cell (i := 1) rfl
      have d2 := HF.out.1.cell (i := 2) rfl
      have d3 := HF.out.1.cell (i := 3) rfl
      have d4 := HF.out.1.cell (i := 4) rfl
      refine bodyPost_ret (v := .tuple #[plv 0 1 L (.slice av l.length cv) zt, .int .i64 0]) (by simp [results, Try.results11, go_sem, d0, d1, d2, d3, d4]) rfl ⟨av, cv, by rw [Hzt.out], ?_, HF.out.2.1⟩
      obtain ⟨a2, c2, hv2, hT6⟩ := owns_sps (by rw [List.take_length, spots_len]) HF.out.2.2
      simp only [Value.slice.injEq] at hv2
      obtain ⟨rfl, _, rfl⟩ := hv2
      rw [List.take_length] at hT6
      exact hT6
end Go.Proofs.Ytdnjoflahiffhaa
