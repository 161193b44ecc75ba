/- A snapshot that has not begun; how many steps it may do. -/
import Derived.Test.YtflgggfomhifeaaSnS
namespace Go.Proofs.Ytflgggfomhifeaa
open Go.RowKit

theorem info69 : (Try.prog.info? 69).map (fun i => (i.zero, i.size, i.bytes)) = some (some (spv 0 0 0 0 0), 5, 40) := by kernel_rfl
/-- Spots that lie at a block. -/
def SpB (gs : Nat) (l : List Sp) (w : World) : Prop := ∃ vs, Blk w gs vs ∧ ∀ (i : Nat) (v : Value), (scl l)[i]? = some v → vs[i]? = some v
theorem SpB.low {gs : Nat} {l : List Sp} {A B : World} (h : SpB gs l A) (u : Below A.heap.size A B) : SpB gs l B := by
  obtain ⟨vs, h1, h2⟩ := h
  exact ⟨vs, h1.low u, h2⟩
def ClsPost (l : List Sp) (w : World) (e : Ending) (w' : World) : Prop :=
  ∃ g cap : Nat, w.heap.size ≤ g ∧ g < w'.heap.size ∧ e = .returned (.slice (some ⟨g, 0, none⟩) l.length cap) ∧ SpB g l w' ∧ Below w.heap.size w w'
theorem scl_at {l : List Sp} {i : Nat} {v : Value} (h : (scl l)[i]? = some v) : ∃ S, l[i / 5]? = some S ∧ (spc5 S)[i % 5]? = some v := by
  have hi : i < (scl l).length := (List.getElem?_eq_some_iff.1 h).1
  rw [scl_len] at hi
  have hq : i / 5 < l.length := by omega
  refine ⟨l[i / 5], List.getElem?_eq_getElem hq, ?_⟩
  have hj : i % 5 < (spc5 l[i / 5]).length := by show i % 5 < 5; omega
  have := scl_get l (i / 5) (i % 5) _ _ (List.getElem?_eq_getElem hq) (List.getElem?_eq_getElem hj)
  rw [show i / 5 * 5 + i % 5 = i by omega, h] at this
  rw [List.getElem?_eq_getElem hj, this]
theorem clone_sps (a : Option Addr) (l : List Sp) (cap : Nat) (h1 : 1 ≤ l.length) (h2 : l.length ≤ 64) (n₀ : Nat) (w : World) (h : Sps n₀ w a l) :
    Calls Try.prog 33 #[.slice a l.length cap] w (ClsPost l w) := by
  obtain ⟨b, off, rfl, hb, _⟩ := h 0 (l[0]'(by omega)) (List.getElem?_eq_getElem _)
  obtain ⟨i, hi, he⟩ := Option.map_eq_some_iff.1 info69
  simp only [Prod.mk.injEq] at he
  obtain ⟨hz, hs, hbb⟩ := he
  refine (Try.slices_CloneS i (spv 0 0 0 0 0) 5 40 hi hz hs hbb rfl (by omega) (fun w => Try.sizeOf69 w) b off l.length cap (scl l) w (scl_len l) (Nat.le_trans h2 (by decide)) (by omega) ?_ ?_).mono ?_
  · intro j u hu
    obtain ⟨S, hS, hv⟩ := scl_at hu
    obtain ⟨b', off', e, _, c0, c1, c2, c3, c4⟩ := h _ S hS
    cases e
    have hm : j % 5 < 5 := Nat.mod_lt _ (by omega)
    have hj : off + j = off + j / 5 * 5 + j % 5 := by omega
    rw [hj]
    generalize j % 5 = m at *
    match m, hv with
    | 0, hv => cases hv; exact c0
    | 1, hv => cases hv; exact c1
    | 2, hv => cases hv; exact c2
    | 3, hv => cases hv; exact c3
    | 4, hv => cases hv; exact c4
  · intro u hu
    obtain ⟨S, _, hv⟩ := List.mem_flatMap.1 hu
    simp only [spc5, List.mem_cons, List.not_mem_nil, or_false] at hv
    rcases hv with rfl | rfl | rfl | rfl | rfl <;> rfl
  · rintro e w' ⟨v', rfl, hor, hnn, hb'⟩
    rcases hor.2 with ⟨rfl, _⟩ | ⟨g, cap', cur, rfl, hg, hcur, _⟩
    · exact absurd rfl hnn
    · refine ⟨g, cap', hg, (Array.getElem?_eq_some_iff.1 hcur).1, rfl, ⟨cur.toList, ⟨69, by simpa using hcur⟩, fun k v hv => ?_⟩, hb'⟩
      have hc := hor.cells (g := g) rfl k v hv
      have e : (⟨g, 0, none⟩ : Addr).add k = ⟨g, k, none⟩ := by unfold Addr.add; split <;> simp_all
      rw [e] at hc
      simp only [World.cell?, hcur] at hc
      rw [Array.getElem?_toList]
      exact hc
theorem make_u64 (l c : Int) (h0 : 0 ≤ l) (h1 : l ≤ c) (h2 : c ≤ 1048576) (w : World) :
    (Instr.makeSlice 41 (.int .i64 l) (.int .i64 c)).run Try.prog w = .ok (.slice (some ⟨w.heap.size, 0, none⟩) l.toNat c.toNat) (w.alloc (.cells (zeros c.toNat) 42)) := by
  obtain ⟨i, hi, he⟩ := Option.map_eq_some_iff.1 info49
  simp only [Prod.mk.injEq] at he
  obtain ⟨hz, hs, hb⟩ := he
  have hr := run_make (P := Try.prog) w 41 42 i _ Try.underlying41 hi hz .i64 .i64 l c h0 h1 (by rw [hb]; omega) (by omega)
  rw [hs] at hr
  simp only [Nat.mul_one] at hr
  rw [show (Value.int .u64 0).cells = #[Value.int .u64 0] from rfl, made_zeros] at hr
  exact hr
/-- One that has not begun. -/
def nst0 (tr : Int) : NSt := ⟨0, 0, 0, 0, tr, 0, 0, []⟩
theorem nwf0 {l : List Sp} {tr : Int} (h : flt l tr = 0) : NWf l (nst0 tr) := by
  obtain ⟨h1, h2, h3, h4, h5⟩ := flt_ok h
  exact ⟨h3, h2, by show 0 < l.length; omega, fun v hv => (by cases hv), by show (0 : Int) ≤ 0; omega, by show (0 : Int) ≤ 2; omega, fun _ => ⟨rfl, rfl⟩, fun c => absurd (show (0 : Int) = 1 from c) (by omega), fun c => absurd (show (0 : Int) = 2 from c) (by omega), by show 0 ≤ tr; omega, h5, fun _ => h4⟩
def NNewOp (l : List Sp) (tr : Int) (w : World) (e : Ending) (w' : World) : Prop :=
  ∃ o gs g : Nat, w.heap.size ≤ o ∧ w.heap.size ≤ gs ∧ w.heap.size ≤ g ∧ e = .returned (.tuple #[.pointer (some ⟨o, 0, none⟩), .int .i64 0]) ∧ NAt w' o gs g l (nst0 tr) ∧ Below w.heap.size w w'
set_option maxRecDepth 100000 in
theorem nnew_bad (a : Option Addr) (cap : Nat) (l : List Sp) (tr : Int) (w : World) (hS : Sps w.heap.size w a l) (hl : l.length ≤ 1000000) (h : ¬ flt l tr = 0) :
    Calls Try.prog 10 #[.slice a l.length cap, .int .i64 tr] w (Ret (.tuple #[.pointer none, .int .i64 (flt l tr)]) w) := by
  have Hf := Lib.hid (fault_any a cap l tr w hS hl)
  have m0 : (flt l tr != 0) = true := by simpa using h
  clear hS hl h
  generalize flt l tr = f at *
  generalize l.length = n at *
  go_enter Try.func10, Try.ntmps10
  go_wp2_with fail
  refine Hf.out.mono ?_
  rintro e w1 ⟨rfl, hb1⟩
  have Hb := Lib.hid hb1
  clear hb1
  go_wp2
  go_ret2
  exact ⟨rfl, Hb.out⟩
set_option maxRecDepth 100000 in
set_option maxHeartbeats 1000000 in
theorem nnew_ok (a : Option Addr) (cap : Nat) (l : List Sp) (tr : Int) (w : World) (hS : Sps w.heap.size w a l) (h : flt l tr = 0) :
    Calls Try.prog 10 #[.slice a l.length cap, .int .i64 tr] w (NNewOp l tr w) := by
  obtain ⟨h1, h2, h3, _⟩ := flt_ok h
  have hf := fault_any a cap l tr w hS (by omega)
  rw [h] at hf
  have Hf := Lib.hid hf
  have HS := Lib.hid hS
  have Hc := Lib.hid (fun w (k : Sps w.heap.size w a l) => clone_sps a l cap h1 h2 w.heap.size w k)
  have Hw := Lib.hid (fun w (k : Sps w.heap.size w a l) => width_any a cap l w k h2 h3)
  have hwb := wid_bd l h3
  have hmk := fun W => make_u64 0 ((l.length : Int) + wid l) (Int.le_refl _) (by omega) (by omega) W
  rw [show (0 : Int).toNat = 0 from rfl, show ((l.length : Int) + wid l).toNat = room l by unfold room; omega] at hmk
  have Hmk := Lib.hid hmk
  have hn64 : (l.length : Int) ≤ 64 := by omega
  have hw4 : (wid l : Int) ≤ 4096 := by omega
  obtain ⟨n, hn⟩ : ∃ n, l.length = n := ⟨_, rfl⟩
  have Hn := Lib.hid hn
  rw [hn] at Hf Hc Hw Hmk hn64 ⊢
  clear hf hS h h1 h2 h3 hwb hmk hn
  generalize hz : wid l = z at *
  clear hz
  go_enter Try.func10, Try.ntmps10
  go_wp2_with fail
  refine Hf.out.mono ?_
  rintro e w1 ⟨rfl, hb1⟩
  have Hb1 := Lib.hid hb1
  clear hb1
  go_wp2_with fail
  refine (Hc.out _ (HS.out.next Hb1.out)).mono ?_
  rintro e w2 ⟨gs, cs, hgs, hlt, rfl, hsp, hb2⟩
  have H2 := Lib.hid (And.intro hsp (And.intro (Hb1.out.trans (hb2.mono Hb1.out.size)) (And.intro (Nat.le_trans Hb1.out.size hgs) hlt)))
  clear hsp hb2 hgs hlt
  go_wp2_with fail
  refine (Hw.out _ (HS.out.next H2.out.2.1)).mono ?_
  rintro e w3 ⟨rfl, hb3⟩
  have H3 := Lib.hid (And.intro (H2.out.1.low hb3) (And.intro (H2.out.2.1.trans (hb3.mono H2.out.2.1.size)) hb3.size))
  clear hb3
  go_wp2_with fail
  rw [Hmk.out]
  go_wp2
  go_ret2
  obtain ⟨⟨vs, hp, hpp⟩, hbb, hsz⟩ := H3.out
  have h2s := H2.out.2.2
  refine ⟨w3.heap.size + 1, gs, w3.heap.size, by have := hbb.size; omega, h2s.1, hbb.size, ?_, ⟨⟨cs, ?_⟩, ⟨vs, (hp.alloc _).alloc _, hpp⟩, ⟨_, (Blk.new w3 (zeros (room l)) 42).alloc _, by simp [zeros], fun i v c => by cases c⟩, by omega, by omega, by omega⟩, (hbb.alloc hbb.size _).alloc (by have := hbb.size; simp; omega) _⟩
  · simp
  · have := Blk.new (w3.alloc (.cells (zeros (room l)) 42)) (ndc l gs cs w3.heap.size (nst0 tr)).toArray 94
    simp only [World.size_alloc] at this
    simpa [ndc, nst0, Hn.out] using this
/-- How many steps it may do. -/
def nmst (l : List Sp) (tr : Int) : Int := if flt l tr = 0 then tr * (2 * l.length + wid l) else 0
set_option maxRecDepth 100000 in
set_option maxHeartbeats 1000000 in
theorem nmost_any (a : Option Addr) (cap : Nat) (l : List Sp) (tr : Int) (w : World) (hS : Sps w.heap.size w a l) (hl : l.length ≤ 1000000) :
    Calls Try.prog 13 #[.slice a l.length cap, .int .i64 tr] w (Ret (.int .i64 (nmst l tr)) w) := by
  have Hf := Lib.hid (fault_any a cap l tr w hS hl)
  unfold nmst
  by_cases h : flt l tr = 0
  · rw [if_pos h]
    rw [h] at Hf
    obtain ⟨h1, h2, h3, h4, h5⟩ := flt_ok h
    have Hw := Lib.hid (fun w (k : Sps w.heap.size w a l) => width_any a cap l w k h2 h3)
    have hwb := wid_bd l h3
    have hn64 : (l.length : Int) ≤ 64 := by omega
    have hw4 : (wid l : Int) ≤ 4096 := by omega
    obtain ⟨m1, m2⟩ := mul_bd (m := 16) (n := 5000) (by omega : 0 ≤ tr) h5 (by omega : 0 ≤ 2 * (l.length : Int) + wid l) (by omega)
    have HS := Lib.hid hS
    clear hS hl h h1 h2 h3 h4 h5 hwb
    generalize wid l = z at *
    generalize l.length = n at *
    go_enter Try.func13, Try.ntmps13
    go_wp2_with fail
    refine Hf.out.mono ?_
    rintro e w1 ⟨rfl, hb1⟩
    have Hb1 := Lib.hid hb1
    clear hb1
    go_wp2_with fail
    refine (Hw.out _ (HS.out.next Hb1.out)).mono ?_
    rintro e w2 ⟨rfl, hb2⟩
    have Hb2 := Lib.hid (Hb1.out.trans (hb2.mono Hb1.out.size))
    clear hb2
    go_wp2
    go_ret
    exact ⟨rfl, Hb2.out⟩
  · rw [if_neg h]
    have m0 : (flt l tr != 0) = true := by simpa using h
    clear hS hl h
    generalize flt l tr = f at *
    generalize l.length = n at *
    go_enter Try.func13, Try.ntmps13
    go_wp2_with fail
    refine Hf.out.mono ?_
    rintro e w1 ⟨rfl, hb1⟩
    have Hb := Lib.hid hb1
    clear hb1
    go_wp2
    go_ret
    exact ⟨rfl, Hb.out⟩
end Go.Proofs.Ytflgggfomhifeaa
