/- codec.Decode: its contract. -/
import Derived.Test.YtenbbnmhgpclkaaDoorDecM
namespace Go.Proofs.YtenbbnmhgpclkaaDoor
open Go.RowKit

attribute [local go_sem] run_store_cx

theorem info43 : (Tryd.prog.info? 43).map (fun i => (i.zero, i.size, i.bytes)) = some (some (.agg #[.int .i64 0, .complex .f64 0 0]), 2, 24) := by kernel_rfl
theorem vz_at : ∀ (n i : Nat), i < n * 2 → (vcl (vhl [] n))[i]? = some (if i % 2 = 0 then .int .i64 0 else z0)
  | 0, i, h => by omega
  | n + 1, 0, _ => by simp [vcl, vhl, List.replicate_succ]
  | n + 1, 1, _ => by simp [vcl, vhl, List.replicate_succ]
  | n + 1, i + 2, h => by
    have e : vcl (vhl [] (n + 1)) = .int .i64 0 :: z0 :: vcl (vhl [] n) := by simp [vcl, vhl, List.replicate_succ]
    rw [e, List.getElem?_cons_succ, List.getElem?_cons_succ, vz_at n i (by omega), Nat.add_mod_right]
theorem made_vals (n : Nat) : madeCells #[.int .i64 0, .complex .f64 0 0] (n * 2) = (vcl (vhl [] n)).toArray := by
  apply Array.ext
  · simp [madeCells, vcl_len, vhl]
  · intro i h1 h2
    have h3 : i < n * 2 := by simpa [madeCells] using h1
    have h4 := vz_at n i h3
    have h5 : (vcl (vhl [] n))[i]'(by simpa using h2) = if i % 2 = 0 then .int .i64 0 else z0 := by
      have := List.getElem?_eq_some_iff.1 h4
      exact this.2
    have : i % 2 = 0 ∨ i % 2 = 1 := by omega
    rcases this with h | h <;> simp [madeCells, h, h5, z0]
theorem make_vals (n : Nat) (h : n ≤ 256) (w : World) :
    (Instr.makeSlice 35 (.int .i64 n) (.int .i64 n)).run Tryd.prog w = .ok (.slice (some ⟨w.heap.size, 0, none⟩) n n) (w.alloc (.cells (vcl (vhl [] n)).toArray 43)) := by
  obtain ⟨i, hi, he⟩ := Option.map_eq_some_iff.1 info43
  simp only [Prod.mk.injEq] at he
  obtain ⟨hz, hs, hb⟩ := he
  have hr := run_make (P := Tryd.prog) w 35 43 i _ Tryd.underlying35 hi hz .i64 .i64 n n (by omega) (by omega) (by rw [hb]; omega) (by omega)
  rw [hs] at hr
  simp only [Int.toNat_natCast] at hr
  rw [show (Value.agg #[Value.int .i64 0, Value.complex .f64 0 0]).cells = #[Value.int .i64 0, Value.complex .f64 0 0] from rfl, made_vals] at hr
  exact hr

set_option maxRecDepth 100000 in
set_option maxHeartbeats 1000000 in
theorem decode_pl (a : Option Addr) (cap : Nat) (l : List (Int × Int)) (a2 : Option Addr) (cap2 : Nat) (ws : List Nat) (w : World) (hP : Prs w.heap.size w a l) (hK : KD w) (h : plErr l ≠ 0) :
    Calls Tryd.prog 14 #[.slice a l.length cap, .slice a2 ws.length cap2] w (DecPost l ws w) := by
  have hE := dErr_pl (ws := ws) h
  have HE := Lib.hid hE
  clear hE
  have h' : (plErr l != 0) = true := by simpa using h
  have Hh := Lib.hid h
  clear h
  go_enter Tryd.func14, Tryd.ntmps14
  go_wp2_with fail
  refine (places_any a _ cap l w rfl hP hK).mono ?_
  rintro e w1 ⟨a1, c1, rfl, hb1, hA⟩
  generalize plErr l = er at *
  go_wp2
  go_ret2
  exact DecPost.bad HE.out Hh.out hb1

set_option maxRecDepth 100000 in
set_option maxHeartbeats 1000000 in
theorem decode_len (a : Option Addr) (cap : Nat) (l : List (Int × Int)) (a2 : Option Addr) (cap2 : Nat) (ws : List Nat) (w : World) (hP : Prs w.heap.size w a l) (hK : KD w) (h : plErr l = 0) (h2 : (ws.length : Int) ≠ plN l) :
    Calls Tryd.prog 14 #[.slice a l.length cap, .slice a2 ws.length cap2] w (DecPost l ws w) := by
  have hE := dErr_len h h2
  have HE := Lib.hid (And.intro hE h)
  have h' : ((ws.length : Int) != plN l) = true := by simpa using h2
  clear hE h h2
  go_enter Tryd.func14, Tryd.ntmps14
  go_wp2_with fail
  refine (places_any a _ cap l w rfl hP hK).mono ?_
  rintro e w1 ⟨a1, c1, rfl, hb1, hA⟩
  rw [HE.out.2]
  generalize plN l = nn at *
  go_wp2
  go_ret2
  exact DecPost.bad HE.out.1 (by decide) hb1

/-- At the head of Decode's first loop: w1 is the world behind Places, g the block of words that are left. -/
def RelD (w1 : World) (l pp : List (Int × Int)) (ws : List Nat) (g : Nat) (tl : List Value) (s37 : Value) (wr : World) : Prop :=
  ∃ (k : Nat) (ls : List Nat), k ≤ l.length ∧ s37 = .int .i64 k ∧ DSt l pp ws k ls ∧ Blk wr w1.heap.size (vcl (vhl ((dV ws l pp).take k) (l.length - k))) ∧ Blk wr g (us ls ++ tl) ∧ Below w1.heap.size w1 wr

set_option maxRecDepth 100000 in
set_option maxHeartbeats 8000000 in
theorem decode_in (a : Option Addr) (cap : Nat) (l : List (Int × Int)) (a2 : Option Addr) (cap2 : Nat) (ws : List Nat) (w : World) (hP : Prs w.heap.size w a l) (hW : Words w.heap.size w a2 ws) (hK : KD w) (h : plErr l = 0) (h2 : (ws.length : Int) = plN l) :
    Calls Tryd.prog 14 #[.slice a l.length cap, .slice a2 ws.length cap2] w (DecPost l ws w) := by
  obtain ⟨hn1, hl0, hl256⟩ := plN_pos h
  obtain ⟨_, _, _, hn64, hpl⟩ := plErr_take h (k := 1) (by omega) (by omega)
  have hin := plP_in h
  obtain ⟨i0, hi, hz0, hz1, hz2⟩ := info_parts info61
  have hw0 : 0 < ws.length := by omega
  have hw64 : ws.length ≤ 64 := by omega
  have hmk := make_vals l.length hl256
  have Hh := Lib.hid (And.intro h (And.intro h2 (And.intro hin hpl)))
  have h2' : ((ws.length : Int) != plN l) = false := by simp [h2]
  clear h h2 hin hpl
  go_enter Tryd.func14, Tryd.ntmps14
  go_wp2_with fail
  refine (places_any a _ cap l w rfl hP hK).mono ?_
  rintro e w1 ⟨a1, c1, rfl, hb1, hA⟩
  rw [Hh.out.1, Hh.out.2.2.2]
  have hP1 := hP.next hb1
  have hW1 := hW.next hb1
  clear hP hW hK
  obtain ⟨x0, hx0⟩ : ∃ x, ws[0]? = some x := ⟨ws[0], List.getElem?_eq_getElem hw0⟩
  obtain ⟨_, wb, wo, rfl, hwb, _⟩ := hW1 0 x0 hx0
  have hwc : ∀ (j x : Nat), ws[j]? = some x → w1.cell? ⟨wb, wo + j, none⟩ = some (.int .u64 (x : Int)) := fun j x hj => by
    obtain ⟨_, b', o', he, _, hc⟩ := hW1 j x hj
    cases he
    exact hc
  have hww : ∀ x ∈ ws, W64 x := fun x hx => by
    obtain ⟨j, hj, rfl⟩ := List.mem_iff_getElem.1 hx
    exact (hW1 j _ (List.getElem?_eq_getElem hj)).1
  have HW := Lib.hid (And.intro hwc hww)
  clear hW1 hx0 hwc hww
  have hN := Blk.new w1 (vcl (vhl [] l.length)).toArray 43
  have hB := (Below.refl w1.heap.size w1).alloc (Nat.le_refl _) (.cells (vcl (vhl [] l.length)).toArray 43)
  have hsz : (w1.alloc (.cells (vcl (vhl [] l.length)).toArray 43)).heap.size = w1.heap.size + 1 := by simp
  have HN := Lib.hid (And.intro hN (And.intro hB hsz))
  clear hN hB hsz
  have hml : 0 + ws.length ≤ maxLen := by
    have : 100 ≤ maxLen := by decide
    omega
  generalize hnnE : plN l = nn at *
  have Hnn := Lib.hid hnnE
  clear hnnE
  generalize hppE : plP l = pp at *
  have Hpp := Lib.hid hppE
  clear hppE
  go_wp2_with (at_builtin; refine wpList_append_own _ rfl _ _ 34 rfl (w1.heap.size + 1) 61 i0 (.int .u64 0) 1 8 Tryd.underlying34 hi hz0 hz1 hz2 rfl (by decide) (.slice none 0 0) 0 [] rfl (World.ownsRow_nil _ _ _ _) ⟨wb, wo, none⟩ ws.length cap2 (us ws) rfl (by rw [us_len]; omega) (fun j u hj => by rw [add_none']; obtain ⟨x, hx, rfl⟩ := us_mem hj; exact (HN.out.2.1.cell (p := ⟨wb, wo + j, none⟩) hwb).trans (HW.out.1 j x hx)) (fun u hu => by obtain ⟨x, _, rfl⟩ := List.mem_map.1 hu; rfl) hml (by omega) (by rw [HN.out.2.2]; omega) ?_; intro v' w2 hown' hgrow hnil; rw [Nat.zero_add, List.nil_append] at hown'; obtain ⟨g, cg, tl, rfl, hgb, hG⟩ := owns_blk hown' hw0; have hV2 : Blk w2 w1.heap.size (vcl (vhl [] l.length)) := HN.out.1.of_block (hgrow.block _ (by rw [HN.out.2.2]; omega) (by simp [Value.ownBlock])); have hB2 : Below w1.heap.size w1 w2 := HN.out.2.1.grown hgrow (by rw [HN.out.2.2]; omega) (fun q e => by simp [Value.ownBlock] at e); clear hgrow hown' hnil)
  have HD := Lib.hid (And.intro hG (And.intro hV2 hB2))
  clear hG hV2 hB2 HN hmk
  go_loopw [37] (RelD w1 l pp ws g tl) (fun i _ => l.length - (intOf i).toNat)
  case atStart =>
    exact ⟨0, ws, by omega, rfl, DSt.start HW.out.2, HD.out.2.1, HD.out.1, HD.out.2.2⟩
  case round =>
    obtain ⟨k, ls, hk, rfl, hst, hbv, hbl, hb⟩ := hrel
    clear HD
    have hs := hb.size
    by_cases hlt : k < l.length
    · obtain ⟨⟨kd', n'⟩, hz⟩ : ∃ z, l[k]? = some z := ⟨l[k], List.getElem?_eq_getElem hlt⟩
      obtain ⟨⟨x', y'⟩, hq⟩ : ∃ z, pp[k]? = some z := ⟨pp[k]'(by rw [Hh.out.2.2.2]; exact hlt), List.getElem?_eq_getElem _⟩
      obtain ⟨j1, j2, j3, j4, j5⟩ := Hh.out.2.2.1 k _ _ hq hz
      obtain ⟨m1, m2, _, _, m5, m6⟩ := ok_bad j5
      obtain ⟨kd, rfl⟩ : ∃ q : Nat, kd' = q := ⟨kd'.toNat, by simp at m1; omega⟩
      obtain ⟨n, rfl⟩ : ∃ q : Nat, n' = q := ⟨n'.toNat, by simp at m5; omega⟩
      obtain ⟨x, rfl⟩ : ∃ q : Nat, x' = q := ⟨x'.toNat, by simp at j1; omega⟩
      obtain ⟨y, rfl⟩ : ∃ q : Nat, y' = q := ⟨y'.toNat, by simp at j3; omega⟩
      have hyn : y + n ≤ 64 := by simp at j4; omega
      have hn1' : 1 ≤ n := by simp at m5; omega
      have hxw : x < ws.length := by have := Hh.out.2.1; simp at j2; omega
      obtain ⟨u, hu⟩ : ∃ u, ws[x]? = some u := ⟨ws[x], List.getElem?_eq_getElem hxw⟩
      obtain ⟨lf, hlf⟩ : ∃ u, ls[x]? = some u := ⟨ls[x]'(by rw [hst.len]; exact hxw), List.getElem?_eq_getElem _⟩
      have hu64 : W64 u := HW.out.2 u (List.mem_of_getElem? hu)
      have hlf64 : W64 lf := hst.w64 lf (List.mem_of_getElem? hlf)
      obtain ⟨pb, po, rfl, hpb, c0, c1⟩ := hP1 k _ hz
      obtain ⟨ab, ao, rfl, hab, e0, e1⟩ := hA k _ hq
      have c0' : wr.cell? ⟨pb, po + k * 2, none⟩ = some (.int .i64 kd) := (hb.cell (p := ⟨pb, po + k * 2, none⟩) hpb).trans c0
      have c1' : wr.cell? ⟨pb, po + k * 2 + 1, none⟩ = some (.int .i64 n) := (hb.cell (p := ⟨pb, po + k * 2 + 1, none⟩) hpb).trans c1
      have e0' : wr.cell? ⟨ab, ao + k * 2, none⟩ = some (.int .i64 x) := (hb.cell (p := ⟨ab, ao + k * 2, none⟩) hab).trans e0
      have e1' : wr.cell? ⟨ab, ao + k * 2 + 1, none⟩ = some (.int .i64 y) := (hb.cell (p := ⟨ab, ao + k * 2 + 1, none⟩) hab).trans e1
      have hwc : wr.cell? ⟨wb, wo + x, none⟩ = some (.int .u64 u) := (hb.cell (p := ⟨wb, wo + x, none⟩) hwb).trans (HW.out.1 x u hu)
      have hst' := hst.next hz hq hlf hyn
      have htk := dV_take (ws := ws) hz hq
      have hdv : dv1 ws ((kd : Int), (n : Int)) ((x : Int), (y : Int)) = (dvN kd y n u, dvZ kd u) := by
        unfold dv1
        simp only [Int.toNat_natCast]
        rw [List.getD_eq_getElem?_getD, hu]
        rfl
      rw [hdv] at htk
      have hlk : ((dV ws l pp).take k).length = k := by
        rw [List.length_take, dV_len Hh.out.2.2.2]
        omega
      have hM : DM w1 w1.heap.size (vcl (vhl ((dV ws l pp).take k) (l.length - (k + 1) + 1))) g (us ls ++ tl) wr := ⟨by rw [show l.length - (k + 1) + 1 = l.length - k by omega]; exact hbv, hbl, hb⟩
      have hxl : x < (us ls).length := by rw [us_len, hst.len]; exact hxw
      obtain ⟨za, zb, hzz⟩ := dvZ_form kd u
      obtain ⟨N, hNN⟩ : ∃ N, dvN kd y n u = N := ⟨_, rfl⟩
      have Hget := Lib.hid (And.intro (show (dvN kd y n u, dvZ kd u) = (N, Value.complex .f64 za zb) by rw [hNN, hzz]) (fun W : World => show Calls Tryd.prog 24 #[.int .u64 u, .int .i64 kd, fld y n] W (Ret (.agg #[.int .i64 N, .complex .f64 za zb]) W) by have := get_any u kd y n W j5 hyn hu64; rw [hNN, hzz] at this; exact this))
      clear hzz hNN
      have hS1 : SC [(ab, ao + k * 2, .int .i64 (x : Int)), (ab, ao + k * 2 + 1, .int .i64 (y : Int)), (wb, wo + x, .int .u64 (u : Int))] wr := SC.cons (SC.cons (SC.cons (SC.nil _) hwc) e1') e0'
      have HR := Lib.hid (And.intro hst' (And.intro htk (And.intro hlk (And.intro j5 (And.intro hlf (And.intro hxl (And.intro hM hS1)))))))
      have hgl := hbl.lt
      have hg1 := hbv.lt
      clear c0 c1 e0 e1 hst hbv hbl htk hlk hdv hst' hM hS1 j1 j2 j3 j4 j5 m1 m2 m5 m6 hz hq hu hlf hxl e0' e1' hwc
      go_wp2_with fail
      have hV := Blk.new wr #[.int .i64 (kd : Int), .int .i64 (n : Int)] 47
      have hM1 := HR.out.2.2.2.2.2.2.1.alloc (.cells #[.int .i64 (kd : Int), .int .i64 (n : Int)] 47)
      have hS2 := SC.cons (SC.cons (HR.out.2.2.2.2.2.2.2.alloc (.cells #[.int .i64 (kd : Int), .int .i64 (n : Int)] 47)) (hV.cell (i := 1) rfl)) (hV.cell (i := 0) rfl)
      have HS := Lib.hid (And.intro hM1 hS2)
      clear hV hM1 hS2 c0' c1' hb
      have hvg1 : wr.heap.size ≠ w1.heap.size := by omega
      have hvg : wr.heap.size ≠ g := by omega
      have hsz1 : wr.heap.size < (wr.alloc (.cells #[.int .i64 (kd : Int), .int .i64 (n : Int)] 47)).heap.size := by simp
      generalize wr.alloc (.cells #[.int .i64 (kd : Int), .int .i64 (n : Int)] 47) = W1 at *
      have hxi : (x : Int) < ws.length := by omega
      have hki : (k : Int) < l.length := by omega
      generalize wr.heap.size = v at *
      refine wp_region_held_drew (S := SC [(v, 0, .int .i64 (kd : Int)), (v, 1, .int .i64 (n : Int)), (ab, ao + k * 2, .int .i64 (x : Int)), (ab, ao + k * 2 + 1, .int .i64 (y : Int)), (wb, wo + x, .int .u64 (u : Int))]) (by kernel_rfl) (HS.out.2) (fun hHeld => ?_)
      refine wpAnyH_take (i := 0) (v := ?v59) rfl (by kernel_rfl) (by kernel_rfl) (by kernel_rfl) (fun _ _ _ h => h) (Or.inl ⟨by rfl, ?y59⟩) hHeld ?r59
      case y59 => (intro w hSw; have q0 : w.cell? ⟨v, 0, none⟩ = some (.int .i64 (kd : Int)) := hSw (v, 0, .int .i64 (kd : Int)) List.mem_cons_self; have q1 : w.cell? ⟨v, 1, none⟩ = some (.int .i64 (n : Int)) := hSw (v, 1, .int .i64 (n : Int)) (List.mem_cons_of_mem _ List.mem_cons_self); have q2 : w.cell? ⟨ab, ao + k * 2, none⟩ = some (.int .i64 (x : Int)) := hSw (ab, ao + k * 2, .int .i64 (x : Int)) (List.mem_cons_of_mem _ (List.mem_cons_of_mem _ List.mem_cons_self)); have q3 : w.cell? ⟨ab, ao + k * 2 + 1, none⟩ = some (.int .i64 (y : Int)) := hSw (ab, ao + k * 2 + 1, .int .i64 (y : Int)) (List.mem_cons_of_mem _ (List.mem_cons_of_mem _ (List.mem_cons_of_mem _ List.mem_cons_self))); have q4 : w.cell? ⟨wb, wo + x, none⟩ = some (.int .u64 (u : Int)) := hSw (wb, wo + x, .int .u64 (u : Int)) (List.mem_cons_of_mem _ (List.mem_cons_of_mem _ (List.mem_cons_of_mem _ (List.mem_cons_of_mem _ List.mem_cons_self)))); go_simp; try with_reducible rfl)
      simp only [List.getElem_toArray, List.getElem_cons_zero, Act.put, List.setIfInBounds_toArray, List.set_cons_zero, List.set_cons_succ]
      refine wpAnyH_take (i := 1) (v := ?v60) rfl (by kernel_rfl) (by kernel_rfl) (by kernel_rfl) (fun _ _ _ h => h) (Or.inl ⟨by rfl, ?y60⟩) hHeld ?r60
      case y60 => (intro w hSw; have q0 : w.cell? ⟨v, 0, none⟩ = some (.int .i64 (kd : Int)) := hSw (v, 0, .int .i64 (kd : Int)) List.mem_cons_self; have q1 : w.cell? ⟨v, 1, none⟩ = some (.int .i64 (n : Int)) := hSw (v, 1, .int .i64 (n : Int)) (List.mem_cons_of_mem _ List.mem_cons_self); have q2 : w.cell? ⟨ab, ao + k * 2, none⟩ = some (.int .i64 (x : Int)) := hSw (ab, ao + k * 2, .int .i64 (x : Int)) (List.mem_cons_of_mem _ (List.mem_cons_of_mem _ List.mem_cons_self)); have q3 : w.cell? ⟨ab, ao + k * 2 + 1, none⟩ = some (.int .i64 (y : Int)) := hSw (ab, ao + k * 2 + 1, .int .i64 (y : Int)) (List.mem_cons_of_mem _ (List.mem_cons_of_mem _ (List.mem_cons_of_mem _ List.mem_cons_self))); have q4 : w.cell? ⟨wb, wo + x, none⟩ = some (.int .u64 (u : Int)) := hSw (wb, wo + x, .int .u64 (u : Int)) (List.mem_cons_of_mem _ (List.mem_cons_of_mem _ (List.mem_cons_of_mem _ (List.mem_cons_of_mem _ List.mem_cons_self)))); go_simp; try with_reducible rfl)
      simp only [List.getElem_toArray, List.getElem_cons_zero, List.getElem_cons_succ, Act.put, List.setIfInBounds_toArray, List.set_cons_zero, List.set_cons_succ]
      refine wpAnyH_take (i := 2) (v := ?v61) rfl (by kernel_rfl) (by kernel_rfl) (by kernel_rfl) (fun _ _ _ h => h) (Or.inl ⟨by rfl, ?y61⟩) hHeld ?r61
      case y61 => (intro w hSw; have q0 : w.cell? ⟨v, 0, none⟩ = some (.int .i64 (kd : Int)) := hSw (v, 0, .int .i64 (kd : Int)) List.mem_cons_self; have q1 : w.cell? ⟨v, 1, none⟩ = some (.int .i64 (n : Int)) := hSw (v, 1, .int .i64 (n : Int)) (List.mem_cons_of_mem _ List.mem_cons_self); have q2 : w.cell? ⟨ab, ao + k * 2, none⟩ = some (.int .i64 (x : Int)) := hSw (ab, ao + k * 2, .int .i64 (x : Int)) (List.mem_cons_of_mem _ (List.mem_cons_of_mem _ List.mem_cons_self)); have q3 : w.cell? ⟨ab, ao + k * 2 + 1, none⟩ = some (.int .i64 (y : Int)) := hSw (ab, ao + k * 2 + 1, .int .i64 (y : Int)) (List.mem_cons_of_mem _ (List.mem_cons_of_mem _ (List.mem_cons_of_mem _ List.mem_cons_self))); have q4 : w.cell? ⟨wb, wo + x, none⟩ = some (.int .u64 (u : Int)) := hSw (wb, wo + x, .int .u64 (u : Int)) (List.mem_cons_of_mem _ (List.mem_cons_of_mem _ (List.mem_cons_of_mem _ (List.mem_cons_of_mem _ List.mem_cons_self)))); go_simp; try with_reducible rfl)
      simp only [List.getElem_toArray, List.getElem_cons_zero, List.getElem_cons_succ, Act.put, List.setIfInBounds_toArray, List.set_cons_zero, List.set_cons_succ]
      refine wpAnyH_take (i := 3) (v := ?v62) rfl (by kernel_rfl) (by kernel_rfl) (by kernel_rfl) (fun _ _ _ h => h) (Or.inl ⟨by rfl, ?y62⟩) hHeld ?r62
      case y62 => (intro w hSw; have q0 : w.cell? ⟨v, 0, none⟩ = some (.int .i64 (kd : Int)) := hSw (v, 0, .int .i64 (kd : Int)) List.mem_cons_self; have q1 : w.cell? ⟨v, 1, none⟩ = some (.int .i64 (n : Int)) := hSw (v, 1, .int .i64 (n : Int)) (List.mem_cons_of_mem _ List.mem_cons_self); have q2 : w.cell? ⟨ab, ao + k * 2, none⟩ = some (.int .i64 (x : Int)) := hSw (ab, ao + k * 2, .int .i64 (x : Int)) (List.mem_cons_of_mem _ (List.mem_cons_of_mem _ List.mem_cons_self)); have q3 : w.cell? ⟨ab, ao + k * 2 + 1, none⟩ = some (.int .i64 (y : Int)) := hSw (ab, ao + k * 2 + 1, .int .i64 (y : Int)) (List.mem_cons_of_mem _ (List.mem_cons_of_mem _ (List.mem_cons_of_mem _ List.mem_cons_self))); have q4 : w.cell? ⟨wb, wo + x, none⟩ = some (.int .u64 (u : Int)) := hSw (wb, wo + x, .int .u64 (u : Int)) (List.mem_cons_of_mem _ (List.mem_cons_of_mem _ (List.mem_cons_of_mem _ (List.mem_cons_of_mem _ List.mem_cons_self)))); go_simp; try with_reducible rfl)
      simp only [List.getElem_toArray, List.getElem_cons_zero, List.getElem_cons_succ, Act.put, List.setIfInBounds_toArray, List.set_cons_zero, List.set_cons_succ]
      refine wpAnyH_take (i := 4) (v := ?v63) rfl (by kernel_rfl) (by kernel_rfl) (by kernel_rfl) (fun _ _ _ h => h) (Or.inl ⟨by rfl, ?y63⟩) hHeld ?r63
      case y63 => (intro w hSw; have q0 : w.cell? ⟨v, 0, none⟩ = some (.int .i64 (kd : Int)) := hSw (v, 0, .int .i64 (kd : Int)) List.mem_cons_self; have q1 : w.cell? ⟨v, 1, none⟩ = some (.int .i64 (n : Int)) := hSw (v, 1, .int .i64 (n : Int)) (List.mem_cons_of_mem _ List.mem_cons_self); have q2 : w.cell? ⟨ab, ao + k * 2, none⟩ = some (.int .i64 (x : Int)) := hSw (ab, ao + k * 2, .int .i64 (x : Int)) (List.mem_cons_of_mem _ (List.mem_cons_of_mem _ List.mem_cons_self)); have q3 : w.cell? ⟨ab, ao + k * 2 + 1, none⟩ = some (.int .i64 (y : Int)) := hSw (ab, ao + k * 2 + 1, .int .i64 (y : Int)) (List.mem_cons_of_mem _ (List.mem_cons_of_mem _ (List.mem_cons_of_mem _ List.mem_cons_self))); have q4 : w.cell? ⟨wb, wo + x, none⟩ = some (.int .u64 (u : Int)) := hSw (wb, wo + x, .int .u64 (u : Int)) (List.mem_cons_of_mem _ (List.mem_cons_of_mem _ (List.mem_cons_of_mem _ (List.mem_cons_of_mem _ List.mem_cons_self)))); go_simp; try with_reducible rfl)
      simp only [List.getElem_toArray, List.getElem_cons_zero, List.getElem_cons_succ, Act.put, List.setIfInBounds_toArray, List.set_cons_zero, List.set_cons_succ]
      refine wpAnyH_take (i := 5) (v := ?v64) rfl (by kernel_rfl) (by kernel_rfl) (by kernel_rfl) (fun _ _ _ h => h) (Or.inl ⟨by rfl, ?y64⟩) hHeld ?r64
      case y64 => (intro w hSw; have q0 : w.cell? ⟨v, 0, none⟩ = some (.int .i64 (kd : Int)) := hSw (v, 0, .int .i64 (kd : Int)) List.mem_cons_self; have q1 : w.cell? ⟨v, 1, none⟩ = some (.int .i64 (n : Int)) := hSw (v, 1, .int .i64 (n : Int)) (List.mem_cons_of_mem _ List.mem_cons_self); have q2 : w.cell? ⟨ab, ao + k * 2, none⟩ = some (.int .i64 (x : Int)) := hSw (ab, ao + k * 2, .int .i64 (x : Int)) (List.mem_cons_of_mem _ (List.mem_cons_of_mem _ List.mem_cons_self)); have q3 : w.cell? ⟨ab, ao + k * 2 + 1, none⟩ = some (.int .i64 (y : Int)) := hSw (ab, ao + k * 2 + 1, .int .i64 (y : Int)) (List.mem_cons_of_mem _ (List.mem_cons_of_mem _ (List.mem_cons_of_mem _ List.mem_cons_self))); have q4 : w.cell? ⟨wb, wo + x, none⟩ = some (.int .u64 (u : Int)) := hSw (wb, wo + x, .int .u64 (u : Int)) (List.mem_cons_of_mem _ (List.mem_cons_of_mem _ (List.mem_cons_of_mem _ (List.mem_cons_of_mem _ List.mem_cons_self)))); go_simp; try with_reducible rfl)
      simp only [List.getElem_toArray, List.getElem_cons_zero, List.getElem_cons_succ, Act.put, List.setIfInBounds_toArray, List.set_cons_zero, List.set_cons_succ]
      refine wpAnyH_take (i := 6) (v := ?v65) rfl (by kernel_rfl) (by kernel_rfl) (by kernel_rfl) (fun _ _ _ h => h) (Or.inl ⟨by rfl, ?y65⟩) hHeld ?r65
      case y65 => (intro w hSw; have q0 : w.cell? ⟨v, 0, none⟩ = some (.int .i64 (kd : Int)) := hSw (v, 0, .int .i64 (kd : Int)) List.mem_cons_self; have q1 : w.cell? ⟨v, 1, none⟩ = some (.int .i64 (n : Int)) := hSw (v, 1, .int .i64 (n : Int)) (List.mem_cons_of_mem _ List.mem_cons_self); have q2 : w.cell? ⟨ab, ao + k * 2, none⟩ = some (.int .i64 (x : Int)) := hSw (ab, ao + k * 2, .int .i64 (x : Int)) (List.mem_cons_of_mem _ (List.mem_cons_of_mem _ List.mem_cons_self)); have q3 : w.cell? ⟨ab, ao + k * 2 + 1, none⟩ = some (.int .i64 (y : Int)) := hSw (ab, ao + k * 2 + 1, .int .i64 (y : Int)) (List.mem_cons_of_mem _ (List.mem_cons_of_mem _ (List.mem_cons_of_mem _ List.mem_cons_self))); have q4 : w.cell? ⟨wb, wo + x, none⟩ = some (.int .u64 (u : Int)) := hSw (wb, wo + x, .int .u64 (u : Int)) (List.mem_cons_of_mem _ (List.mem_cons_of_mem _ (List.mem_cons_of_mem _ (List.mem_cons_of_mem _ List.mem_cons_self)))); go_simp; try with_reducible rfl)
      simp only [List.getElem_toArray, List.getElem_cons_zero, List.getElem_cons_succ, Act.put, List.setIfInBounds_toArray, List.set_cons_zero, List.set_cons_succ]
      refine wpAnyH_take (i := 7) (v := ?v66) rfl (by kernel_rfl) (by kernel_rfl) (by kernel_rfl) (fun _ _ _ h => h) (Or.inl ⟨by rfl, ?y66⟩) hHeld ?r66
      case y66 => (intro w hSw; have q0 : w.cell? ⟨v, 0, none⟩ = some (.int .i64 (kd : Int)) := hSw (v, 0, .int .i64 (kd : Int)) List.mem_cons_self; have q1 : w.cell? ⟨v, 1, none⟩ = some (.int .i64 (n : Int)) := hSw (v, 1, .int .i64 (n : Int)) (List.mem_cons_of_mem _ List.mem_cons_self); have q2 : w.cell? ⟨ab, ao + k * 2, none⟩ = some (.int .i64 (x : Int)) := hSw (ab, ao + k * 2, .int .i64 (x : Int)) (List.mem_cons_of_mem _ (List.mem_cons_of_mem _ List.mem_cons_self)); have q3 : w.cell? ⟨ab, ao + k * 2 + 1, none⟩ = some (.int .i64 (y : Int)) := hSw (ab, ao + k * 2 + 1, .int .i64 (y : Int)) (List.mem_cons_of_mem _ (List.mem_cons_of_mem _ (List.mem_cons_of_mem _ List.mem_cons_self))); have q4 : w.cell? ⟨wb, wo + x, none⟩ = some (.int .u64 (u : Int)) := hSw (wb, wo + x, .int .u64 (u : Int)) (List.mem_cons_of_mem _ (List.mem_cons_of_mem _ (List.mem_cons_of_mem _ (List.mem_cons_of_mem _ List.mem_cons_self)))); go_simp; try with_reducible rfl)
      simp only [List.getElem_toArray, List.getElem_cons_zero, List.getElem_cons_succ, Act.put, List.setIfInBounds_toArray, List.set_cons_zero, List.set_cons_succ]
      refine wpAnyH_take (i := 8) (v := ?v67) rfl (by kernel_rfl) (by kernel_rfl) (by kernel_rfl) (fun _ _ _ h => h) (Or.inl ⟨by rfl, ?y67⟩) hHeld ?r67
      case y67 => (intro w hSw; have q0 : w.cell? ⟨v, 0, none⟩ = some (.int .i64 (kd : Int)) := hSw (v, 0, .int .i64 (kd : Int)) List.mem_cons_self; have q1 : w.cell? ⟨v, 1, none⟩ = some (.int .i64 (n : Int)) := hSw (v, 1, .int .i64 (n : Int)) (List.mem_cons_of_mem _ List.mem_cons_self); have q2 : w.cell? ⟨ab, ao + k * 2, none⟩ = some (.int .i64 (x : Int)) := hSw (ab, ao + k * 2, .int .i64 (x : Int)) (List.mem_cons_of_mem _ (List.mem_cons_of_mem _ List.mem_cons_self)); have q3 : w.cell? ⟨ab, ao + k * 2 + 1, none⟩ = some (.int .i64 (y : Int)) := hSw (ab, ao + k * 2 + 1, .int .i64 (y : Int)) (List.mem_cons_of_mem _ (List.mem_cons_of_mem _ (List.mem_cons_of_mem _ List.mem_cons_self))); have q4 : w.cell? ⟨wb, wo + x, none⟩ = some (.int .u64 (u : Int)) := hSw (wb, wo + x, .int .u64 (u : Int)) (List.mem_cons_of_mem _ (List.mem_cons_of_mem _ (List.mem_cons_of_mem _ (List.mem_cons_of_mem _ List.mem_cons_self)))); go_simp; try with_reducible rfl)
      simp only [List.getElem_toArray, List.getElem_cons_zero, List.getElem_cons_succ, Act.put, List.setIfInBounds_toArray, List.set_cons_zero, List.set_cons_succ]
      refine wpAnyH_take (i := 9) (v := ?v68) rfl (by kernel_rfl) (by kernel_rfl) (by kernel_rfl) (fun _ _ _ h => h) (Or.inl ⟨by rfl, ?y68⟩) hHeld ?r68
      case y68 => (intro w hSw; have q0 : w.cell? ⟨v, 0, none⟩ = some (.int .i64 (kd : Int)) := hSw (v, 0, .int .i64 (kd : Int)) List.mem_cons_self; have q1 : w.cell? ⟨v, 1, none⟩ = some (.int .i64 (n : Int)) := hSw (v, 1, .int .i64 (n : Int)) (List.mem_cons_of_mem _ List.mem_cons_self); have q2 : w.cell? ⟨ab, ao + k * 2, none⟩ = some (.int .i64 (x : Int)) := hSw (ab, ao + k * 2, .int .i64 (x : Int)) (List.mem_cons_of_mem _ (List.mem_cons_of_mem _ List.mem_cons_self)); have q3 : w.cell? ⟨ab, ao + k * 2 + 1, none⟩ = some (.int .i64 (y : Int)) := hSw (ab, ao + k * 2 + 1, .int .i64 (y : Int)) (List.mem_cons_of_mem _ (List.mem_cons_of_mem _ (List.mem_cons_of_mem _ List.mem_cons_self))); have q4 : w.cell? ⟨wb, wo + x, none⟩ = some (.int .u64 (u : Int)) := hSw (wb, wo + x, .int .u64 (u : Int)) (List.mem_cons_of_mem _ (List.mem_cons_of_mem _ (List.mem_cons_of_mem _ (List.mem_cons_of_mem _ List.mem_cons_self)))); go_simp; try with_reducible rfl)
      simp only [List.getElem_toArray, List.getElem_cons_zero, List.getElem_cons_succ, Act.put, List.setIfInBounds_toArray, List.set_cons_zero, List.set_cons_succ]
      refine wpAnyH_ready (rs := [10, 11]) (by kernel_rfl) (by simp) (AllReadyH.cons rfl (fun K hK => ?_) (AllReadyH.cons rfl (fun K hK => ?_) AllReadyH.nil))
      · go_simp
        refine (field_any kd n x y _).mono ?_
        rintro e w3 ⟨rfl, hb3⟩
        have hS3 := HS.out.2.drew.next hb3
        have hM3 := HS.out.1.drew.next hb3
        have hs3 : W1.heap.size ≤ w3.heap.size := hb3.size
        go_wp2_with fail
        refine hK.out _ _ (hS3) (fun hHeld => ?_)
        clear hK K
        refine wpAnyH_ready (rs := [11]) (by kernel_rfl) (by simp) (AllReadyH.cons rfl (fun K hK => ?_) AllReadyH.nil)
        go_simp
        have hS4 := hS3.alloc (.cells #[.int .i64 0, .int .i64 0] 68)
        refine hK.out _ _ (hS4) (fun hHeld => ?_)
        clear hK K
        refine wpAnyH_take (i := 12) (v := ?v71) rfl (by kernel_rfl) (by kernel_rfl) (by kernel_rfl) (fun _ _ _ h => h) (Or.inl ⟨by rfl, ?y71⟩) hHeld ?r71
        case y71 => (intro w hSw; have q0 : w.cell? ⟨v, 0, none⟩ = some (.int .i64 (kd : Int)) := hSw (v, 0, .int .i64 (kd : Int)) List.mem_cons_self; have q1 : w.cell? ⟨v, 1, none⟩ = some (.int .i64 (n : Int)) := hSw (v, 1, .int .i64 (n : Int)) (List.mem_cons_of_mem _ List.mem_cons_self); have q2 : w.cell? ⟨ab, ao + k * 2, none⟩ = some (.int .i64 (x : Int)) := hSw (ab, ao + k * 2, .int .i64 (x : Int)) (List.mem_cons_of_mem _ (List.mem_cons_of_mem _ List.mem_cons_self)); have q3 : w.cell? ⟨ab, ao + k * 2 + 1, none⟩ = some (.int .i64 (y : Int)) := hSw (ab, ao + k * 2 + 1, .int .i64 (y : Int)) (List.mem_cons_of_mem _ (List.mem_cons_of_mem _ (List.mem_cons_of_mem _ List.mem_cons_self))); have q4 : w.cell? ⟨wb, wo + x, none⟩ = some (.int .u64 (u : Int)) := hSw (wb, wo + x, .int .u64 (u : Int)) (List.mem_cons_of_mem _ (List.mem_cons_of_mem _ (List.mem_cons_of_mem _ (List.mem_cons_of_mem _ List.mem_cons_self)))); go_simp; try with_reducible rfl)
        simp only [List.getElem_toArray, List.getElem_cons_zero, List.getElem_cons_succ, Act.put, List.setIfInBounds_toArray, List.set_cons_zero, List.set_cons_succ]
        refine wpAnyH_ready (rs := [13]) (by kernel_rfl) (by simp) (AllReadyH.cons rfl (fun K hK => ?_) AllReadyH.nil)
        go_simp
        go_wp2_with fail
        have hS5 := hS3.alloc (.cells #[.int .i64 (y : Int), .int .i64 (n : Int)] 68)
        have hM5 := hM3.alloc (.cells #[.int .i64 (y : Int), .int .i64 (n : Int)] 68)
        have hF5 := Blk.new w3 #[.int .i64 (y : Int), .int .i64 (n : Int)] 68
        refine hK.out _ _ (hS5) (fun hHeld => ?_)
        clear hK K
        refine wpAnyH_done (by kernel_rfl) ?_ _
        have hfb : w1.heap.size < w3.heap.size ∧ g < w3.heap.size ∧ v < w3.heap.size := by omega
        have HX := Lib.hid (And.intro hS5 (And.intro hM5 hF5))
        clear hS5 hM5 hF5
        generalize w3.alloc (.cells #[.int .i64 (y : Int), .int .i64 (n : Int)] 68) = W5 at *
        generalize w3.heap.size = fb at *
        go_wp2_with fail
        obtain ⟨hfb1, hfb2, hfb3⟩ := hfb
        have hS12 : SC [(wb, wo + x, .int .u64 (u : Int)), (v, 0, .int .i64 (kd : Int)), (fb, 0, .int .i64 (y : Int)), (fb, 1, .int .i64 (n : Int))] W5 := SC.cons (SC.cons (SC.cons (SC.cons (SC.nil _) (HX.out.2.2.cell (i := 1) rfl)) (HX.out.2.2.cell (i := 0) rfl)) (HX.out.1 _ List.mem_cons_self)) (HX.out.1 _ (List.mem_cons_of_mem _ (List.mem_cons_of_mem _ (List.mem_cons_of_mem _ (List.mem_cons_of_mem _ List.mem_cons_self)))))
        refine wp_region_held_drew (S := SC [(wb, wo + x, .int .u64 (u : Int)), (v, 0, .int .i64 (kd : Int)), (fb, 0, .int .i64 (y : Int)), (fb, 1, .int .i64 (n : Int))]) (by kernel_rfl) (hS12) (fun hHeld => ?_)
        refine wpAnyH_take (i := 0) (v := ?v1) rfl (by kernel_rfl) (by kernel_rfl) (by kernel_rfl) (fun _ _ _ h => h) (Or.inl ⟨by rfl, ?y1⟩) hHeld ?r1
        case y1 => (intro w hSw; have q0 : w.cell? ⟨wb, wo + x, none⟩ = some (.int .u64 (u : Int)) := hSw (wb, wo + x, .int .u64 (u : Int)) List.mem_cons_self; have q1 : w.cell? ⟨v, 0, none⟩ = some (.int .i64 (kd : Int)) := hSw (v, 0, .int .i64 (kd : Int)) (List.mem_cons_of_mem _ List.mem_cons_self); have q2 : w.cell? ⟨fb, 0, none⟩ = some (.int .i64 (y : Int)) := hSw (fb, 0, .int .i64 (y : Int)) (List.mem_cons_of_mem _ (List.mem_cons_of_mem _ List.mem_cons_self)); have q3 : w.cell? ⟨fb, 1, none⟩ = some (.int .i64 (n : Int)) := hSw (fb, 1, .int .i64 (n : Int)) (List.mem_cons_of_mem _ (List.mem_cons_of_mem _ (List.mem_cons_of_mem _ List.mem_cons_self))); go_simp; try with_reducible rfl)
        simp only [List.getElem_toArray, List.getElem_cons_zero, Act.put, List.setIfInBounds_toArray, List.set_cons_zero, List.set_cons_succ]
        refine wpAnyH_take (i := 1) (v := ?v2) rfl (by kernel_rfl) (by kernel_rfl) (by kernel_rfl) (fun _ _ _ h => h) (Or.inl ⟨by rfl, ?y2⟩) hHeld ?r2
        case y2 => (intro w hSw; have q0 : w.cell? ⟨wb, wo + x, none⟩ = some (.int .u64 (u : Int)) := hSw (wb, wo + x, .int .u64 (u : Int)) List.mem_cons_self; have q1 : w.cell? ⟨v, 0, none⟩ = some (.int .i64 (kd : Int)) := hSw (v, 0, .int .i64 (kd : Int)) (List.mem_cons_of_mem _ List.mem_cons_self); have q2 : w.cell? ⟨fb, 0, none⟩ = some (.int .i64 (y : Int)) := hSw (fb, 0, .int .i64 (y : Int)) (List.mem_cons_of_mem _ (List.mem_cons_of_mem _ List.mem_cons_self)); have q3 : w.cell? ⟨fb, 1, none⟩ = some (.int .i64 (n : Int)) := hSw (fb, 1, .int .i64 (n : Int)) (List.mem_cons_of_mem _ (List.mem_cons_of_mem _ (List.mem_cons_of_mem _ List.mem_cons_self))); go_simp; try with_reducible rfl)
        simp only [List.getElem_toArray, List.getElem_cons_zero, List.getElem_cons_succ, Act.put, List.setIfInBounds_toArray, List.set_cons_zero, List.set_cons_succ]
        refine wpAnyH_take (i := 2) (v := ?v3) rfl (by kernel_rfl) (by kernel_rfl) (by kernel_rfl) (fun _ _ _ h => h) (Or.inl ⟨by rfl, ?y3⟩) hHeld ?r3
        case y3 => (intro w hSw; have q0 : w.cell? ⟨wb, wo + x, none⟩ = some (.int .u64 (u : Int)) := hSw (wb, wo + x, .int .u64 (u : Int)) List.mem_cons_self; have q1 : w.cell? ⟨v, 0, none⟩ = some (.int .i64 (kd : Int)) := hSw (v, 0, .int .i64 (kd : Int)) (List.mem_cons_of_mem _ List.mem_cons_self); have q2 : w.cell? ⟨fb, 0, none⟩ = some (.int .i64 (y : Int)) := hSw (fb, 0, .int .i64 (y : Int)) (List.mem_cons_of_mem _ (List.mem_cons_of_mem _ List.mem_cons_self)); have q3 : w.cell? ⟨fb, 1, none⟩ = some (.int .i64 (n : Int)) := hSw (fb, 1, .int .i64 (n : Int)) (List.mem_cons_of_mem _ (List.mem_cons_of_mem _ (List.mem_cons_of_mem _ List.mem_cons_self))); go_simp; try with_reducible rfl)
        simp only [List.getElem_toArray, List.getElem_cons_zero, List.getElem_cons_succ, Act.put, List.setIfInBounds_toArray, List.set_cons_zero, List.set_cons_succ]
        refine wpAnyH_take (i := 3) (v := ?v4) rfl (by kernel_rfl) (by kernel_rfl) (by kernel_rfl) (fun _ _ _ h => h) (Or.inl ⟨by rfl, ?y4⟩) hHeld ?r4
        case y4 => (intro w hSw; have q0 : w.cell? ⟨wb, wo + x, none⟩ = some (.int .u64 (u : Int)) := hSw (wb, wo + x, .int .u64 (u : Int)) List.mem_cons_self; have q1 : w.cell? ⟨v, 0, none⟩ = some (.int .i64 (kd : Int)) := hSw (v, 0, .int .i64 (kd : Int)) (List.mem_cons_of_mem _ List.mem_cons_self); have q2 : w.cell? ⟨fb, 0, none⟩ = some (.int .i64 (y : Int)) := hSw (fb, 0, .int .i64 (y : Int)) (List.mem_cons_of_mem _ (List.mem_cons_of_mem _ List.mem_cons_self)); have q3 : w.cell? ⟨fb, 1, none⟩ = some (.int .i64 (n : Int)) := hSw (fb, 1, .int .i64 (n : Int)) (List.mem_cons_of_mem _ (List.mem_cons_of_mem _ (List.mem_cons_of_mem _ List.mem_cons_self))); go_simp; try with_reducible rfl)
        simp only [List.getElem_toArray, List.getElem_cons_zero, List.getElem_cons_succ, Act.put, List.setIfInBounds_toArray, List.set_cons_zero, List.set_cons_succ]
        refine wpAnyH_take (i := 4) (v := ?v5) rfl (by kernel_rfl) (by kernel_rfl) (by kernel_rfl) (fun _ _ _ h => h) (Or.inl ⟨by rfl, ?y5⟩) hHeld ?r5
        case y5 => (intro w hSw; have q0 : w.cell? ⟨wb, wo + x, none⟩ = some (.int .u64 (u : Int)) := hSw (wb, wo + x, .int .u64 (u : Int)) List.mem_cons_self; have q1 : w.cell? ⟨v, 0, none⟩ = some (.int .i64 (kd : Int)) := hSw (v, 0, .int .i64 (kd : Int)) (List.mem_cons_of_mem _ List.mem_cons_self); have q2 : w.cell? ⟨fb, 0, none⟩ = some (.int .i64 (y : Int)) := hSw (fb, 0, .int .i64 (y : Int)) (List.mem_cons_of_mem _ (List.mem_cons_of_mem _ List.mem_cons_self)); have q3 : w.cell? ⟨fb, 1, none⟩ = some (.int .i64 (n : Int)) := hSw (fb, 1, .int .i64 (n : Int)) (List.mem_cons_of_mem _ (List.mem_cons_of_mem _ (List.mem_cons_of_mem _ List.mem_cons_self))); go_simp; try with_reducible rfl)
        simp only [List.getElem_toArray, List.getElem_cons_zero, List.getElem_cons_succ, Act.put, List.setIfInBounds_toArray, List.set_cons_zero, List.set_cons_succ]
        refine wpAnyH_take (i := 5) (v := ?v6) rfl (by kernel_rfl) (by kernel_rfl) (by kernel_rfl) (fun _ _ _ h => h) (Or.inl ⟨by rfl, ?y6⟩) hHeld ?r6
        case y6 => (intro w hSw; have q0 : w.cell? ⟨wb, wo + x, none⟩ = some (.int .u64 (u : Int)) := hSw (wb, wo + x, .int .u64 (u : Int)) List.mem_cons_self; have q1 : w.cell? ⟨v, 0, none⟩ = some (.int .i64 (kd : Int)) := hSw (v, 0, .int .i64 (kd : Int)) (List.mem_cons_of_mem _ List.mem_cons_self); have q2 : w.cell? ⟨fb, 0, none⟩ = some (.int .i64 (y : Int)) := hSw (fb, 0, .int .i64 (y : Int)) (List.mem_cons_of_mem _ (List.mem_cons_of_mem _ List.mem_cons_self)); have q3 : w.cell? ⟨fb, 1, none⟩ = some (.int .i64 (n : Int)) := hSw (fb, 1, .int .i64 (n : Int)) (List.mem_cons_of_mem _ (List.mem_cons_of_mem _ (List.mem_cons_of_mem _ List.mem_cons_self))); go_simp; try with_reducible rfl)
        simp only [List.getElem_toArray, List.getElem_cons_zero, List.getElem_cons_succ, Act.put, List.setIfInBounds_toArray, List.set_cons_zero, List.set_cons_succ]
        refine wpAnyH_take (i := 6) (v := ?v7) rfl (by kernel_rfl) (by kernel_rfl) (by kernel_rfl) (fun _ _ _ h => h) (Or.inl ⟨by rfl, ?y7⟩) hHeld ?r7
        case y7 => (intro w hSw; have q0 : w.cell? ⟨wb, wo + x, none⟩ = some (.int .u64 (u : Int)) := hSw (wb, wo + x, .int .u64 (u : Int)) List.mem_cons_self; have q1 : w.cell? ⟨v, 0, none⟩ = some (.int .i64 (kd : Int)) := hSw (v, 0, .int .i64 (kd : Int)) (List.mem_cons_of_mem _ List.mem_cons_self); have q2 : w.cell? ⟨fb, 0, none⟩ = some (.int .i64 (y : Int)) := hSw (fb, 0, .int .i64 (y : Int)) (List.mem_cons_of_mem _ (List.mem_cons_of_mem _ List.mem_cons_self)); have q3 : w.cell? ⟨fb, 1, none⟩ = some (.int .i64 (n : Int)) := hSw (fb, 1, .int .i64 (n : Int)) (List.mem_cons_of_mem _ (List.mem_cons_of_mem _ (List.mem_cons_of_mem _ List.mem_cons_self))); go_simp; try with_reducible rfl)
        simp only [List.getElem_toArray, List.getElem_cons_zero, List.getElem_cons_succ, Act.put, List.setIfInBounds_toArray, List.set_cons_zero, List.set_cons_succ]
        refine wpAnyH_take (i := 7) (v := ?v8) rfl (by kernel_rfl) (by kernel_rfl) (by kernel_rfl) (fun _ _ _ h => h) (Or.inl ⟨by rfl, ?y8⟩) hHeld ?r8
        case y8 => (intro w hSw; have q0 : w.cell? ⟨wb, wo + x, none⟩ = some (.int .u64 (u : Int)) := hSw (wb, wo + x, .int .u64 (u : Int)) List.mem_cons_self; have q1 : w.cell? ⟨v, 0, none⟩ = some (.int .i64 (kd : Int)) := hSw (v, 0, .int .i64 (kd : Int)) (List.mem_cons_of_mem _ List.mem_cons_self); have q2 : w.cell? ⟨fb, 0, none⟩ = some (.int .i64 (y : Int)) := hSw (fb, 0, .int .i64 (y : Int)) (List.mem_cons_of_mem _ (List.mem_cons_of_mem _ List.mem_cons_self)); have q3 : w.cell? ⟨fb, 1, none⟩ = some (.int .i64 (n : Int)) := hSw (fb, 1, .int .i64 (n : Int)) (List.mem_cons_of_mem _ (List.mem_cons_of_mem _ (List.mem_cons_of_mem _ List.mem_cons_self))); go_simp; try with_reducible rfl)
        simp only [List.getElem_toArray, List.getElem_cons_zero, List.getElem_cons_succ, Act.put, List.setIfInBounds_toArray, List.set_cons_zero, List.set_cons_succ]
        refine wpAnyH_take (i := 8) (v := ?v9) rfl (by kernel_rfl) (by kernel_rfl) (by kernel_rfl) (fun _ _ _ h => h) (Or.inl ⟨by rfl, ?y9⟩) hHeld ?r9
        case y9 => (intro w hSw; have q0 : w.cell? ⟨wb, wo + x, none⟩ = some (.int .u64 (u : Int)) := hSw (wb, wo + x, .int .u64 (u : Int)) List.mem_cons_self; have q1 : w.cell? ⟨v, 0, none⟩ = some (.int .i64 (kd : Int)) := hSw (v, 0, .int .i64 (kd : Int)) (List.mem_cons_of_mem _ List.mem_cons_self); have q2 : w.cell? ⟨fb, 0, none⟩ = some (.int .i64 (y : Int)) := hSw (fb, 0, .int .i64 (y : Int)) (List.mem_cons_of_mem _ (List.mem_cons_of_mem _ List.mem_cons_self)); have q3 : w.cell? ⟨fb, 1, none⟩ = some (.int .i64 (n : Int)) := hSw (fb, 1, .int .i64 (n : Int)) (List.mem_cons_of_mem _ (List.mem_cons_of_mem _ (List.mem_cons_of_mem _ List.mem_cons_self))); go_simp; try with_reducible rfl)
        simp only [List.getElem_toArray, List.getElem_cons_zero, List.getElem_cons_succ, Act.put, List.setIfInBounds_toArray, List.set_cons_zero, List.set_cons_succ]
        refine wpAnyH_ready (rs := [9]) (by kernel_rfl) (by simp) (AllReadyH.cons rfl (fun K hK => ?_) AllReadyH.nil)
        go_simp
        refine (Hget.out.2 _).mono ?_
        rintro e w6 ⟨rfl, hb6⟩
        have hS6 := hS12.drew.next hb6
        have hM6 := HX.out.2.1.drew.next hb6
        have hF6 := HX.out.2.2.drew.low hb6
        obtain ⟨va, vb'⟩ := vcl_at _ k _ (vhl_at _ (l.length - (k + 1)) k HR.out.2.2.1)
        have r60 := hM6.a.cell va
        have r61 := hM6.a.cell vb'
        have z60 := hM6.a.frozen (k * 2)
        have z61 := hM6.a.frozen (k * 2 + 1)
        clear va vb'
        go_wp2_with fail
        refine hK.out _ _ (hS6) (fun hHeld => ?_)
        clear hK K
        refine wpAnyH_take (i := 10) (v := ?v11) rfl (by kernel_rfl) (by kernel_rfl) (by kernel_rfl) (fun _ _ _ h => h) (Or.inl ⟨by rfl, ?y11⟩) hHeld ?r11
        case y11 => (intro w hSw; have q0 : w.cell? ⟨wb, wo + x, none⟩ = some (.int .u64 (u : Int)) := hSw (wb, wo + x, .int .u64 (u : Int)) List.mem_cons_self; have q1 : w.cell? ⟨v, 0, none⟩ = some (.int .i64 (kd : Int)) := hSw (v, 0, .int .i64 (kd : Int)) (List.mem_cons_of_mem _ List.mem_cons_self); have q2 : w.cell? ⟨fb, 0, none⟩ = some (.int .i64 (y : Int)) := hSw (fb, 0, .int .i64 (y : Int)) (List.mem_cons_of_mem _ (List.mem_cons_of_mem _ List.mem_cons_self)); have q3 : w.cell? ⟨fb, 1, none⟩ = some (.int .i64 (n : Int)) := hSw (fb, 1, .int .i64 (n : Int)) (List.mem_cons_of_mem _ (List.mem_cons_of_mem _ (List.mem_cons_of_mem _ List.mem_cons_self))); go_simp; try with_reducible rfl)
        simp only [List.getElem_toArray, List.getElem_cons_zero, List.getElem_cons_succ, Act.put, List.setIfInBounds_toArray, List.set_cons_zero, List.set_cons_succ]
        refine wpAnyH_ready (rs := [11]) (by kernel_rfl) (by simp) (AllReadyH.cons rfl (fun K hK => ?_) AllReadyH.nil)
        go_simp
        go_wp2_with fail
        have hS7 := (hS6.set (g := w1.heap.size) (i := k * 2) (.int .i64 N) (fun c hc => by simp only [List.mem_cons, List.not_mem_nil, or_false] at hc; rcases hc with rfl | rfl | rfl | rfl <;> (dsimp only; omega))).set (g := w1.heap.size) (i := k * 2 + 1) (.complex .f64 za zb) (fun c hc => by simp only [List.mem_cons, List.not_mem_nil, or_false] at hc; rcases hc with rfl | rfl | rfl | rfl <;> (dsimp only; omega))
        have hM7 := (hM6.setA (k * 2) (.int .i64 N) (by omega) (Nat.le_refl _)).setA (k * 2 + 1) (.complex .f64 za zb) (by omega) (Nat.le_refl _)
        rw [vcl_set, vhl_set _ _ _ _ HR.out.2.2.1, ← Hget.out.1, ← HR.out.2.1] at hM7
        have hF7 := (hF6.setFar (p := ⟨w1.heap.size, k * 2, none⟩) (by dsimp only; omega) (.int .i64 N)).setFar (p := ⟨w1.heap.size, k * 2 + 1, none⟩) (by dsimp only; omega) (.complex .f64 za zb)
        refine hK.out _ _ (hS7) (fun hHeld => ?_)
        clear hK K
        refine wpAnyH_done (by kernel_rfl) ?_ _
        clear hS12
        have hlc : (us ls ++ tl)[x]? = some (.int .u64 (lf : Int)) := by rw [List.getElem?_append_left HR.out.2.2.2.2.2.1]; exact us_at HR.out.2.2.2.2.1
        have HY := Lib.hid (And.intro hM7 hF7)
        clear hM7 hF7 hS7
        generalize (w6.setCell ⟨w1.heap.size, k * 2, none⟩ (.int .i64 N)).setCell ⟨w1.heap.size, k * 2 + 1, none⟩ (.complex .f64 za zb) = W7 at *
        have hS13 : SC [(fb, 0, .int .i64 (y : Int)), (fb, 1, .int .i64 (n : Int))] W7 := SC.cons (SC.cons (SC.nil _) (HY.out.2.cell (i := 1) rfl)) (HY.out.2.cell (i := 0) rfl)
        have r7 := HY.out.1.b.cell hlc
        have hstr := strike y n lf hyn hlf64
        have hxg : (x : Int) < ws.length := hxi
        go_wp2_with fail
        refine wp_region_held_drew (S := SC [(fb, 0, .int .i64 (y : Int)), (fb, 1, .int .i64 (n : Int))]) (by kernel_rfl) (hS13) (fun hHeld => ?_)
        refine wpAnyH_take (i := 0) (v := ?v13) rfl (by kernel_rfl) (by kernel_rfl) (by kernel_rfl) (fun _ _ _ h => h) (Or.inl ⟨by rfl, ?y13⟩) hHeld ?r13
        case y13 => (intro w hSw; have q0 : w.cell? ⟨fb, 0, none⟩ = some (.int .i64 (y : Int)) := hSw (fb, 0, .int .i64 (y : Int)) List.mem_cons_self; have q1 : w.cell? ⟨fb, 1, none⟩ = some (.int .i64 (n : Int)) := hSw (fb, 1, .int .i64 (n : Int)) (List.mem_cons_of_mem _ List.mem_cons_self); go_simp; try with_reducible rfl)
        simp only [List.getElem_toArray, List.getElem_cons_zero, Act.put, List.setIfInBounds_toArray, List.set_cons_zero, List.set_cons_succ]
        refine wpAnyH_take (i := 1) (v := ?v14) rfl (by kernel_rfl) (by kernel_rfl) (by kernel_rfl) (fun _ _ _ h => h) (Or.inl ⟨by rfl, ?y14⟩) hHeld ?r14
        case y14 => (intro w hSw; have q0 : w.cell? ⟨fb, 0, none⟩ = some (.int .i64 (y : Int)) := hSw (fb, 0, .int .i64 (y : Int)) List.mem_cons_self; have q1 : w.cell? ⟨fb, 1, none⟩ = some (.int .i64 (n : Int)) := hSw (fb, 1, .int .i64 (n : Int)) (List.mem_cons_of_mem _ List.mem_cons_self); go_simp; try with_reducible rfl)
        simp only [List.getElem_toArray, List.getElem_cons_zero, List.getElem_cons_succ, Act.put, List.setIfInBounds_toArray, List.set_cons_zero, List.set_cons_succ]
        refine wpAnyH_take (i := 2) (v := ?v15) rfl (by kernel_rfl) (by kernel_rfl) (by kernel_rfl) (fun _ _ _ h => h) (Or.inl ⟨by rfl, ?y15⟩) hHeld ?r15
        case y15 => (intro w hSw; have q0 : w.cell? ⟨fb, 0, none⟩ = some (.int .i64 (y : Int)) := hSw (fb, 0, .int .i64 (y : Int)) List.mem_cons_self; have q1 : w.cell? ⟨fb, 1, none⟩ = some (.int .i64 (n : Int)) := hSw (fb, 1, .int .i64 (n : Int)) (List.mem_cons_of_mem _ List.mem_cons_self); go_simp; try with_reducible rfl)
        simp only [List.getElem_toArray, List.getElem_cons_zero, List.getElem_cons_succ, Act.put, List.setIfInBounds_toArray, List.set_cons_zero, List.set_cons_succ]
        refine wpAnyH_take (i := 4) (v := ?v16) rfl (by kernel_rfl) (by kernel_rfl) (by kernel_rfl) (fun _ _ _ h => h) (Or.inl ⟨by rfl, ?y16⟩) hHeld ?r16
        case y16 => (intro w hSw; have q0 : w.cell? ⟨fb, 0, none⟩ = some (.int .i64 (y : Int)) := hSw (fb, 0, .int .i64 (y : Int)) List.mem_cons_self; have q1 : w.cell? ⟨fb, 1, none⟩ = some (.int .i64 (n : Int)) := hSw (fb, 1, .int .i64 (n : Int)) (List.mem_cons_of_mem _ List.mem_cons_self); go_simp; try with_reducible rfl)
        simp only [List.getElem_toArray, List.getElem_cons_zero, List.getElem_cons_succ, Act.put, List.setIfInBounds_toArray, List.set_cons_zero, List.set_cons_succ]
        refine wpAnyH_take (i := 6) (v := ?v17) rfl (by kernel_rfl) (by kernel_rfl) (by kernel_rfl) (fun _ _ _ h => h) (Or.inl ⟨by rfl, ?y17⟩) hHeld ?r17
        case y17 => (intro w hSw; have q0 : w.cell? ⟨fb, 0, none⟩ = some (.int .i64 (y : Int)) := hSw (fb, 0, .int .i64 (y : Int)) List.mem_cons_self; have q1 : w.cell? ⟨fb, 1, none⟩ = some (.int .i64 (n : Int)) := hSw (fb, 1, .int .i64 (n : Int)) (List.mem_cons_of_mem _ List.mem_cons_self); go_simp; try with_reducible rfl)
        simp only [List.getElem_toArray, List.getElem_cons_zero, List.getElem_cons_succ, Act.put, List.setIfInBounds_toArray, List.set_cons_zero, List.set_cons_succ]
        refine wpAnyH_take (i := 7) (v := ?v18) rfl (by kernel_rfl) (by kernel_rfl) (by kernel_rfl) (fun _ _ _ h => h) (Or.inl ⟨by rfl, ?y18⟩) hHeld ?r18
        case y18 => (intro w hSw; have q0 : w.cell? ⟨fb, 0, none⟩ = some (.int .i64 (y : Int)) := hSw (fb, 0, .int .i64 (y : Int)) List.mem_cons_self; have q1 : w.cell? ⟨fb, 1, none⟩ = some (.int .i64 (n : Int)) := hSw (fb, 1, .int .i64 (n : Int)) (List.mem_cons_of_mem _ List.mem_cons_self); go_simp; try with_reducible rfl)
        simp only [List.getElem_toArray, List.getElem_cons_zero, List.getElem_cons_succ, Act.put, List.setIfInBounds_toArray, List.set_cons_zero, List.set_cons_succ]
        refine wpAnyH_ready (rs := [3, 5]) (by kernel_rfl) (by simp) (AllReadyH.cons rfl (fun K hK => ?_) (AllReadyH.cons rfl (fun K hK => ?_) AllReadyH.nil))
        · go_simp
          refine hK.out _ _ (hS13.drew) (fun hHeld => ?_)
          clear hK K
          refine wpAnyH_ready (rs := [5]) (by kernel_rfl) (by simp) (AllReadyH.cons rfl (fun K hK => ?_) AllReadyH.nil)
          go_simp
          refine (max_in y n _ hn1' hyn).mono ?_
          rintro e w9 ⟨rfl, hb9⟩
          have hS9 := hS13.drew.next hb9
          have hM9 := HY.out.1.drew.next hb9
          have r9 := hM9.b.cell hlc
          have z9 := hM9.b.frozen x
          go_wp2_with fail
          refine hK.out _ _ (hS9) (fun hHeld => ?_)
          clear hK K
          refine wpAnyH_take (i := 8) (v := ?v21) rfl (by kernel_rfl) (by kernel_rfl) (by kernel_rfl) (fun _ _ _ h => h) (Or.inl ⟨by rfl, ?y21⟩) hHeld ?r21
          case y21 => (intro w hSw; have q0 : w.cell? ⟨fb, 0, none⟩ = some (.int .i64 (y : Int)) := hSw (fb, 0, .int .i64 (y : Int)) List.mem_cons_self; have q1 : w.cell? ⟨fb, 1, none⟩ = some (.int .i64 (n : Int)) := hSw (fb, 1, .int .i64 (n : Int)) (List.mem_cons_of_mem _ List.mem_cons_self); go_simp; try with_reducible rfl)
          simp only [List.getElem_toArray, List.getElem_cons_zero, List.getElem_cons_succ, Act.put, List.setIfInBounds_toArray, List.set_cons_zero, List.set_cons_succ]
          refine wpAnyH_take (i := 9) (v := .int .u64 ((pt y n lf 0 : Nat) : Int)) rfl (by kernel_rfl) (by kernel_rfl) (by kernel_rfl) (fun _ _ _ h => h) (Or.inl ⟨by rfl, ?y22⟩) hHeld ?r22
          case y22 => (intro w hSw; have q0 : w.cell? ⟨fb, 0, none⟩ = some (.int .i64 (y : Int)) := hSw (fb, 0, .int .i64 (y : Int)) List.mem_cons_self; have q1 : w.cell? ⟨fb, 1, none⟩ = some (.int .i64 (n : Int)) := hSw (fb, 1, .int .i64 (n : Int)) (List.mem_cons_of_mem _ List.mem_cons_self); go_simp; try with_reducible rfl)
          simp only [List.getElem_toArray, List.getElem_cons_zero, List.getElem_cons_succ, Act.put, List.setIfInBounds_toArray, List.set_cons_zero, List.set_cons_succ]
          refine wpAnyH_take (i := 10) (v := ?v23) rfl (by kernel_rfl) (by kernel_rfl) (by kernel_rfl) (fun _ _ _ h => h) (Or.inl ⟨by rfl, ?y23⟩) hHeld ?r23
          case y23 => (intro w hSw; have q0 : w.cell? ⟨fb, 0, none⟩ = some (.int .i64 (y : Int)) := hSw (fb, 0, .int .i64 (y : Int)) List.mem_cons_self; have q1 : w.cell? ⟨fb, 1, none⟩ = some (.int .i64 (n : Int)) := hSw (fb, 1, .int .i64 (n : Int)) (List.mem_cons_of_mem _ List.mem_cons_self); go_simp; try with_reducible rfl)
          simp only [List.getElem_toArray, List.getElem_cons_zero, List.getElem_cons_succ, Act.put, List.setIfInBounds_toArray, List.set_cons_zero, List.set_cons_succ]
          refine wpAnyH_ready (rs := [11]) (by kernel_rfl) (by simp) (AllReadyH.cons rfl (fun K hK => ?_) AllReadyH.nil)
          go_simp
          go_wp2_with fail
          have hS10 := hS9.set (g := g) (i := x) (.int .u64 ((pt y n lf 0 : Nat) : Int)) (fun c hc => by simp only [List.mem_cons, List.not_mem_nil, or_false] at hc; rcases hc with rfl | rfl <;> (dsimp only; omega))
          have hM10 := hM9.setB x (.int .u64 ((pt y n lf 0 : Nat) : Int)) (by omega) (by omega)
          rw [us_set _ _ _ _ HR.out.2.2.2.2.2.1, us_set'] at hM10
          refine hK.out _ _ (hS10) (fun hHeld => ?_)
          clear hK K
          refine wpAnyH_done (by kernel_rfl) ?_ _
          go_wp2
          go_roundw
          case rel => exact ⟨k + 1, ls.set x (pt y n lf 0), by omega, by go_num, HR.out.1, hM10.a, hM10.b, hM10.bel⟩
          case measure => simp [intOf]; omega
        · go_simp
          refine (max_in y n _ hn1' hyn).mono ?_
          rintro e w9 ⟨rfl, hb9⟩
          have hS9 := hS13.drew.next hb9
          have hM9 := HY.out.1.drew.next hb9
          have r9 := hM9.b.cell hlc
          have z9 := hM9.b.frozen x
          go_wp2_with fail
          refine hK.out _ _ (hS9) (fun hHeld => ?_)
          clear hK K
          refine wpAnyH_take (i := 8) (v := ?v25) rfl (by kernel_rfl) (by kernel_rfl) (by kernel_rfl) (fun _ _ _ h => h) (Or.inl ⟨by rfl, ?y25⟩) hHeld ?r25
          case y25 => (intro w hSw; have q0 : w.cell? ⟨fb, 0, none⟩ = some (.int .i64 (y : Int)) := hSw (fb, 0, .int .i64 (y : Int)) List.mem_cons_self; have q1 : w.cell? ⟨fb, 1, none⟩ = some (.int .i64 (n : Int)) := hSw (fb, 1, .int .i64 (n : Int)) (List.mem_cons_of_mem _ List.mem_cons_self); go_simp; try with_reducible rfl)
          simp only [List.getElem_toArray, List.getElem_cons_zero, List.getElem_cons_succ, Act.put, List.setIfInBounds_toArray, List.set_cons_zero, List.set_cons_succ]
          refine wpAnyH_ready (rs := [3]) (by kernel_rfl) (by simp) (AllReadyH.cons rfl (fun K hK => ?_) AllReadyH.nil)
          go_simp
          refine hK.out _ _ (hS9) (fun hHeld => ?_)
          clear hK K
          refine wpAnyH_take (i := 9) (v := .int .u64 ((pt y n lf 0 : Nat) : Int)) rfl (by kernel_rfl) (by kernel_rfl) (by kernel_rfl) (fun _ _ _ h => h) (Or.inl ⟨by rfl, ?y27⟩) hHeld ?r27
          case y27 => (intro w hSw; have q0 : w.cell? ⟨fb, 0, none⟩ = some (.int .i64 (y : Int)) := hSw (fb, 0, .int .i64 (y : Int)) List.mem_cons_self; have q1 : w.cell? ⟨fb, 1, none⟩ = some (.int .i64 (n : Int)) := hSw (fb, 1, .int .i64 (n : Int)) (List.mem_cons_of_mem _ List.mem_cons_self); go_simp; try with_reducible rfl)
          simp only [List.getElem_toArray, List.getElem_cons_zero, List.getElem_cons_succ, Act.put, List.setIfInBounds_toArray, List.set_cons_zero, List.set_cons_succ]
          refine wpAnyH_take (i := 10) (v := ?v28) rfl (by kernel_rfl) (by kernel_rfl) (by kernel_rfl) (fun _ _ _ h => h) (Or.inl ⟨by rfl, ?y28⟩) hHeld ?r28
          case y28 => (intro w hSw; have q0 : w.cell? ⟨fb, 0, none⟩ = some (.int .i64 (y : Int)) := hSw (fb, 0, .int .i64 (y : Int)) List.mem_cons_self; have q1 : w.cell? ⟨fb, 1, none⟩ = some (.int .i64 (n : Int)) := hSw (fb, 1, .int .i64 (n : Int)) (List.mem_cons_of_mem _ List.mem_cons_self); go_simp; try with_reducible rfl)
          simp only [List.getElem_toArray, List.getElem_cons_zero, List.getElem_cons_succ, Act.put, List.setIfInBounds_toArray, List.set_cons_zero, List.set_cons_succ]
          refine wpAnyH_ready (rs := [11]) (by kernel_rfl) (by simp) (AllReadyH.cons rfl (fun K hK => ?_) AllReadyH.nil)
          go_simp
          go_wp2_with fail
          have hS10 := hS9.set (g := g) (i := x) (.int .u64 ((pt y n lf 0 : Nat) : Int)) (fun c hc => by simp only [List.mem_cons, List.not_mem_nil, or_false] at hc; rcases hc with rfl | rfl <;> (dsimp only; omega))
          have hM10 := hM9.setB x (.int .u64 ((pt y n lf 0 : Nat) : Int)) (by omega) (by omega)
          rw [us_set _ _ _ _ HR.out.2.2.2.2.2.1, us_set'] at hM10
          refine hK.out _ _ (hS10) (fun hHeld => ?_)
          clear hK K
          refine wpAnyH_done (by kernel_rfl) ?_ _
          go_wp2
          go_roundw
          case rel => exact ⟨k + 1, ls.set x (pt y n lf 0), by omega, by go_num, HR.out.1, hM10.a, hM10.b, hM10.bel⟩
          case measure => simp [intOf]; omega
      · go_simp
        have hS4 := HS.out.2.drew.alloc (.cells #[.int .i64 0, .int .i64 0] 68)
        have hM4 := HS.out.1.drew.alloc (.cells #[.int .i64 0, .int .i64 0] 68)
        have hN4 := Blk.new W1.drew #[.int .i64 0, .int .i64 0] 68
        refine hK.out _ _ (hS4) (fun hHeld => ?_)
        clear hK K
        refine wpAnyH_ready (rs := [10]) (by kernel_rfl) (by simp) (AllReadyH.cons rfl (fun K hK => ?_) AllReadyH.nil)
        go_simp
        refine (field_any kd n x y _).mono ?_
        rintro e w3 ⟨rfl, hb3⟩
        have hS3 := hS4.next hb3
        have hM3 := hM4.next hb3
        have hN3 := hN4.low hb3
        have z40 := hN3.frozen 0
        have z41 := hN3.frozen 1
        have r40 := hN3.cell (i := 0) rfl
        have r41 := hN3.cell (i := 1) rfl
        have hfz : W1.drew.heap.size = W1.heap.size := rfl
        rw [hfz] at z40 z41 r40 r41 hN3
        go_wp2_with fail
        refine hK.out _ _ (hS3) (fun hHeld => ?_)
        clear hK K
        refine wpAnyH_take (i := 12) (v := ?v74) rfl (by kernel_rfl) (by kernel_rfl) (by kernel_rfl) (fun _ _ _ h => h) (Or.inl ⟨by rfl, ?y74⟩) hHeld ?r74
        case y74 => (intro w hSw; have q0 : w.cell? ⟨v, 0, none⟩ = some (.int .i64 (kd : Int)) := hSw (v, 0, .int .i64 (kd : Int)) List.mem_cons_self; have q1 : w.cell? ⟨v, 1, none⟩ = some (.int .i64 (n : Int)) := hSw (v, 1, .int .i64 (n : Int)) (List.mem_cons_of_mem _ List.mem_cons_self); have q2 : w.cell? ⟨ab, ao + k * 2, none⟩ = some (.int .i64 (x : Int)) := hSw (ab, ao + k * 2, .int .i64 (x : Int)) (List.mem_cons_of_mem _ (List.mem_cons_of_mem _ List.mem_cons_self)); have q3 : w.cell? ⟨ab, ao + k * 2 + 1, none⟩ = some (.int .i64 (y : Int)) := hSw (ab, ao + k * 2 + 1, .int .i64 (y : Int)) (List.mem_cons_of_mem _ (List.mem_cons_of_mem _ (List.mem_cons_of_mem _ List.mem_cons_self))); have q4 : w.cell? ⟨wb, wo + x, none⟩ = some (.int .u64 (u : Int)) := hSw (wb, wo + x, .int .u64 (u : Int)) (List.mem_cons_of_mem _ (List.mem_cons_of_mem _ (List.mem_cons_of_mem _ (List.mem_cons_of_mem _ List.mem_cons_self)))); go_simp; try with_reducible rfl)
        simp only [List.getElem_toArray, List.getElem_cons_zero, List.getElem_cons_succ, Act.put, List.setIfInBounds_toArray, List.set_cons_zero, List.set_cons_succ]
        refine wpAnyH_ready (rs := [13]) (by kernel_rfl) (by simp) (AllReadyH.cons rfl (fun K hK => ?_) AllReadyH.nil)
        go_simp
        go_wp2_with fail
        have hS5 := (hS3.set (g := W1.heap.size) (i := 0) (.int .i64 (y : Int)) (fun c hc => by simp only [List.mem_cons, List.not_mem_nil, or_false] at hc; rcases hc with rfl | rfl | rfl | rfl | rfl <;> (dsimp only; omega))).set (g := W1.heap.size) (i := 1) (.int .i64 (n : Int)) (fun c hc => by simp only [List.mem_cons, List.not_mem_nil, or_false] at hc; rcases hc with rfl | rfl | rfl | rfl | rfl <;> (dsimp only; omega))
        have hM5 := (hM3.far (g := W1.heap.size) (i := 0) (.int .i64 (y : Int)) (by omega) (by omega) (by omega)).far (g := W1.heap.size) (i := 1) (.int .i64 (n : Int)) (by omega) (by omega) (by omega)
        have hF5 := (hN3.put 0 (.int .i64 (y : Int))).put 1 (.int .i64 (n : Int))
        refine hK.out _ _ (hS5) (fun hHeld => ?_)
        clear hK K
        refine wpAnyH_done (by kernel_rfl) ?_ _
        have hfb : w1.heap.size < W1.heap.size ∧ g < W1.heap.size ∧ v < W1.heap.size := by omega
        have HX := Lib.hid (And.intro hS5 (And.intro hM5 hF5))
        clear hS5 hM5 hF5
        generalize (w3.setCell ⟨W1.heap.size, 0, none⟩ (.int .i64 (y : Int))).setCell ⟨W1.heap.size, 1, none⟩ (.int .i64 (n : Int)) = W5 at *
        generalize W1.heap.size = fb at *
        go_wp2_with fail
        obtain ⟨hfb1, hfb2, hfb3⟩ := hfb
        have hS12 : SC [(wb, wo + x, .int .u64 (u : Int)), (v, 0, .int .i64 (kd : Int)), (fb, 0, .int .i64 (y : Int)), (fb, 1, .int .i64 (n : Int))] W5 := SC.cons (SC.cons (SC.cons (SC.cons (SC.nil _) (HX.out.2.2.cell (i := 1) rfl)) (HX.out.2.2.cell (i := 0) rfl)) (HX.out.1 _ List.mem_cons_self)) (HX.out.1 _ (List.mem_cons_of_mem _ (List.mem_cons_of_mem _ (List.mem_cons_of_mem _ (List.mem_cons_of_mem _ List.mem_cons_self)))))
        refine wp_region_held_drew (S := SC [(wb, wo + x, .int .u64 (u : Int)), (v, 0, .int .i64 (kd : Int)), (fb, 0, .int .i64 (y : Int)), (fb, 1, .int .i64 (n : Int))]) (by kernel_rfl) (hS12) (fun hHeld => ?_)
        refine wpAnyH_take (i := 0) (v := ?v30) rfl (by kernel_rfl) (by kernel_rfl) (by kernel_rfl) (fun _ _ _ h => h) (Or.inl ⟨by rfl, ?y30⟩) hHeld ?r30
        case y30 => (intro w hSw; have q0 : w.cell? ⟨wb, wo + x, none⟩ = some (.int .u64 (u : Int)) := hSw (wb, wo + x, .int .u64 (u : Int)) List.mem_cons_self; have q1 : w.cell? ⟨v, 0, none⟩ = some (.int .i64 (kd : Int)) := hSw (v, 0, .int .i64 (kd : Int)) (List.mem_cons_of_mem _ List.mem_cons_self); have q2 : w.cell? ⟨fb, 0, none⟩ = some (.int .i64 (y : Int)) := hSw (fb, 0, .int .i64 (y : Int)) (List.mem_cons_of_mem _ (List.mem_cons_of_mem _ List.mem_cons_self)); have q3 : w.cell? ⟨fb, 1, none⟩ = some (.int .i64 (n : Int)) := hSw (fb, 1, .int .i64 (n : Int)) (List.mem_cons_of_mem _ (List.mem_cons_of_mem _ (List.mem_cons_of_mem _ List.mem_cons_self))); go_simp; try with_reducible rfl)
        simp only [List.getElem_toArray, List.getElem_cons_zero, Act.put, List.setIfInBounds_toArray, List.set_cons_zero, List.set_cons_succ]
        refine wpAnyH_take (i := 1) (v := ?v31) rfl (by kernel_rfl) (by kernel_rfl) (by kernel_rfl) (fun _ _ _ h => h) (Or.inl ⟨by rfl, ?y31⟩) hHeld ?r31
        case y31 => (intro w hSw; have q0 : w.cell? ⟨wb, wo + x, none⟩ = some (.int .u64 (u : Int)) := hSw (wb, wo + x, .int .u64 (u : Int)) List.mem_cons_self; have q1 : w.cell? ⟨v, 0, none⟩ = some (.int .i64 (kd : Int)) := hSw (v, 0, .int .i64 (kd : Int)) (List.mem_cons_of_mem _ List.mem_cons_self); have q2 : w.cell? ⟨fb, 0, none⟩ = some (.int .i64 (y : Int)) := hSw (fb, 0, .int .i64 (y : Int)) (List.mem_cons_of_mem _ (List.mem_cons_of_mem _ List.mem_cons_self)); have q3 : w.cell? ⟨fb, 1, none⟩ = some (.int .i64 (n : Int)) := hSw (fb, 1, .int .i64 (n : Int)) (List.mem_cons_of_mem _ (List.mem_cons_of_mem _ (List.mem_cons_of_mem _ List.mem_cons_self))); go_simp; try with_reducible rfl)
        simp only [List.getElem_toArray, List.getElem_cons_zero, List.getElem_cons_succ, Act.put, List.setIfInBounds_toArray, List.set_cons_zero, List.set_cons_succ]
        refine wpAnyH_take (i := 2) (v := ?v32) rfl (by kernel_rfl) (by kernel_rfl) (by kernel_rfl) (fun _ _ _ h => h) (Or.inl ⟨by rfl, ?y32⟩) hHeld ?r32
        case y32 => (intro w hSw; have q0 : w.cell? ⟨wb, wo + x, none⟩ = some (.int .u64 (u : Int)) := hSw (wb, wo + x, .int .u64 (u : Int)) List.mem_cons_self; have q1 : w.cell? ⟨v, 0, none⟩ = some (.int .i64 (kd : Int)) := hSw (v, 0, .int .i64 (kd : Int)) (List.mem_cons_of_mem _ List.mem_cons_self); have q2 : w.cell? ⟨fb, 0, none⟩ = some (.int .i64 (y : Int)) := hSw (fb, 0, .int .i64 (y : Int)) (List.mem_cons_of_mem _ (List.mem_cons_of_mem _ List.mem_cons_self)); have q3 : w.cell? ⟨fb, 1, none⟩ = some (.int .i64 (n : Int)) := hSw (fb, 1, .int .i64 (n : Int)) (List.mem_cons_of_mem _ (List.mem_cons_of_mem _ (List.mem_cons_of_mem _ List.mem_cons_self))); go_simp; try with_reducible rfl)
        simp only [List.getElem_toArray, List.getElem_cons_zero, List.getElem_cons_succ, Act.put, List.setIfInBounds_toArray, List.set_cons_zero, List.set_cons_succ]
        refine wpAnyH_take (i := 3) (v := ?v33) rfl (by kernel_rfl) (by kernel_rfl) (by kernel_rfl) (fun _ _ _ h => h) (Or.inl ⟨by rfl, ?y33⟩) hHeld ?r33
        case y33 => (intro w hSw; have q0 : w.cell? ⟨wb, wo + x, none⟩ = some (.int .u64 (u : Int)) := hSw (wb, wo + x, .int .u64 (u : Int)) List.mem_cons_self; have q1 : w.cell? ⟨v, 0, none⟩ = some (.int .i64 (kd : Int)) := hSw (v, 0, .int .i64 (kd : Int)) (List.mem_cons_of_mem _ List.mem_cons_self); have q2 : w.cell? ⟨fb, 0, none⟩ = some (.int .i64 (y : Int)) := hSw (fb, 0, .int .i64 (y : Int)) (List.mem_cons_of_mem _ (List.mem_cons_of_mem _ List.mem_cons_self)); have q3 : w.cell? ⟨fb, 1, none⟩ = some (.int .i64 (n : Int)) := hSw (fb, 1, .int .i64 (n : Int)) (List.mem_cons_of_mem _ (List.mem_cons_of_mem _ (List.mem_cons_of_mem _ List.mem_cons_self))); go_simp; try with_reducible rfl)
        simp only [List.getElem_toArray, List.getElem_cons_zero, List.getElem_cons_succ, Act.put, List.setIfInBounds_toArray, List.set_cons_zero, List.set_cons_succ]
        refine wpAnyH_take (i := 4) (v := ?v34) rfl (by kernel_rfl) (by kernel_rfl) (by kernel_rfl) (fun _ _ _ h => h) (Or.inl ⟨by rfl, ?y34⟩) hHeld ?r34
        case y34 => (intro w hSw; have q0 : w.cell? ⟨wb, wo + x, none⟩ = some (.int .u64 (u : Int)) := hSw (wb, wo + x, .int .u64 (u : Int)) List.mem_cons_self; have q1 : w.cell? ⟨v, 0, none⟩ = some (.int .i64 (kd : Int)) := hSw (v, 0, .int .i64 (kd : Int)) (List.mem_cons_of_mem _ List.mem_cons_self); have q2 : w.cell? ⟨fb, 0, none⟩ = some (.int .i64 (y : Int)) := hSw (fb, 0, .int .i64 (y : Int)) (List.mem_cons_of_mem _ (List.mem_cons_of_mem _ List.mem_cons_self)); have q3 : w.cell? ⟨fb, 1, none⟩ = some (.int .i64 (n : Int)) := hSw (fb, 1, .int .i64 (n : Int)) (List.mem_cons_of_mem _ (List.mem_cons_of_mem _ (List.mem_cons_of_mem _ List.mem_cons_self))); go_simp; try with_reducible rfl)
        simp only [List.getElem_toArray, List.getElem_cons_zero, List.getElem_cons_succ, Act.put, List.setIfInBounds_toArray, List.set_cons_zero, List.set_cons_succ]
        refine wpAnyH_take (i := 5) (v := ?v35) rfl (by kernel_rfl) (by kernel_rfl) (by kernel_rfl) (fun _ _ _ h => h) (Or.inl ⟨by rfl, ?y35⟩) hHeld ?r35
        case y35 => (intro w hSw; have q0 : w.cell? ⟨wb, wo + x, none⟩ = some (.int .u64 (u : Int)) := hSw (wb, wo + x, .int .u64 (u : Int)) List.mem_cons_self; have q1 : w.cell? ⟨v, 0, none⟩ = some (.int .i64 (kd : Int)) := hSw (v, 0, .int .i64 (kd : Int)) (List.mem_cons_of_mem _ List.mem_cons_self); have q2 : w.cell? ⟨fb, 0, none⟩ = some (.int .i64 (y : Int)) := hSw (fb, 0, .int .i64 (y : Int)) (List.mem_cons_of_mem _ (List.mem_cons_of_mem _ List.mem_cons_self)); have q3 : w.cell? ⟨fb, 1, none⟩ = some (.int .i64 (n : Int)) := hSw (fb, 1, .int .i64 (n : Int)) (List.mem_cons_of_mem _ (List.mem_cons_of_mem _ (List.mem_cons_of_mem _ List.mem_cons_self))); go_simp; try with_reducible rfl)
        simp only [List.getElem_toArray, List.getElem_cons_zero, List.getElem_cons_succ, Act.put, List.setIfInBounds_toArray, List.set_cons_zero, List.set_cons_succ]
        refine wpAnyH_take (i := 6) (v := ?v36) rfl (by kernel_rfl) (by kernel_rfl) (by kernel_rfl) (fun _ _ _ h => h) (Or.inl ⟨by rfl, ?y36⟩) hHeld ?r36
        case y36 => (intro w hSw; have q0 : w.cell? ⟨wb, wo + x, none⟩ = some (.int .u64 (u : Int)) := hSw (wb, wo + x, .int .u64 (u : Int)) List.mem_cons_self; have q1 : w.cell? ⟨v, 0, none⟩ = some (.int .i64 (kd : Int)) := hSw (v, 0, .int .i64 (kd : Int)) (List.mem_cons_of_mem _ List.mem_cons_self); have q2 : w.cell? ⟨fb, 0, none⟩ = some (.int .i64 (y : Int)) := hSw (fb, 0, .int .i64 (y : Int)) (List.mem_cons_of_mem _ (List.mem_cons_of_mem _ List.mem_cons_self)); have q3 : w.cell? ⟨fb, 1, none⟩ = some (.int .i64 (n : Int)) := hSw (fb, 1, .int .i64 (n : Int)) (List.mem_cons_of_mem _ (List.mem_cons_of_mem _ (List.mem_cons_of_mem _ List.mem_cons_self))); go_simp; try with_reducible rfl)
        simp only [List.getElem_toArray, List.getElem_cons_zero, List.getElem_cons_succ, Act.put, List.setIfInBounds_toArray, List.set_cons_zero, List.set_cons_succ]
        refine wpAnyH_take (i := 7) (v := ?v37) rfl (by kernel_rfl) (by kernel_rfl) (by kernel_rfl) (fun _ _ _ h => h) (Or.inl ⟨by rfl, ?y37⟩) hHeld ?r37
        case y37 => (intro w hSw; have q0 : w.cell? ⟨wb, wo + x, none⟩ = some (.int .u64 (u : Int)) := hSw (wb, wo + x, .int .u64 (u : Int)) List.mem_cons_self; have q1 : w.cell? ⟨v, 0, none⟩ = some (.int .i64 (kd : Int)) := hSw (v, 0, .int .i64 (kd : Int)) (List.mem_cons_of_mem _ List.mem_cons_self); have q2 : w.cell? ⟨fb, 0, none⟩ = some (.int .i64 (y : Int)) := hSw (fb, 0, .int .i64 (y : Int)) (List.mem_cons_of_mem _ (List.mem_cons_of_mem _ List.mem_cons_self)); have q3 : w.cell? ⟨fb, 1, none⟩ = some (.int .i64 (n : Int)) := hSw (fb, 1, .int .i64 (n : Int)) (List.mem_cons_of_mem _ (List.mem_cons_of_mem _ (List.mem_cons_of_mem _ List.mem_cons_self))); go_simp; try with_reducible rfl)
        simp only [List.getElem_toArray, List.getElem_cons_zero, List.getElem_cons_succ, Act.put, List.setIfInBounds_toArray, List.set_cons_zero, List.set_cons_succ]
        refine wpAnyH_take (i := 8) (v := ?v38) rfl (by kernel_rfl) (by kernel_rfl) (by kernel_rfl) (fun _ _ _ h => h) (Or.inl ⟨by rfl, ?y38⟩) hHeld ?r38
        case y38 => (intro w hSw; have q0 : w.cell? ⟨wb, wo + x, none⟩ = some (.int .u64 (u : Int)) := hSw (wb, wo + x, .int .u64 (u : Int)) List.mem_cons_self; have q1 : w.cell? ⟨v, 0, none⟩ = some (.int .i64 (kd : Int)) := hSw (v, 0, .int .i64 (kd : Int)) (List.mem_cons_of_mem _ List.mem_cons_self); have q2 : w.cell? ⟨fb, 0, none⟩ = some (.int .i64 (y : Int)) := hSw (fb, 0, .int .i64 (y : Int)) (List.mem_cons_of_mem _ (List.mem_cons_of_mem _ List.mem_cons_self)); have q3 : w.cell? ⟨fb, 1, none⟩ = some (.int .i64 (n : Int)) := hSw (fb, 1, .int .i64 (n : Int)) (List.mem_cons_of_mem _ (List.mem_cons_of_mem _ (List.mem_cons_of_mem _ List.mem_cons_self))); go_simp; try with_reducible rfl)
        simp only [List.getElem_toArray, List.getElem_cons_zero, List.getElem_cons_succ, Act.put, List.setIfInBounds_toArray, List.set_cons_zero, List.set_cons_succ]
        refine wpAnyH_ready (rs := [9]) (by kernel_rfl) (by simp) (AllReadyH.cons rfl (fun K hK => ?_) AllReadyH.nil)
        go_simp
        refine (Hget.out.2 _).mono ?_
        rintro e w6 ⟨rfl, hb6⟩
        have hS6 := hS12.drew.next hb6
        have hM6 := HX.out.2.1.drew.next hb6
        have hF6 := HX.out.2.2.drew.low hb6
        obtain ⟨va, vb'⟩ := vcl_at _ k _ (vhl_at _ (l.length - (k + 1)) k HR.out.2.2.1)
        have r60 := hM6.a.cell va
        have r61 := hM6.a.cell vb'
        have z60 := hM6.a.frozen (k * 2)
        have z61 := hM6.a.frozen (k * 2 + 1)
        clear va vb'
        go_wp2_with fail
        refine hK.out _ _ (hS6) (fun hHeld => ?_)
        clear hK K
        refine wpAnyH_take (i := 10) (v := ?v40) rfl (by kernel_rfl) (by kernel_rfl) (by kernel_rfl) (fun _ _ _ h => h) (Or.inl ⟨by rfl, ?y40⟩) hHeld ?r40
        case y40 => (intro w hSw; have q0 : w.cell? ⟨wb, wo + x, none⟩ = some (.int .u64 (u : Int)) := hSw (wb, wo + x, .int .u64 (u : Int)) List.mem_cons_self; have q1 : w.cell? ⟨v, 0, none⟩ = some (.int .i64 (kd : Int)) := hSw (v, 0, .int .i64 (kd : Int)) (List.mem_cons_of_mem _ List.mem_cons_self); have q2 : w.cell? ⟨fb, 0, none⟩ = some (.int .i64 (y : Int)) := hSw (fb, 0, .int .i64 (y : Int)) (List.mem_cons_of_mem _ (List.mem_cons_of_mem _ List.mem_cons_self)); have q3 : w.cell? ⟨fb, 1, none⟩ = some (.int .i64 (n : Int)) := hSw (fb, 1, .int .i64 (n : Int)) (List.mem_cons_of_mem _ (List.mem_cons_of_mem _ (List.mem_cons_of_mem _ List.mem_cons_self))); go_simp; try with_reducible rfl)
        simp only [List.getElem_toArray, List.getElem_cons_zero, List.getElem_cons_succ, Act.put, List.setIfInBounds_toArray, List.set_cons_zero, List.set_cons_succ]
        refine wpAnyH_ready (rs := [11]) (by kernel_rfl) (by simp) (AllReadyH.cons rfl (fun K hK => ?_) AllReadyH.nil)
        go_simp
        go_wp2_with fail
        have hS7 := (hS6.set (g := w1.heap.size) (i := k * 2) (.int .i64 N) (fun c hc => by simp only [List.mem_cons, List.not_mem_nil, or_false] at hc; rcases hc with rfl | rfl | rfl | rfl <;> (dsimp only; omega))).set (g := w1.heap.size) (i := k * 2 + 1) (.complex .f64 za zb) (fun c hc => by simp only [List.mem_cons, List.not_mem_nil, or_false] at hc; rcases hc with rfl | rfl | rfl | rfl <;> (dsimp only; omega))
        have hM7 := (hM6.setA (k * 2) (.int .i64 N) (by omega) (Nat.le_refl _)).setA (k * 2 + 1) (.complex .f64 za zb) (by omega) (Nat.le_refl _)
        rw [vcl_set, vhl_set _ _ _ _ HR.out.2.2.1, ← Hget.out.1, ← HR.out.2.1] at hM7
        have hF7 := (hF6.setFar (p := ⟨w1.heap.size, k * 2, none⟩) (by dsimp only; omega) (.int .i64 N)).setFar (p := ⟨w1.heap.size, k * 2 + 1, none⟩) (by dsimp only; omega) (.complex .f64 za zb)
        refine hK.out _ _ (hS7) (fun hHeld => ?_)
        clear hK K
        refine wpAnyH_done (by kernel_rfl) ?_ _
        clear hS12
        have hlc : (us ls ++ tl)[x]? = some (.int .u64 (lf : Int)) := by rw [List.getElem?_append_left HR.out.2.2.2.2.2.1]; exact us_at HR.out.2.2.2.2.1
        have HY := Lib.hid (And.intro hM7 hF7)
        clear hM7 hF7 hS7
        generalize (w6.setCell ⟨w1.heap.size, k * 2, none⟩ (.int .i64 N)).setCell ⟨w1.heap.size, k * 2 + 1, none⟩ (.complex .f64 za zb) = W7 at *
        have hS13 : SC [(fb, 0, .int .i64 (y : Int)), (fb, 1, .int .i64 (n : Int))] W7 := SC.cons (SC.cons (SC.nil _) (HY.out.2.cell (i := 1) rfl)) (HY.out.2.cell (i := 0) rfl)
        have r7 := HY.out.1.b.cell hlc
        have hstr := strike y n lf hyn hlf64
        have hxg : (x : Int) < ws.length := hxi
        go_wp2_with fail
        refine wp_region_held_drew (S := SC [(fb, 0, .int .i64 (y : Int)), (fb, 1, .int .i64 (n : Int))]) (by kernel_rfl) (hS13) (fun hHeld => ?_)
        refine wpAnyH_take (i := 0) (v := ?v42) rfl (by kernel_rfl) (by kernel_rfl) (by kernel_rfl) (fun _ _ _ h => h) (Or.inl ⟨by rfl, ?y42⟩) hHeld ?r42
        case y42 => (intro w hSw; have q0 : w.cell? ⟨fb, 0, none⟩ = some (.int .i64 (y : Int)) := hSw (fb, 0, .int .i64 (y : Int)) List.mem_cons_self; have q1 : w.cell? ⟨fb, 1, none⟩ = some (.int .i64 (n : Int)) := hSw (fb, 1, .int .i64 (n : Int)) (List.mem_cons_of_mem _ List.mem_cons_self); go_simp; try with_reducible rfl)
        simp only [List.getElem_toArray, List.getElem_cons_zero, Act.put, List.setIfInBounds_toArray, List.set_cons_zero, List.set_cons_succ]
        refine wpAnyH_take (i := 1) (v := ?v43) rfl (by kernel_rfl) (by kernel_rfl) (by kernel_rfl) (fun _ _ _ h => h) (Or.inl ⟨by rfl, ?y43⟩) hHeld ?r43
        case y43 => (intro w hSw; have q0 : w.cell? ⟨fb, 0, none⟩ = some (.int .i64 (y : Int)) := hSw (fb, 0, .int .i64 (y : Int)) List.mem_cons_self; have q1 : w.cell? ⟨fb, 1, none⟩ = some (.int .i64 (n : Int)) := hSw (fb, 1, .int .i64 (n : Int)) (List.mem_cons_of_mem _ List.mem_cons_self); go_simp; try with_reducible rfl)
        simp only [List.getElem_toArray, List.getElem_cons_zero, List.getElem_cons_succ, Act.put, List.setIfInBounds_toArray, List.set_cons_zero, List.set_cons_succ]
        refine wpAnyH_take (i := 2) (v := ?v44) rfl (by kernel_rfl) (by kernel_rfl) (by kernel_rfl) (fun _ _ _ h => h) (Or.inl ⟨by rfl, ?y44⟩) hHeld ?r44
        case y44 => (intro w hSw; have q0 : w.cell? ⟨fb, 0, none⟩ = some (.int .i64 (y : Int)) := hSw (fb, 0, .int .i64 (y : Int)) List.mem_cons_self; have q1 : w.cell? ⟨fb, 1, none⟩ = some (.int .i64 (n : Int)) := hSw (fb, 1, .int .i64 (n : Int)) (List.mem_cons_of_mem _ List.mem_cons_self); go_simp; try with_reducible rfl)
        simp only [List.getElem_toArray, List.getElem_cons_zero, List.getElem_cons_succ, Act.put, List.setIfInBounds_toArray, List.set_cons_zero, List.set_cons_succ]
        refine wpAnyH_take (i := 4) (v := ?v45) rfl (by kernel_rfl) (by kernel_rfl) (by kernel_rfl) (fun _ _ _ h => h) (Or.inl ⟨by rfl, ?y45⟩) hHeld ?r45
        case y45 => (intro w hSw; have q0 : w.cell? ⟨fb, 0, none⟩ = some (.int .i64 (y : Int)) := hSw (fb, 0, .int .i64 (y : Int)) List.mem_cons_self; have q1 : w.cell? ⟨fb, 1, none⟩ = some (.int .i64 (n : Int)) := hSw (fb, 1, .int .i64 (n : Int)) (List.mem_cons_of_mem _ List.mem_cons_self); go_simp; try with_reducible rfl)
        simp only [List.getElem_toArray, List.getElem_cons_zero, List.getElem_cons_succ, Act.put, List.setIfInBounds_toArray, List.set_cons_zero, List.set_cons_succ]
        refine wpAnyH_take (i := 6) (v := ?v46) rfl (by kernel_rfl) (by kernel_rfl) (by kernel_rfl) (fun _ _ _ h => h) (Or.inl ⟨by rfl, ?y46⟩) hHeld ?r46
        case y46 => (intro w hSw; have q0 : w.cell? ⟨fb, 0, none⟩ = some (.int .i64 (y : Int)) := hSw (fb, 0, .int .i64 (y : Int)) List.mem_cons_self; have q1 : w.cell? ⟨fb, 1, none⟩ = some (.int .i64 (n : Int)) := hSw (fb, 1, .int .i64 (n : Int)) (List.mem_cons_of_mem _ List.mem_cons_self); go_simp; try with_reducible rfl)
        simp only [List.getElem_toArray, List.getElem_cons_zero, List.getElem_cons_succ, Act.put, List.setIfInBounds_toArray, List.set_cons_zero, List.set_cons_succ]
        refine wpAnyH_take (i := 7) (v := ?v47) rfl (by kernel_rfl) (by kernel_rfl) (by kernel_rfl) (fun _ _ _ h => h) (Or.inl ⟨by rfl, ?y47⟩) hHeld ?r47
        case y47 => (intro w hSw; have q0 : w.cell? ⟨fb, 0, none⟩ = some (.int .i64 (y : Int)) := hSw (fb, 0, .int .i64 (y : Int)) List.mem_cons_self; have q1 : w.cell? ⟨fb, 1, none⟩ = some (.int .i64 (n : Int)) := hSw (fb, 1, .int .i64 (n : Int)) (List.mem_cons_of_mem _ List.mem_cons_self); go_simp; try with_reducible rfl)
        simp only [List.getElem_toArray, List.getElem_cons_zero, List.getElem_cons_succ, Act.put, List.setIfInBounds_toArray, List.set_cons_zero, List.set_cons_succ]
        refine wpAnyH_ready (rs := [3, 5]) (by kernel_rfl) (by simp) (AllReadyH.cons rfl (fun K hK => ?_) (AllReadyH.cons rfl (fun K hK => ?_) AllReadyH.nil))
        · go_simp
          refine hK.out _ _ (hS13.drew) (fun hHeld => ?_)
          clear hK K
          refine wpAnyH_ready (rs := [5]) (by kernel_rfl) (by simp) (AllReadyH.cons rfl (fun K hK => ?_) AllReadyH.nil)
          go_simp
          refine (max_in y n _ hn1' hyn).mono ?_
          rintro e w9 ⟨rfl, hb9⟩
          have hS9 := hS13.drew.next hb9
          have hM9 := HY.out.1.drew.next hb9
          have r9 := hM9.b.cell hlc
          have z9 := hM9.b.frozen x
          go_wp2_with fail
          refine hK.out _ _ (hS9) (fun hHeld => ?_)
          clear hK K
          refine wpAnyH_take (i := 8) (v := ?v50) rfl (by kernel_rfl) (by kernel_rfl) (by kernel_rfl) (fun _ _ _ h => h) (Or.inl ⟨by rfl, ?y50⟩) hHeld ?r50
          case y50 => (intro w hSw; have q0 : w.cell? ⟨fb, 0, none⟩ = some (.int .i64 (y : Int)) := hSw (fb, 0, .int .i64 (y : Int)) List.mem_cons_self; have q1 : w.cell? ⟨fb, 1, none⟩ = some (.int .i64 (n : Int)) := hSw (fb, 1, .int .i64 (n : Int)) (List.mem_cons_of_mem _ List.mem_cons_self); go_simp; try with_reducible rfl)
          simp only [List.getElem_toArray, List.getElem_cons_zero, List.getElem_cons_succ, Act.put, List.setIfInBounds_toArray, List.set_cons_zero, List.set_cons_succ]
          refine wpAnyH_take (i := 9) (v := .int .u64 ((pt y n lf 0 : Nat) : Int)) rfl (by kernel_rfl) (by kernel_rfl) (by kernel_rfl) (fun _ _ _ h => h) (Or.inl ⟨by rfl, ?y51⟩) hHeld ?r51
          case y51 => (intro w hSw; have q0 : w.cell? ⟨fb, 0, none⟩ = some (.int .i64 (y : Int)) := hSw (fb, 0, .int .i64 (y : Int)) List.mem_cons_self; have q1 : w.cell? ⟨fb, 1, none⟩ = some (.int .i64 (n : Int)) := hSw (fb, 1, .int .i64 (n : Int)) (List.mem_cons_of_mem _ List.mem_cons_self); go_simp; try with_reducible rfl)
          simp only [List.getElem_toArray, List.getElem_cons_zero, List.getElem_cons_succ, Act.put, List.setIfInBounds_toArray, List.set_cons_zero, List.set_cons_succ]
          refine wpAnyH_take (i := 10) (v := ?v52) rfl (by kernel_rfl) (by kernel_rfl) (by kernel_rfl) (fun _ _ _ h => h) (Or.inl ⟨by rfl, ?y52⟩) hHeld ?r52
          case y52 => (intro w hSw; have q0 : w.cell? ⟨fb, 0, none⟩ = some (.int .i64 (y : Int)) := hSw (fb, 0, .int .i64 (y : Int)) List.mem_cons_self; have q1 : w.cell? ⟨fb, 1, none⟩ = some (.int .i64 (n : Int)) := hSw (fb, 1, .int .i64 (n : Int)) (List.mem_cons_of_mem _ List.mem_cons_self); go_simp; try with_reducible rfl)
          simp only [List.getElem_toArray, List.getElem_cons_zero, List.getElem_cons_succ, Act.put, List.setIfInBounds_toArray, List.set_cons_zero, List.set_cons_succ]
          refine wpAnyH_ready (rs := [11]) (by kernel_rfl) (by simp) (AllReadyH.cons rfl (fun K hK => ?_) AllReadyH.nil)
          go_simp
          go_wp2_with fail
          have hS10 := hS9.set (g := g) (i := x) (.int .u64 ((pt y n lf 0 : Nat) : Int)) (fun c hc => by simp only [List.mem_cons, List.not_mem_nil, or_false] at hc; rcases hc with rfl | rfl <;> (dsimp only; omega))
          have hM10 := hM9.setB x (.int .u64 ((pt y n lf 0 : Nat) : Int)) (by omega) (by omega)
          rw [us_set _ _ _ _ HR.out.2.2.2.2.2.1, us_set'] at hM10
          refine hK.out _ _ (hS10) (fun hHeld => ?_)
          clear hK K
          refine wpAnyH_done (by kernel_rfl) ?_ _
          go_wp2
          go_roundw
          case rel => exact ⟨k + 1, ls.set x (pt y n lf 0), by omega, by go_num, HR.out.1, hM10.a, hM10.b, hM10.bel⟩
          case measure => simp [intOf]; omega
        · go_simp
          refine (max_in y n _ hn1' hyn).mono ?_
          rintro e w9 ⟨rfl, hb9⟩
          have hS9 := hS13.drew.next hb9
          have hM9 := HY.out.1.drew.next hb9
          have r9 := hM9.b.cell hlc
          have z9 := hM9.b.frozen x
          go_wp2_with fail
          refine hK.out _ _ (hS9) (fun hHeld => ?_)
          clear hK K
          refine wpAnyH_take (i := 8) (v := ?v54) rfl (by kernel_rfl) (by kernel_rfl) (by kernel_rfl) (fun _ _ _ h => h) (Or.inl ⟨by rfl, ?y54⟩) hHeld ?r54
          case y54 => (intro w hSw; have q0 : w.cell? ⟨fb, 0, none⟩ = some (.int .i64 (y : Int)) := hSw (fb, 0, .int .i64 (y : Int)) List.mem_cons_self; have q1 : w.cell? ⟨fb, 1, none⟩ = some (.int .i64 (n : Int)) := hSw (fb, 1, .int .i64 (n : Int)) (List.mem_cons_of_mem _ List.mem_cons_self); go_simp; try with_reducible rfl)
          simp only [List.getElem_toArray, List.getElem_cons_zero, List.getElem_cons_succ, Act.put, List.setIfInBounds_toArray, List.set_cons_zero, List.set_cons_succ]
          refine wpAnyH_ready (rs := [3]) (by kernel_rfl) (by simp) (AllReadyH.cons rfl (fun K hK => ?_) AllReadyH.nil)
          go_simp
          refine hK.out _ _ (hS9) (fun hHeld => ?_)
          clear hK K
          refine wpAnyH_take (i := 9) (v := .int .u64 ((pt y n lf 0 : Nat) : Int)) rfl (by kernel_rfl) (by kernel_rfl) (by kernel_rfl) (fun _ _ _ h => h) (Or.inl ⟨by rfl, ?y56⟩) hHeld ?r56
          case y56 => (intro w hSw; have q0 : w.cell? ⟨fb, 0, none⟩ = some (.int .i64 (y : Int)) := hSw (fb, 0, .int .i64 (y : Int)) List.mem_cons_self; have q1 : w.cell? ⟨fb, 1, none⟩ = some (.int .i64 (n : Int)) := hSw (fb, 1, .int .i64 (n : Int)) (List.mem_cons_of_mem _ List.mem_cons_self); go_simp; try with_reducible rfl)
          simp only [List.getElem_toArray, List.getElem_cons_zero, List.getElem_cons_succ, Act.put, List.setIfInBounds_toArray, List.set_cons_zero, List.set_cons_succ]
          refine wpAnyH_take (i := 10) (v := ?v57) rfl (by kernel_rfl) (by kernel_rfl) (by kernel_rfl) (fun _ _ _ h => h) (Or.inl ⟨by rfl, ?y57⟩) hHeld ?r57
          case y57 => (intro w hSw; have q0 : w.cell? ⟨fb, 0, none⟩ = some (.int .i64 (y : Int)) := hSw (fb, 0, .int .i64 (y : Int)) List.mem_cons_self; have q1 : w.cell? ⟨fb, 1, none⟩ = some (.int .i64 (n : Int)) := hSw (fb, 1, .int .i64 (n : Int)) (List.mem_cons_of_mem _ List.mem_cons_self); go_simp; try with_reducible rfl)
          simp only [List.getElem_toArray, List.getElem_cons_zero, List.getElem_cons_succ, Act.put, List.setIfInBounds_toArray, List.set_cons_zero, List.set_cons_succ]
          refine wpAnyH_ready (rs := [11]) (by kernel_rfl) (by simp) (AllReadyH.cons rfl (fun K hK => ?_) AllReadyH.nil)
          go_simp
          go_wp2_with fail
          have hS10 := hS9.set (g := g) (i := x) (.int .u64 ((pt y n lf 0 : Nat) : Int)) (fun c hc => by simp only [List.mem_cons, List.not_mem_nil, or_false] at hc; rcases hc with rfl | rfl <;> (dsimp only; omega))
          have hM10 := hM9.setB x (.int .u64 ((pt y n lf 0 : Nat) : Int)) (by omega) (by omega)
          rw [us_set _ _ _ _ HR.out.2.2.2.2.2.1, us_set'] at hM10
          refine hK.out _ _ (hS10) (fun hHeld => ?_)
          clear hK K
          refine wpAnyH_done (by kernel_rfl) ?_ _
          go_wp2
          go_roundw
          case rel => exact ⟨k + 1, ls.set x (pt y n lf 0), by omega, by go_num, HR.out.1, hM10.a, hM10.b, hM10.bel⟩
          case measure => simp [intOf]; omega
    · obtain rfl : k = l.length := by omega
      have hdl := hst.done
      have hll := hst.len
      rw [Nat.sub_self] at hbv
      have hbv' : Blk wr w1.heap.size (vcl (dV ws l pp)) := by
        have e : vhl ((dV ws l pp).take l.length) 0 = dV ws l pp := by
          unfold vhl
          rw [List.replicate_zero, List.append_nil, List.take_of_length_le (by rw [dV_len Hh.out.2.2.2]; omega)]
        rw [← e]
        exact hbv
      have hBf := hb1.trans (hb.mono hb1.size)
      have Hx := Lib.hid (And.intro hdl (And.intro hll (And.intro hbv' (And.intro hbl hBf))))
      clear hst hdl hll hbv hbv' hbl hBf hb hs hP1 hA hlt hk
      go_wp2
      go_loop [78] (fun i => ∃ j : Nat, j ≤ ws.length ∧ i = .int .i64 j ∧ Hid (∀ t, t < j → ls[t]? = some 0)) (fun i => ws.length - (intOf i).toNat)
      case atStart => exact ⟨0, by omega, rfl, Lib.hid (fun t ht => by omega)⟩
      case round =>
        obtain ⟨j, hj, rfl, hz⟩ := hrel
        by_cases hlt : j < ws.length
        · obtain ⟨z, hzj⟩ : ∃ z, ls[j]? = some z := ⟨ls[j]'(by rw [Hx.out.2.1]; exact hlt), List.getElem?_eq_getElem _⟩
          have hc := Hx.out.2.2.2.1.cell (i := j) (v := .int .u64 (z : Int)) (by rw [List.getElem?_append_left (by rw [us_len, Hx.out.2.1]; exact hlt)]; exact us_at hzj)
          have Hzj := Lib.hid hzj
          clear hzj
          have hji : (j : Int) < ws.length := by omega
          by_cases h0 : z = 0
          · have hd0 : ((z : Int) != 0) = false := by simp [h0]
            have Hz0 := Lib.hid h0
            clear h0
            go_wp2
            go_round
            case rel =>
              refine ⟨j + 1, by omega, by go_num, Lib.hid (fun t ht => ?_)⟩
              by_cases h : t = j
              · rw [h, Hzj.out, Hz0.out]
              · exact hz.out t (by omega)
            case measure => simp [intOf]; omega
          · have hd0 : ((z : Int) != 0) = true := by simp; omega
            go_wp2
            go_ret2
            refine DecPost.bad (dErr_bit Hh.out.1 (Hh.out.2.1.trans Hnn.out.symm) ?_) (by decide) Hx.out.2.2.2.2
            rw [Hpp.out, Hx.out.1, List.any_eq_true]
            exact ⟨z, List.mem_of_getElem? Hzj.out, by simpa using h0⟩
        · obtain rfl : j = ws.length := by omega
          go_wp2
          go_ret2
          have h0 : dErr l ws = 0 := dErr_ok Hh.out.1 (Hh.out.2.1.trans Hnn.out.symm) (by
            rw [Hpp.out, Hx.out.1, List.any_eq_false]
            intro z hz'
            obtain ⟨t, ht, rfl⟩ := List.mem_iff_getElem.1 hz'
            have h1 := hz.out t (by rw [← Hx.out.2.1]; exact ht)
            rw [List.getElem?_eq_getElem ht] at h1
            simp at h1
            simp [h1])
          have hv := dVals_ok h0
          rw [Hpp.out] at hv
          refine ⟨some ⟨w1.heap.size, 0, none⟩, l.length, ?_, Hx.out.2.2.2.2, ?_⟩
          · rw [hv, h0, dV_len Hh.out.2.2.2]
            rfl
          · rw [hv]
            exact Vls.of_blk Hx.out.2.2.1
theorem decode_any (a : Option Addr) (len cap : Nat) (l : List (Int × Int)) (a2 : Option Addr) (len2 cap2 : Nat) (ws : List Nat) (w : World) (hl : len = l.length) (hl2 : len2 = ws.length) (hP : Prs w.heap.size w a l) (hW : Words w.heap.size w a2 ws) (hK : KD w) :
    Calls Tryd.prog 14 #[.slice a len cap, .slice a2 len2 cap2] w (DecPost l ws w) := by
  subst hl hl2
  by_cases h : plErr l = 0
  · by_cases h2 : (ws.length : Int) = plN l
    · exact decode_in a cap l a2 cap2 ws w hP hW hK h h2
    · exact decode_len a cap l a2 cap2 ws w hP hK h h2
  · exact decode_pl a cap l a2 cap2 ws w hP hK h
end Go.Proofs.YtenbbnmhgpclkaaDoor
