/- What a config's looks tell. -/
import Derived.Test.YtdnjoflahiffhaaNam
import Derived.Maps.OwnSet
import Derived.Maps.OwnOps
namespace Go.Proofs.Ytdnjoflahiffhaa
open Go.RowKit Go.Maps

theorem within_any (n a b : Int) (w : World) : Calls Try.prog 39 #[.int .i64 n, .int .i64 a, .int .i64 b] w (fun e w' => e = .returned (.int .i64 (rng n a b)) ∧ w = w') := by
  by_cases h1 : n < a
  · have m1 : decide (n < a) = true := decide_eq_true h1
    rw [rng_lo h1]
    go_enter Try.func39, Try.ntmps39
    go_wp2
    go_ret
    exact ⟨rfl, rfl⟩
  · have m1 : decide (n < a) = false := decide_eq_false h1
    by_cases h2 : b < n
    · have m2 : decide (b < n) = true := decide_eq_true h2
      rw [rng_hi h2]
      go_enter Try.func39, Try.ntmps39
      go_wp2
      go_ret
      exact ⟨rfl, rfl⟩
    · have m2 : decide (b < n) = false := decide_eq_false h2
      rw [rng_in (by omega) (by omega)]
      go_enter Try.func39, Try.ntmps39
      go_wp2
      go_ret
      exact ⟨rfl, rfl⟩

def nmE (s : List UInt8) : Int := if nmB s = false then 13 else 0
def thE (ahead : List Tp) (s : ByteArray) : Int := if dup ahead s = true then 15 else 0
/-- The names ahead, in a map. -/
def Ahd (w : World) (m n : Nat) (ahead : List Tp) : Prop := ∃ D : DataW Unit, w.ownsMap Try.prog 9 (plainElem Try.prog 4) m n D ∧ ∀ s : ByteArray, D.atKey (.string (bs s)) (.lit (.bool false)) = .lit (.bool (dup ahead s))
theorem law9 : Keyed Try.prog 9 := string_keyed Try.underlying9
theorem zero4 (w : World) : (zeroValue 4).run Try.prog w = .ok (.bool false) w := by kernel_rfl
theorem plainElem_bool_inv {H : Type} {P : Program} {e : TypeId} (he : P.underlying e = some .bool) {v : Value} {z : DataW H × List MemPlace} (h : plainElem P e v = some z) : ∃ x, v = .bool x ∧ z = (.lit (.bool x), []) := by
  unfold plainElem at h
  rw [he] at h
  cases v <;> simp at h
  exact ⟨_, rfl, h.symm⟩
theorem Ahd.look {w : World} {m n : Nat} {ahead : List Tp} (h : Ahd w m n ahead) (s : ByteArray) (hs : s.size ≤ maxLen) : (Instr.lookup 75 (.map (some m)) (.string s) false).run Try.prog w = .ok (.bool (dup ahead s)) w := by
  obtain ⟨D, ho, hat⟩ := h
  obtain ⟨v, ps, hrun, hv⟩ := ho.lookup law9 Try.underlying75 (zero4 w) (plainElem_bool Try.underlying4 false) (WideMaps.keyOf_string_mk Try.underlying9 hs)
  rw [hat s] at hv
  obtain ⟨x, rfl, hx⟩ := plainElem_bool_inv Try.underlying4 hv
  simp at hx
  rw [hrun, hx.1]
theorem Ahd.low {w w' : World} {m n : Nat} {ahead : List Tp} (h : Ahd w m n ahead) {B : Nat} (u : Below B w w') (hm : m < B) : Ahd w' m n ahead := by
  obtain ⟨D, ⟨es, clock, hb, hr⟩, hat⟩ := h
  exact ⟨D, ⟨es, clock, (u.block m hm).trans hb, hr⟩, hat⟩
theorem Ahd.lt {w : World} {m n : Nat} {ahead : List Tp} (h : Ahd w m n ahead) : m < w.heap.size := by
  obtain ⟨D, ho, _⟩ := h
  exact ho.lt
theorem Ahd.made (w : World) : Ahd (w.alloc (.map #[] 0)) w.heap.size 0 [] := ⟨_, World.ownsMap_made w _ _ _, fun _ => rfl⟩
theorem Ahd.of_put {w : World} {m n : Nat} {ahead : List Tp} {D : DataW Unit} (hat : ∀ s : ByteArray, D.atKey (.string (bs s)) (.lit (.bool false)) = .lit (.bool (dup ahead s))) (hD : IsMap D) (t : Tp) (h : w.ownsMap Try.prog 9 (plainElem Try.prog 4) m n (D.put (.string (bs t.1)) (.lit (.bool true)))) : Ahd w m n (ahead ++ [t]) := by
  refine ⟨_, h, fun s => ?_⟩
  by_cases e : t.1 = s
  · rw [← e, atKey_put_same hD (k := .string (bs t.1)) (by simp [WideAt.IsKeyLit])]
    simp [dup]
  · have hne : (Lit.string (bs s)) ≠ .string (bs t.1) := fun x => e (bs_inj (by simpa using x.symm))
    rw [atKey_put_other hne, hat s]
    simp [dup, e]

/-- A config while it is looked at. -/
abbrev lk (T : Int) (a : Option Addr) (len cap : Nat) (R L k : Int) (m : Nat) : List Value := [.int .i64 T, .slice a len cap, .int .i64 R, .int .i64 L, .int .i64 k, .map (some m)]
section
variable (T R L k : Int) (a : Option Addr) (len cap m g : Nat) (w : World)
theorem tasks_any (h : Blk w g (lk T a len cap R L k m)) : Calls Try.prog 28 #[.pointer (some ⟨g, 0, none⟩)] w (fun e w' => e = .returned (.int .i64 (rng T 1 8)) ∧ w = w') := by
  have c0 := h.cell (i := 0) rfl
  clear h
  go_enter Try.func28, Try.ntmps28
  go_wp2_with fail
  refine (within_any T 1 8 w).mono ?_
  rintro e w' ⟨rfl, rfl⟩
  go_wp2
  go_ret
  exact ⟨rfl, rfl⟩
theorem tries_any (h : Blk w g (lk T a len cap R L k m)) : Calls Try.prog 30 #[.pointer (some ⟨g, 0, none⟩)] w (fun e w' => e = .returned (.int .i64 (rng R 1 16)) ∧ w = w') := by
  have c0 := h.cell (i := 2) rfl
  clear h
  go_enter Try.func30, Try.ntmps30
  go_wp2_with fail
  refine (within_any R 1 16 w).mono ?_
  rintro e w' ⟨rfl, rfl⟩
  go_wp2
  go_ret
  exact ⟨rfl, rfl⟩
theorem log_any (h : Blk w g (lk T a len cap R L k m)) : Calls Try.prog 31 #[.pointer (some ⟨g, 0, none⟩)] w (fun e w' => e = .returned (.int .i64 (rng L 1 64)) ∧ w = w') := by
  have c0 := h.cell (i := 3) rfl
  clear h
  go_enter Try.func31, Try.ntmps31
  go_wp2_with fail
  refine (within_any L 1 64 w).mono ?_
  rintro e w' ⟨rfl, rfl⟩
  go_wp2
  go_ret
  exact ⟨rfl, rfl⟩
theorem topics_any (h : Blk w g (lk T a len cap R L k m)) : Calls Try.prog 29 #[.pointer (some ⟨g, 0, none⟩)] w (fun e w' => e = .returned (.int .i64 (if rng len 1 64 ≠ 0 then 12 else 0)) ∧ w = w') := by
  have c0 := h.cell (i := 1) rfl
  clear h
  go_enter Try.func29, Try.ntmps29
  go_wp2_with fail
  refine (within_any len 1 64 w).mono ?_
  rintro e w' ⟨rfl, rfl⟩
  by_cases hr : rng len 1 64 = 0
  · rw [hr]
    go_wp2
    go_ret
    exact ⟨rfl, rfl⟩
  · rw [rng_ne hr]
    go_wp2
    go_ret
    exact ⟨rfl, rfl⟩
set_option maxHeartbeats 1000000 in
theorem words_any (l : List Tp) (k : Nat) (t : Tp) (hk : l[k]? = some t) (h : Blk w g (lk T a l.length cap R L k m)) (hT : Tps w.heap.size w a l) : Calls Try.prog 34 #[.pointer (some ⟨g, 0, none⟩)] w (fun e w' => e = .returned (.int .i64 (rng t.2.1 1 64)) ∧ ∃ n, w' = w.drewN n) := by
  have hkl : (k : Int) < l.length := by
    have := (List.getElem?_eq_some_iff.1 hk).1
    omega
  have c1 := h.cell (i := 1) rfl
  have c4 := h.cell (i := 4) rfl
  have c5 := h.cell (i := 5) rfl
  obtain ⟨b, off, rfl, _, u0, u1, u2⟩ := hT k t hk
  have hlen : l.length = l.length := rfl
  clear h hT hk
  generalize l.length = n at *
  obtain ⟨nm, wd, dp⟩ := t
  go_enter Try.func34, Try.ntmps34
  go_wp2_with fail
  go_quiet ((go_at_call 39; exact Calls.quiet_of_same ((within_any _ 1 64 _).mono fun _ _ ⟨x, y⟩ => ⟨x, y.symm⟩)))
  go_wp2
  go_ret
  exact ⟨rfl, _, rfl⟩
set_option maxHeartbeats 1000000 in
theorem depth_any (l : List Tp) (k : Nat) (t : Tp) (hk : l[k]? = some t) (h : Blk w g (lk T a l.length cap R L k m)) (hT : Tps w.heap.size w a l) : Calls Try.prog 35 #[.pointer (some ⟨g, 0, none⟩)] w (fun e w' => e = .returned (.int .i64 (rng t.2.2 2 16)) ∧ ∃ n, w' = w.drewN n) := by
  have hkl : (k : Int) < l.length := by
    have := (List.getElem?_eq_some_iff.1 hk).1
    omega
  have c1 := h.cell (i := 1) rfl
  have c4 := h.cell (i := 4) rfl
  have c5 := h.cell (i := 5) rfl
  obtain ⟨b, off, rfl, _, u0, u1, u2⟩ := hT k t hk
  have hlen : l.length = l.length := rfl
  clear h hT hk
  generalize l.length = n at *
  obtain ⟨nm, wd, dp⟩ := t
  go_enter Try.func35, Try.ntmps35
  go_wp2_with fail
  go_quiet ((go_at_call 39; exact Calls.quiet_of_same ((within_any _ 2 16 _).mono fun _ _ ⟨x, y⟩ => ⟨x, y.symm⟩)))
  go_wp2
  go_ret
  exact ⟨rfl, _, rfl⟩
set_option maxHeartbeats 1000000 in
theorem nam_any (l : List Tp) (k : Nat) (t : Tp) (hk : l[k]? = some t) (h : Blk w g (lk T a l.length cap R L k m)) (hT : Tps w.heap.size w a l) (hs : t.1.size ≤ 100000) : Calls Try.prog 32 #[.pointer (some ⟨g, 0, none⟩)] w (fun e w' => e = .returned (.int .i64 (nmE (bs t.1))) ∧ ∃ n, w' = w.drewN n) := by
  have hkl : (k : Int) < l.length := by
    have := (List.getElem?_eq_some_iff.1 hk).1
    omega
  have c1 := h.cell (i := 1) rfl
  have c4 := h.cell (i := 4) rfl
  have c5 := h.cell (i := 5) rfl
  obtain ⟨b, off, rfl, _, u0, u1, u2⟩ := hT k t hk
  clear h hT hk
  generalize l.length = n at *
  obtain ⟨nm, wd, dp⟩ := t
  by_cases hn : nmB (bs nm) = true
  · have hE : nmE (bs nm) = 0 := by simp [nmE, hn]
    rw [hE]
    clear hE
    go_enter Try.func32, Try.ntmps32
    go_wp2_with fail
    go_quiet ((go_at_call 40; exact Calls.quiet_of_same ((name_any nm _ hs).mono fun _ _ ⟨x, y⟩ => ⟨x, y.symm⟩)))
    rw [hn]
    go_wp2
    go_ret
    exact ⟨rfl, _, rfl⟩
  · have hn' : nmB (bs nm) = false := by simpa using hn
    have hE : nmE (bs nm) = 13 := by simp [nmE, hn']
    rw [hE]
    clear hE hn
    go_enter Try.func32, Try.ntmps32
    go_wp2_with fail
    go_quiet ((go_at_call 40; exact Calls.quiet_of_same ((name_any nm _ hs).mono fun _ _ ⟨x, y⟩ => ⟨x, y.symm⟩)))
    rw [hn']
    go_wp2
    go_ret
    exact ⟨rfl, _, rfl⟩
set_option maxHeartbeats 1000000 in
theorem there_any (l : List Tp) (k : Nat) (t : Tp) (hk : l[k]? = some t) (h : Blk w g (lk T a l.length cap R L k m)) (hT : Tps w.heap.size w a l) (nn : Nat) (ahead : List Tp) (hA : Ahd w m nn ahead) (hs : t.1.size ≤ 100000) : Calls Try.prog 33 #[.pointer (some ⟨g, 0, none⟩)] w (fun e w' => e = .returned (.int .i64 (thE ahead t.1)) ∧ ∃ n, w' = w.drewN n) := by
  have hkl : (k : Int) < l.length := by
    have := (List.getElem?_eq_some_iff.1 hk).1
    omega
  have c1 := h.cell (i := 1) rfl
  have c4 := h.cell (i := 4) rfl
  have c5 := h.cell (i := 5) rfl
  obtain ⟨b, off, rfl, _, u0, u1, u2⟩ := hT k t hk
  clear h hT hk
  generalize l.length = n at *
  obtain ⟨nm, wd, dp⟩ := t
  have hlook : ∀ j, (Instr.lookup 75 (.map (some m)) (.string nm) false).run Try.prog (w.drewN j) = .ok (.bool (dup ahead nm)) (w.drewN j) := fun j => (show Ahd (w.drewN j) m nn ahead from hA).look nm (Nat.le_trans hs (by decide))
  clear hA
  by_cases hn : dup ahead nm = true
  · have hE : thE ahead nm = 15 := by simp [thE, hn]
    rw [hE]
    rw [hn] at hlook
    clear hE hn
    go_enter Try.func33, Try.ntmps33
    go_wp2_with fail
    go_quiet (fail)
    go_wp2
    go_ret
    exact ⟨rfl, _, rfl⟩
  · have hn' : dup ahead nm = false := by simpa using hn
    have hE : thE ahead nm = 0 := by simp [thE, hn']
    rw [hE]
    rw [hn'] at hlook
    clear hE hn hn'
    go_enter Try.func33, Try.ntmps33
    go_wp2_with fail
    go_quiet (fail)
    go_wp2
    go_ret
    exact ⟨rfl, _, rfl⟩
end
end Go.Proofs.Ytdnjoflahiffhaa
