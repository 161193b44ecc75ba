/- Whose, of a plan that Of made. -/
import Derived.Test.YtdnjoflahiffhaaWho2
import Derived.Test.YtdnjoflahiffhaaROf
namespace Go.Proofs.Ytdnjoflahiffhaa
open Go.RowKit

def wv (L : Int) (l : List Tp) (p : Int) : Int := if p < 0 then -3 else ((wdl L l)[p.toNat]?).getD (-3)
theorem wv_neg {L : Int} {l : List Tp} {p : Int} (h : p < 0) : wv L l p = -3 := if_pos h
theorem wv_big {L : Int} {l : List Tp} {p : Int} (h : ((wdl L l).length : Int) ≤ p) : wv L l p = -3 := by
  unfold wv
  rw [if_neg (by omega), List.getElem?_eq_none (by omega)]
  rfl
theorem wv_at {L : Int} {l : List Tp} {k : Nat} {x : Int} (h : (wdl L l)[k]? = some x) : wv L l (k : Int) = x := by
  unfold wv
  rw [if_neg (by omega), Int.toNat_natCast, h]
  rfl
theorem spots_mem : ∀ (l : List Tp) (a : Int) (s : Sp), (∀ t ∈ l, okT t) → s ∈ spots a l → ∃ t ∈ l, s.2.2.2 = t.2 ∧ a ≤ s.1 ∧ s.1 ≤ tot a l ∧ s.2.1 = s.1 + 1 ∧ s.2.2.1 = s.1 + 2
  | [], _, _, _, h => by cases h
  | t :: r, a, s, hall, h => by
    have ht := wl_bd (hall t List.mem_cons_self)
    have hr := fun u hu => hall u (List.mem_cons_of_mem t hu)
    have hb := tot_bd r (a + wl t) hr
    rcases List.mem_cons.1 h with rfl | h
    · refine ⟨t, List.mem_cons_self, rfl, ?_, ?_, rfl, rfl⟩
      · show a ≤ a; omega
      · show a ≤ tot (a + wl t) r; omega
    · obtain ⟨u, hu, h1, h2, h3, h4⟩ := spots_mem r (a + wl t) s hr h
      exact ⟨u, List.mem_cons_of_mem _ hu, h1, by omega, h3, h4⟩
theorem its_mem : ∀ (ss : List Sp) (i : Int) (x : It), x ∈ its i ss → ∃ s ∈ ss, (x.1 = s.1 ∧ x.2.1 = 1) ∨ (x.1 = s.2.1 ∧ x.2.1 = 1) ∨ (x.1 = s.2.2.1 ∧ x.2.1 = s.2.2.2.1 * s.2.2.2.2)
  | [], _, _, h => by cases h
  | s :: r, i, x, h => by
    simp only [its, List.mem_cons] at h
    rcases h with rfl | rfl | rfl | h
    · exact ⟨s, List.mem_cons_self, .inl ⟨rfl, rfl⟩⟩
    · exact ⟨s, List.mem_cons_self, .inr (.inl ⟨rfl, rfl⟩)⟩
    · exact ⟨s, List.mem_cons_self, .inr (.inr ⟨rfl, rfl⟩)⟩
    · obtain ⟨s', hs', h'⟩ := its_mem r (i + 1) x h
      exact ⟨s', List.mem_cons_of_mem _ hs', h'⟩
theorem spots_mul {l : List Tp} {a : Int} (hall : ∀ t ∈ l, okT t) : ∀ s ∈ spots a l, 0 ≤ s.2.2.2.1 * s.2.2.2.2 ∧ s.2.2.2.1 * s.2.2.2.2 ≤ 100000 := fun s hs => by
  obtain ⟨t, ht, h1, _⟩ := spots_mem l a s hall hs
  obtain ⟨g1, g2, g3, g4⟩ := hall t ht
  have := mul_bd (m := 64) (n := 16) (by omega : 0 ≤ t.2.1) g2 (by omega : 0 ≤ t.2.2) g4
  rw [h1]
  omega
theorem thg_ok {L : Int} {l : List Tp} (hL1 : 1 ≤ L) (hL64 : L ≤ 64) (hl64 : l.length ≤ 64) (hall : ∀ t ∈ l, okT t) : ∀ x ∈ thg 0 1 L (spots (1 + L) l), okI x := fun x hx => by
  simp only [thg, List.mem_cons] at hx
  rcases hx with rfl | rfl | hx
  · exact ⟨by show (0 : Int) ≤ 0; omega, by show (0 : Int) ≤ 10000000; omega, by show (0 : Int) ≤ 1; omega, by show (1 : Int) ≤ 10000000; omega⟩
  · exact ⟨by show (0 : Int) ≤ 1; omega, by show (1 : Int) ≤ 10000000; omega, by show (0 : Int) ≤ L; omega, by show L ≤ 10000000; omega⟩
  · obtain ⟨s, hs, h⟩ := its_mem _ _ _ hx
    have hm := spots_mul hall s hs
    obtain ⟨t, _, _, h2, h3, h4, h5⟩ := spots_mem l (1 + L) s hall hs
    have hb := (tot_bd l (1 + L) hall).2
    unfold okI
    rcases h with ⟨e1, e2⟩ | ⟨e1, e2⟩ | ⟨e1, e2⟩ <;> rw [e1, e2] <;> omega
theorem whose_of {L : Int} {l : List Tp} (hL1 : 1 ≤ L) (hL64 : L ≤ 64) (hl64 : l.length ≤ 64) (hall : ∀ t ∈ l, okT t) (z p : Int) (aa : Option Addr) (ca : Nat) (w : World) (hS : Sps w.heap.size w aa (spots (1 + L) l)) :
    Calls Try.prog 18 #[plv 0 1 L (.slice aa l.length ca) z, .int .i64 p] w (Ret (.int .i64 (wv L l p)) w) := by
  have h := whose_any 0 1 L z p aa ca (spots (1 + L) l) (by rw [spots_len]; omega) (spots_mul hall) (thg_ok hL1 hL64 hl64 hall) w hS
  rw [spots_len, who_wdl hL1 hall] at h
  exact h
end Go.Proofs.Ytdnjoflahiffhaa
