/- A step of a snapshot, whatever it stands at. -/
import Derived.Test.YtflgggfomhifeaaSnTD
import Derived.Test.YtflgggfomhifeaaSnTE
namespace Go.Proofs.Ytflgggfomhifeaa
open Go.RowKit
section
variable {w : World} {o gs g b bg : Nat} {SS : List Sp} {xs : List Int} {x : NSt} {t : Int}
theorem nstep_any (h : NAt w o gs g SS x) (hB : Bk w b bg xs t) (ap : Apt o gs g b bg) (hw : NWf SS x)
    (t0 : 0 ≤ t) (t1 : t ≤ 1000000) (p0 : 0 ≤ x.steps) (p1 : x.steps ≤ 1000000) :
    Calls Try.prog 17 #[.pointer (some ⟨o, 0, none⟩), .pointer (some ⟨b, 0, none⟩)] w (NdPost o gs g b bg SS xs (nst SS xs x) t w) := by
  have hk := hw.k
  unfold nst
  obtain ⟨how, line, k, n, left, p, bn, tl⟩ := x
  dsimp only at hk p0 p1 ⊢
  by_cases hh : how = 0
  · subst hh
    rw [if_neg (fun c => c rfl)]
    cases hv : getI xs (nxl SS ⟨0, line, k, n, left, p, bn, tl⟩) with
    | none => exact nstep_out h hB ap hw hv
    | some v =>
      dsimp only
      by_cases l0 : line = 0
      · subst l0
        rw [if_pos rfl]
        by_cases e : k + 1 = SS.length
        · rw [if_pos e]; exact nstep_new_last h hB ap hw hv e t0 t1 p0 p1
        · rw [if_neg e]; exact nstep_new h hB ap hw hv (by omega) t0 t1 p0 p1
      · rw [if_neg l0]
        by_cases l1 : line = 1
        · subst l1
          rw [if_pos rfl]
          have hn := (hw.a1 rfl).2
          by_cases hm : (n : Int) + 1 = (nxs SS ⟨0, 1, k, n, left, p, bn, tl⟩).wd
          · rw [if_pos hm]
            by_cases e : k + 1 = SS.length
            · rw [if_pos e]; exact nstep_word_last h hB ap hw hv hm e t0 t1 p0 p1
            · rw [if_neg e]; exact nstep_word_next h hB ap hw hv hm (by omega) t0 t1 p0 p1
          · rw [if_neg hm]; exact nstep_word h hB ap hw hv (by dsimp only at hn; omega) t0 t1 p0 p1
        · rw [if_neg l1]
          obtain rfl : line = 2 := by have h1 := hw.l0; have h2 := hw.l2; dsimp only at h1 h2; omega
          obtain ⟨u, hu, hu2, _⟩ := hw.gen (by show (1 : Int) ≤ 2; omega)
          dsimp only at hu hu2
          rw [hu2]
          by_cases hm : v / 2 = u
          · rw [if_pos hm]
            by_cases e : k + 1 = SS.length
            · rw [if_pos e]; exact nstep_same_last h hB ap hw hv hu hm e t0 t1 p0 p1
            · rw [if_neg e]; exact nstep_same h hB ap hw hv hu hm (by omega) t0 t1 p0 p1
          · rw [if_neg hm]
            unfold nagn
            dsimp only
            by_cases f : left - 1 = 0
            · obtain rfl : left = 1 := by omega
              exact nstep_spent h hB ap hw hv hu hm t0 t1 p0 p1
            · rw [if_neg f]; exact nstep_again h hB ap hw hv hu hm f t0 t1 p0 p1
  · rw [if_pos hh]
    refine (nstep_ended h _ hh).mono ?_
    rintro e w' ⟨rfl, hb⟩
    exact ⟨rfl, h.below hb, by rw [Int.add_zero]; exact hB.below hb, Upd.of_below _ hb⟩
end
end Go.Proofs.Ytflgggfomhifeaa
