/-
  No cell of these rows narrows 'for every input' (looked for: loops, veiled, ifaces, maps, wideKeys, modest, calm, conditions, laid).
  DERIVED. THE GIVEN ROWS OF THIS SEAT. 6 by the template 'for every input the law returns true; each argument reads behind the call as it read before'; 0 by the template 'total and deterministic' (their statements: YtdnjoflahiffhaaTotals.lean).
  GIVEN WITH THE SEED: the statements are not yours to turn. If you find one false, say at which input.
  Laid BY PROGRAM, IN A SANDBOX (cutbox-rows.mjs): the forced cells as the released guide's own fill.sh prints them over the translation 16a02b5d02b20ac2… (all of the seat's roots in one cut). By AI agents, Wed Nov 11 2026. No macro, syntax, notation, axiom, sorry.
-/
import Derived.Test.YtdnjoflahiffhaaChecked
import GoSem.Claim
import GoSem.ClaimJoined
import GoSem.ClaimMapViews
import Derived.JoinedTies
import Derived.KernelRfl
namespace Go.Proofs.Ytdnjoflahiffhaa
/- THE CELL 'sum', in the pinned program and in every row, IS THE sha256 OF THE DUMP (.gsa) THAT YtdnjoflahiffhaaProg.lean LOADS. Nothing in Lean hashes anything: it is a label: what it is worth is what the hold of that sum in a sandbox is worth. -/
noncomputable def Try.pinned : Pinned := { name := "ytdnjoflahiffhaa", sum := "16a02b5d02b20ac20721fc398c1d956387a0e6b4d3ea97579eb949d4d7f5fbf0", checked := Try.checked }
namespace Rows
def none {H : Type} : Left H := { results := [], args := [] }

/-- 'aileronlaw06.PlanOf': WHATEVER THE INPUT: true; the input reads as it did. -/
def planOfSpec : ChangeSpec := { name := "planOf", fn := fun _ => fun
  | [d] => { results := [.lit (.bool true)], args := [d] }
  | _ => none }
def planOfRow : OpenClaim := { program := "ytdnjoflahiffhaa", sum := "16a02b5d02b20ac20721fc398c1d956387a0e6b4d3ea97579eb949d4d7f5fbf0", func := "aileron/aileronlaw06.PlanOf", spec := "planOf", unfollowed := true, recurses := true, apart := false }
def PlanOfSaid : Prop := planOfRow.holds Try.pinned (OpenSpec.ofChange planOfSpec)

/-- ITS FALSE NEIGHBOUR: 'it returns false'. Refute it at one input. -/
def planOfWrong : ChangeSpec := { name := "planOf", fn := fun _ => fun
  | [d] => { results := [.lit (.bool false)], args := [d] }
  | _ => none }
def PlanOfWrongFalsely : Prop := planOfRow.holds Try.pinned (OpenSpec.ofChange planOfWrong)

/-- 'aileronlaw06.PlanAt': WHATEVER THE INPUT: true; the input reads as it did. -/
def planAtSpec : ChangeSpec := { name := "planAt", fn := fun _ => fun
  | [d1, d2, d3] => { results := [.lit (.bool true)], args := [d1, d2, d3] }
  | _ => none }
def planAtRow : OpenClaim := { program := "ytdnjoflahiffhaa", sum := "16a02b5d02b20ac20721fc398c1d956387a0e6b4d3ea97579eb949d4d7f5fbf0", func := "aileron/aileronlaw06.PlanAt", spec := "planAt", unfollowed := true, recurses := true, apart := false }
def PlanAtSaid : Prop := planAtRow.holds Try.pinned (OpenSpec.ofChange planAtSpec)

/-- ITS FALSE NEIGHBOUR: 'it returns false'. Refute it at one input. -/
def planAtWrong : ChangeSpec := { name := "planAt", fn := fun _ => fun
  | [d1, d2, d3] => { results := [.lit (.bool false)], args := [d1, d2, d3] }
  | _ => none }
def PlanAtWrongFalsely : Prop := planAtRow.holds Try.pinned (OpenSpec.ofChange planAtWrong)

/-- 'aileronlaw06.PlanWhose': WHATEVER THE INPUT: true; the input reads as it did. -/
def planWhoseSpec : ChangeSpec := { name := "planWhose", fn := fun _ => fun
  | [d1, d2] => { results := [.lit (.bool true)], args := [d1, d2] }
  | _ => none }
def planWhoseRow : OpenClaim := { program := "ytdnjoflahiffhaa", sum := "16a02b5d02b20ac20721fc398c1d956387a0e6b4d3ea97579eb949d4d7f5fbf0", func := "aileron/aileronlaw06.PlanWhose", spec := "planWhose", unfollowed := true, recurses := true, apart := false }
def PlanWhoseSaid : Prop := planWhoseRow.holds Try.pinned (OpenSpec.ofChange planWhoseSpec)

/-- ITS FALSE NEIGHBOUR: 'it returns false'. Refute it at one input. -/
def planWhoseWrong : ChangeSpec := { name := "planWhose", fn := fun _ => fun
  | [d1, d2] => { results := [.lit (.bool false)], args := [d1, d2] }
  | _ => none }
def PlanWhoseWrongFalsely : Prop := planWhoseRow.holds Try.pinned (OpenSpec.ofChange planWhoseWrong)

/-- 'aileronlaw06.PlanApart': WHATEVER THE INPUT: true; the input reads as it did. -/
def planApartSpec : ChangeSpec := { name := "planApart", fn := fun _ => fun
  | [d1, d2, d3] => { results := [.lit (.bool true)], args := [d1, d2, d3] }
  | _ => none }
def planApartRow : OpenClaim := { program := "ytdnjoflahiffhaa", sum := "16a02b5d02b20ac20721fc398c1d956387a0e6b4d3ea97579eb949d4d7f5fbf0", func := "aileron/aileronlaw06.PlanApart", spec := "planApart", unfollowed := true, recurses := true, apart := false }
def PlanApartSaid : Prop := planApartRow.holds Try.pinned (OpenSpec.ofChange planApartSpec)

/-- ITS FALSE NEIGHBOUR: 'it returns false'. Refute it at one input. -/
def planApartWrong : ChangeSpec := { name := "planApart", fn := fun _ => fun
  | [d1, d2, d3] => { results := [.lit (.bool false)], args := [d1, d2, d3] }
  | _ => none }
def PlanApartWrongFalsely : Prop := planApartRow.holds Try.pinned (OpenSpec.ofChange planApartWrong)

/-- 'aileronlaw06.PlanFull': WHATEVER THE INPUT: true; the input reads as it did. -/
def planFullSpec : ChangeSpec := { name := "planFull", fn := fun _ => fun
  | [d] => { results := [.lit (.bool true)], args := [d] }
  | _ => none }
def planFullRow : OpenClaim := { program := "ytdnjoflahiffhaa", sum := "16a02b5d02b20ac20721fc398c1d956387a0e6b4d3ea97579eb949d4d7f5fbf0", func := "aileron/aileronlaw06.PlanFull", spec := "planFull", unfollowed := true, recurses := true, apart := false }
def PlanFullSaid : Prop := planFullRow.holds Try.pinned (OpenSpec.ofChange planFullSpec)

/-- ITS FALSE NEIGHBOUR: 'it returns false'. Refute it at one input. -/
def planFullWrong : ChangeSpec := { name := "planFull", fn := fun _ => fun
  | [d] => { results := [.lit (.bool false)], args := [d] }
  | _ => none }
def PlanFullWrongFalsely : Prop := planFullRow.holds Try.pinned (OpenSpec.ofChange planFullWrong)

/-- 'aileronlaw06.PlanRounds': WHATEVER THE INPUT: true; the input reads as it did. -/
def planRoundsSpec : ChangeSpec := { name := "planRounds", fn := fun _ => fun
  | [d1, d2] => { results := [.lit (.bool true)], args := [d1, d2] }
  | _ => none }
def planRoundsRow : OpenClaim := { program := "ytdnjoflahiffhaa", sum := "16a02b5d02b20ac20721fc398c1d956387a0e6b4d3ea97579eb949d4d7f5fbf0", func := "aileron/aileronlaw06.PlanRounds", spec := "planRounds", unfollowed := true, recurses := true, apart := false }
def PlanRoundsSaid : Prop := planRoundsRow.holds Try.pinned (OpenSpec.ofChange planRoundsSpec)

/-- ITS FALSE NEIGHBOUR: 'it returns false'. Refute it at one input. -/
def planRoundsWrong : ChangeSpec := { name := "planRounds", fn := fun _ => fun
  | [d1, d2] => { results := [.lit (.bool false)], args := [d1, d2] }
  | _ => none }
def PlanRoundsWrongFalsely : Prop := planRoundsRow.holds Try.pinned (OpenSpec.ofChange planRoundsWrong)

/- THE SECOND FORM. 'bulk': how many values and letters a reading holds, each counted each time it is reached (what is shared counts as often as it is met; a slice's spare places count too). A statement '..UptoSaid' is the law's where the arguments, and the package variables that the reading takes, are together of bulk at most 1048576: NARROWER than '..Said'. Prove '..Said' where nothing that the law and all that it calls make is longer than what came in: it says more and counts as full. Else prove '..UptoSaid'. A law counts once. -/
mutual
def uptoBulk {H : Type} : DataW H → Nat
  | .lit (.string bytes) => bytes.length + 1
  | .lit _ => 1
  | .nil => 1
  | .ptr d => uptoBulk d + 1
  | .slice elems spare => uptoBulkAll elems + uptoBulkAll spare + 1
  | .agg parts => uptoBulkAll parts + 1
  | .iface _ d => uptoBulk d + 1
  | .map entries => uptoBulkEntries entries + 1
  | .held _ => 1
def uptoBulkAll {H : Type} : List (DataW H) → Nat
  | [] => 0
  | d :: r => uptoBulk d + uptoBulkAll r
def uptoBulkEntries {H : Type} : List (Lit × DataW H) → Nat
  | [] => 0
  | x :: r => uptoBulkEntry x + uptoBulkEntries r
def uptoBulkEntry {H : Type} : Lit × DataW H → Nat
  | (.string bytes, d) => bytes.length + uptoBulk d + 1
  | (_, d) => uptoBulk d + 1
 end
def uptoSmall : (H : Type) → List (DataW H) → Bool := fun _ ds => decide (uptoBulkAll ds ≤ 1048576)
def OpenSpec.upto (s : _root_.Go.ChangeSpec) : _root_.Go.OpenSpec := { _root_.Go.OpenSpec.ofChange s with cond := some uptoSmall }

/-- 'aileronlaw06.PlanOf', WHERE WHAT IT READS IS OF BULK AT MOST 1048576: true; the input reads as it did. -/
def planOfUptoRow : OpenClaim := { program := "ytdnjoflahiffhaa", sum := "16a02b5d02b20ac20721fc398c1d956387a0e6b4d3ea97579eb949d4d7f5fbf0", func := "aileron/aileronlaw06.PlanOf", spec := "planOf", unfollowed := true, recurses := true, apart := false, narrowed := true }
def PlanOfUptoSaid : Prop := planOfUptoRow.holds Try.pinned (OpenSpec.upto planOfSpec)

/-- 'aileronlaw06.PlanAt', WHERE WHAT IT READS IS OF BULK AT MOST 1048576: true; the input reads as it did. -/
def planAtUptoRow : OpenClaim := { program := "ytdnjoflahiffhaa", sum := "16a02b5d02b20ac20721fc398c1d956387a0e6b4d3ea97579eb949d4d7f5fbf0", func := "aileron/aileronlaw06.PlanAt", spec := "planAt", unfollowed := true, recurses := true, apart := false, narrowed := true }
def PlanAtUptoSaid : Prop := planAtUptoRow.holds Try.pinned (OpenSpec.upto planAtSpec)

/-- 'aileronlaw06.PlanWhose', WHERE WHAT IT READS IS OF BULK AT MOST 1048576: true; the input reads as it did. -/
def planWhoseUptoRow : OpenClaim := { program := "ytdnjoflahiffhaa", sum := "16a02b5d02b20ac20721fc398c1d956387a0e6b4d3ea97579eb949d4d7f5fbf0", func := "aileron/aileronlaw06.PlanWhose", spec := "planWhose", unfollowed := true, recurses := true, apart := false, narrowed := true }
def PlanWhoseUptoSaid : Prop := planWhoseUptoRow.holds Try.pinned (OpenSpec.upto planWhoseSpec)

/-- 'aileronlaw06.PlanApart', WHERE WHAT IT READS IS OF BULK AT MOST 1048576: true; the input reads as it did. -/
def planApartUptoRow : OpenClaim := { program := "ytdnjoflahiffhaa", sum := "16a02b5d02b20ac20721fc398c1d956387a0e6b4d3ea97579eb949d4d7f5fbf0", func := "aileron/aileronlaw06.PlanApart", spec := "planApart", unfollowed := true, recurses := true, apart := false, narrowed := true }
def PlanApartUptoSaid : Prop := planApartUptoRow.holds Try.pinned (OpenSpec.upto planApartSpec)

/-- 'aileronlaw06.PlanFull', WHERE WHAT IT READS IS OF BULK AT MOST 1048576: true; the input reads as it did. -/
def planFullUptoRow : OpenClaim := { program := "ytdnjoflahiffhaa", sum := "16a02b5d02b20ac20721fc398c1d956387a0e6b4d3ea97579eb949d4d7f5fbf0", func := "aileron/aileronlaw06.PlanFull", spec := "planFull", unfollowed := true, recurses := true, apart := false, narrowed := true }
def PlanFullUptoSaid : Prop := planFullUptoRow.holds Try.pinned (OpenSpec.upto planFullSpec)

/-- 'aileronlaw06.PlanRounds', WHERE WHAT IT READS IS OF BULK AT MOST 1048576: true; the input reads as it did. -/
def planRoundsUptoRow : OpenClaim := { program := "ytdnjoflahiffhaa", sum := "16a02b5d02b20ac20721fc398c1d956387a0e6b4d3ea97579eb949d4d7f5fbf0", func := "aileron/aileronlaw06.PlanRounds", spec := "planRounds", unfollowed := true, recurses := true, apart := false, narrowed := true }
def PlanRoundsUptoSaid : Prop := planRoundsUptoRow.holds Try.pinned (OpenSpec.upto planRoundsSpec)

end Rows
end Go.Proofs.Ytdnjoflahiffhaa
