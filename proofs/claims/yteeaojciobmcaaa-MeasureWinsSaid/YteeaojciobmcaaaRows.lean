/-
  No cell of these rows narrows 'for every input' (looked for: loops, veiled, ifaces, maps, wideKeys, modest, calm, conditions, laid).
  DERIVED. THE GIVEN ROWS OF THIS SEAT. 10 by the template 'for every input the law returns true; each argument reads behind the call as it read before'; 0 by the template 'total and deterministic' (their statements: YteeaojciobmcaaaTotals.lean).
  GIVEN WITH THE SEED: the statements are not yours to turn. If you find one false, say at which input.
  Laid BY PROGRAM, IN A SANDBOX (cutbox-rows.mjs): the forced cells as the released guide's own fill.sh prints them over the translation 19137f519f72a498… (all of the seat's roots in one cut). By AI agents, Wed Nov 11 2026. No macro, syntax, notation, axiom, sorry.
-/
import Derived.Test.YteeaojciobmcaaaChecked
import GoSem.Claim
import GoSem.ClaimJoined
import GoSem.ClaimMapViews
import Derived.JoinedTies
import Derived.KernelRfl
namespace Go.Proofs.Yteeaojciobmcaaa
/- THE CELL 'sum', in the pinned program and in every row, IS THE sha256 OF THE DUMP (.gsa) THAT YteeaojciobmcaaaProg.lean LOADS. Nothing in Lean hashes anything: it is a label: what it is worth is what the hold of that sum in a sandbox is worth. -/
noncomputable def Try.pinned : Pinned := { name := "yteeaojciobmcaaa", sum := "19137f519f72a498024ac3c0607e051705dc5a4c710afdd405a92fe6d3759ed6", checked := Try.checked }
namespace Rows
def none {H : Type} : Left H := { results := [], args := [] }

/-- 'bailifflaw14.MeasureCompares': WHATEVER THE INPUT: true; the input reads as it did. -/
def measureComparesSpec : ChangeSpec := { name := "measureCompares", fn := fun _ => fun
  | [d1, d2, d3] => { results := [.lit (.bool true)], args := [d1, d2, d3] }
  | _ => none }
def measureComparesRow : OpenClaim := { program := "yteeaojciobmcaaa", sum := "19137f519f72a498024ac3c0607e051705dc5a4c710afdd405a92fe6d3759ed6", func := "bailiff/bailifflaw14.MeasureCompares", spec := "measureCompares", unfollowed := true, recurses := true, apart := false }
def MeasureComparesSaid : Prop := measureComparesRow.holds Try.pinned (OpenSpec.ofChange measureComparesSpec)

/-- ITS FALSE NEIGHBOUR: 'it returns false'. Refute it at one input. -/
def measureComparesWrong : ChangeSpec := { name := "measureCompares", fn := fun _ => fun
  | [d1, d2, d3] => { results := [.lit (.bool false)], args := [d1, d2, d3] }
  | _ => none }
def MeasureComparesWrongFalsely : Prop := measureComparesRow.holds Try.pinned (OpenSpec.ofChange measureComparesWrong)

/-- 'bailifflaw14.MeasureUps': WHATEVER THE INPUT: true; the input reads as it did. -/
def measureUpsSpec : ChangeSpec := { name := "measureUps", fn := fun _ => fun
  | [d1, d2, d3] => { results := [.lit (.bool true)], args := [d1, d2, d3] }
  | _ => none }
def measureUpsRow : OpenClaim := { program := "yteeaojciobmcaaa", sum := "19137f519f72a498024ac3c0607e051705dc5a4c710afdd405a92fe6d3759ed6", func := "bailiff/bailifflaw14.MeasureUps", spec := "measureUps", unfollowed := true, recurses := true, apart := false }
def MeasureUpsSaid : Prop := measureUpsRow.holds Try.pinned (OpenSpec.ofChange measureUpsSpec)

/-- ITS FALSE NEIGHBOUR: 'it returns false'. Refute it at one input. -/
def measureUpsWrong : ChangeSpec := { name := "measureUps", fn := fun _ => fun
  | [d1, d2, d3] => { results := [.lit (.bool false)], args := [d1, d2, d3] }
  | _ => none }
def MeasureUpsWrongFalsely : Prop := measureUpsRow.holds Try.pinned (OpenSpec.ofChange measureUpsWrong)

/-- 'bailifflaw14.MeasureLifts': WHATEVER THE INPUT: true; the input reads as it did. -/
def measureLiftsSpec : ChangeSpec := { name := "measureLifts", fn := fun _ => fun
  | [d1, d2, d3] => { results := [.lit (.bool true)], args := [d1, d2, d3] }
  | _ => none }
def measureLiftsRow : OpenClaim := { program := "yteeaojciobmcaaa", sum := "19137f519f72a498024ac3c0607e051705dc5a4c710afdd405a92fe6d3759ed6", func := "bailiff/bailifflaw14.MeasureLifts", spec := "measureLifts", unfollowed := true, recurses := true, apart := false }
def MeasureLiftsSaid : Prop := measureLiftsRow.holds Try.pinned (OpenSpec.ofChange measureLiftsSpec)

/-- ITS FALSE NEIGHBOUR: 'it returns false'. Refute it at one input. -/
def measureLiftsWrong : ChangeSpec := { name := "measureLifts", fn := fun _ => fun
  | [d1, d2, d3] => { results := [.lit (.bool false)], args := [d1, d2, d3] }
  | _ => none }
def MeasureLiftsWrongFalsely : Prop := measureLiftsRow.holds Try.pinned (OpenSpec.ofChange measureLiftsWrong)

/-- 'bailifflaw14.MeasureSolves': WHATEVER THE INPUT: true; the input reads as it did. -/
def measureSolvesSpec : ChangeSpec := { name := "measureSolves", fn := fun _ => fun
  | [d] => { results := [.lit (.bool true)], args := [d] }
  | _ => none }
def measureSolvesRow : OpenClaim := { program := "yteeaojciobmcaaa", sum := "19137f519f72a498024ac3c0607e051705dc5a4c710afdd405a92fe6d3759ed6", func := "bailiff/bailifflaw14.MeasureSolves", spec := "measureSolves", unfollowed := true, recurses := true, apart := false }
def MeasureSolvesSaid : Prop := measureSolvesRow.holds Try.pinned (OpenSpec.ofChange measureSolvesSpec)

/-- ITS FALSE NEIGHBOUR: 'it returns false'. Refute it at one input. -/
def measureSolvesWrong : ChangeSpec := { name := "measureSolves", fn := fun _ => fun
  | [d] => { results := [.lit (.bool false)], args := [d] }
  | _ => none }
def MeasureSolvesWrongFalsely : Prop := measureSolvesRow.holds Try.pinned (OpenSpec.ofChange measureSolvesWrong)

/-- 'bailifflaw14.MeasureEvens': WHATEVER THE INPUT: true; the input reads as it did. -/
def measureEvensSpec : ChangeSpec := { name := "measureEvens", fn := fun _ => fun
  | [d1, d2] => { results := [.lit (.bool true)], args := [d1, d2] }
  | _ => none }
def measureEvensRow : OpenClaim := { program := "yteeaojciobmcaaa", sum := "19137f519f72a498024ac3c0607e051705dc5a4c710afdd405a92fe6d3759ed6", func := "bailiff/bailifflaw14.MeasureEvens", spec := "measureEvens", unfollowed := true, recurses := true, apart := false }
def MeasureEvensSaid : Prop := measureEvensRow.holds Try.pinned (OpenSpec.ofChange measureEvensSpec)

/-- ITS FALSE NEIGHBOUR: 'it returns false'. Refute it at one input. -/
def measureEvensWrong : ChangeSpec := { name := "measureEvens", fn := fun _ => fun
  | [d1, d2] => { results := [.lit (.bool false)], args := [d1, d2] }
  | _ => none }
def MeasureEvensWrongFalsely : Prop := measureEvensRow.holds Try.pinned (OpenSpec.ofChange measureEvensWrong)

/-- 'bailifflaw14.MeasureWins': WHATEVER THE INPUT: true; the input reads as it did. -/
def measureWinsSpec : ChangeSpec := { name := "measureWins", fn := fun _ => fun
  | [d] => { results := [.lit (.bool true)], args := [d] }
  | _ => none }
def measureWinsRow : OpenClaim := { program := "yteeaojciobmcaaa", sum := "19137f519f72a498024ac3c0607e051705dc5a4c710afdd405a92fe6d3759ed6", func := "bailiff/bailifflaw14.MeasureWins", spec := "measureWins", unfollowed := true, recurses := true, apart := false }
def MeasureWinsSaid : Prop := measureWinsRow.holds Try.pinned (OpenSpec.ofChange measureWinsSpec)

/-- ITS FALSE NEIGHBOUR: 'it returns false'. Refute it at one input. -/
def measureWinsWrong : ChangeSpec := { name := "measureWins", fn := fun _ => fun
  | [d] => { results := [.lit (.bool false)], args := [d] }
  | _ => none }
def MeasureWinsWrongFalsely : Prop := measureWinsRow.holds Try.pinned (OpenSpec.ofChange measureWinsWrong)

/-- 'bailifflaw14.MeasureBounds': WHATEVER THE INPUT: true; the input reads as it did. -/
def measureBoundsSpec : ChangeSpec := { name := "measureBounds", fn := fun _ => fun
  | [d1, d2] => { results := [.lit (.bool true)], args := [d1, d2] }
  | _ => none }
def measureBoundsRow : OpenClaim := { program := "yteeaojciobmcaaa", sum := "19137f519f72a498024ac3c0607e051705dc5a4c710afdd405a92fe6d3759ed6", func := "bailiff/bailifflaw14.MeasureBounds", spec := "measureBounds", unfollowed := true, recurses := true, apart := false }
def MeasureBoundsSaid : Prop := measureBoundsRow.holds Try.pinned (OpenSpec.ofChange measureBoundsSpec)

/-- ITS FALSE NEIGHBOUR: 'it returns false'. Refute it at one input. -/
def measureBoundsWrong : ChangeSpec := { name := "measureBounds", fn := fun _ => fun
  | [d1, d2] => { results := [.lit (.bool false)], args := [d1, d2] }
  | _ => none }
def MeasureBoundsWrongFalsely : Prop := measureBoundsRow.holds Try.pinned (OpenSpec.ofChange measureBoundsWrong)

/-- 'bailifflaw14.MeasureLeast': WHATEVER THE INPUT: true; the input reads as it did. -/
def measureLeastSpec : ChangeSpec := { name := "measureLeast", fn := fun _ => fun
  | [d1, d2] => { results := [.lit (.bool true)], args := [d1, d2] }
  | _ => none }
def measureLeastRow : OpenClaim := { program := "yteeaojciobmcaaa", sum := "19137f519f72a498024ac3c0607e051705dc5a4c710afdd405a92fe6d3759ed6", func := "bailiff/bailifflaw14.MeasureLeast", spec := "measureLeast", unfollowed := true, recurses := true, apart := false }
def MeasureLeastSaid : Prop := measureLeastRow.holds Try.pinned (OpenSpec.ofChange measureLeastSpec)

/-- ITS FALSE NEIGHBOUR: 'it returns false'. Refute it at one input. -/
def measureLeastWrong : ChangeSpec := { name := "measureLeast", fn := fun _ => fun
  | [d1, d2] => { results := [.lit (.bool false)], args := [d1, d2] }
  | _ => none }
def MeasureLeastWrongFalsely : Prop := measureLeastRow.holds Try.pinned (OpenSpec.ofChange measureLeastWrong)

/-- 'bailifflaw14.MeasureBack': WHATEVER THE INPUT: true; the input reads as it did. -/
def measureBackSpec : ChangeSpec := { name := "measureBack", fn := fun _ => fun
  | [d1, d2, d3] => { results := [.lit (.bool true)], args := [d1, d2, d3] }
  | _ => none }
def measureBackRow : OpenClaim := { program := "yteeaojciobmcaaa", sum := "19137f519f72a498024ac3c0607e051705dc5a4c710afdd405a92fe6d3759ed6", func := "bailiff/bailifflaw14.MeasureBack", spec := "measureBack", unfollowed := true, recurses := true, apart := false }
def MeasureBackSaid : Prop := measureBackRow.holds Try.pinned (OpenSpec.ofChange measureBackSpec)

/-- ITS FALSE NEIGHBOUR: 'it returns false'. Refute it at one input. -/
def measureBackWrong : ChangeSpec := { name := "measureBack", fn := fun _ => fun
  | [d1, d2, d3] => { results := [.lit (.bool false)], args := [d1, d2, d3] }
  | _ => none }
def MeasureBackWrongFalsely : Prop := measureBackRow.holds Try.pinned (OpenSpec.ofChange measureBackWrong)

/-- 'bailifflaw14.MeasureHigher': WHATEVER THE INPUT: true; the input reads as it did. -/
def measureHigherSpec : ChangeSpec := { name := "measureHigher", fn := fun _ => fun
  | [d] => { results := [.lit (.bool true)], args := [d] }
  | _ => none }
def measureHigherRow : OpenClaim := { program := "yteeaojciobmcaaa", sum := "19137f519f72a498024ac3c0607e051705dc5a4c710afdd405a92fe6d3759ed6", func := "bailiff/bailifflaw14.MeasureHigher", spec := "measureHigher", unfollowed := true, recurses := true, apart := false }
def MeasureHigherSaid : Prop := measureHigherRow.holds Try.pinned (OpenSpec.ofChange measureHigherSpec)

/-- ITS FALSE NEIGHBOUR: 'it returns false'. Refute it at one input. -/
def measureHigherWrong : ChangeSpec := { name := "measureHigher", fn := fun _ => fun
  | [d] => { results := [.lit (.bool false)], args := [d] }
  | _ => none }
def MeasureHigherWrongFalsely : Prop := measureHigherRow.holds Try.pinned (OpenSpec.ofChange measureHigherWrong)

/- THE SECOND FORM. 'bulk': how many values and letters a reading holds, each counted each time it is reached (what is shared counts as often as it is met; a slice's spare places count too). A statement '..UptoSaid' is the law's where the arguments, and the package variables that the reading takes, are together of bulk at most 1048576: NARROWER than '..Said'. Prove '..Said' where nothing that the law and all that it calls make is longer than what came in: it says more and counts as full. Else prove '..UptoSaid'. A law counts once. -/
mutual
def uptoBulk {H : Type} : DataW H → Nat
  | .lit (.string bytes) => bytes.length + 1
  | .lit _ => 1
  | .nil => 1
  | .ptr d => uptoBulk d + 1
  | .slice elems spare => uptoBulkAll elems + uptoBulkAll spare + 1
  | .agg parts => uptoBulkAll parts + 1
  | .iface _ d => uptoBulk d + 1
  | .map entries => uptoBulkEntries entries + 1
  | .held _ => 1
def uptoBulkAll {H : Type} : List (DataW H) → Nat
  | [] => 0
  | d :: r => uptoBulk d + uptoBulkAll r
def uptoBulkEntries {H : Type} : List (Lit × DataW H) → Nat
  | [] => 0
  | x :: r => uptoBulkEntry x + uptoBulkEntries r
def uptoBulkEntry {H : Type} : Lit × DataW H → Nat
  | (.string bytes, d) => bytes.length + uptoBulk d + 1
  | (_, d) => uptoBulk d + 1
 end
def uptoSmall : (H : Type) → List (DataW H) → Bool := fun _ ds => decide (uptoBulkAll ds ≤ 1048576)
def OpenSpec.upto (s : _root_.Go.ChangeSpec) : _root_.Go.OpenSpec := { _root_.Go.OpenSpec.ofChange s with cond := some uptoSmall }

/-- 'bailifflaw14.MeasureCompares', WHERE WHAT IT READS IS OF BULK AT MOST 1048576: true; the input reads as it did. -/
def measureComparesUptoRow : OpenClaim := { program := "yteeaojciobmcaaa", sum := "19137f519f72a498024ac3c0607e051705dc5a4c710afdd405a92fe6d3759ed6", func := "bailiff/bailifflaw14.MeasureCompares", spec := "measureCompares", unfollowed := true, recurses := true, apart := false, narrowed := true }
def MeasureComparesUptoSaid : Prop := measureComparesUptoRow.holds Try.pinned (OpenSpec.upto measureComparesSpec)

/-- 'bailifflaw14.MeasureUps', WHERE WHAT IT READS IS OF BULK AT MOST 1048576: true; the input reads as it did. -/
def measureUpsUptoRow : OpenClaim := { program := "yteeaojciobmcaaa", sum := "19137f519f72a498024ac3c0607e051705dc5a4c710afdd405a92fe6d3759ed6", func := "bailiff/bailifflaw14.MeasureUps", spec := "measureUps", unfollowed := true, recurses := true, apart := false, narrowed := true }
def MeasureUpsUptoSaid : Prop := measureUpsUptoRow.holds Try.pinned (OpenSpec.upto measureUpsSpec)

/-- 'bailifflaw14.MeasureLifts', WHERE WHAT IT READS IS OF BULK AT MOST 1048576: true; the input reads as it did. -/
def measureLiftsUptoRow : OpenClaim := { program := "yteeaojciobmcaaa", sum := "19137f519f72a498024ac3c0607e051705dc5a4c710afdd405a92fe6d3759ed6", func := "bailiff/bailifflaw14.MeasureLifts", spec := "measureLifts", unfollowed := true, recurses := true, apart := false, narrowed := true }
def MeasureLiftsUptoSaid : Prop := measureLiftsUptoRow.holds Try.pinned (OpenSpec.upto measureLiftsSpec)

/-- 'bailifflaw14.MeasureSolves', WHERE WHAT IT READS IS OF BULK AT MOST 1048576: true; the input reads as it did. -/
def measureSolvesUptoRow : OpenClaim := { program := "yteeaojciobmcaaa", sum := "19137f519f72a498024ac3c0607e051705dc5a4c710afdd405a92fe6d3759ed6", func := "bailiff/bailifflaw14.MeasureSolves", spec := "measureSolves", unfollowed := true, recurses := true, apart := false, narrowed := true }
def MeasureSolvesUptoSaid : Prop := measureSolvesUptoRow.holds Try.pinned (OpenSpec.upto measureSolvesSpec)

/-- 'bailifflaw14.MeasureEvens', WHERE WHAT IT READS IS OF BULK AT MOST 1048576: true; the input reads as it did. -/
def measureEvensUptoRow : OpenClaim := { program := "yteeaojciobmcaaa", sum := "19137f519f72a498024ac3c0607e051705dc5a4c710afdd405a92fe6d3759ed6", func := "bailiff/bailifflaw14.MeasureEvens", spec := "measureEvens", unfollowed := true, recurses := true, apart := false, narrowed := true }
def MeasureEvensUptoSaid : Prop := measureEvensUptoRow.holds Try.pinned (OpenSpec.upto measureEvensSpec)

/-- 'bailifflaw14.MeasureWins', WHERE WHAT IT READS IS OF BULK AT MOST 1048576: true; the input reads as it did. -/
def measureWinsUptoRow : OpenClaim := { program := "yteeaojciobmcaaa", sum := "19137f519f72a498024ac3c0607e051705dc5a4c710afdd405a92fe6d3759ed6", func := "bailiff/bailifflaw14.MeasureWins", spec := "measureWins", unfollowed := true, recurses := true, apart := false, narrowed := true }
def MeasureWinsUptoSaid : Prop := measureWinsUptoRow.holds Try.pinned (OpenSpec.upto measureWinsSpec)

/-- 'bailifflaw14.MeasureBounds', WHERE WHAT IT READS IS OF BULK AT MOST 1048576: true; the input reads as it did. -/
def measureBoundsUptoRow : OpenClaim := { program := "yteeaojciobmcaaa", sum := "19137f519f72a498024ac3c0607e051705dc5a4c710afdd405a92fe6d3759ed6", func := "bailiff/bailifflaw14.MeasureBounds", spec := "measureBounds", unfollowed := true, recurses := true, apart := false, narrowed := true }
def MeasureBoundsUptoSaid : Prop := measureBoundsUptoRow.holds Try.pinned (OpenSpec.upto measureBoundsSpec)

/-- 'bailifflaw14.MeasureLeast', WHERE WHAT IT READS IS OF BULK AT MOST 1048576: true; the input reads as it did. -/
def measureLeastUptoRow : OpenClaim := { program := "yteeaojciobmcaaa", sum := "19137f519f72a498024ac3c0607e051705dc5a4c710afdd405a92fe6d3759ed6", func := "bailiff/bailifflaw14.MeasureLeast", spec := "measureLeast", unfollowed := true, recurses := true, apart := false, narrowed := true }
def MeasureLeastUptoSaid : Prop := measureLeastUptoRow.holds Try.pinned (OpenSpec.upto measureLeastSpec)

/-- 'bailifflaw14.MeasureBack', WHERE WHAT IT READS IS OF BULK AT MOST 1048576: true; the input reads as it did. -/
def measureBackUptoRow : OpenClaim := { program := "yteeaojciobmcaaa", sum := "19137f519f72a498024ac3c0607e051705dc5a4c710afdd405a92fe6d3759ed6", func := "bailiff/bailifflaw14.MeasureBack", spec := "measureBack", unfollowed := true, recurses := true, apart := false, narrowed := true }
def MeasureBackUptoSaid : Prop := measureBackUptoRow.holds Try.pinned (OpenSpec.upto measureBackSpec)

/-- 'bailifflaw14.MeasureHigher', WHERE WHAT IT READS IS OF BULK AT MOST 1048576: true; the input reads as it did. -/
def measureHigherUptoRow : OpenClaim := { program := "yteeaojciobmcaaa", sum := "19137f519f72a498024ac3c0607e051705dc5a4c710afdd405a92fe6d3759ed6", func := "bailiff/bailifflaw14.MeasureHigher", spec := "measureHigher", unfollowed := true, recurses := true, apart := false, narrowed := true }
def MeasureHigherUptoSaid : Prop := measureHigherUptoRow.holds Try.pinned (OpenSpec.upto measureHigherSpec)

end Rows
end Go.Proofs.Yteeaojciobmcaaa
