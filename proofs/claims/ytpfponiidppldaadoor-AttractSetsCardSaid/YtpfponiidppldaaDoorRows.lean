/-
  NARROWER THAN 'FOR EVERY INPUT', by the rows' own cells (each row's printed sentence says how): AttractSets: laid · AttractTraps: laid · AttractAgain: laid · AttractDual: laid · AttractOwn: laid · AttractWays: laid.
  DERIVED. THE GIVEN ROWS OF THIS SEAT. 6 by the template 'for every input the law returns true; each argument reads behind the call as it read before'; 0 by the template 'total and deterministic' (their statements: YtpfponiidppldaaDoorTotals.lean).
  GIVEN WITH THE SEED: the statements are not yours to turn. If you find one false, say at which input.
  Laid BY PROGRAM, IN A SANDBOX (cutbox-rows.mjs): the forced cells as the released guide's own fill.sh prints them over the translation ae76485d6a90856a… (all of the seat's roots in one cut). By AI agents, Wed Nov 11 2026. No macro, syntax, notation, axiom, sorry.
-/
import Derived.Test.YtpfponiidppldaaDoorChecked
import GoSem.Claim
import GoSem.ClaimJoined
import GoSem.ClaimMapViews
import Derived.JoinedTies
import Derived.KernelRfl
namespace Go.Proofs.YtpfponiidppldaaDoor
/- THE CELL 'sum', in the pinned program and in every row, IS THE sha256 OF THE DUMP (.gsa) THAT YtpfponiidppldaaDoorProg.lean LOADS. Nothing in Lean hashes anything: it is a label: what it is worth is what the hold of that sum in a sandbox is worth. -/
noncomputable def Tryd.pinned : Pinned := { name := "ytpfponiidppldaadoor", sum := "ae76485d6a90856a5b8e5412fc05517d6b0b9a5da09c0dbaa2ffab3dcd49784c", checked := Tryd.checked }
namespace Rows
def none {H : Type} : Left H := { results := [], args := [] }

/- WHAT THE LISTED PACKAGE-LEVEL VARIABLES READ AS WHEN THE CALL BEGINS. Each datum BY PROGRAM (the guide's laid-datum.mjs) off the statement by which the dump's own 'gosem.cut.vars' lays the variable. In a bare row this is a premise. The card (YtpfponiidppldaaDoorCards.lean) ties it to the program's text. -/
def laid_math_bits_deBruijn64tab {H : Type} : DataW H := .agg [.lit (.int .u8 0), .lit (.int .u8 1), .lit (.int .u8 56), .lit (.int .u8 2), .lit (.int .u8 57), .lit (.int .u8 49), .lit (.int .u8 28), .lit (.int .u8 3), .lit (.int .u8 61), .lit (.int .u8 58), .lit (.int .u8 42), .lit (.int .u8 50), .lit (.int .u8 38), .lit (.int .u8 29), .lit (.int .u8 17), .lit (.int .u8 4), .lit (.int .u8 62), .lit (.int .u8 47), .lit (.int .u8 59), .lit (.int .u8 36), .lit (.int .u8 45), .lit (.int .u8 43), .lit (.int .u8 51), .lit (.int .u8 22), .lit (.int .u8 53), .lit (.int .u8 39), .lit (.int .u8 33), .lit (.int .u8 30), .lit (.int .u8 24), .lit (.int .u8 18), .lit (.int .u8 12), .lit (.int .u8 5), .lit (.int .u8 63), .lit (.int .u8 55), .lit (.int .u8 48), .lit (.int .u8 27), .lit (.int .u8 60), .lit (.int .u8 41), .lit (.int .u8 37), .lit (.int .u8 16), .lit (.int .u8 46), .lit (.int .u8 35), .lit (.int .u8 44), .lit (.int .u8 21), .lit (.int .u8 52), .lit (.int .u8 32), .lit (.int .u8 23), .lit (.int .u8 11), .lit (.int .u8 54), .lit (.int .u8 26), .lit (.int .u8 40), .lit (.int .u8 15), .lit (.int .u8 34), .lit (.int .u8 20), .lit (.int .u8 31), .lit (.int .u8 10), .lit (.int .u8 25), .lit (.int .u8 14), .lit (.int .u8 19), .lit (.int .u8 9), .lit (.int .u8 13), .lit (.int .u8 8), .lit (.int .u8 7), .lit (.int .u8 6)]

/-- 'bailifflaw12.AttractSets': WHATEVER THE INPUT: true; the input reads as it did. -/
def attractSetsSpec : ChangeSpec := { name := "attractSets", fn := fun _ => fun
  | [d1, d2, d3, d4] => { results := [.lit (.bool true)], args := [d1, d2, d3, d4] }
  | _ => none }
def attractSetsRow : OpenClaim := { program := "ytpfponiidppldaadoor", sum := "ae76485d6a90856a5b8e5412fc05517d6b0b9a5da09c0dbaa2ffab3dcd49784c", func := "bailiff/bailifflaw12.AttractSets", spec := "attractSets", named := ["math/bits.deBruijn64tab"], apart := false, laid := [("math/bits.deBruijn64tab", laid_math_bits_deBruijn64tab)] }
def AttractSetsSaid : Prop := attractSetsRow.holds Tryd.pinned (OpenSpec.ofChange attractSetsSpec)

/-- ITS FALSE NEIGHBOUR: 'it returns false'. Refute it at one input. -/
def attractSetsWrong : ChangeSpec := { name := "attractSets", fn := fun _ => fun
  | [d1, d2, d3, d4] => { results := [.lit (.bool false)], args := [d1, d2, d3, d4] }
  | _ => none }
def AttractSetsWrongFalsely : Prop := attractSetsRow.holds Tryd.pinned (OpenSpec.ofChange attractSetsWrong)

/-- 'bailifflaw12.AttractTraps': WHATEVER THE INPUT: true; the input reads as it did. -/
def attractTrapsSpec : ChangeSpec := { name := "attractTraps", fn := fun _ => fun
  | [d1, d2, d3, d4] => { results := [.lit (.bool true)], args := [d1, d2, d3, d4] }
  | _ => none }
def attractTrapsRow : OpenClaim := { program := "ytpfponiidppldaadoor", sum := "ae76485d6a90856a5b8e5412fc05517d6b0b9a5da09c0dbaa2ffab3dcd49784c", func := "bailiff/bailifflaw12.AttractTraps", spec := "attractTraps", named := ["math/bits.deBruijn64tab"], apart := false, laid := [("math/bits.deBruijn64tab", laid_math_bits_deBruijn64tab)] }
def AttractTrapsSaid : Prop := attractTrapsRow.holds Tryd.pinned (OpenSpec.ofChange attractTrapsSpec)

/-- ITS FALSE NEIGHBOUR: 'it returns false'. Refute it at one input. -/
def attractTrapsWrong : ChangeSpec := { name := "attractTraps", fn := fun _ => fun
  | [d1, d2, d3, d4] => { results := [.lit (.bool false)], args := [d1, d2, d3, d4] }
  | _ => none }
def AttractTrapsWrongFalsely : Prop := attractTrapsRow.holds Tryd.pinned (OpenSpec.ofChange attractTrapsWrong)

/-- 'bailifflaw12.AttractAgain': WHATEVER THE INPUT: true; the input reads as it did. -/
def attractAgainSpec : ChangeSpec := { name := "attractAgain", fn := fun _ => fun
  | [d1, d2, d3, d4, d5] => { results := [.lit (.bool true)], args := [d1, d2, d3, d4, d5] }
  | _ => none }
def attractAgainRow : OpenClaim := { program := "ytpfponiidppldaadoor", sum := "ae76485d6a90856a5b8e5412fc05517d6b0b9a5da09c0dbaa2ffab3dcd49784c", func := "bailiff/bailifflaw12.AttractAgain", spec := "attractAgain", named := ["math/bits.deBruijn64tab"], apart := false, laid := [("math/bits.deBruijn64tab", laid_math_bits_deBruijn64tab)] }
def AttractAgainSaid : Prop := attractAgainRow.holds Tryd.pinned (OpenSpec.ofChange attractAgainSpec)

/-- ITS FALSE NEIGHBOUR: 'it returns false'. Refute it at one input. -/
def attractAgainWrong : ChangeSpec := { name := "attractAgain", fn := fun _ => fun
  | [d1, d2, d3, d4, d5] => { results := [.lit (.bool false)], args := [d1, d2, d3, d4, d5] }
  | _ => none }
def AttractAgainWrongFalsely : Prop := attractAgainRow.holds Tryd.pinned (OpenSpec.ofChange attractAgainWrong)

/-- 'bailifflaw12.AttractDual': WHATEVER THE INPUT: true; the input reads as it did. -/
def attractDualSpec : ChangeSpec := { name := "attractDual", fn := fun _ => fun
  | [d1, d2, d3, d4] => { results := [.lit (.bool true)], args := [d1, d2, d3, d4] }
  | _ => none }
def attractDualRow : OpenClaim := { program := "ytpfponiidppldaadoor", sum := "ae76485d6a90856a5b8e5412fc05517d6b0b9a5da09c0dbaa2ffab3dcd49784c", func := "bailiff/bailifflaw12.AttractDual", spec := "attractDual", named := ["math/bits.deBruijn64tab"], apart := false, laid := [("math/bits.deBruijn64tab", laid_math_bits_deBruijn64tab)] }
def AttractDualSaid : Prop := attractDualRow.holds Tryd.pinned (OpenSpec.ofChange attractDualSpec)

/-- ITS FALSE NEIGHBOUR: 'it returns false'. Refute it at one input. -/
def attractDualWrong : ChangeSpec := { name := "attractDual", fn := fun _ => fun
  | [d1, d2, d3, d4] => { results := [.lit (.bool false)], args := [d1, d2, d3, d4] }
  | _ => none }
def AttractDualWrongFalsely : Prop := attractDualRow.holds Tryd.pinned (OpenSpec.ofChange attractDualWrong)

/-- 'bailifflaw12.AttractOwn': WHATEVER THE INPUT: true; the input reads as it did. -/
def attractOwnSpec : ChangeSpec := { name := "attractOwn", fn := fun _ => fun
  | [d1, d2, d3, d4] => { results := [.lit (.bool true)], args := [d1, d2, d3, d4] }
  | _ => none }
def attractOwnRow : OpenClaim := { program := "ytpfponiidppldaadoor", sum := "ae76485d6a90856a5b8e5412fc05517d6b0b9a5da09c0dbaa2ffab3dcd49784c", func := "bailiff/bailifflaw12.AttractOwn", spec := "attractOwn", named := ["math/bits.deBruijn64tab"], apart := false, laid := [("math/bits.deBruijn64tab", laid_math_bits_deBruijn64tab)] }
def AttractOwnSaid : Prop := attractOwnRow.holds Tryd.pinned (OpenSpec.ofChange attractOwnSpec)

/-- ITS FALSE NEIGHBOUR: 'it returns false'. Refute it at one input. -/
def attractOwnWrong : ChangeSpec := { name := "attractOwn", fn := fun _ => fun
  | [d1, d2, d3, d4] => { results := [.lit (.bool false)], args := [d1, d2, d3, d4] }
  | _ => none }
def AttractOwnWrongFalsely : Prop := attractOwnRow.holds Tryd.pinned (OpenSpec.ofChange attractOwnWrong)

/-- 'bailifflaw12.AttractWays': WHATEVER THE INPUT: true; the input reads as it did. -/
def attractWaysSpec : ChangeSpec := { name := "attractWays", fn := fun _ => fun
  | [d1, d2, d3, d4] => { results := [.lit (.bool true)], args := [d1, d2, d3, d4] }
  | _ => none }
def attractWaysRow : OpenClaim := { program := "ytpfponiidppldaadoor", sum := "ae76485d6a90856a5b8e5412fc05517d6b0b9a5da09c0dbaa2ffab3dcd49784c", func := "bailiff/bailifflaw12.AttractWays", spec := "attractWays", named := ["math/bits.deBruijn64tab"], apart := false, laid := [("math/bits.deBruijn64tab", laid_math_bits_deBruijn64tab)] }
def AttractWaysSaid : Prop := attractWaysRow.holds Tryd.pinned (OpenSpec.ofChange attractWaysSpec)

/-- ITS FALSE NEIGHBOUR: 'it returns false'. Refute it at one input. -/
def attractWaysWrong : ChangeSpec := { name := "attractWays", fn := fun _ => fun
  | [d1, d2, d3, d4] => { results := [.lit (.bool false)], args := [d1, d2, d3, d4] }
  | _ => none }
def AttractWaysWrongFalsely : Prop := attractWaysRow.holds Tryd.pinned (OpenSpec.ofChange attractWaysWrong)

/- THE SECOND FORM. 'bulk': how many values and letters a reading holds, each counted each time it is reached (what is shared counts as often as it is met; a slice's spare places count too). A statement '..UptoSaid' is the law's where the arguments, and the package variables that the reading takes, are together of bulk at most 1048576: NARROWER than '..Said'. Prove '..Said' where nothing that the law and all that it calls make is longer than what came in: it says more and counts as full. Else prove '..UptoSaid'. A law counts once. -/
mutual
def uptoBulk {H : Type} : DataW H → Nat
  | .lit (.string bytes) => bytes.length + 1
  | .lit _ => 1
  | .nil => 1
  | .ptr d => uptoBulk d + 1
  | .slice elems spare => uptoBulkAll elems + uptoBulkAll spare + 1
  | .agg parts => uptoBulkAll parts + 1
  | .iface _ d => uptoBulk d + 1
  | .map entries => uptoBulkEntries entries + 1
  | .held _ => 1
def uptoBulkAll {H : Type} : List (DataW H) → Nat
  | [] => 0
  | d :: r => uptoBulk d + uptoBulkAll r
def uptoBulkEntries {H : Type} : List (Lit × DataW H) → Nat
  | [] => 0
  | x :: r => uptoBulkEntry x + uptoBulkEntries r
def uptoBulkEntry {H : Type} : Lit × DataW H → Nat
  | (.string bytes, d) => bytes.length + uptoBulk d + 1
  | (_, d) => uptoBulk d + 1
 end
def uptoSmall : (H : Type) → List (DataW H) → Bool := fun _ ds => decide (uptoBulkAll ds ≤ 1048576)
def OpenSpec.upto (s : _root_.Go.ChangeSpec) : _root_.Go.OpenSpec := { _root_.Go.OpenSpec.ofChange s with cond := some uptoSmall }

/-- 'bailifflaw12.AttractSets', WHERE WHAT IT READS IS OF BULK AT MOST 1048576: true; the input reads as it did. -/
def attractSetsUptoRow : OpenClaim := { program := "ytpfponiidppldaadoor", sum := "ae76485d6a90856a5b8e5412fc05517d6b0b9a5da09c0dbaa2ffab3dcd49784c", func := "bailiff/bailifflaw12.AttractSets", spec := "attractSets", named := ["math/bits.deBruijn64tab"], apart := false, laid := [("math/bits.deBruijn64tab", laid_math_bits_deBruijn64tab)], narrowed := true }
def AttractSetsUptoSaid : Prop := attractSetsUptoRow.holds Tryd.pinned (OpenSpec.upto attractSetsSpec)

/-- 'bailifflaw12.AttractTraps', WHERE WHAT IT READS IS OF BULK AT MOST 1048576: true; the input reads as it did. -/
def attractTrapsUptoRow : OpenClaim := { program := "ytpfponiidppldaadoor", sum := "ae76485d6a90856a5b8e5412fc05517d6b0b9a5da09c0dbaa2ffab3dcd49784c", func := "bailiff/bailifflaw12.AttractTraps", spec := "attractTraps", named := ["math/bits.deBruijn64tab"], apart := false, laid := [("math/bits.deBruijn64tab", laid_math_bits_deBruijn64tab)], narrowed := true }
def AttractTrapsUptoSaid : Prop := attractTrapsUptoRow.holds Tryd.pinned (OpenSpec.upto attractTrapsSpec)

/-- 'bailifflaw12.AttractAgain', WHERE WHAT IT READS IS OF BULK AT MOST 1048576: true; the input reads as it did. -/
def attractAgainUptoRow : OpenClaim := { program := "ytpfponiidppldaadoor", sum := "ae76485d6a90856a5b8e5412fc05517d6b0b9a5da09c0dbaa2ffab3dcd49784c", func := "bailiff/bailifflaw12.AttractAgain", spec := "attractAgain", named := ["math/bits.deBruijn64tab"], apart := false, laid := [("math/bits.deBruijn64tab", laid_math_bits_deBruijn64tab)], narrowed := true }
def AttractAgainUptoSaid : Prop := attractAgainUptoRow.holds Tryd.pinned (OpenSpec.upto attractAgainSpec)

/-- 'bailifflaw12.AttractDual', WHERE WHAT IT READS IS OF BULK AT MOST 1048576: true; the input reads as it did. -/
def attractDualUptoRow : OpenClaim := { program := "ytpfponiidppldaadoor", sum := "ae76485d6a90856a5b8e5412fc05517d6b0b9a5da09c0dbaa2ffab3dcd49784c", func := "bailiff/bailifflaw12.AttractDual", spec := "attractDual", named := ["math/bits.deBruijn64tab"], apart := false, laid := [("math/bits.deBruijn64tab", laid_math_bits_deBruijn64tab)], narrowed := true }
def AttractDualUptoSaid : Prop := attractDualUptoRow.holds Tryd.pinned (OpenSpec.upto attractDualSpec)

/-- 'bailifflaw12.AttractOwn', WHERE WHAT IT READS IS OF BULK AT MOST 1048576: true; the input reads as it did. -/
def attractOwnUptoRow : OpenClaim := { program := "ytpfponiidppldaadoor", sum := "ae76485d6a90856a5b8e5412fc05517d6b0b9a5da09c0dbaa2ffab3dcd49784c", func := "bailiff/bailifflaw12.AttractOwn", spec := "attractOwn", named := ["math/bits.deBruijn64tab"], apart := false, laid := [("math/bits.deBruijn64tab", laid_math_bits_deBruijn64tab)], narrowed := true }
def AttractOwnUptoSaid : Prop := attractOwnUptoRow.holds Tryd.pinned (OpenSpec.upto attractOwnSpec)

/-- 'bailifflaw12.AttractWays', WHERE WHAT IT READS IS OF BULK AT MOST 1048576: true; the input reads as it did. -/
def attractWaysUptoRow : OpenClaim := { program := "ytpfponiidppldaadoor", sum := "ae76485d6a90856a5b8e5412fc05517d6b0b9a5da09c0dbaa2ffab3dcd49784c", func := "bailiff/bailifflaw12.AttractWays", spec := "attractWays", named := ["math/bits.deBruijn64tab"], apart := false, laid := [("math/bits.deBruijn64tab", laid_math_bits_deBruijn64tab)], narrowed := true }
def AttractWaysUptoSaid : Prop := attractWaysUptoRow.holds Tryd.pinned (OpenSpec.upto attractWaysSpec)

end Rows
end Go.Proofs.YtpfponiidppldaaDoor
