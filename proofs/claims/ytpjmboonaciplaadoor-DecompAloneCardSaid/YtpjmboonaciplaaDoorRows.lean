/-
  NARROWER THAN 'FOR EVERY INPUT', by the rows' own cells (each row's printed sentence says how): DecompRegions: laid · DecompDual: laid · DecompHigher: laid · DecompMoved: laid · DecompFewer: laid · DecompPart: laid · DecompAlone: laid · DecompTwo: laid.
  DERIVED. THE GIVEN ROWS OF THIS SEAT. 8 by the template 'for every input the law returns true; each argument reads behind the call as it read before'; 0 by the template 'total and deterministic' (their statements: YtpjmboonaciplaaDoorTotals.lean).
  GIVEN WITH THE SEED: the statements are not yours to turn. If you find one false, say at which input.
  Laid BY PROGRAM, IN A SANDBOX (cutbox-rows.mjs): the forced cells as the released guide's own fill.sh prints them over the translation ba27ee4c6349c4d0… (all of the seat's roots in one cut). By AI agents, Wed Nov 11 2026. No macro, syntax, notation, axiom, sorry.
-/
import Derived.Test.YtpjmboonaciplaaDoorChecked
import GoSem.Claim
import GoSem.ClaimJoined
import GoSem.ClaimMapViews
import Derived.JoinedTies
import Derived.KernelRfl
namespace Go.Proofs.YtpjmboonaciplaaDoor
/- THE CELL 'sum', in the pinned program and in every row, IS THE sha256 OF THE DUMP (.gsa) THAT YtpjmboonaciplaaDoorProg.lean LOADS. Nothing in Lean hashes anything: it is a label: what it is worth is what the hold of that sum in a sandbox is worth. -/
noncomputable def Tryd.pinned : Pinned := { name := "ytpjmboonaciplaadoor", sum := "ba27ee4c6349c4d01c7c9e7d46bbbb25f11fe8d57db18b5f957bfd491dea2cf7", checked := Tryd.checked }
namespace Rows
def none {H : Type} : Left H := { results := [], args := [] }

/- WHAT THE LISTED PACKAGE-LEVEL VARIABLES READ AS WHEN THE CALL BEGINS. Each datum BY PROGRAM (the guide's laid-datum.mjs) off the statement by which the dump's own 'gosem.cut.vars' lays the variable. In a bare row this is a premise. The card (YtpjmboonaciplaaDoorCards.lean) ties it to the program's text. -/
def laid_math_bits_deBruijn64tab {H : Type} : DataW H := .agg [.lit (.int .u8 0), .lit (.int .u8 1), .lit (.int .u8 56), .lit (.int .u8 2), .lit (.int .u8 57), .lit (.int .u8 49), .lit (.int .u8 28), .lit (.int .u8 3), .lit (.int .u8 61), .lit (.int .u8 58), .lit (.int .u8 42), .lit (.int .u8 50), .lit (.int .u8 38), .lit (.int .u8 29), .lit (.int .u8 17), .lit (.int .u8 4), .lit (.int .u8 62), .lit (.int .u8 47), .lit (.int .u8 59), .lit (.int .u8 36), .lit (.int .u8 45), .lit (.int .u8 43), .lit (.int .u8 51), .lit (.int .u8 22), .lit (.int .u8 53), .lit (.int .u8 39), .lit (.int .u8 33), .lit (.int .u8 30), .lit (.int .u8 24), .lit (.int .u8 18), .lit (.int .u8 12), .lit (.int .u8 5), .lit (.int .u8 63), .lit (.int .u8 55), .lit (.int .u8 48), .lit (.int .u8 27), .lit (.int .u8 60), .lit (.int .u8 41), .lit (.int .u8 37), .lit (.int .u8 16), .lit (.int .u8 46), .lit (.int .u8 35), .lit (.int .u8 44), .lit (.int .u8 21), .lit (.int .u8 52), .lit (.int .u8 32), .lit (.int .u8 23), .lit (.int .u8 11), .lit (.int .u8 54), .lit (.int .u8 26), .lit (.int .u8 40), .lit (.int .u8 15), .lit (.int .u8 34), .lit (.int .u8 20), .lit (.int .u8 31), .lit (.int .u8 10), .lit (.int .u8 25), .lit (.int .u8 14), .lit (.int .u8 19), .lit (.int .u8 9), .lit (.int .u8 13), .lit (.int .u8 8), .lit (.int .u8 7), .lit (.int .u8 6)]

/-- 'bailifflaw13.DecompRegions': WHATEVER THE INPUT: true; the input reads as it did. -/
def decompRegionsSpec : ChangeSpec := { name := "decompRegions", fn := fun _ => fun
  | [d] => { results := [.lit (.bool true)], args := [d] }
  | _ => none }
def decompRegionsRow : OpenClaim := { program := "ytpjmboonaciplaadoor", sum := "ba27ee4c6349c4d01c7c9e7d46bbbb25f11fe8d57db18b5f957bfd491dea2cf7", func := "bailiff/bailifflaw13.DecompRegions", spec := "decompRegions", unfollowed := true, recurses := true, named := ["math/bits.deBruijn64tab"], apart := false, laid := [("math/bits.deBruijn64tab", laid_math_bits_deBruijn64tab)] }
def DecompRegionsSaid : Prop := decompRegionsRow.holds Tryd.pinned (OpenSpec.ofChange decompRegionsSpec)

/-- ITS FALSE NEIGHBOUR: 'it returns false'. Refute it at one input. -/
def decompRegionsWrong : ChangeSpec := { name := "decompRegions", fn := fun _ => fun
  | [d] => { results := [.lit (.bool false)], args := [d] }
  | _ => none }
def DecompRegionsWrongFalsely : Prop := decompRegionsRow.holds Tryd.pinned (OpenSpec.ofChange decompRegionsWrong)

/-- 'bailifflaw13.DecompDual': WHATEVER THE INPUT: true; the input reads as it did. -/
def decompDualSpec : ChangeSpec := { name := "decompDual", fn := fun _ => fun
  | [d] => { results := [.lit (.bool true)], args := [d] }
  | _ => none }
def decompDualRow : OpenClaim := { program := "ytpjmboonaciplaadoor", sum := "ba27ee4c6349c4d01c7c9e7d46bbbb25f11fe8d57db18b5f957bfd491dea2cf7", func := "bailiff/bailifflaw13.DecompDual", spec := "decompDual", unfollowed := true, recurses := true, named := ["math/bits.deBruijn64tab"], apart := false, laid := [("math/bits.deBruijn64tab", laid_math_bits_deBruijn64tab)] }
def DecompDualSaid : Prop := decompDualRow.holds Tryd.pinned (OpenSpec.ofChange decompDualSpec)

/-- ITS FALSE NEIGHBOUR: 'it returns false'. Refute it at one input. -/
def decompDualWrong : ChangeSpec := { name := "decompDual", fn := fun _ => fun
  | [d] => { results := [.lit (.bool false)], args := [d] }
  | _ => none }
def DecompDualWrongFalsely : Prop := decompDualRow.holds Tryd.pinned (OpenSpec.ofChange decompDualWrong)

/-- 'bailifflaw13.DecompHigher': WHATEVER THE INPUT: true; the input reads as it did. -/
def decompHigherSpec : ChangeSpec := { name := "decompHigher", fn := fun _ => fun
  | [d] => { results := [.lit (.bool true)], args := [d] }
  | _ => none }
def decompHigherRow : OpenClaim := { program := "ytpjmboonaciplaadoor", sum := "ba27ee4c6349c4d01c7c9e7d46bbbb25f11fe8d57db18b5f957bfd491dea2cf7", func := "bailiff/bailifflaw13.DecompHigher", spec := "decompHigher", unfollowed := true, recurses := true, named := ["math/bits.deBruijn64tab"], apart := false, laid := [("math/bits.deBruijn64tab", laid_math_bits_deBruijn64tab)] }
def DecompHigherSaid : Prop := decompHigherRow.holds Tryd.pinned (OpenSpec.ofChange decompHigherSpec)

/-- ITS FALSE NEIGHBOUR: 'it returns false'. Refute it at one input. -/
def decompHigherWrong : ChangeSpec := { name := "decompHigher", fn := fun _ => fun
  | [d] => { results := [.lit (.bool false)], args := [d] }
  | _ => none }
def DecompHigherWrongFalsely : Prop := decompHigherRow.holds Tryd.pinned (OpenSpec.ofChange decompHigherWrong)

/-- 'bailifflaw13.DecompMoved': WHATEVER THE INPUT: true; the input reads as it did. -/
def decompMovedSpec : ChangeSpec := { name := "decompMoved", fn := fun _ => fun
  | [d] => { results := [.lit (.bool true)], args := [d] }
  | _ => none }
def decompMovedRow : OpenClaim := { program := "ytpjmboonaciplaadoor", sum := "ba27ee4c6349c4d01c7c9e7d46bbbb25f11fe8d57db18b5f957bfd491dea2cf7", func := "bailiff/bailifflaw13.DecompMoved", spec := "decompMoved", unfollowed := true, recurses := true, named := ["math/bits.deBruijn64tab"], apart := false, laid := [("math/bits.deBruijn64tab", laid_math_bits_deBruijn64tab)] }
def DecompMovedSaid : Prop := decompMovedRow.holds Tryd.pinned (OpenSpec.ofChange decompMovedSpec)

/-- ITS FALSE NEIGHBOUR: 'it returns false'. Refute it at one input. -/
def decompMovedWrong : ChangeSpec := { name := "decompMoved", fn := fun _ => fun
  | [d] => { results := [.lit (.bool false)], args := [d] }
  | _ => none }
def DecompMovedWrongFalsely : Prop := decompMovedRow.holds Tryd.pinned (OpenSpec.ofChange decompMovedWrong)

/-- 'bailifflaw13.DecompFewer': WHATEVER THE INPUT: true; the input reads as it did. -/
def decompFewerSpec : ChangeSpec := { name := "decompFewer", fn := fun _ => fun
  | [d1, d2] => { results := [.lit (.bool true)], args := [d1, d2] }
  | _ => none }
def decompFewerRow : OpenClaim := { program := "ytpjmboonaciplaadoor", sum := "ba27ee4c6349c4d01c7c9e7d46bbbb25f11fe8d57db18b5f957bfd491dea2cf7", func := "bailiff/bailifflaw13.DecompFewer", spec := "decompFewer", unfollowed := true, recurses := true, named := ["math/bits.deBruijn64tab"], apart := false, laid := [("math/bits.deBruijn64tab", laid_math_bits_deBruijn64tab)] }
def DecompFewerSaid : Prop := decompFewerRow.holds Tryd.pinned (OpenSpec.ofChange decompFewerSpec)

/-- ITS FALSE NEIGHBOUR: 'it returns false'. Refute it at one input. -/
def decompFewerWrong : ChangeSpec := { name := "decompFewer", fn := fun _ => fun
  | [d1, d2] => { results := [.lit (.bool false)], args := [d1, d2] }
  | _ => none }
def DecompFewerWrongFalsely : Prop := decompFewerRow.holds Tryd.pinned (OpenSpec.ofChange decompFewerWrong)

/-- 'bailifflaw13.DecompPart': WHATEVER THE INPUT: true; the input reads as it did. -/
def decompPartSpec : ChangeSpec := { name := "decompPart", fn := fun _ => fun
  | [d] => { results := [.lit (.bool true)], args := [d] }
  | _ => none }
def decompPartRow : OpenClaim := { program := "ytpjmboonaciplaadoor", sum := "ba27ee4c6349c4d01c7c9e7d46bbbb25f11fe8d57db18b5f957bfd491dea2cf7", func := "bailiff/bailifflaw13.DecompPart", spec := "decompPart", unfollowed := true, recurses := true, named := ["math/bits.deBruijn64tab"], apart := false, laid := [("math/bits.deBruijn64tab", laid_math_bits_deBruijn64tab)] }
def DecompPartSaid : Prop := decompPartRow.holds Tryd.pinned (OpenSpec.ofChange decompPartSpec)

/-- ITS FALSE NEIGHBOUR: 'it returns false'. Refute it at one input. -/
def decompPartWrong : ChangeSpec := { name := "decompPart", fn := fun _ => fun
  | [d] => { results := [.lit (.bool false)], args := [d] }
  | _ => none }
def DecompPartWrongFalsely : Prop := decompPartRow.holds Tryd.pinned (OpenSpec.ofChange decompPartWrong)

/-- 'bailifflaw13.DecompAlone': WHATEVER THE INPUT: true; the input reads as it did. -/
def decompAloneSpec : ChangeSpec := { name := "decompAlone", fn := fun _ => fun
  | [d1, d2] => { results := [.lit (.bool true)], args := [d1, d2] }
  | _ => none }
def decompAloneRow : OpenClaim := { program := "ytpjmboonaciplaadoor", sum := "ba27ee4c6349c4d01c7c9e7d46bbbb25f11fe8d57db18b5f957bfd491dea2cf7", func := "bailiff/bailifflaw13.DecompAlone", spec := "decompAlone", unfollowed := true, recurses := true, named := ["math/bits.deBruijn64tab"], apart := false, laid := [("math/bits.deBruijn64tab", laid_math_bits_deBruijn64tab)] }
def DecompAloneSaid : Prop := decompAloneRow.holds Tryd.pinned (OpenSpec.ofChange decompAloneSpec)

/-- ITS FALSE NEIGHBOUR: 'it returns false'. Refute it at one input. -/
def decompAloneWrong : ChangeSpec := { name := "decompAlone", fn := fun _ => fun
  | [d1, d2] => { results := [.lit (.bool false)], args := [d1, d2] }
  | _ => none }
def DecompAloneWrongFalsely : Prop := decompAloneRow.holds Tryd.pinned (OpenSpec.ofChange decompAloneWrong)

/-- 'bailifflaw13.DecompTwo': WHATEVER THE INPUT: true; the input reads as it did. -/
def decompTwoSpec : ChangeSpec := { name := "decompTwo", fn := fun _ => fun
  | [d1, d2] => { results := [.lit (.bool true)], args := [d1, d2] }
  | _ => none }
def decompTwoRow : OpenClaim := { program := "ytpjmboonaciplaadoor", sum := "ba27ee4c6349c4d01c7c9e7d46bbbb25f11fe8d57db18b5f957bfd491dea2cf7", func := "bailiff/bailifflaw13.DecompTwo", spec := "decompTwo", unfollowed := true, recurses := true, named := ["math/bits.deBruijn64tab"], apart := false, laid := [("math/bits.deBruijn64tab", laid_math_bits_deBruijn64tab)] }
def DecompTwoSaid : Prop := decompTwoRow.holds Tryd.pinned (OpenSpec.ofChange decompTwoSpec)

/-- ITS FALSE NEIGHBOUR: 'it returns false'. Refute it at one input. -/
def decompTwoWrong : ChangeSpec := { name := "decompTwo", fn := fun _ => fun
  | [d1, d2] => { results := [.lit (.bool false)], args := [d1, d2] }
  | _ => none }
def DecompTwoWrongFalsely : Prop := decompTwoRow.holds Tryd.pinned (OpenSpec.ofChange decompTwoWrong)

/- THE SECOND FORM. 'bulk': how many values and letters a reading holds, each counted each time it is reached (what is shared counts as often as it is met; a slice's spare places count too). A statement '..UptoSaid' is the law's where the arguments, and the package variables that the reading takes, are together of bulk at most 1048576: NARROWER than '..Said'. Prove '..Said' where nothing that the law and all that it calls make is longer than what came in: it says more and counts as full. Else prove '..UptoSaid'. A law counts once. -/
mutual
def uptoBulk {H : Type} : DataW H → Nat
  | .lit (.string bytes) => bytes.length + 1
  | .lit _ => 1
  | .nil => 1
  | .ptr d => uptoBulk d + 1
  | .slice elems spare => uptoBulkAll elems + uptoBulkAll spare + 1
  | .agg parts => uptoBulkAll parts + 1
  | .iface _ d => uptoBulk d + 1
  | .map entries => uptoBulkEntries entries + 1
  | .held _ => 1
def uptoBulkAll {H : Type} : List (DataW H) → Nat
  | [] => 0
  | d :: r => uptoBulk d + uptoBulkAll r
def uptoBulkEntries {H : Type} : List (Lit × DataW H) → Nat
  | [] => 0
  | x :: r => uptoBulkEntry x + uptoBulkEntries r
def uptoBulkEntry {H : Type} : Lit × DataW H → Nat
  | (.string bytes, d) => bytes.length + uptoBulk d + 1
  | (_, d) => uptoBulk d + 1
 end
def uptoSmall : (H : Type) → List (DataW H) → Bool := fun _ ds => decide (uptoBulkAll ds ≤ 1048576)
def OpenSpec.upto (s : _root_.Go.ChangeSpec) : _root_.Go.OpenSpec := { _root_.Go.OpenSpec.ofChange s with cond := some uptoSmall }

/-- 'bailifflaw13.DecompRegions', WHERE WHAT IT READS IS OF BULK AT MOST 1048576: true; the input reads as it did. -/
def decompRegionsUptoRow : OpenClaim := { program := "ytpjmboonaciplaadoor", sum := "ba27ee4c6349c4d01c7c9e7d46bbbb25f11fe8d57db18b5f957bfd491dea2cf7", func := "bailiff/bailifflaw13.DecompRegions", spec := "decompRegions", unfollowed := true, recurses := true, named := ["math/bits.deBruijn64tab"], apart := false, laid := [("math/bits.deBruijn64tab", laid_math_bits_deBruijn64tab)], narrowed := true }
def DecompRegionsUptoSaid : Prop := decompRegionsUptoRow.holds Tryd.pinned (OpenSpec.upto decompRegionsSpec)

/-- 'bailifflaw13.DecompDual', WHERE WHAT IT READS IS OF BULK AT MOST 1048576: true; the input reads as it did. -/
def decompDualUptoRow : OpenClaim := { program := "ytpjmboonaciplaadoor", sum := "ba27ee4c6349c4d01c7c9e7d46bbbb25f11fe8d57db18b5f957bfd491dea2cf7", func := "bailiff/bailifflaw13.DecompDual", spec := "decompDual", unfollowed := true, recurses := true, named := ["math/bits.deBruijn64tab"], apart := false, laid := [("math/bits.deBruijn64tab", laid_math_bits_deBruijn64tab)], narrowed := true }
def DecompDualUptoSaid : Prop := decompDualUptoRow.holds Tryd.pinned (OpenSpec.upto decompDualSpec)

/-- 'bailifflaw13.DecompHigher', WHERE WHAT IT READS IS OF BULK AT MOST 1048576: true; the input reads as it did. -/
def decompHigherUptoRow : OpenClaim := { program := "ytpjmboonaciplaadoor", sum := "ba27ee4c6349c4d01c7c9e7d46bbbb25f11fe8d57db18b5f957bfd491dea2cf7", func := "bailiff/bailifflaw13.DecompHigher", spec := "decompHigher", unfollowed := true, recurses := true, named := ["math/bits.deBruijn64tab"], apart := false, laid := [("math/bits.deBruijn64tab", laid_math_bits_deBruijn64tab)], narrowed := true }
def DecompHigherUptoSaid : Prop := decompHigherUptoRow.holds Tryd.pinned (OpenSpec.upto decompHigherSpec)

/-- 'bailifflaw13.DecompMoved', WHERE WHAT IT READS IS OF BULK AT MOST 1048576: true; the input reads as it did. -/
def decompMovedUptoRow : OpenClaim := { program := "ytpjmboonaciplaadoor", sum := "ba27ee4c6349c4d01c7c9e7d46bbbb25f11fe8d57db18b5f957bfd491dea2cf7", func := "bailiff/bailifflaw13.DecompMoved", spec := "decompMoved", unfollowed := true, recurses := true, named := ["math/bits.deBruijn64tab"], apart := false, laid := [("math/bits.deBruijn64tab", laid_math_bits_deBruijn64tab)], narrowed := true }
def DecompMovedUptoSaid : Prop := decompMovedUptoRow.holds Tryd.pinned (OpenSpec.upto decompMovedSpec)

/-- 'bailifflaw13.DecompFewer', WHERE WHAT IT READS IS OF BULK AT MOST 1048576: true; the input reads as it did. -/
def decompFewerUptoRow : OpenClaim := { program := "ytpjmboonaciplaadoor", sum := "ba27ee4c6349c4d01c7c9e7d46bbbb25f11fe8d57db18b5f957bfd491dea2cf7", func := "bailiff/bailifflaw13.DecompFewer", spec := "decompFewer", unfollowed := true, recurses := true, named := ["math/bits.deBruijn64tab"], apart := false, laid := [("math/bits.deBruijn64tab", laid_math_bits_deBruijn64tab)], narrowed := true }
def DecompFewerUptoSaid : Prop := decompFewerUptoRow.holds Tryd.pinned (OpenSpec.upto decompFewerSpec)

/-- 'bailifflaw13.DecompPart', WHERE WHAT IT READS IS OF BULK AT MOST 1048576: true; the input reads as it did. -/
def decompPartUptoRow : OpenClaim := { program := "ytpjmboonaciplaadoor", sum := "ba27ee4c6349c4d01c7c9e7d46bbbb25f11fe8d57db18b5f957bfd491dea2cf7", func := "bailiff/bailifflaw13.DecompPart", spec := "decompPart", unfollowed := true, recurses := true, named := ["math/bits.deBruijn64tab"], apart := false, laid := [("math/bits.deBruijn64tab", laid_math_bits_deBruijn64tab)], narrowed := true }
def DecompPartUptoSaid : Prop := decompPartUptoRow.holds Tryd.pinned (OpenSpec.upto decompPartSpec)

/-- 'bailifflaw13.DecompAlone', WHERE WHAT IT READS IS OF BULK AT MOST 1048576: true; the input reads as it did. -/
def decompAloneUptoRow : OpenClaim := { program := "ytpjmboonaciplaadoor", sum := "ba27ee4c6349c4d01c7c9e7d46bbbb25f11fe8d57db18b5f957bfd491dea2cf7", func := "bailiff/bailifflaw13.DecompAlone", spec := "decompAlone", unfollowed := true, recurses := true, named := ["math/bits.deBruijn64tab"], apart := false, laid := [("math/bits.deBruijn64tab", laid_math_bits_deBruijn64tab)], narrowed := true }
def DecompAloneUptoSaid : Prop := decompAloneUptoRow.holds Tryd.pinned (OpenSpec.upto decompAloneSpec)

/-- 'bailifflaw13.DecompTwo', WHERE WHAT IT READS IS OF BULK AT MOST 1048576: true; the input reads as it did. -/
def decompTwoUptoRow : OpenClaim := { program := "ytpjmboonaciplaadoor", sum := "ba27ee4c6349c4d01c7c9e7d46bbbb25f11fe8d57db18b5f957bfd491dea2cf7", func := "bailiff/bailifflaw13.DecompTwo", spec := "decompTwo", unfollowed := true, recurses := true, named := ["math/bits.deBruijn64tab"], apart := false, laid := [("math/bits.deBruijn64tab", laid_math_bits_deBruijn64tab)], narrowed := true }
def DecompTwoUptoSaid : Prop := decompTwoUptoRow.holds Tryd.pinned (OpenSpec.upto decompTwoSpec)

end Rows
end Go.Proofs.YtpjmboonaciplaaDoor
