/-
  No cell of these rows narrows 'for every input' (looked for: loops, veiled, ifaces, maps, wideKeys, modest, calm, conditions, laid).
  DERIVED. THE GIVEN ROWS OF THIS SEAT. 3 by the template 'for every input the law returns true; each argument reads behind the call as it read before'; 0 by the template 'total and deterministic' (their statements: YtghdjkpndhcplaaTotals.lean).
  GIVEN WITH THE SEED: the statements are not yours to turn. If you find one false, say at which input.
  Laid BY PROGRAM, IN A SANDBOX (cutbox-rows.mjs): the forced cells as the released guide's own fill.sh prints them over the translation 4c7005f261ce0323… (all of the seat's roots in one cut). By AI agents, Wed Nov 11 2026. No macro, syntax, notation, axiom, sorry.
-/
import Derived.Test.YtghdjkpndhcplaaChecked
import GoSem.Claim
import GoSem.ClaimJoined
import GoSem.ClaimMapViews
import Derived.JoinedTies
import Derived.KernelRfl
namespace Go.Proofs.Ytghdjkpndhcplaa
/- THE CELL 'sum', in the pinned program and in every row, IS THE sha256 OF THE DUMP (.gsa) THAT YtghdjkpndhcplaaProg.lean LOADS. Nothing in Lean hashes anything: it is a label: what it is worth is what the hold of that sum in a sandbox is worth. -/
noncomputable def Try.pinned : Pinned := { name := "ytghdjkpndhcplaa", sum := "4c7005f261ce0323ce4c02a6efc8cb8988ad9daafa8d09ff84537ebda8e83d24", checked := Try.checked }
namespace Rows
def none {H : Type} : Left H := { results := [], args := [] }

/-- 'bailifflaw17.PlaysRuns': WHATEVER THE INPUT: true; the input reads as it did. -/
def playsRunsSpec : ChangeSpec := { name := "playsRuns", fn := fun _ => fun
  | [d1, d2, d3, d4, d5] => { results := [.lit (.bool true)], args := [d1, d2, d3, d4, d5] }
  | _ => none }
def playsRunsRow : OpenClaim := { program := "ytghdjkpndhcplaa", sum := "4c7005f261ce0323ce4c02a6efc8cb8988ad9daafa8d09ff84537ebda8e83d24", func := "bailiff/bailifflaw17.PlaysRuns", spec := "playsRuns", plainKeys := false, apart := false }
def PlaysRunsSaid : Prop := playsRunsRow.holds Try.pinned (OpenSpec.ofChange playsRunsSpec)

/-- ITS FALSE NEIGHBOUR: 'it returns false'. Refute it at one input. -/
def playsRunsWrong : ChangeSpec := { name := "playsRuns", fn := fun _ => fun
  | [d1, d2, d3, d4, d5] => { results := [.lit (.bool false)], args := [d1, d2, d3, d4, d5] }
  | _ => none }
def PlaysRunsWrongFalsely : Prop := playsRunsRow.holds Try.pinned (OpenSpec.ofChange playsRunsWrong)

/-- 'bailifflaw17.PlaysGo': WHATEVER THE INPUT: true; the input reads as it did. -/
def playsGoSpec : ChangeSpec := { name := "playsGo", fn := fun _ => fun
  | [d1, d2, d3, d4, d5] => { results := [.lit (.bool true)], args := [d1, d2, d3, d4, d5] }
  | _ => none }
def playsGoRow : OpenClaim := { program := "ytghdjkpndhcplaa", sum := "4c7005f261ce0323ce4c02a6efc8cb8988ad9daafa8d09ff84537ebda8e83d24", func := "bailiff/bailifflaw17.PlaysGo", spec := "playsGo", plainKeys := false, apart := false }
def PlaysGoSaid : Prop := playsGoRow.holds Try.pinned (OpenSpec.ofChange playsGoSpec)

/-- ITS FALSE NEIGHBOUR: 'it returns false'. Refute it at one input. -/
def playsGoWrong : ChangeSpec := { name := "playsGo", fn := fun _ => fun
  | [d1, d2, d3, d4, d5] => { results := [.lit (.bool false)], args := [d1, d2, d3, d4, d5] }
  | _ => none }
def PlaysGoWrongFalsely : Prop := playsGoRow.holds Try.pinned (OpenSpec.ofChange playsGoWrong)

/-- 'bailifflaw17.PlaysTwice': WHATEVER THE INPUT: true; the input reads as it did. -/
def playsTwiceSpec : ChangeSpec := { name := "playsTwice", fn := fun _ => fun
  | [d1, d2, d3, d4, d5] => { results := [.lit (.bool true)], args := [d1, d2, d3, d4, d5] }
  | _ => none }
def playsTwiceRow : OpenClaim := { program := "ytghdjkpndhcplaa", sum := "4c7005f261ce0323ce4c02a6efc8cb8988ad9daafa8d09ff84537ebda8e83d24", func := "bailiff/bailifflaw17.PlaysTwice", spec := "playsTwice", plainKeys := false, apart := false }
def PlaysTwiceSaid : Prop := playsTwiceRow.holds Try.pinned (OpenSpec.ofChange playsTwiceSpec)

/-- ITS FALSE NEIGHBOUR: 'it returns false'. Refute it at one input. -/
def playsTwiceWrong : ChangeSpec := { name := "playsTwice", fn := fun _ => fun
  | [d1, d2, d3, d4, d5] => { results := [.lit (.bool false)], args := [d1, d2, d3, d4, d5] }
  | _ => none }
def PlaysTwiceWrongFalsely : Prop := playsTwiceRow.holds Try.pinned (OpenSpec.ofChange playsTwiceWrong)

/- THE SECOND FORM. 'bulk': how many values and letters a reading holds, each counted each time it is reached (what is shared counts as often as it is met; a slice's spare places count too). A statement '..UptoSaid' is the law's where the arguments, and the package variables that the reading takes, are together of bulk at most 1048576: NARROWER than '..Said'. Prove '..Said' where nothing that the law and all that it calls make is longer than what came in: it says more and counts as full. Else prove '..UptoSaid'. A law counts once. -/
mutual
def uptoBulk {H : Type} : DataW H → Nat
  | .lit (.string bytes) => bytes.length + 1
  | .lit _ => 1
  | .nil => 1
  | .ptr d => uptoBulk d + 1
  | .slice elems spare => uptoBulkAll elems + uptoBulkAll spare + 1
  | .agg parts => uptoBulkAll parts + 1
  | .iface _ d => uptoBulk d + 1
  | .map entries => uptoBulkEntries entries + 1
  | .held _ => 1
def uptoBulkAll {H : Type} : List (DataW H) → Nat
  | [] => 0
  | d :: r => uptoBulk d + uptoBulkAll r
def uptoBulkEntries {H : Type} : List (Lit × DataW H) → Nat
  | [] => 0
  | x :: r => uptoBulkEntry x + uptoBulkEntries r
def uptoBulkEntry {H : Type} : Lit × DataW H → Nat
  | (.string bytes, d) => bytes.length + uptoBulk d + 1
  | (_, d) => uptoBulk d + 1
 end
def uptoSmall : (H : Type) → List (DataW H) → Bool := fun _ ds => decide (uptoBulkAll ds ≤ 1048576)
def OpenSpec.upto (s : _root_.Go.ChangeSpec) : _root_.Go.OpenSpec := { _root_.Go.OpenSpec.ofChange s with cond := some uptoSmall }

/-- 'bailifflaw17.PlaysRuns', WHERE WHAT IT READS IS OF BULK AT MOST 1048576: true; the input reads as it did. -/
def playsRunsUptoRow : OpenClaim := { program := "ytghdjkpndhcplaa", sum := "4c7005f261ce0323ce4c02a6efc8cb8988ad9daafa8d09ff84537ebda8e83d24", func := "bailiff/bailifflaw17.PlaysRuns", spec := "playsRuns", plainKeys := false, apart := false, narrowed := true }
def PlaysRunsUptoSaid : Prop := playsRunsUptoRow.holds Try.pinned (OpenSpec.upto playsRunsSpec)

/-- 'bailifflaw17.PlaysGo', WHERE WHAT IT READS IS OF BULK AT MOST 1048576: true; the input reads as it did. -/
def playsGoUptoRow : OpenClaim := { program := "ytghdjkpndhcplaa", sum := "4c7005f261ce0323ce4c02a6efc8cb8988ad9daafa8d09ff84537ebda8e83d24", func := "bailiff/bailifflaw17.PlaysGo", spec := "playsGo", plainKeys := false, apart := false, narrowed := true }
def PlaysGoUptoSaid : Prop := playsGoUptoRow.holds Try.pinned (OpenSpec.upto playsGoSpec)

/-- 'bailifflaw17.PlaysTwice', WHERE WHAT IT READS IS OF BULK AT MOST 1048576: true; the input reads as it did. -/
def playsTwiceUptoRow : OpenClaim := { program := "ytghdjkpndhcplaa", sum := "4c7005f261ce0323ce4c02a6efc8cb8988ad9daafa8d09ff84537ebda8e83d24", func := "bailiff/bailifflaw17.PlaysTwice", spec := "playsTwice", plainKeys := false, apart := false, narrowed := true }
def PlaysTwiceUptoSaid : Prop := playsTwiceUptoRow.holds Try.pinned (OpenSpec.upto playsTwiceSpec)

end Rows
end Go.Proofs.Ytghdjkpndhcplaa
