/-
  DERIVED. GIVEN WITH THE SEED: THE CARDS: each row of YtghdjkpndhcplaaDoorRows.lean that lists a variable, with what it lists TIED to the program's text (the seventh form; the later family's looks); each row that meets fmt, with fmt's text TOLD by the authors' own Lean function (tested against real Go, not proved from fmt's source: count such statements apart). THE CARD IS WHAT COUNTS. Prove the row's statement (the work); the ties are given (YtghdjkpndhcplaaDoorTie.lean); close each card by the builder's one call (the guide's Derived/Test/ToyasCard.lean, 'card_holds'). Laid BY PROGRAM, IN A SANDBOX (cutbox-door.mjs). By AI agents, Wed Nov 11 2026. No macro, syntax, notation, axiom, sorry.
-/
import Derived.Test.YtghdjkpndhcplaaDoorRows
import GoSem.ClaimSeven
namespace Go.Proofs.YtghdjkpndhcplaaDoor
namespace Rows

/-- THE TIED CARD OF 'bailifflaw17.PlaysWon'. -/
def playsWonCard : Claim7 := { stood := { row := playsWonRow, standIns := [], harness := (true, "c23438c3e06f6b53bcbbae39805e5a8afbf2084a6674131c03b7859beb3477be"), looks := false }, kinds := [], alts := [], laidByText := true, laidKinds := [.data], laidTests := true, laidLooks := .later }
def PlaysWonCardSaid : Prop := Claim7.holds Tryd.pinned (.plain (OpenSpec.ofChange playsWonSpec)) playsWonCard

/-- THE SECOND FORM's CARD OF 'bailifflaw17.PlaysWon'. -/
def playsWonUptoCard : Claim7 := { stood := { row := playsWonUptoRow, standIns := [], harness := (true, "c23438c3e06f6b53bcbbae39805e5a8afbf2084a6674131c03b7859beb3477be"), looks := false }, kinds := [], alts := [], laidByText := true, laidKinds := [.data], laidTests := true, laidLooks := .later }
def PlaysWonUptoCardSaid : Prop := Claim7.holds Tryd.pinned (.plain (OpenSpec.upto playsWonSpec)) playsWonUptoCard
end Rows
end Go.Proofs.YtghdjkpndhcplaaDoor
