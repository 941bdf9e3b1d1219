/-
  DERIVED. GIVEN WITH THE SEED: THE CARDS: each row of YtpfponiidppldaaDoorRows.lean that lists a variable, with what it lists TIED to the program's text (the seventh form; the later family's looks); each row that meets fmt, with fmt's text TOLD by the authors' own Lean function (tested against real Go, not proved from fmt's source: count such statements apart). THE CARD IS WHAT COUNTS. Prove the row's statement (the work); the ties are given (YtpfponiidppldaaDoorTie.lean); close each card by the builder's one call (the guide's Derived/Test/ToyasCard.lean, 'card_holds'). Laid BY PROGRAM, IN A SANDBOX (cutbox-door.mjs). By AI agents, Wed Nov 11 2026. No macro, syntax, notation, axiom, sorry.
-/
import Derived.Test.YtpfponiidppldaaDoorRows
import GoSem.ClaimSeven
namespace Go.Proofs.YtpfponiidppldaaDoor
namespace Rows

/-- THE TIED CARD OF 'bailifflaw12.AttractSets'. -/
def attractSetsCard : Claim7 := { stood := { row := attractSetsRow, standIns := [], harness := (true, "8a905d15f0eda3ae363f1c53f93a77ea015757daaad475ae138c8651354c6708"), looks := false }, kinds := [], alts := [], laidByText := true, laidKinds := [.data], laidTests := true, laidLooks := .later }
def AttractSetsCardSaid : Prop := Claim7.holds Tryd.pinned (.plain (OpenSpec.ofChange attractSetsSpec)) attractSetsCard

/-- THE TIED CARD OF 'bailifflaw12.AttractTraps'. -/
def attractTrapsCard : Claim7 := { stood := { row := attractTrapsRow, standIns := [], harness := (true, "8a905d15f0eda3ae363f1c53f93a77ea015757daaad475ae138c8651354c6708"), looks := false }, kinds := [], alts := [], laidByText := true, laidKinds := [.data], laidTests := true, laidLooks := .later }
def AttractTrapsCardSaid : Prop := Claim7.holds Tryd.pinned (.plain (OpenSpec.ofChange attractTrapsSpec)) attractTrapsCard

/-- THE TIED CARD OF 'bailifflaw12.AttractAgain'. -/
def attractAgainCard : Claim7 := { stood := { row := attractAgainRow, standIns := [], harness := (true, "8a905d15f0eda3ae363f1c53f93a77ea015757daaad475ae138c8651354c6708"), looks := false }, kinds := [], alts := [], laidByText := true, laidKinds := [.data], laidTests := true, laidLooks := .later }
def AttractAgainCardSaid : Prop := Claim7.holds Tryd.pinned (.plain (OpenSpec.ofChange attractAgainSpec)) attractAgainCard

/-- THE TIED CARD OF 'bailifflaw12.AttractDual'. -/
def attractDualCard : Claim7 := { stood := { row := attractDualRow, standIns := [], harness := (true, "8a905d15f0eda3ae363f1c53f93a77ea015757daaad475ae138c8651354c6708"), looks := false }, kinds := [], alts := [], laidByText := true, laidKinds := [.data], laidTests := true, laidLooks := .later }
def AttractDualCardSaid : Prop := Claim7.holds Tryd.pinned (.plain (OpenSpec.ofChange attractDualSpec)) attractDualCard

/-- THE TIED CARD OF 'bailifflaw12.AttractOwn'. -/
def attractOwnCard : Claim7 := { stood := { row := attractOwnRow, standIns := [], harness := (true, "8a905d15f0eda3ae363f1c53f93a77ea015757daaad475ae138c8651354c6708"), looks := false }, kinds := [], alts := [], laidByText := true, laidKinds := [.data], laidTests := true, laidLooks := .later }
def AttractOwnCardSaid : Prop := Claim7.holds Tryd.pinned (.plain (OpenSpec.ofChange attractOwnSpec)) attractOwnCard

/-- THE TIED CARD OF 'bailifflaw12.AttractWays'. -/
def attractWaysCard : Claim7 := { stood := { row := attractWaysRow, standIns := [], harness := (true, "8a905d15f0eda3ae363f1c53f93a77ea015757daaad475ae138c8651354c6708"), looks := false }, kinds := [], alts := [], laidByText := true, laidKinds := [.data], laidTests := true, laidLooks := .later }
def AttractWaysCardSaid : Prop := Claim7.holds Tryd.pinned (.plain (OpenSpec.ofChange attractWaysSpec)) attractWaysCard

/-- THE SECOND FORM's CARD OF 'bailifflaw12.AttractSets'. -/
def attractSetsUptoCard : Claim7 := { stood := { row := attractSetsUptoRow, standIns := [], harness := (true, "8a905d15f0eda3ae363f1c53f93a77ea015757daaad475ae138c8651354c6708"), looks := false }, kinds := [], alts := [], laidByText := true, laidKinds := [.data], laidTests := true, laidLooks := .later }
def AttractSetsUptoCardSaid : Prop := Claim7.holds Tryd.pinned (.plain (OpenSpec.upto attractSetsSpec)) attractSetsUptoCard

/-- THE SECOND FORM's CARD OF 'bailifflaw12.AttractTraps'. -/
def attractTrapsUptoCard : Claim7 := { stood := { row := attractTrapsUptoRow, standIns := [], harness := (true, "8a905d15f0eda3ae363f1c53f93a77ea015757daaad475ae138c8651354c6708"), looks := false }, kinds := [], alts := [], laidByText := true, laidKinds := [.data], laidTests := true, laidLooks := .later }
def AttractTrapsUptoCardSaid : Prop := Claim7.holds Tryd.pinned (.plain (OpenSpec.upto attractTrapsSpec)) attractTrapsUptoCard

/-- THE SECOND FORM's CARD OF 'bailifflaw12.AttractAgain'. -/
def attractAgainUptoCard : Claim7 := { stood := { row := attractAgainUptoRow, standIns := [], harness := (true, "8a905d15f0eda3ae363f1c53f93a77ea015757daaad475ae138c8651354c6708"), looks := false }, kinds := [], alts := [], laidByText := true, laidKinds := [.data], laidTests := true, laidLooks := .later }
def AttractAgainUptoCardSaid : Prop := Claim7.holds Tryd.pinned (.plain (OpenSpec.upto attractAgainSpec)) attractAgainUptoCard

/-- THE SECOND FORM's CARD OF 'bailifflaw12.AttractDual'. -/
def attractDualUptoCard : Claim7 := { stood := { row := attractDualUptoRow, standIns := [], harness := (true, "8a905d15f0eda3ae363f1c53f93a77ea015757daaad475ae138c8651354c6708"), looks := false }, kinds := [], alts := [], laidByText := true, laidKinds := [.data], laidTests := true, laidLooks := .later }
def AttractDualUptoCardSaid : Prop := Claim7.holds Tryd.pinned (.plain (OpenSpec.upto attractDualSpec)) attractDualUptoCard

/-- THE SECOND FORM's CARD OF 'bailifflaw12.AttractOwn'. -/
def attractOwnUptoCard : Claim7 := { stood := { row := attractOwnUptoRow, standIns := [], harness := (true, "8a905d15f0eda3ae363f1c53f93a77ea015757daaad475ae138c8651354c6708"), looks := false }, kinds := [], alts := [], laidByText := true, laidKinds := [.data], laidTests := true, laidLooks := .later }
def AttractOwnUptoCardSaid : Prop := Claim7.holds Tryd.pinned (.plain (OpenSpec.upto attractOwnSpec)) attractOwnUptoCard

/-- THE SECOND FORM's CARD OF 'bailifflaw12.AttractWays'. -/
def attractWaysUptoCard : Claim7 := { stood := { row := attractWaysUptoRow, standIns := [], harness := (true, "8a905d15f0eda3ae363f1c53f93a77ea015757daaad475ae138c8651354c6708"), looks := false }, kinds := [], alts := [], laidByText := true, laidKinds := [.data], laidTests := true, laidLooks := .later }
def AttractWaysUptoCardSaid : Prop := Claim7.holds Tryd.pinned (.plain (OpenSpec.upto attractWaysSpec)) attractWaysUptoCard
end Rows
end Go.Proofs.YtpfponiidppldaaDoor
