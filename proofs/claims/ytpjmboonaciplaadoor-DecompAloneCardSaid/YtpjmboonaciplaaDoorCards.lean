/-
  DERIVED. GIVEN WITH THE SEED: THE CARDS: each row of YtpjmboonaciplaaDoorRows.lean that lists a variable, with what it lists TIED to the program's text (the seventh form; the later family's looks); each row that meets fmt, with fmt's text TOLD by the authors' own Lean function (tested against real Go, not proved from fmt's source: count such statements apart). THE CARD IS WHAT COUNTS. Prove the row's statement (the work); the ties are given (YtpjmboonaciplaaDoorTie.lean); close each card by the builder's one call (the guide's Derived/Test/ToyasCard.lean, 'card_holds'). Laid BY PROGRAM, IN A SANDBOX (cutbox-door.mjs). By AI agents, Wed Nov 11 2026. No macro, syntax, notation, axiom, sorry.
-/
import Derived.Test.YtpjmboonaciplaaDoorRows
import GoSem.ClaimSeven
namespace Go.Proofs.YtpjmboonaciplaaDoor
namespace Rows

/-- THE TIED CARD OF 'bailifflaw13.DecompRegions'. -/
def decompRegionsCard : Claim7 := { stood := { row := decompRegionsRow, standIns := [], harness := (true, "3c7a13447558c3f4e9c57820440a0e258e62af9e296cd25f6a7921fc7c2f01f1"), looks := false }, kinds := [], alts := [], laidByText := true, laidKinds := [.data], laidTests := true, laidLooks := .later }
def DecompRegionsCardSaid : Prop := Claim7.holds Tryd.pinned (.plain (OpenSpec.ofChange decompRegionsSpec)) decompRegionsCard

/-- THE TIED CARD OF 'bailifflaw13.DecompDual'. -/
def decompDualCard : Claim7 := { stood := { row := decompDualRow, standIns := [], harness := (true, "3c7a13447558c3f4e9c57820440a0e258e62af9e296cd25f6a7921fc7c2f01f1"), looks := false }, kinds := [], alts := [], laidByText := true, laidKinds := [.data], laidTests := true, laidLooks := .later }
def DecompDualCardSaid : Prop := Claim7.holds Tryd.pinned (.plain (OpenSpec.ofChange decompDualSpec)) decompDualCard

/-- THE TIED CARD OF 'bailifflaw13.DecompHigher'. -/
def decompHigherCard : Claim7 := { stood := { row := decompHigherRow, standIns := [], harness := (true, "3c7a13447558c3f4e9c57820440a0e258e62af9e296cd25f6a7921fc7c2f01f1"), looks := false }, kinds := [], alts := [], laidByText := true, laidKinds := [.data], laidTests := true, laidLooks := .later }
def DecompHigherCardSaid : Prop := Claim7.holds Tryd.pinned (.plain (OpenSpec.ofChange decompHigherSpec)) decompHigherCard

/-- THE TIED CARD OF 'bailifflaw13.DecompMoved'. -/
def decompMovedCard : Claim7 := { stood := { row := decompMovedRow, standIns := [], harness := (true, "3c7a13447558c3f4e9c57820440a0e258e62af9e296cd25f6a7921fc7c2f01f1"), looks := false }, kinds := [], alts := [], laidByText := true, laidKinds := [.data], laidTests := true, laidLooks := .later }
def DecompMovedCardSaid : Prop := Claim7.holds Tryd.pinned (.plain (OpenSpec.ofChange decompMovedSpec)) decompMovedCard

/-- THE TIED CARD OF 'bailifflaw13.DecompFewer'. -/
def decompFewerCard : Claim7 := { stood := { row := decompFewerRow, standIns := [], harness := (true, "3c7a13447558c3f4e9c57820440a0e258e62af9e296cd25f6a7921fc7c2f01f1"), looks := false }, kinds := [], alts := [], laidByText := true, laidKinds := [.data], laidTests := true, laidLooks := .later }
def DecompFewerCardSaid : Prop := Claim7.holds Tryd.pinned (.plain (OpenSpec.ofChange decompFewerSpec)) decompFewerCard

/-- THE TIED CARD OF 'bailifflaw13.DecompPart'. -/
def decompPartCard : Claim7 := { stood := { row := decompPartRow, standIns := [], harness := (true, "3c7a13447558c3f4e9c57820440a0e258e62af9e296cd25f6a7921fc7c2f01f1"), looks := false }, kinds := [], alts := [], laidByText := true, laidKinds := [.data], laidTests := true, laidLooks := .later }
def DecompPartCardSaid : Prop := Claim7.holds Tryd.pinned (.plain (OpenSpec.ofChange decompPartSpec)) decompPartCard

/-- THE TIED CARD OF 'bailifflaw13.DecompAlone'. -/
def decompAloneCard : Claim7 := { stood := { row := decompAloneRow, standIns := [], harness := (true, "3c7a13447558c3f4e9c57820440a0e258e62af9e296cd25f6a7921fc7c2f01f1"), looks := false }, kinds := [], alts := [], laidByText := true, laidKinds := [.data], laidTests := true, laidLooks := .later }
def DecompAloneCardSaid : Prop := Claim7.holds Tryd.pinned (.plain (OpenSpec.ofChange decompAloneSpec)) decompAloneCard

/-- THE TIED CARD OF 'bailifflaw13.DecompTwo'. -/
def decompTwoCard : Claim7 := { stood := { row := decompTwoRow, standIns := [], harness := (true, "3c7a13447558c3f4e9c57820440a0e258e62af9e296cd25f6a7921fc7c2f01f1"), looks := false }, kinds := [], alts := [], laidByText := true, laidKinds := [.data], laidTests := true, laidLooks := .later }
def DecompTwoCardSaid : Prop := Claim7.holds Tryd.pinned (.plain (OpenSpec.ofChange decompTwoSpec)) decompTwoCard

/-- THE SECOND FORM's CARD OF 'bailifflaw13.DecompRegions'. -/
def decompRegionsUptoCard : Claim7 := { stood := { row := decompRegionsUptoRow, standIns := [], harness := (true, "3c7a13447558c3f4e9c57820440a0e258e62af9e296cd25f6a7921fc7c2f01f1"), looks := false }, kinds := [], alts := [], laidByText := true, laidKinds := [.data], laidTests := true, laidLooks := .later }
def DecompRegionsUptoCardSaid : Prop := Claim7.holds Tryd.pinned (.plain (OpenSpec.upto decompRegionsSpec)) decompRegionsUptoCard

/-- THE SECOND FORM's CARD OF 'bailifflaw13.DecompDual'. -/
def decompDualUptoCard : Claim7 := { stood := { row := decompDualUptoRow, standIns := [], harness := (true, "3c7a13447558c3f4e9c57820440a0e258e62af9e296cd25f6a7921fc7c2f01f1"), looks := false }, kinds := [], alts := [], laidByText := true, laidKinds := [.data], laidTests := true, laidLooks := .later }
def DecompDualUptoCardSaid : Prop := Claim7.holds Tryd.pinned (.plain (OpenSpec.upto decompDualSpec)) decompDualUptoCard

/-- THE SECOND FORM's CARD OF 'bailifflaw13.DecompHigher'. -/
def decompHigherUptoCard : Claim7 := { stood := { row := decompHigherUptoRow, standIns := [], harness := (true, "3c7a13447558c3f4e9c57820440a0e258e62af9e296cd25f6a7921fc7c2f01f1"), looks := false }, kinds := [], alts := [], laidByText := true, laidKinds := [.data], laidTests := true, laidLooks := .later }
def DecompHigherUptoCardSaid : Prop := Claim7.holds Tryd.pinned (.plain (OpenSpec.upto decompHigherSpec)) decompHigherUptoCard

/-- THE SECOND FORM's CARD OF 'bailifflaw13.DecompMoved'. -/
def decompMovedUptoCard : Claim7 := { stood := { row := decompMovedUptoRow, standIns := [], harness := (true, "3c7a13447558c3f4e9c57820440a0e258e62af9e296cd25f6a7921fc7c2f01f1"), looks := false }, kinds := [], alts := [], laidByText := true, laidKinds := [.data], laidTests := true, laidLooks := .later }
def DecompMovedUptoCardSaid : Prop := Claim7.holds Tryd.pinned (.plain (OpenSpec.upto decompMovedSpec)) decompMovedUptoCard

/-- THE SECOND FORM's CARD OF 'bailifflaw13.DecompFewer'. -/
def decompFewerUptoCard : Claim7 := { stood := { row := decompFewerUptoRow, standIns := [], harness := (true, "3c7a13447558c3f4e9c57820440a0e258e62af9e296cd25f6a7921fc7c2f01f1"), looks := false }, kinds := [], alts := [], laidByText := true, laidKinds := [.data], laidTests := true, laidLooks := .later }
def DecompFewerUptoCardSaid : Prop := Claim7.holds Tryd.pinned (.plain (OpenSpec.upto decompFewerSpec)) decompFewerUptoCard

/-- THE SECOND FORM's CARD OF 'bailifflaw13.DecompPart'. -/
def decompPartUptoCard : Claim7 := { stood := { row := decompPartUptoRow, standIns := [], harness := (true, "3c7a13447558c3f4e9c57820440a0e258e62af9e296cd25f6a7921fc7c2f01f1"), looks := false }, kinds := [], alts := [], laidByText := true, laidKinds := [.data], laidTests := true, laidLooks := .later }
def DecompPartUptoCardSaid : Prop := Claim7.holds Tryd.pinned (.plain (OpenSpec.upto decompPartSpec)) decompPartUptoCard

/-- THE SECOND FORM's CARD OF 'bailifflaw13.DecompAlone'. -/
def decompAloneUptoCard : Claim7 := { stood := { row := decompAloneUptoRow, standIns := [], harness := (true, "3c7a13447558c3f4e9c57820440a0e258e62af9e296cd25f6a7921fc7c2f01f1"), looks := false }, kinds := [], alts := [], laidByText := true, laidKinds := [.data], laidTests := true, laidLooks := .later }
def DecompAloneUptoCardSaid : Prop := Claim7.holds Tryd.pinned (.plain (OpenSpec.upto decompAloneSpec)) decompAloneUptoCard

/-- THE SECOND FORM's CARD OF 'bailifflaw13.DecompTwo'. -/
def decompTwoUptoCard : Claim7 := { stood := { row := decompTwoUptoRow, standIns := [], harness := (true, "3c7a13447558c3f4e9c57820440a0e258e62af9e296cd25f6a7921fc7c2f01f1"), looks := false }, kinds := [], alts := [], laidByText := true, laidKinds := [.data], laidTests := true, laidLooks := .later }
def DecompTwoUptoCardSaid : Prop := Claim7.holds Tryd.pinned (.plain (OpenSpec.upto decompTwoSpec)) decompTwoUptoCard
end Rows
end Go.Proofs.YtpjmboonaciplaaDoor
