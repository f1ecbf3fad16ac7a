/-
  DERIVED. GIVEN WITH THE SEED: THE CARDS: each row of YtgddkjhknlgbbaaGreatDoorRows.lean that lists a variable, with what it lists TIED to the program's text (the seventh form; the later family's looks); each row that meets fmt, with fmt's text TOLD by the authors' own Lean function (tested against real Go, not proved from fmt's source: count such statements apart). THE CARD IS WHAT COUNTS. Prove the row's statement (the work); the ties are given (YtgddkjhknlgbbaaGreatDoorTie.lean); close each card by the builder's one call (the guide's Derived/Test/ToyasCard.lean, 'card_holds'). Laid BY PROGRAM, IN A SANDBOX (cutbox-door.mjs). By AI agents, Wed Nov 11 2026. No macro, syntax, notation, axiom, sorry.
-/
import Derived.Test.YtgddkjhknlgbbaaGreatDoorRows
import GoSem.ClaimSeven
namespace Go.Proofs.YtgddkjhknlgbbaaGreatDoor
namespace Rows

/-- THE TIED CARD OF 'viewslaw.Created'. -/
def createdCard : Claim7 := { stood := { row := createdRow, standIns := [], harness := (true, "e672b7462eca9913079435303b6cfe7e617b3696da60dd63c80ab3577f54bf71"), looks := true }, kinds := [], alts := [], laidByText := true, laidKinds := [.data, .data, .data, .data, .handle], laidTests := true, laidLooks := .later }
def CreatedCardSaid : Prop := Claim7.holds Tryz.pinned (.plain (OpenSpec.ofChange createdSpec)) createdCard

/-- THE TIED CARD OF 'viewslaw.Applied'. -/
def appliedCard : Claim7 := { stood := { row := appliedRow, standIns := [], harness := (true, "e672b7462eca9913079435303b6cfe7e617b3696da60dd63c80ab3577f54bf71"), looks := true }, kinds := [], alts := [], laidByText := true, laidKinds := [.data, .data, .data, .data, .handle], laidTests := true, laidLooks := .later }
def AppliedCardSaid : Prop := Claim7.holds Tryz.pinned (.plain (OpenSpec.ofChange appliedSpec)) appliedCard

/-- THE TIED CARD OF 'viewslaw.Rowed'. -/
def rowedCard : Claim7 := { stood := { row := rowedRow, standIns := [], harness := (true, "e672b7462eca9913079435303b6cfe7e617b3696da60dd63c80ab3577f54bf71"), looks := true }, kinds := [], alts := [], laidByText := true, laidKinds := [.data, .data, .data, .data, .handle], laidTests := true, laidLooks := .later }
def RowedCardSaid : Prop := Claim7.holds Tryz.pinned (.plain (OpenSpec.ofChange rowedSpec)) rowedCard

/-- THE TIED CARD OF 'viewslaw.Registered'. -/
def registeredCard : Claim7 := { stood := { row := registeredRow, standIns := [], harness := (true, "e672b7462eca9913079435303b6cfe7e617b3696da60dd63c80ab3577f54bf71"), looks := true }, kinds := [], alts := [], laidByText := true, laidKinds := [.data, .data, .data, .data, .handle], laidTests := true, laidLooks := .later }
def RegisteredCardSaid : Prop := Claim7.holds Tryz.pinned (.plain (OpenSpec.ofChange registeredSpec)) registeredCard

/-- THE SECOND FORM's CARD OF 'viewslaw.Created'. -/
def createdUptoCard : Claim7 := { stood := { row := createdUptoRow, standIns := [], harness := (true, "e672b7462eca9913079435303b6cfe7e617b3696da60dd63c80ab3577f54bf71"), looks := true }, kinds := [], alts := [], laidByText := true, laidKinds := [.data, .data, .data, .data, .handle], laidTests := true, laidLooks := .later }
def CreatedUptoCardSaid : Prop := Claim7.holds Tryz.pinned (.plain (OpenSpec.upto createdSpec)) createdUptoCard

/-- THE SECOND FORM's CARD OF 'viewslaw.Applied'. -/
def appliedUptoCard : Claim7 := { stood := { row := appliedUptoRow, standIns := [], harness := (true, "e672b7462eca9913079435303b6cfe7e617b3696da60dd63c80ab3577f54bf71"), looks := true }, kinds := [], alts := [], laidByText := true, laidKinds := [.data, .data, .data, .data, .handle], laidTests := true, laidLooks := .later }
def AppliedUptoCardSaid : Prop := Claim7.holds Tryz.pinned (.plain (OpenSpec.upto appliedSpec)) appliedUptoCard

/-- THE SECOND FORM's CARD OF 'viewslaw.Rowed'. -/
def rowedUptoCard : Claim7 := { stood := { row := rowedUptoRow, standIns := [], harness := (true, "e672b7462eca9913079435303b6cfe7e617b3696da60dd63c80ab3577f54bf71"), looks := true }, kinds := [], alts := [], laidByText := true, laidKinds := [.data, .data, .data, .data, .handle], laidTests := true, laidLooks := .later }
def RowedUptoCardSaid : Prop := Claim7.holds Tryz.pinned (.plain (OpenSpec.upto rowedSpec)) rowedUptoCard

/-- THE SECOND FORM's CARD OF 'viewslaw.Registered'. -/
def registeredUptoCard : Claim7 := { stood := { row := registeredUptoRow, standIns := [], harness := (true, "e672b7462eca9913079435303b6cfe7e617b3696da60dd63c80ab3577f54bf71"), looks := true }, kinds := [], alts := [], laidByText := true, laidKinds := [.data, .data, .data, .data, .handle], laidTests := true, laidLooks := .later }
def RegisteredUptoCardSaid : Prop := Claim7.holds Tryz.pinned (.plain (OpenSpec.upto registeredSpec)) registeredUptoCard
end Rows
end Go.Proofs.YtgddkjhknlgbbaaGreatDoor
