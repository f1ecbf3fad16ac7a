/-
  DERIVED. GIVEN WITH THE SEED: THE CARDS: each row of YtoifcnidhfnapaaGreatDoorRows.lean that lists a variable, with what it lists TIED to the program's text (the seventh form; the later family's looks); each row that meets fmt, with fmt's text TOLD by the authors' own Lean function (tested against real Go, not proved from fmt's source: count such statements apart). THE CARD IS WHAT COUNTS. Prove the row's statement (the work); the ties are given (YtoifcnidhfnapaaGreatDoorTie.lean); close each card by the builder's one call (the guide's Derived/Test/ToyasCard.lean, 'card_holds'). Laid BY PROGRAM, IN A SANDBOX (cutbox-door.mjs). By AI agents, Wed Nov 11 2026. No macro, syntax, notation, axiom, sorry.
-/
import Derived.Test.YtoifcnidhfnapaaGreatDoorRows
import GoSem.ClaimSeven
namespace Go.Proofs.YtoifcnidhfnapaaGreatDoor
namespace Rows

/-- THE TIED CARD OF 'viewslaw.Created'. -/
def createdCard : Claim7 := { stood := { row := createdRow, standIns := [], harness := (true, "0fa4787c992c9ccc006fc1a2bac384233001e9ad70a632ae41459e935de2c657"), looks := true }, kinds := [], alts := [], laidByText := true, laidKinds := [.data, .data, .data, .data, .handle], laidTests := true, laidLooks := .later }
def CreatedCardSaid : Prop := Claim7.holds Tryz.pinned (.plain (OpenSpec.ofChange createdSpec)) createdCard

/-- THE TIED CARD OF 'viewslaw.Applied'. -/
def appliedCard : Claim7 := { stood := { row := appliedRow, standIns := [], harness := (true, "0fa4787c992c9ccc006fc1a2bac384233001e9ad70a632ae41459e935de2c657"), looks := true }, kinds := [], alts := [], laidByText := true, laidKinds := [.data, .data, .data, .data, .handle], laidTests := true, laidLooks := .later }
def AppliedCardSaid : Prop := Claim7.holds Tryz.pinned (.plain (OpenSpec.ofChange appliedSpec)) appliedCard

/-- THE TIED CARD OF 'viewslaw.Rowed'. -/
def rowedCard : Claim7 := { stood := { row := rowedRow, standIns := [], harness := (true, "0fa4787c992c9ccc006fc1a2bac384233001e9ad70a632ae41459e935de2c657"), looks := true }, kinds := [], alts := [], laidByText := true, laidKinds := [.data, .data, .data, .data, .handle], laidTests := true, laidLooks := .later }
def RowedCardSaid : Prop := Claim7.holds Tryz.pinned (.plain (OpenSpec.ofChange rowedSpec)) rowedCard

/-- THE TIED CARD OF 'viewslaw.Registered'. -/
def registeredCard : Claim7 := { stood := { row := registeredRow, standIns := [], harness := (true, "0fa4787c992c9ccc006fc1a2bac384233001e9ad70a632ae41459e935de2c657"), looks := true }, kinds := [], alts := [], laidByText := true, laidKinds := [.data, .data, .data, .data, .handle], laidTests := true, laidLooks := .later }
def RegisteredCardSaid : Prop := Claim7.holds Tryz.pinned (.plain (OpenSpec.ofChange registeredSpec)) registeredCard

/-- THE TIED CARD OF 'viewslaw.Viewed'. -/
def viewedCard : Claim7 := { stood := { row := viewedRow, standIns := [], harness := (true, "0fa4787c992c9ccc006fc1a2bac384233001e9ad70a632ae41459e935de2c657"), looks := true }, kinds := [], alts := [], laidByText := true, laidKinds := [.data, .data, .data, .data, .handle], laidTests := true, laidLooks := .later }
def ViewedCardSaid : Prop := Claim7.holds Tryz.pinned (.plain (OpenSpec.ofChange viewedSpec)) viewedCard

/-- THE TIED CARD OF 'viewslaw.Grouped'. -/
def groupedCard : Claim7 := { stood := { row := groupedRow, standIns := [], harness := (true, "0fa4787c992c9ccc006fc1a2bac384233001e9ad70a632ae41459e935de2c657"), looks := true }, kinds := [], alts := [], laidByText := true, laidKinds := [.data, .data, .data, .data, .handle], laidTests := true, laidLooks := .later }
def GroupedCardSaid : Prop := Claim7.holds Tryz.pinned (.plain (OpenSpec.ofChange groupedSpec)) groupedCard

/-- THE TIED CARD OF 'viewslaw.All'. -/
def allCard : Claim7 := { stood := { row := allRow, standIns := [], harness := (true, "0fa4787c992c9ccc006fc1a2bac384233001e9ad70a632ae41459e935de2c657"), looks := true }, kinds := [], alts := [], laidByText := true, laidKinds := [.data, .data, .data, .data, .handle], laidTests := true, laidLooks := .later }
def AllCardSaid : Prop := Claim7.holds Tryz.pinned (.plain (OpenSpec.ofChange allSpec)) allCard

/-- THE TIED CARD OF 'viewskeep.Paths'. -/
def pathsCard : Claim7 := { stood := { row := pathsRow, standIns := [], harness := (true, "0fa4787c992c9ccc006fc1a2bac384233001e9ad70a632ae41459e935de2c657"), looks := true }, kinds := [], alts := [], laidByText := true, laidKinds := [.data, .data, .data, .handle], laidTests := true, laidLooks := .later }
def PathsCardSaid : Prop := Claim7.holds Tryz.pinned (.plain (OpenSpec.ofChange pathsSpec)) pathsCard

/-- THE TIED CARD OF 'viewskeep.Early'. -/
def earlyCard : Claim7 := { stood := { row := earlyRow, standIns := [], harness := (true, "0fa4787c992c9ccc006fc1a2bac384233001e9ad70a632ae41459e935de2c657"), looks := true }, kinds := [], alts := [], laidByText := true, laidKinds := [.data, .data, .data, .handle], laidTests := true, laidLooks := .later }
def EarlyCardSaid : Prop := Claim7.holds Tryz.pinned (.plain (OpenSpec.ofChange earlySpec)) earlyCard

/-- THE TIED CARD OF 'viewskeep.Ordered'. -/
def orderedCard : Claim7 := { stood := { row := orderedRow, standIns := [], harness := (true, "0fa4787c992c9ccc006fc1a2bac384233001e9ad70a632ae41459e935de2c657"), looks := true }, kinds := [], alts := [], laidByText := true, laidKinds := [.data, .data, .data, .handle], laidTests := true, laidLooks := .later }
def OrderedCardSaid : Prop := Claim7.holds Tryz.pinned (.plain (OpenSpec.ofChange orderedSpec)) orderedCard

/-- THE SECOND FORM's CARD OF 'viewslaw.Created'. -/
def createdUptoCard : Claim7 := { stood := { row := createdUptoRow, standIns := [], harness := (true, "0fa4787c992c9ccc006fc1a2bac384233001e9ad70a632ae41459e935de2c657"), looks := true }, kinds := [], alts := [], laidByText := true, laidKinds := [.data, .data, .data, .data, .handle], laidTests := true, laidLooks := .later }
def CreatedUptoCardSaid : Prop := Claim7.holds Tryz.pinned (.plain (OpenSpec.upto createdSpec)) createdUptoCard

/-- THE SECOND FORM's CARD OF 'viewslaw.Applied'. -/
def appliedUptoCard : Claim7 := { stood := { row := appliedUptoRow, standIns := [], harness := (true, "0fa4787c992c9ccc006fc1a2bac384233001e9ad70a632ae41459e935de2c657"), looks := true }, kinds := [], alts := [], laidByText := true, laidKinds := [.data, .data, .data, .data, .handle], laidTests := true, laidLooks := .later }
def AppliedUptoCardSaid : Prop := Claim7.holds Tryz.pinned (.plain (OpenSpec.upto appliedSpec)) appliedUptoCard

/-- THE SECOND FORM's CARD OF 'viewslaw.Rowed'. -/
def rowedUptoCard : Claim7 := { stood := { row := rowedUptoRow, standIns := [], harness := (true, "0fa4787c992c9ccc006fc1a2bac384233001e9ad70a632ae41459e935de2c657"), looks := true }, kinds := [], alts := [], laidByText := true, laidKinds := [.data, .data, .data, .data, .handle], laidTests := true, laidLooks := .later }
def RowedUptoCardSaid : Prop := Claim7.holds Tryz.pinned (.plain (OpenSpec.upto rowedSpec)) rowedUptoCard

/-- THE SECOND FORM's CARD OF 'viewslaw.Registered'. -/
def registeredUptoCard : Claim7 := { stood := { row := registeredUptoRow, standIns := [], harness := (true, "0fa4787c992c9ccc006fc1a2bac384233001e9ad70a632ae41459e935de2c657"), looks := true }, kinds := [], alts := [], laidByText := true, laidKinds := [.data, .data, .data, .data, .handle], laidTests := true, laidLooks := .later }
def RegisteredUptoCardSaid : Prop := Claim7.holds Tryz.pinned (.plain (OpenSpec.upto registeredSpec)) registeredUptoCard

/-- THE SECOND FORM's CARD OF 'viewslaw.Viewed'. -/
def viewedUptoCard : Claim7 := { stood := { row := viewedUptoRow, standIns := [], harness := (true, "0fa4787c992c9ccc006fc1a2bac384233001e9ad70a632ae41459e935de2c657"), looks := true }, kinds := [], alts := [], laidByText := true, laidKinds := [.data, .data, .data, .data, .handle], laidTests := true, laidLooks := .later }
def ViewedUptoCardSaid : Prop := Claim7.holds Tryz.pinned (.plain (OpenSpec.upto viewedSpec)) viewedUptoCard

/-- THE SECOND FORM's CARD OF 'viewslaw.Grouped'. -/
def groupedUptoCard : Claim7 := { stood := { row := groupedUptoRow, standIns := [], harness := (true, "0fa4787c992c9ccc006fc1a2bac384233001e9ad70a632ae41459e935de2c657"), looks := true }, kinds := [], alts := [], laidByText := true, laidKinds := [.data, .data, .data, .data, .handle], laidTests := true, laidLooks := .later }
def GroupedUptoCardSaid : Prop := Claim7.holds Tryz.pinned (.plain (OpenSpec.upto groupedSpec)) groupedUptoCard

/-- THE SECOND FORM's CARD OF 'viewslaw.All'. -/
def allUptoCard : Claim7 := { stood := { row := allUptoRow, standIns := [], harness := (true, "0fa4787c992c9ccc006fc1a2bac384233001e9ad70a632ae41459e935de2c657"), looks := true }, kinds := [], alts := [], laidByText := true, laidKinds := [.data, .data, .data, .data, .handle], laidTests := true, laidLooks := .later }
def AllUptoCardSaid : Prop := Claim7.holds Tryz.pinned (.plain (OpenSpec.upto allSpec)) allUptoCard

/-- THE SECOND FORM's CARD OF 'viewskeep.Paths'. -/
def pathsUptoCard : Claim7 := { stood := { row := pathsUptoRow, standIns := [], harness := (true, "0fa4787c992c9ccc006fc1a2bac384233001e9ad70a632ae41459e935de2c657"), looks := true }, kinds := [], alts := [], laidByText := true, laidKinds := [.data, .data, .data, .handle], laidTests := true, laidLooks := .later }
def PathsUptoCardSaid : Prop := Claim7.holds Tryz.pinned (.plain (OpenSpec.upto pathsSpec)) pathsUptoCard

/-- THE SECOND FORM's CARD OF 'viewskeep.Early'. -/
def earlyUptoCard : Claim7 := { stood := { row := earlyUptoRow, standIns := [], harness := (true, "0fa4787c992c9ccc006fc1a2bac384233001e9ad70a632ae41459e935de2c657"), looks := true }, kinds := [], alts := [], laidByText := true, laidKinds := [.data, .data, .data, .handle], laidTests := true, laidLooks := .later }
def EarlyUptoCardSaid : Prop := Claim7.holds Tryz.pinned (.plain (OpenSpec.upto earlySpec)) earlyUptoCard

/-- THE SECOND FORM's CARD OF 'viewskeep.Ordered'. -/
def orderedUptoCard : Claim7 := { stood := { row := orderedUptoRow, standIns := [], harness := (true, "0fa4787c992c9ccc006fc1a2bac384233001e9ad70a632ae41459e935de2c657"), looks := true }, kinds := [], alts := [], laidByText := true, laidKinds := [.data, .data, .data, .handle], laidTests := true, laidLooks := .later }
def OrderedUptoCardSaid : Prop := Claim7.holds Tryz.pinned (.plain (OpenSpec.upto orderedSpec)) orderedUptoCard
end Rows
end Go.Proofs.YtoifcnidhfnapaaGreatDoor
