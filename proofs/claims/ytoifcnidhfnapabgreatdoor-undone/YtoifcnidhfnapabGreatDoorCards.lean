/-
  DERIVED. GIVEN WITH THE SEED: THE CARDS: each row of YtoifcnidhfnapabGreatDoorRows.lean that lists a variable, with what it lists TIED to the program's text (the seventh form; the later family's looks); each row that meets fmt, with fmt's text TOLD by the authors' own Lean function (tested against real Go, not proved from fmt's source: count such statements apart). THE CARD IS WHAT COUNTS. Prove the row's statement (the work); the ties are given (YtoifcnidhfnapabGreatDoorTie.lean); close each card by the builder's one call (the guide's Derived/Test/ToyasCard.lean, 'card_holds'). Laid BY PROGRAM, IN A SANDBOX (cutbox-door.mjs). By AI agents, Wed Nov 11 2026. No macro, syntax, notation, axiom, sorry.
-/
import Derived.Test.YtoifcnidhfnapabGreatDoorRows
import GoSem.ClaimSeven
namespace Go.Proofs.YtoifcnidhfnapabGreatDoor
namespace Rows

/-- THE TIED CARD OF 'viewskeep.Dealt'. -/
def dealtCard : Claim7 := { stood := { row := dealtRow, standIns := [], harness := (true, "63347360c73256a27fdfa0749e6bb60f347b39ca40f1a66dc09ea663e2c9c479"), looks := true }, kinds := [], alts := [], laidByText := true, laidKinds := [.data, .data, .data, .handle], laidTests := true, laidLooks := .later }
def DealtCardSaid : Prop := Claim7.holds Tryz.pinned (.plain (OpenSpec.ofChange dealtSpec)) dealtCard

/-- THE TIED CARD OF 'viewskeep.Undone'. -/
def undoneCard : Claim7 := { stood := { row := undoneRow, standIns := [], harness := (true, "63347360c73256a27fdfa0749e6bb60f347b39ca40f1a66dc09ea663e2c9c479"), looks := true }, kinds := [], alts := [], laidByText := true, laidKinds := [.data, .data, .data, .handle], laidTests := true, laidLooks := .later }
def UndoneCardSaid : Prop := Claim7.holds Tryz.pinned (.plain (OpenSpec.ofChange undoneSpec)) undoneCard

/-- THE TIED CARD OF 'viewskeep.Folded'. -/
def foldedCard : Claim7 := { stood := { row := foldedRow, standIns := [], harness := (true, "63347360c73256a27fdfa0749e6bb60f347b39ca40f1a66dc09ea663e2c9c479"), looks := true }, kinds := [], alts := [], laidByText := true, laidKinds := [.data, .data, .data, .handle], laidTests := true, laidLooks := .later }
def FoldedCardSaid : Prop := Claim7.holds Tryz.pinned (.plain (OpenSpec.ofChange foldedSpec)) foldedCard

/-- THE SECOND FORM's CARD OF 'viewskeep.Dealt'. -/
def dealtUptoCard : Claim7 := { stood := { row := dealtUptoRow, standIns := [], harness := (true, "63347360c73256a27fdfa0749e6bb60f347b39ca40f1a66dc09ea663e2c9c479"), looks := true }, kinds := [], alts := [], laidByText := true, laidKinds := [.data, .data, .data, .handle], laidTests := true, laidLooks := .later }
def DealtUptoCardSaid : Prop := Claim7.holds Tryz.pinned (.plain (OpenSpec.upto dealtSpec)) dealtUptoCard

/-- THE SECOND FORM's CARD OF 'viewskeep.Undone'. -/
def undoneUptoCard : Claim7 := { stood := { row := undoneUptoRow, standIns := [], harness := (true, "63347360c73256a27fdfa0749e6bb60f347b39ca40f1a66dc09ea663e2c9c479"), looks := true }, kinds := [], alts := [], laidByText := true, laidKinds := [.data, .data, .data, .handle], laidTests := true, laidLooks := .later }
def UndoneUptoCardSaid : Prop := Claim7.holds Tryz.pinned (.plain (OpenSpec.upto undoneSpec)) undoneUptoCard

/-- THE SECOND FORM's CARD OF 'viewskeep.Folded'. -/
def foldedUptoCard : Claim7 := { stood := { row := foldedUptoRow, standIns := [], harness := (true, "63347360c73256a27fdfa0749e6bb60f347b39ca40f1a66dc09ea663e2c9c479"), looks := true }, kinds := [], alts := [], laidByText := true, laidKinds := [.data, .data, .data, .handle], laidTests := true, laidLooks := .later }
def FoldedUptoCardSaid : Prop := Claim7.holds Tryz.pinned (.plain (OpenSpec.upto foldedSpec)) foldedUptoCard
end Rows
end Go.Proofs.YtoifcnidhfnapabGreatDoor
