/-
  DERIVED. GIVEN WITH THE SEED: THE CARDS: each row of YteogpjdefmkkiaaGreatDoorRows.lean that lists a variable, with what it lists TIED to the program's text (the seventh form; the later family's looks); each row that meets fmt, with fmt's text TOLD by the authors' own Lean function (tested against real Go, not proved from fmt's source: count such statements apart). THE CARD IS WHAT COUNTS. Prove the row's statement (the work); the ties are given (YteogpjdefmkkiaaGreatDoorTie.lean); close each card by the builder's one call (the guide's Derived/Test/ToyasCard.lean, 'card_holds'). Laid BY PROGRAM, IN A SANDBOX (cutbox-door.mjs). By AI agents, Wed Nov 11 2026. No macro, syntax, notation, axiom, sorry.
-/
import Derived.Test.YteogpjdefmkkiaaGreatDoorRows
import GoSem.ClaimSeven
namespace Go.Proofs.YteogpjdefmkkiaaGreatDoor
namespace Rows

/-- THE TIED CARD OF 'keelblocklaw01.ExactTexts'. -/
def exactTextsCard : Claim7 := { stood := { row := exactTextsRow, standIns := [], harness := (true, "8797164f8dbc5f457defa41bfcf705dd1fa82fe7366239ba30dafad8aea7ae39"), looks := false }, kinds := [], alts := [], laidByText := true, laidKinds := [.data, .data, .data], laidTests := true, laidLooks := .later }
def ExactTextsCardSaid : Prop := Claim7.holds Tryz.pinned (.plain (OpenSpec.ofChange exactTextsSpec)) exactTextsCard

/-- THE TIED CARD OF 'keelblocklaw01.ExactFractions'. -/
def exactFractionsCard : Claim7 := { stood := { row := exactFractionsRow, standIns := [], harness := (true, "8797164f8dbc5f457defa41bfcf705dd1fa82fe7366239ba30dafad8aea7ae39"), looks := false }, kinds := [], alts := [], laidByText := true, laidKinds := [.data], laidTests := true, laidLooks := .later }
def ExactFractionsCardSaid : Prop := Claim7.holds Tryz.pinned (.plain (OpenSpec.ofChange exactFractionsSpec)) exactFractionsCard

/-- THE TIED CARD OF 'keelblocklaw01.ExactRises'. -/
def exactRisesCard : Claim7 := { stood := { row := exactRisesRow, standIns := [], harness := (true, "8797164f8dbc5f457defa41bfcf705dd1fa82fe7366239ba30dafad8aea7ae39"), looks := false }, kinds := [], alts := [], laidByText := true, laidKinds := [.data], laidTests := true, laidLooks := .later }
def ExactRisesCardSaid : Prop := Claim7.holds Tryz.pinned (.plain (OpenSpec.ofChange exactRisesSpec)) exactRisesCard

/-- THE SECOND FORM's CARD OF 'keelblocklaw01.ExactTexts'. -/
def exactTextsUptoCard : Claim7 := { stood := { row := exactTextsUptoRow, standIns := [], harness := (true, "8797164f8dbc5f457defa41bfcf705dd1fa82fe7366239ba30dafad8aea7ae39"), looks := false }, kinds := [], alts := [], laidByText := true, laidKinds := [.data, .data, .data], laidTests := true, laidLooks := .later }
def ExactTextsUptoCardSaid : Prop := Claim7.holds Tryz.pinned (.plain (OpenSpec.upto exactTextsSpec)) exactTextsUptoCard

/-- THE SECOND FORM's CARD OF 'keelblocklaw01.ExactFractions'. -/
def exactFractionsUptoCard : Claim7 := { stood := { row := exactFractionsUptoRow, standIns := [], harness := (true, "8797164f8dbc5f457defa41bfcf705dd1fa82fe7366239ba30dafad8aea7ae39"), looks := false }, kinds := [], alts := [], laidByText := true, laidKinds := [.data], laidTests := true, laidLooks := .later }
def ExactFractionsUptoCardSaid : Prop := Claim7.holds Tryz.pinned (.plain (OpenSpec.upto exactFractionsSpec)) exactFractionsUptoCard

/-- THE SECOND FORM's CARD OF 'keelblocklaw01.ExactRises'. -/
def exactRisesUptoCard : Claim7 := { stood := { row := exactRisesUptoRow, standIns := [], harness := (true, "8797164f8dbc5f457defa41bfcf705dd1fa82fe7366239ba30dafad8aea7ae39"), looks := false }, kinds := [], alts := [], laidByText := true, laidKinds := [.data], laidTests := true, laidLooks := .later }
def ExactRisesUptoCardSaid : Prop := Claim7.holds Tryz.pinned (.plain (OpenSpec.upto exactRisesSpec)) exactRisesUptoCard
end Rows
end Go.Proofs.YteogpjdefmkkiaaGreatDoor
