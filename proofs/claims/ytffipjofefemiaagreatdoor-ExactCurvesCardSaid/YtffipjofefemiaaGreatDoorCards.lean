/-
  DERIVED. GIVEN WITH THE SEED: THE CARDS: each row of YtffipjofefemiaaGreatDoorRows.lean that lists a variable, with what it lists TIED to the program's text (the seventh form; the later family's looks); each row that meets fmt, with fmt's text TOLD by the authors' own Lean function (tested against real Go, not proved from fmt's source: count such statements apart). THE CARD IS WHAT COUNTS. Prove the row's statement (the work); the ties are given (YtffipjofefemiaaGreatDoorTie.lean); close each card by the builder's one call (the guide's Derived/Test/ToyasCard.lean, 'card_holds'). Laid BY PROGRAM, IN A SANDBOX (cutbox-door.mjs). By AI agents, Wed Nov 11 2026. No macro, syntax, notation, axiom, sorry.
-/
import Derived.Test.YtffipjofefemiaaGreatDoorRows
import GoSem.ClaimSeven
namespace Go.Proofs.YtffipjofefemiaaGreatDoor
namespace Rows

/-- THE TIED CARD OF 'keelblocklaw01.ExactFractions'. -/
def exactFractionsCard : Claim7 := { stood := { row := exactFractionsRow, standIns := [], harness := (true, "857a6a0e82301f01ea25934095d6f4195c3f6a25d2a9fc8348edc7c3a29aa1be"), looks := false }, kinds := [], alts := [], laidByText := true, laidKinds := [.data], laidTests := true, laidLooks := .later }
def ExactFractionsCardSaid : Prop := Claim7.holds Tryz.pinned (.plain (OpenSpec.ofChange exactFractionsSpec)) exactFractionsCard

/-- THE TIED CARD OF 'keelblocklaw01.ExactCurves'. -/
def exactCurvesCard : Claim7 := { stood := { row := exactCurvesRow, standIns := [], harness := (true, "857a6a0e82301f01ea25934095d6f4195c3f6a25d2a9fc8348edc7c3a29aa1be"), looks := false }, kinds := [], alts := [], laidByText := true, laidKinds := [.data], laidTests := true, laidLooks := .later }
def ExactCurvesCardSaid : Prop := Claim7.holds Tryz.pinned (.plain (OpenSpec.ofChange exactCurvesSpec)) exactCurvesCard

/-- THE TIED CARD OF 'keelblocklaw01.ExactSums'. -/
def exactSumsCard : Claim7 := { stood := { row := exactSumsRow, standIns := [], harness := (true, "857a6a0e82301f01ea25934095d6f4195c3f6a25d2a9fc8348edc7c3a29aa1be"), looks := false }, kinds := [], alts := [], laidByText := true, laidKinds := [.data], laidTests := true, laidLooks := .later }
def ExactSumsCardSaid : Prop := Claim7.holds Tryz.pinned (.plain (OpenSpec.ofChange exactSumsSpec)) exactSumsCard

/-- THE TIED CARD OF 'keelblocklaw01.ExactRises'. -/
def exactRisesCard : Claim7 := { stood := { row := exactRisesRow, standIns := [], harness := (true, "857a6a0e82301f01ea25934095d6f4195c3f6a25d2a9fc8348edc7c3a29aa1be"), looks := false }, kinds := [], alts := [], laidByText := true, laidKinds := [.data], laidTests := true, laidLooks := .later }
def ExactRisesCardSaid : Prop := Claim7.holds Tryz.pinned (.plain (OpenSpec.ofChange exactRisesSpec)) exactRisesCard

/-- THE SECOND FORM's CARD OF 'keelblocklaw01.ExactFractions'. -/
def exactFractionsUptoCard : Claim7 := { stood := { row := exactFractionsUptoRow, standIns := [], harness := (true, "857a6a0e82301f01ea25934095d6f4195c3f6a25d2a9fc8348edc7c3a29aa1be"), looks := false }, kinds := [], alts := [], laidByText := true, laidKinds := [.data], laidTests := true, laidLooks := .later }
def ExactFractionsUptoCardSaid : Prop := Claim7.holds Tryz.pinned (.plain (OpenSpec.upto exactFractionsSpec)) exactFractionsUptoCard

/-- THE SECOND FORM's CARD OF 'keelblocklaw01.ExactCurves'. -/
def exactCurvesUptoCard : Claim7 := { stood := { row := exactCurvesUptoRow, standIns := [], harness := (true, "857a6a0e82301f01ea25934095d6f4195c3f6a25d2a9fc8348edc7c3a29aa1be"), looks := false }, kinds := [], alts := [], laidByText := true, laidKinds := [.data], laidTests := true, laidLooks := .later }
def ExactCurvesUptoCardSaid : Prop := Claim7.holds Tryz.pinned (.plain (OpenSpec.upto exactCurvesSpec)) exactCurvesUptoCard

/-- THE SECOND FORM's CARD OF 'keelblocklaw01.ExactSums'. -/
def exactSumsUptoCard : Claim7 := { stood := { row := exactSumsUptoRow, standIns := [], harness := (true, "857a6a0e82301f01ea25934095d6f4195c3f6a25d2a9fc8348edc7c3a29aa1be"), looks := false }, kinds := [], alts := [], laidByText := true, laidKinds := [.data], laidTests := true, laidLooks := .later }
def ExactSumsUptoCardSaid : Prop := Claim7.holds Tryz.pinned (.plain (OpenSpec.upto exactSumsSpec)) exactSumsUptoCard

/-- THE SECOND FORM's CARD OF 'keelblocklaw01.ExactRises'. -/
def exactRisesUptoCard : Claim7 := { stood := { row := exactRisesUptoRow, standIns := [], harness := (true, "857a6a0e82301f01ea25934095d6f4195c3f6a25d2a9fc8348edc7c3a29aa1be"), looks := false }, kinds := [], alts := [], laidByText := true, laidKinds := [.data], laidTests := true, laidLooks := .later }
def ExactRisesUptoCardSaid : Prop := Claim7.holds Tryz.pinned (.plain (OpenSpec.upto exactRisesSpec)) exactRisesUptoCard
end Rows
end Go.Proofs.YtffipjofefemiaaGreatDoor
