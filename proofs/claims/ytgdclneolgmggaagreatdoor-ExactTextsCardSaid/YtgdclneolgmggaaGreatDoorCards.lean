/-
  DERIVED. GIVEN WITH THE SEED: THE CARDS: each row of YtgdclneolgmggaaGreatDoorRows.lean that lists a variable, with what it lists TIED to the program's text (the seventh form; the later family's looks); each row that meets fmt, with fmt's text TOLD by the authors' own Lean function (tested against real Go, not proved from fmt's source: count such statements apart). THE CARD IS WHAT COUNTS. Prove the row's statement (the work); the ties are given (YtgdclneolgmggaaGreatDoorTie.lean); close each card by the builder's one call (the guide's Derived/Test/ToyasCard.lean, 'card_holds'). Laid BY PROGRAM, IN A SANDBOX (cutbox-door.mjs). By AI agents, Wed Nov 11 2026. No macro, syntax, notation, axiom, sorry.
-/
import Derived.Test.YtgdclneolgmggaaGreatDoorRows
import GoSem.ClaimSeven
namespace Go.Proofs.YtgdclneolgmggaaGreatDoor
namespace Rows

/-- THE TIED CARD OF 'keelblocklaw01.ExactTexts'. -/
def exactTextsCard : Claim7 := { stood := { row := exactTextsRow, standIns := [], harness := (true, "2fbb5037b5d2966ec2a9b3e3cad3626bda1c611a6ef8c9116166b418188f0b8f"), looks := false }, kinds := [], alts := [], laidByText := true, laidKinds := [.data, .data, .data], laidTests := true, laidLooks := .later }
def ExactTextsCardSaid : Prop := Claim7.holds Tryz.pinned (.plain (OpenSpec.ofChange exactTextsSpec)) exactTextsCard

/-- THE TIED CARD OF 'keelblocklaw01.ExactChecks'. -/
def exactChecksCard : Claim7 := { stood := { row := exactChecksRow, standIns := [], harness := (true, "2fbb5037b5d2966ec2a9b3e3cad3626bda1c611a6ef8c9116166b418188f0b8f"), looks := false }, kinds := [], alts := [], laidByText := true, laidKinds := [.data], laidTests := true, laidLooks := .later }
def ExactChecksCardSaid : Prop := Claim7.holds Tryz.pinned (.plain (OpenSpec.ofChange exactChecksSpec)) exactChecksCard

/-- THE SECOND FORM's CARD OF 'keelblocklaw01.ExactTexts'. -/
def exactTextsUptoCard : Claim7 := { stood := { row := exactTextsUptoRow, standIns := [], harness := (true, "2fbb5037b5d2966ec2a9b3e3cad3626bda1c611a6ef8c9116166b418188f0b8f"), looks := false }, kinds := [], alts := [], laidByText := true, laidKinds := [.data, .data, .data], laidTests := true, laidLooks := .later }
def ExactTextsUptoCardSaid : Prop := Claim7.holds Tryz.pinned (.plain (OpenSpec.upto exactTextsSpec)) exactTextsUptoCard

/-- THE SECOND FORM's CARD OF 'keelblocklaw01.ExactChecks'. -/
def exactChecksUptoCard : Claim7 := { stood := { row := exactChecksUptoRow, standIns := [], harness := (true, "2fbb5037b5d2966ec2a9b3e3cad3626bda1c611a6ef8c9116166b418188f0b8f"), looks := false }, kinds := [], alts := [], laidByText := true, laidKinds := [.data], laidTests := true, laidLooks := .later }
def ExactChecksUptoCardSaid : Prop := Claim7.holds Tryz.pinned (.plain (OpenSpec.upto exactChecksSpec)) exactChecksUptoCard
end Rows
end Go.Proofs.YtgdclneolgmggaaGreatDoor
