/-
  DERIVED. GIVEN WITH THE SEED: THE CARDS: each row of YtlfeendebbidhaaDoorRows.lean that lists a variable, with what it lists TIED to the program's text (the seventh form; the later family's looks); each row that meets fmt, with fmt's text TOLD by the authors' own Lean function (tested against real Go, not proved from fmt's source: count such statements apart). THE CARD IS WHAT COUNTS. Prove the row's statement (the work); the ties are given (YtlfeendebbidhaaDoorTie.lean); close each card by the builder's one call (the guide's Derived/Test/ToyasCard.lean, 'card_holds'). Laid BY PROGRAM, IN A SANDBOX (cutbox-door.mjs). By AI agents, Wed Nov 11 2026. No macro, syntax, notation, axiom, sorry.
-/
import Derived.Test.YtlfeendebbidhaaDoorRows
import GoSem.ClaimSeven
namespace Go.Proofs.YtlfeendebbidhaaDoor
namespace Rows

/-- THE TIED CARD OF 'keelblocklaw01.ExactIntegers'. -/
def exactIntegersCard : Claim7 := { stood := { row := exactIntegersRow, standIns := [], harness := (true, "0c98a9af371cd968303f00cc2a286ae3534586e6760f8572b82beddc44bc9aae"), looks := false }, kinds := [], alts := [], laidByText := true, laidKinds := [.data], laidTests := true, laidLooks := .later }
def ExactIntegersCardSaid : Prop := Claim7.holds Tryd.pinned (.plain (OpenSpec.ofChange exactIntegersSpec)) exactIntegersCard

/-- THE TIED CARD OF 'keelblocklaw01.ExactRing'. -/
def exactRingCard : Claim7 := { stood := { row := exactRingRow, standIns := [], harness := (true, "0c98a9af371cd968303f00cc2a286ae3534586e6760f8572b82beddc44bc9aae"), looks := false }, kinds := [], alts := [], laidByText := true, laidKinds := [.data], laidTests := true, laidLooks := .later }
def ExactRingCardSaid : Prop := Claim7.holds Tryd.pinned (.plain (OpenSpec.ofChange exactRingSpec)) exactRingCard

/-- THE TIED CARD OF 'keelblocklaw01.ExactField'. -/
def exactFieldCard : Claim7 := { stood := { row := exactFieldRow, standIns := [], harness := (true, "0c98a9af371cd968303f00cc2a286ae3534586e6760f8572b82beddc44bc9aae"), looks := false }, kinds := [], alts := [], laidByText := true, laidKinds := [.data], laidTests := true, laidLooks := .later }
def ExactFieldCardSaid : Prop := Claim7.holds Tryd.pinned (.plain (OpenSpec.ofChange exactFieldSpec)) exactFieldCard

/-- THE SECOND FORM's CARD OF 'keelblocklaw01.ExactIntegers'. -/
def exactIntegersUptoCard : Claim7 := { stood := { row := exactIntegersUptoRow, standIns := [], harness := (true, "0c98a9af371cd968303f00cc2a286ae3534586e6760f8572b82beddc44bc9aae"), looks := false }, kinds := [], alts := [], laidByText := true, laidKinds := [.data], laidTests := true, laidLooks := .later }
def ExactIntegersUptoCardSaid : Prop := Claim7.holds Tryd.pinned (.plain (OpenSpec.upto exactIntegersSpec)) exactIntegersUptoCard

/-- THE SECOND FORM's CARD OF 'keelblocklaw01.ExactRing'. -/
def exactRingUptoCard : Claim7 := { stood := { row := exactRingUptoRow, standIns := [], harness := (true, "0c98a9af371cd968303f00cc2a286ae3534586e6760f8572b82beddc44bc9aae"), looks := false }, kinds := [], alts := [], laidByText := true, laidKinds := [.data], laidTests := true, laidLooks := .later }
def ExactRingUptoCardSaid : Prop := Claim7.holds Tryd.pinned (.plain (OpenSpec.upto exactRingSpec)) exactRingUptoCard

/-- THE SECOND FORM's CARD OF 'keelblocklaw01.ExactField'. -/
def exactFieldUptoCard : Claim7 := { stood := { row := exactFieldUptoRow, standIns := [], harness := (true, "0c98a9af371cd968303f00cc2a286ae3534586e6760f8572b82beddc44bc9aae"), looks := false }, kinds := [], alts := [], laidByText := true, laidKinds := [.data], laidTests := true, laidLooks := .later }
def ExactFieldUptoCardSaid : Prop := Claim7.holds Tryd.pinned (.plain (OpenSpec.upto exactFieldSpec)) exactFieldUptoCard
end Rows
end Go.Proofs.YtlfeendebbidhaaDoor
