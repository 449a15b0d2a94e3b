/- A slice that reads as integers. No program in it. -/
import Derived.Test.YtffipjofefemiaaGreatDoorCvm
import Derived.Test.YtffipjofefemiaaGreatDoorMA
namespace Go.Proofs.YtffipjofefemiaaGreatDoor
open Go.RowKit Kb

/-- The slice at A reads as the integers X i. -/
def Si (w : World) (B0 : Nat) (A : Option Addr) (n : Nat) (X : Nat → Int) : Prop := ∀ i, i < n → ∃ ad, A = some ad ∧ ad.block < B0 ∧ w.cell? (ad.add i) = some (.int .i64 (X i))
section
variable {w w' : World} {B0 n : Nat} {A : Option Addr} {X : Nat → Int}
theorem Si.below (h : Si w B0 A n X) (hb : Below w.heap.size w w') (hB : B0 ≤ w.heap.size) : Si w' B0 A n X := fun i hi => by
  obtain ⟨ad, e, h1, h2⟩ := h i hi
  exact ⟨ad, e, h1, (hb.cell (by rw [block_of_add]; omega)).trans h2⟩
end

end Go.Proofs.YtffipjofefemiaaGreatDoor
