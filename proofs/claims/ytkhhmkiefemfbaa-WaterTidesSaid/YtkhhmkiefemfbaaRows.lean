/-
  No cell of these rows narrows 'for every input' (looked for: loops, veiled, ifaces, maps, wideKeys, modest, calm, conditions, laid).
  DERIVED. THE GIVEN ROWS OF THIS SEAT. 4 by the template 'for every input the law returns true; each argument reads behind the call as it read before'; 0 by the template 'total and deterministic' (their statements: YtkhhmkiefemfbaaTotals.lean).
  GIVEN WITH THE SEED: the statements are not yours to turn. If you find one false, say at which input.
  Laid BY PROGRAM, IN A SANDBOX (cutbox-rows.mjs): the forced cells as the released guide's own fill.sh prints them over the translation fcbcbb5f50f81ded… (all of the seat's roots in one cut). By AI agents, Wed Nov 11 2026. No macro, syntax, notation, axiom, sorry.
-/
import Derived.Test.YtkhhmkiefemfbaaChecked
import GoSem.Claim
import GoSem.ClaimJoined
import GoSem.ClaimMapViews
import Derived.JoinedTies
import Derived.KernelRfl
namespace Go.Proofs.Ytkhhmkiefemfbaa
/- THE CELL 'sum', in the pinned program and in every row, IS THE sha256 OF THE DUMP (.gsa) THAT YtkhhmkiefemfbaaProg.lean LOADS. Nothing in Lean hashes anything: it is a label: what it is worth is what the hold of that sum in a sandbox is worth. -/
noncomputable def Try.pinned : Pinned := { name := "ytkhhmkiefemfbaa", sum := "fcbcbb5f50f81ded9533416c0d16088a0a1960352425c5bb2e2aaac9b9120f05", checked := Try.checked }
namespace Rows
def none {H : Type} : Left H := { results := [], args := [] }

/-- 'keelblocklaw05.WaterBasins': WHATEVER THE INPUT: true; the input reads as it did. -/
def waterBasinsSpec : ChangeSpec := { name := "waterBasins", fn := fun _ => fun
  | [d1, d2, d3] => { results := [.lit (.bool true)], args := [d1, d2, d3] }
  | _ => none }
def waterBasinsRow : OpenClaim := { program := "ytkhhmkiefemfbaa", sum := "fcbcbb5f50f81ded9533416c0d16088a0a1960352425c5bb2e2aaac9b9120f05", func := "keelblock/keelblocklaw05.WaterBasins", spec := "waterBasins", apart := false }
def WaterBasinsSaid : Prop := waterBasinsRow.holds Try.pinned (OpenSpec.ofChange waterBasinsSpec)

/-- ITS FALSE NEIGHBOUR: 'it returns false'. Refute it at one input. -/
def waterBasinsWrong : ChangeSpec := { name := "waterBasins", fn := fun _ => fun
  | [d1, d2, d3] => { results := [.lit (.bool false)], args := [d1, d2, d3] }
  | _ => none }
def WaterBasinsWrongFalsely : Prop := waterBasinsRow.holds Try.pinned (OpenSpec.ofChange waterBasinsWrong)

/-- 'keelblocklaw05.WaterInverse': WHATEVER THE INPUT: true; the input reads as it did. -/
def waterInverseSpec : ChangeSpec := { name := "waterInverse", fn := fun _ => fun
  | [d1, d2, d3] => { results := [.lit (.bool true)], args := [d1, d2, d3] }
  | _ => none }
def waterInverseRow : OpenClaim := { program := "ytkhhmkiefemfbaa", sum := "fcbcbb5f50f81ded9533416c0d16088a0a1960352425c5bb2e2aaac9b9120f05", func := "keelblock/keelblocklaw05.WaterInverse", spec := "waterInverse", apart := false }
def WaterInverseSaid : Prop := waterInverseRow.holds Try.pinned (OpenSpec.ofChange waterInverseSpec)

/-- ITS FALSE NEIGHBOUR: 'it returns false'. Refute it at one input. -/
def waterInverseWrong : ChangeSpec := { name := "waterInverse", fn := fun _ => fun
  | [d1, d2, d3] => { results := [.lit (.bool false)], args := [d1, d2, d3] }
  | _ => none }
def WaterInverseWrongFalsely : Prop := waterInverseRow.holds Try.pinned (OpenSpec.ofChange waterInverseWrong)

/-- 'keelblocklaw05.WaterTides': WHATEVER THE INPUT: true; the input reads as it did. -/
def waterTidesSpec : ChangeSpec := { name := "waterTides", fn := fun _ => fun
  | [d1, d2] => { results := [.lit (.bool true)], args := [d1, d2] }
  | _ => none }
def waterTidesRow : OpenClaim := { program := "ytkhhmkiefemfbaa", sum := "fcbcbb5f50f81ded9533416c0d16088a0a1960352425c5bb2e2aaac9b9120f05", func := "keelblock/keelblocklaw05.WaterTides", spec := "waterTides", unfollowed := true, recurses := true, apart := false }
def WaterTidesSaid : Prop := waterTidesRow.holds Try.pinned (OpenSpec.ofChange waterTidesSpec)

/-- ITS FALSE NEIGHBOUR: 'it returns false'. Refute it at one input. -/
def waterTidesWrong : ChangeSpec := { name := "waterTides", fn := fun _ => fun
  | [d1, d2] => { results := [.lit (.bool false)], args := [d1, d2] }
  | _ => none }
def WaterTidesWrongFalsely : Prop := waterTidesRow.holds Try.pinned (OpenSpec.ofChange waterTidesWrong)

/-- 'keelblocklaw05.WaterWindows': WHATEVER THE INPUT: true; the input reads as it did. -/
def waterWindowsSpec : ChangeSpec := { name := "waterWindows", fn := fun _ => fun
  | [d1, d2, d3] => { results := [.lit (.bool true)], args := [d1, d2, d3] }
  | _ => none }
def waterWindowsRow : OpenClaim := { program := "ytkhhmkiefemfbaa", sum := "fcbcbb5f50f81ded9533416c0d16088a0a1960352425c5bb2e2aaac9b9120f05", func := "keelblock/keelblocklaw05.WaterWindows", spec := "waterWindows", inPlace := ["slices.overlaps[keelblock/api.Mark]"], apart := false }
def WaterWindowsSaid : Prop := waterWindowsRow.holds Try.pinned (OpenSpec.ofChange waterWindowsSpec)

/-- ITS FALSE NEIGHBOUR: 'it returns false'. Refute it at one input. -/
def waterWindowsWrong : ChangeSpec := { name := "waterWindows", fn := fun _ => fun
  | [d1, d2, d3] => { results := [.lit (.bool false)], args := [d1, d2, d3] }
  | _ => none }
def WaterWindowsWrongFalsely : Prop := waterWindowsRow.holds Try.pinned (OpenSpec.ofChange waterWindowsWrong)

/- THE SECOND FORM. 'bulk': how many values and letters a reading holds, each counted each time it is reached (what is shared counts as often as it is met; a slice's spare places count too). A statement '..UptoSaid' is the law's where the arguments, and the package variables that the reading takes, are together of bulk at most 1048576: NARROWER than '..Said'. Prove '..Said' where nothing that the law and all that it calls make is longer than what came in: it says more and counts as full. Else prove '..UptoSaid'. A law counts once. -/
mutual
def uptoBulk {H : Type} : DataW H → Nat
  | .lit (.string bytes) => bytes.length + 1
  | .lit _ => 1
  | .nil => 1
  | .ptr d => uptoBulk d + 1
  | .slice elems spare => uptoBulkAll elems + uptoBulkAll spare + 1
  | .agg parts => uptoBulkAll parts + 1
  | .iface _ d => uptoBulk d + 1
  | .map entries => uptoBulkEntries entries + 1
  | .held _ => 1
def uptoBulkAll {H : Type} : List (DataW H) → Nat
  | [] => 0
  | d :: r => uptoBulk d + uptoBulkAll r
def uptoBulkEntries {H : Type} : List (Lit × DataW H) → Nat
  | [] => 0
  | x :: r => uptoBulkEntry x + uptoBulkEntries r
def uptoBulkEntry {H : Type} : Lit × DataW H → Nat
  | (.string bytes, d) => bytes.length + uptoBulk d + 1
  | (_, d) => uptoBulk d + 1
 end
def uptoSmall : (H : Type) → List (DataW H) → Bool := fun _ ds => decide (uptoBulkAll ds ≤ 1048576)
def OpenSpec.upto (s : _root_.Go.ChangeSpec) : _root_.Go.OpenSpec := { _root_.Go.OpenSpec.ofChange s with cond := some uptoSmall }

/-- 'keelblocklaw05.WaterBasins', WHERE WHAT IT READS IS OF BULK AT MOST 1048576: true; the input reads as it did. -/
def waterBasinsUptoRow : OpenClaim := { program := "ytkhhmkiefemfbaa", sum := "fcbcbb5f50f81ded9533416c0d16088a0a1960352425c5bb2e2aaac9b9120f05", func := "keelblock/keelblocklaw05.WaterBasins", spec := "waterBasins", apart := false, narrowed := true }
def WaterBasinsUptoSaid : Prop := waterBasinsUptoRow.holds Try.pinned (OpenSpec.upto waterBasinsSpec)

/-- 'keelblocklaw05.WaterInverse', WHERE WHAT IT READS IS OF BULK AT MOST 1048576: true; the input reads as it did. -/
def waterInverseUptoRow : OpenClaim := { program := "ytkhhmkiefemfbaa", sum := "fcbcbb5f50f81ded9533416c0d16088a0a1960352425c5bb2e2aaac9b9120f05", func := "keelblock/keelblocklaw05.WaterInverse", spec := "waterInverse", apart := false, narrowed := true }
def WaterInverseUptoSaid : Prop := waterInverseUptoRow.holds Try.pinned (OpenSpec.upto waterInverseSpec)

/-- 'keelblocklaw05.WaterTides', WHERE WHAT IT READS IS OF BULK AT MOST 1048576: true; the input reads as it did. -/
def waterTidesUptoRow : OpenClaim := { program := "ytkhhmkiefemfbaa", sum := "fcbcbb5f50f81ded9533416c0d16088a0a1960352425c5bb2e2aaac9b9120f05", func := "keelblock/keelblocklaw05.WaterTides", spec := "waterTides", unfollowed := true, recurses := true, apart := false, narrowed := true }
def WaterTidesUptoSaid : Prop := waterTidesUptoRow.holds Try.pinned (OpenSpec.upto waterTidesSpec)

/-- 'keelblocklaw05.WaterWindows', WHERE WHAT IT READS IS OF BULK AT MOST 1048576: true; the input reads as it did. -/
def waterWindowsUptoRow : OpenClaim := { program := "ytkhhmkiefemfbaa", sum := "fcbcbb5f50f81ded9533416c0d16088a0a1960352425c5bb2e2aaac9b9120f05", func := "keelblock/keelblocklaw05.WaterWindows", spec := "waterWindows", inPlace := ["slices.overlaps[keelblock/api.Mark]"], apart := false, narrowed := true }
def WaterWindowsUptoSaid : Prop := waterWindowsUptoRow.holds Try.pinned (OpenSpec.upto waterWindowsSpec)

end Rows
end Go.Proofs.Ytkhhmkiefemfbaa
