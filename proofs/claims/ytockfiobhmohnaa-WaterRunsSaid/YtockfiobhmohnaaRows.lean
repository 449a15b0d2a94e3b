/-
  No cell of these rows narrows 'for every input' (looked for: loops, veiled, ifaces, maps, wideKeys, modest, calm, conditions, laid).
  DERIVED. THE GIVEN ROWS OF THIS SEAT. 4 by the template 'for every input the law returns true; each argument reads behind the call as it read before'; 0 by the template 'total and deterministic' (their statements: YtockfiobhmohnaaTotals.lean).
  GIVEN WITH THE SEED: the statements are not yours to turn. If you find one false, say at which input.
  Laid BY PROGRAM, IN A SANDBOX (cutbox-rows.mjs): the forced cells as the released guide's own fill.sh prints them over the translation 4bdf3422ccd48756… (all of the seat's roots in one cut). By AI agents, Wed Nov 11 2026. No macro, syntax, notation, axiom, sorry.
-/
import Derived.Test.YtockfiobhmohnaaChecked
import GoSem.Claim
import GoSem.ClaimJoined
import GoSem.ClaimMapViews
import Derived.JoinedTies
import Derived.KernelRfl
namespace Go.Proofs.Ytockfiobhmohnaa
/- THE CELL 'sum', in the pinned program and in every row, IS THE sha256 OF THE DUMP (.gsa) THAT YtockfiobhmohnaaProg.lean LOADS. Nothing in Lean hashes anything: it is a label: what it is worth is what the hold of that sum in a sandbox is worth. -/
noncomputable def Try.pinned : Pinned := { name := "ytockfiobhmohnaa", sum := "4bdf3422ccd48756cfca700cd288697fc50c3897d4f136a0016448d2e867702e", checked := Try.checked }
namespace Rows
def none {H : Type} : Left H := { results := [], args := [] }

/-- 'keelblocklaw05.WaterSteps': WHATEVER THE INPUT: true; the input reads as it did. -/
def waterStepsSpec : ChangeSpec := { name := "waterSteps", fn := fun _ => fun
  | [d1, d2] => { results := [.lit (.bool true)], args := [d1, d2] }
  | _ => none }
def waterStepsRow : OpenClaim := { program := "ytockfiobhmohnaa", sum := "4bdf3422ccd48756cfca700cd288697fc50c3897d4f136a0016448d2e867702e", func := "keelblock/keelblocklaw05.WaterSteps", spec := "waterSteps", unfollowed := true, recurses := true, apart := false }
def WaterStepsSaid : Prop := waterStepsRow.holds Try.pinned (OpenSpec.ofChange waterStepsSpec)

/-- ITS FALSE NEIGHBOUR: 'it returns false'. Refute it at one input. -/
def waterStepsWrong : ChangeSpec := { name := "waterSteps", fn := fun _ => fun
  | [d1, d2] => { results := [.lit (.bool false)], args := [d1, d2] }
  | _ => none }
def WaterStepsWrongFalsely : Prop := waterStepsRow.holds Try.pinned (OpenSpec.ofChange waterStepsWrong)

/-- 'keelblocklaw05.WaterKept': WHATEVER THE INPUT: true; the input reads as it did. -/
def waterKeptSpec : ChangeSpec := { name := "waterKept", fn := fun _ => fun
  | [d1, d2] => { results := [.lit (.bool true)], args := [d1, d2] }
  | _ => none }
def waterKeptRow : OpenClaim := { program := "ytockfiobhmohnaa", sum := "4bdf3422ccd48756cfca700cd288697fc50c3897d4f136a0016448d2e867702e", func := "keelblock/keelblocklaw05.WaterKept", spec := "waterKept", unfollowed := true, recurses := true, apart := false }
def WaterKeptSaid : Prop := waterKeptRow.holds Try.pinned (OpenSpec.ofChange waterKeptSpec)

/-- ITS FALSE NEIGHBOUR: 'it returns false'. Refute it at one input. -/
def waterKeptWrong : ChangeSpec := { name := "waterKept", fn := fun _ => fun
  | [d1, d2] => { results := [.lit (.bool false)], args := [d1, d2] }
  | _ => none }
def WaterKeptWrongFalsely : Prop := waterKeptRow.holds Try.pinned (OpenSpec.ofChange waterKeptWrong)

/-- 'keelblocklaw05.WaterRuns': WHATEVER THE INPUT: true; the input reads as it did. -/
def waterRunsSpec : ChangeSpec := { name := "waterRuns", fn := fun _ => fun
  | [d1, d2, d3] => { results := [.lit (.bool true)], args := [d1, d2, d3] }
  | _ => none }
def waterRunsRow : OpenClaim := { program := "ytockfiobhmohnaa", sum := "4bdf3422ccd48756cfca700cd288697fc50c3897d4f136a0016448d2e867702e", func := "keelblock/keelblocklaw05.WaterRuns", spec := "waterRuns", unfollowed := true, recurses := true, apart := false }
def WaterRunsSaid : Prop := waterRunsRow.holds Try.pinned (OpenSpec.ofChange waterRunsSpec)

/-- ITS FALSE NEIGHBOUR: 'it returns false'. Refute it at one input. -/
def waterRunsWrong : ChangeSpec := { name := "waterRuns", fn := fun _ => fun
  | [d1, d2, d3] => { results := [.lit (.bool false)], args := [d1, d2, d3] }
  | _ => none }
def WaterRunsWrongFalsely : Prop := waterRunsRow.holds Try.pinned (OpenSpec.ofChange waterRunsWrong)

/-- 'keelblocktop.TopWaterKept': WHATEVER THE INPUT: true; the input reads as it did. -/
def topWaterKeptSpec : ChangeSpec := { name := "topWaterKept", fn := fun _ => fun
  | [d1, d2] => { results := [.lit (.bool true)], args := [d1, d2] }
  | _ => none }
def topWaterKeptRow : OpenClaim := { program := "ytockfiobhmohnaa", sum := "4bdf3422ccd48756cfca700cd288697fc50c3897d4f136a0016448d2e867702e", func := "keelblock/keelblocktop.TopWaterKept", spec := "topWaterKept", unfollowed := true, recurses := true, apart := false }
def TopWaterKeptSaid : Prop := topWaterKeptRow.holds Try.pinned (OpenSpec.ofChange topWaterKeptSpec)

/-- ITS FALSE NEIGHBOUR: 'it returns false'. Refute it at one input. -/
def topWaterKeptWrong : ChangeSpec := { name := "topWaterKept", fn := fun _ => fun
  | [d1, d2] => { results := [.lit (.bool false)], args := [d1, d2] }
  | _ => none }
def TopWaterKeptWrongFalsely : Prop := topWaterKeptRow.holds Try.pinned (OpenSpec.ofChange topWaterKeptWrong)

/- THE SECOND FORM. 'bulk': how many values and letters a reading holds, each counted each time it is reached (what is shared counts as often as it is met; a slice's spare places count too). A statement '..UptoSaid' is the law's where the arguments, and the package variables that the reading takes, are together of bulk at most 1048576: NARROWER than '..Said'. Prove '..Said' where nothing that the law and all that it calls make is longer than what came in: it says more and counts as full. Else prove '..UptoSaid'. A law counts once. -/
mutual
def uptoBulk {H : Type} : DataW H → Nat
  | .lit (.string bytes) => bytes.length + 1
  | .lit _ => 1
  | .nil => 1
  | .ptr d => uptoBulk d + 1
  | .slice elems spare => uptoBulkAll elems + uptoBulkAll spare + 1
  | .agg parts => uptoBulkAll parts + 1
  | .iface _ d => uptoBulk d + 1
  | .map entries => uptoBulkEntries entries + 1
  | .held _ => 1
def uptoBulkAll {H : Type} : List (DataW H) → Nat
  | [] => 0
  | d :: r => uptoBulk d + uptoBulkAll r
def uptoBulkEntries {H : Type} : List (Lit × DataW H) → Nat
  | [] => 0
  | x :: r => uptoBulkEntry x + uptoBulkEntries r
def uptoBulkEntry {H : Type} : Lit × DataW H → Nat
  | (.string bytes, d) => bytes.length + uptoBulk d + 1
  | (_, d) => uptoBulk d + 1
 end
def uptoSmall : (H : Type) → List (DataW H) → Bool := fun _ ds => decide (uptoBulkAll ds ≤ 1048576)
def OpenSpec.upto (s : _root_.Go.ChangeSpec) : _root_.Go.OpenSpec := { _root_.Go.OpenSpec.ofChange s with cond := some uptoSmall }

/-- 'keelblocklaw05.WaterSteps', WHERE WHAT IT READS IS OF BULK AT MOST 1048576: true; the input reads as it did. -/
def waterStepsUptoRow : OpenClaim := { program := "ytockfiobhmohnaa", sum := "4bdf3422ccd48756cfca700cd288697fc50c3897d4f136a0016448d2e867702e", func := "keelblock/keelblocklaw05.WaterSteps", spec := "waterSteps", unfollowed := true, recurses := true, apart := false, narrowed := true }
def WaterStepsUptoSaid : Prop := waterStepsUptoRow.holds Try.pinned (OpenSpec.upto waterStepsSpec)

/-- 'keelblocklaw05.WaterKept', WHERE WHAT IT READS IS OF BULK AT MOST 1048576: true; the input reads as it did. -/
def waterKeptUptoRow : OpenClaim := { program := "ytockfiobhmohnaa", sum := "4bdf3422ccd48756cfca700cd288697fc50c3897d4f136a0016448d2e867702e", func := "keelblock/keelblocklaw05.WaterKept", spec := "waterKept", unfollowed := true, recurses := true, apart := false, narrowed := true }
def WaterKeptUptoSaid : Prop := waterKeptUptoRow.holds Try.pinned (OpenSpec.upto waterKeptSpec)

/-- 'keelblocklaw05.WaterRuns', WHERE WHAT IT READS IS OF BULK AT MOST 1048576: true; the input reads as it did. -/
def waterRunsUptoRow : OpenClaim := { program := "ytockfiobhmohnaa", sum := "4bdf3422ccd48756cfca700cd288697fc50c3897d4f136a0016448d2e867702e", func := "keelblock/keelblocklaw05.WaterRuns", spec := "waterRuns", unfollowed := true, recurses := true, apart := false, narrowed := true }
def WaterRunsUptoSaid : Prop := waterRunsUptoRow.holds Try.pinned (OpenSpec.upto waterRunsSpec)

/-- 'keelblocktop.TopWaterKept', WHERE WHAT IT READS IS OF BULK AT MOST 1048576: true; the input reads as it did. -/
def topWaterKeptUptoRow : OpenClaim := { program := "ytockfiobhmohnaa", sum := "4bdf3422ccd48756cfca700cd288697fc50c3897d4f136a0016448d2e867702e", func := "keelblock/keelblocktop.TopWaterKept", spec := "topWaterKept", unfollowed := true, recurses := true, apart := false, narrowed := true }
def TopWaterKeptUptoSaid : Prop := topWaterKeptUptoRow.holds Try.pinned (OpenSpec.upto topWaterKeptSpec)

end Rows
end Go.Proofs.Ytockfiobhmohnaa
