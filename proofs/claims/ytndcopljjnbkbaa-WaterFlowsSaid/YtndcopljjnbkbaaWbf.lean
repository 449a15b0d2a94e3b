/- What the claims of basins and marks begin with: an argument that is a basin, or a list of pairs of numbers, is opened. -/
import Derived.Test.YtndcopljjnbkbaaRows
import Derived.Test.YtndcopljjnbkbaaWb0
import Derived.ProofKit
import Derived.OpenShut
import Derived.Carry
import Derived.ChangeMaps5
import Derived.Lib.SmallJoins
import Derived.Deep.SlicePairs
namespace Go.Proofs.Ytndcopljjnbkbaa
open Go.ChangeShapes Go.WideShapes Go.ChangeAt Go.RowKit Go.Joins Kb

theorem own : ownKnob Try.prog.godebug = none := by kernel_rfl
theorem laidOut : laidOutB Try.prog = true := by kernel_rfl
theorem cells_int : Try.prog.cellsOf 3 = 1 := by kernel_rfl
section
variable {H : Type} {enc : TypeId × Value → H} {W : World}
/-- A list of pairs of numbers that came in. -/
theorem pairs_of {t e : TypeId} {f0 f1 : Field} (ht : Try.prog.underlying t = some (.slice e)) (he : Try.prog.underlying e = some (.struct #[f0, f1])) (ce : Try.prog.cellsOf e = 2) (o0 : f0.offset = 0) (o1 : f1.offset = 1) (t0 : f0.type = 3) (t1 : f1.type = 3)
    {fuel : Nat} {cs : List Value} {y : DataW H × List MemPlace} (h : DataW.trod enc Try.prog W 0 (fun _ => true) true fuel t cs = some y) :
    ∃ A n c F S, cs = [.slice A n c] ∧ Pa W W.heap.size A n F S ∧ n ≤ c ∧ c ≤ maxLen := by
  rcases Go.Deep.open_slice_pairs ht he ce o0 o1 (by rw [t0]; exact cells_int) (by rw [t1]; exact cells_int) h with ⟨rfl, _⟩ | ⟨a, len, cap, m, n, V0, V1, D0, D1, P0, P1, rfl, _, hl, hm, hmm, _, hi⟩
  · exact ⟨none, 0, 0, fun _ => 0, fun _ => 0, rfl, ⟨fun i hi => absurd hi (Nat.not_lt_zero _), Nat.le_refl _⟩, Nat.le_refl _, Nat.zero_le _⟩
  · have hmc : m = cap := by simpa using hmm
    have key : ∀ i, ∃ z : Int × Int, i < len → W.cell? (a.add (i * 2)) = some (.int .i64 z.1) ∧ W.cell? (a.add (i * 2 + 1)) = some (.int .i64 z.2) ∧ I64 z.1 ∧ I64 z.2 := fun i => by
      by_cases hil : i < len
      · obtain ⟨c0, c1, h0, h1⟩ := hi i (by omega)
        rw [t0] at h0
        rw [t1] at h1
        obtain ⟨k0, e0, _, w0⟩ := DataW.trod_int Try.underlying3 h0
        obtain ⟨k1, e1, _, w1⟩ := DataW.trod_int Try.underlying3 h1
        simp only [List.cons.injEq, and_true] at e0 e1
        rw [e0] at c0
        rw [e1] at c1
        exact ⟨(k0, k1), fun _ => ⟨c0, c1, bounds_i64 w0, bounds_i64 w1⟩⟩
      · exact ⟨(0, 0), fun hh => absurd hh hil⟩
    refine ⟨some a, len, cap, fun i => (Classical.choose (key i)).1, fun i => (Classical.choose (key i)).2, rfl, ⟨fun i hil => ?_, Nat.le_refl _⟩, hl, hm⟩
    obtain ⟨c0, c1, b0, b1⟩ := Classical.choose_spec (key i) hil
    have hb := World.block_lt_of_cell? W _ c0
    rw [block_of_add] at hb
    exact ⟨a, rfl, hb, c0, by rw [← add_at (a.add (i * 2)) 0, add_of_add]; exact c1, b0, b1⟩
end

end Go.Proofs.Ytndcopljjnbkbaa
