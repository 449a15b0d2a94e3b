/- Two numbers that come in are opened. -/
import Derived.Test.YtffipjofefemiaaGreatDoorFrameRm
namespace Go.Proofs.YtffipjofefemiaaGreatDoor
open Go.ChangeShapes Go.WideShapes Go.ChangeAt Go.RowKit Go.Joins Kb

theorem cells_two : Tryz.prog.cellsOf 27 = 2 := by kernel_rfl
theorem cells_int : Tryz.prog.cellsOf 3 = 1 := by kernel_rfl
section
variable {H : Type} {enc : TypeId × Value → H} {W : World} {base : Nat} {v : Value} {d : DataW H} {p : List MemPlace}
set_option maxRecDepth 100000 in
/-- Two numbers that came in. -/
theorem open_two (hv : Value.okWide Tryz.prog W .any base 27 v) (h : DataW.Trod enc Tryz.prog W 0 (fun _ => true) true 27 v d p) :
    ∃ z0 z1 : Int, v = .agg #[.int .i64 z0, .int .i64 z1] ∧ (-9223372036854775808 ≤ z0 ∧ z0 ≤ 9223372036854775807) ∧ (-9223372036854775808 ≤ z1 ∧ z1 ≤ 9223372036854775807) := by
  have hv' : ∃ cs, v = .agg cs ∧ cs.size = Tryz.prog.cellsOf 27 := by
    simp only [Value.okWide, Tryz.underlying27] at hv
    obtain ⟨cs, h1, h2, _⟩ := hv
    exact ⟨cs, h1, h2⟩
  obtain ⟨cs, rfl, hsz⟩ := hv'
  obtain ⟨c0, c1, rfl⟩ := array2 (hsz.trans cells_two)
  obtain ⟨fuel, hf⟩ := h
  obtain ⟨xs, m, _, _, _, hn, hel⟩ := DataW.trod_array Tryz.underlying27 hf
  have h0 := hel 0 (by decide)
  have h1 := hel 1 (by decide)
  rw [cells_int] at h0 h1
  rw [List.getElem?_eq_getElem (by omega)] at h0 h1
  have h0' : DataW.trod enc Tryz.prog W 0 (fun _ => true) true m 3 [c0] = some (xs[0]'(by omega)) := by simpa [Value.cells] using h0
  have h1' : DataW.trod enc Tryz.prog W 0 (fun _ => true) true m 3 [c1] = some (xs[1]'(by omega)) := by simpa [Value.cells] using h1
  obtain ⟨k0, e0, _, w0⟩ := DataW.trod_int Tryz.underlying3 h0'
  obtain ⟨k1, e1, _, w1⟩ := DataW.trod_int Tryz.underlying3 h1'
  simp only [List.cons.injEq, and_true] at e0 e1
  subst e0; subst e1
  exact ⟨k0, k1, rfl, bounds_i64 w0, bounds_i64 w1⟩
end
end Go.Proofs.YtffipjofefemiaaGreatDoor
