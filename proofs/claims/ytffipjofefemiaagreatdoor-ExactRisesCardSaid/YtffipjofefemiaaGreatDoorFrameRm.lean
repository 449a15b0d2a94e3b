/- A fraction that comes in is opened. -/
import Derived.Test.YtffipjofefemiaaGreatDoorFramem
import Derived.Test.YtffipjofefemiaaGreatDoorMJ
namespace Go.Proofs.YtffipjofefemiaaGreatDoor
open Go.ChangeShapes Go.WideShapes Go.ChangeAt Go.RowKit Go.Joins Kb

theorem cells_Rat : Tryz.prog.cellsOf 26 = 4 := by kernel_rfl
theorem cells_bool : Tryz.prog.cellsOf 4 = 1 := by kernel_rfl
theorem cells_limbs : Tryz.prog.cellsOf 22 = 1 := by kernel_rfl
section
variable {H : Type} {enc : TypeId × Value → H} {W : World} {base : Nat} {v : Value} {d : DataW H} {p : List MemPlace}
theorem int_of {fuel : Nat} {c0 c1 : Value} {y : DataW H × List MemPlace} (h : DataW.trod enc Tryz.prog W 0 (fun _ => true) true fuel 24 [c0, c1] = some y) : ∃ s A n c z, c0 = .bool s ∧ c1 = .slice A n c ∧ Zi W s A n c z ∧ Le n z := by
  obtain ⟨y0, y1, n, _, _, h0, h1⟩ := trod_struct2 Tryz.underlying24 h
  have h0' : DataW.trod enc Tryz.prog W 0 (fun _ => true) true n 4 [c0] = some y0 := by simpa [cells_bool] using h0
  have h1' : DataW.trod enc Tryz.prog W 0 (fun _ => true) true n 22 [c1] = some y1 := by simpa [cells_limbs] using h1
  obtain ⟨s, e0, _⟩ := DataW.trod_bool Tryz.underlying4 h0'
  obtain ⟨A, n, c, a, e1, hr, ha⟩ := raw_of h1'
  simp only [List.cons.injEq, and_true] at e0 e1
  subst e0; subst e1
  exact ⟨s, A, n, c, toZ s a, rfl, rfl, ⟨a, hr, hid rfl⟩, by unfold Le; rwa [natAbs_toZ]⟩
set_option maxRecDepth 100000 in
/-- A fraction that came in. -/
theorem open_Rat (hv : Value.okWide Tryz.prog W .any base 26 v) (h : DataW.Trod enc Tryz.prog W 0 (fun _ => true) true 26 v d p) :
    ∃ s1 A1 n1 c1 s2 A2 n2 c2 N D, v = .agg #[.bool s1, .slice A1 n1 c1, .bool s2, .slice A2 n2 c2] ∧ Zi W s1 A1 n1 c1 N ∧ Zi W s2 A2 n2 c2 D ∧ Le n1 N ∧ Le n2 D := by
  obtain ⟨cs, rfl, hsz⟩ := okWide_struct Tryz.underlying26 hv
  obtain ⟨c0, c1, c2, c3, rfl⟩ := array4 (hsz.trans cells_Rat)
  obtain ⟨fuel, hf⟩ := h
  obtain ⟨y0, y1, n, _, _, h0, h1⟩ := trod_struct2 Tryz.underlying26 hf
  have h0' : DataW.trod enc Tryz.prog W 0 (fun _ => true) true n 24 [c0, c1] = some y0 := by simpa [Value.cells, cells_Int] using h0
  have h1' : DataW.trod enc Tryz.prog W 0 (fun _ => true) true n 24 [c2, c3] = some y1 := by simpa [Value.cells, cells_Int] using h1
  obtain ⟨s1, A1, n1, c1, N, rfl, rfl, hN, lN⟩ := int_of h0'
  obtain ⟨s2, A2, n2, c2, D, rfl, rfl, hD, lD⟩ := int_of h1'
  exact ⟨s1, A1, n1, c1, s2, A2, n2, c2, N, D, rfl, hN, hD, lN, lD⟩
end

end Go.Proofs.YtffipjofefemiaaGreatDoor
