/- A question and a target that come in are opened. -/
import Derived.Test.YtockfiobhmohnaaGg
namespace Go.Proofs.Ytockfiobhmohnaa
open Go.ChangeShapes Go.WideShapes Go.ChangeAt Go.RowKit Go.Joins Kb Wb

section
variable {H : Type} {enc : TypeId × Value → H} {W : World}
set_option maxRecDepth 100000 in
theorem open_Course {base : Nat} {v : Value} {d : DataW H} {p : List MemPlace} (hv : Value.okWide Try.prog W .any base 56 v) (h : DataW.Trod enc Try.prog W 0 (fun _ => true) true 56 v d p) :
    ∃ (s : ByteArray) (E C : Int), v = .agg #[.string s, .int .i64 E, .int .i64 C] ∧ s.size ≤ maxLen ∧ I64 E ∧ I64 C := by
  obtain ⟨v0, v1, v2, y0, y1, y2, n, rfl, _, _, h0, h1, h2⟩ := open_agg3 Try.underlying56 (by kernel_rfl) (by kernel_rfl) hv h
  obtain ⟨s, e0, _, k0⟩ := DataW.trod_string Try.underlying9 h0
  obtain ⟨E, e1, _, k1⟩ := DataW.trod_int Try.underlying3 h1
  obtain ⟨C, e2, _, k2⟩ := DataW.trod_int Try.underlying3 h2
  simp only [List.cons.injEq, and_true] at e0 e1 e2
  subst e0; subst e1; subst e2
  exact ⟨s, E, C, rfl, k0, bounds_i64 k1, bounds_i64 k2⟩
set_option maxRecDepth 100000 in
theorem open_Target {base : Nat} {v : Value} {d : DataW H} {p : List MemPlace} (hv : Value.okWide Try.prog W .any base 58 v) (h : DataW.Trod enc Try.prog W 0 (fun _ => true) true 58 v d p) :
    ∃ (s : ByteArray) (L D : Int) (rs : Bool), v = .agg #[.string s, .int .i64 L, .int .i64 D, .bool rs] ∧ s.size ≤ maxLen ∧ I64 L ∧ I64 D := by
  obtain ⟨v0, v1, v2, v3, y0, y1, y2, y3, n, rfl, _, _, h0, h1, h2, h3⟩ := open_agg4 Try.underlying58 (by kernel_rfl) (by kernel_rfl) hv h
  obtain ⟨s, e0, _, k0⟩ := DataW.trod_string Try.underlying9 h0
  obtain ⟨L, e1, _, k1⟩ := DataW.trod_int Try.underlying3 h1
  obtain ⟨D, e2, _, k2⟩ := DataW.trod_int Try.underlying3 h2
  obtain ⟨rs, e3, _⟩ := DataW.trod_bool Try.underlying4 h3
  simp only [List.cons.injEq, and_true] at e0 e1 e2 e3
  subst e0; subst e1; subst e2; subst e3
  exact ⟨s, L, D, rs, rfl, k0, bounds_i64 k1, bounds_i64 k2⟩
end

end Go.Proofs.Ytockfiobhmohnaa

