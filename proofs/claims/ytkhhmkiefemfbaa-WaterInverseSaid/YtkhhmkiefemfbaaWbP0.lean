/- A basin that comes in is opened; the frames of WaterBasins and WaterInverse. -/
import Derived.Test.YtkhhmkiefemfbaaWbf
import Derived.Test.YtkhhmkiefemfbaaWbw
namespace Go.Proofs.Ytkhhmkiefemfbaa
open Go.ChangeShapes Go.WideShapes Go.ChangeAt Go.RowKit Go.Joins Kb

section
variable {H : Type} {enc : TypeId × Value → H} {W : World} {base : Nat} {v : Value} {d : DataW H} {p : List MemPlace}
theorem open_Basin (hv : Value.okWide Try.prog W .any base 24 v) (h : DataW.Trod enc Try.prog W 0 (fun _ => true) true 24 v d p) :
    ∃ s A n c rim F S, v = .agg #[.string s, .slice A n c, .int .i64 rim] ∧ Pa W W.heap.size A n F S ∧ n ≤ c ∧ c ≤ maxLen ∧ s.size ≤ maxLen := by
  obtain ⟨v0, v1, v2, y0, y1, y2, n, rfl, _, _, h0, h1, h2⟩ := open_agg3 Try.underlying24 (by kernel_rfl) (by kernel_rfl) hv h
  obtain ⟨s, e0, _, hs⟩ := DataW.trod_string Try.underlying9 h0
  obtain ⟨A, m, c, F, S, e1, hP, hc, hm⟩ := pairs_of Try.underlying22 Try.underlying58 (by kernel_rfl) rfl rfl rfl rfl h1
  obtain ⟨k, e2, _, _⟩ := DataW.trod_int Try.underlying3 h2
  simp only [List.cons.injEq, and_true] at e0 e1 e2
  subst e0; subst e1; subst e2
  exact ⟨s, A, m, c, k, F, S, rfl, hP, hc, hm, hs⟩
end

end Go.Proofs.Ytkhhmkiefemfbaa
