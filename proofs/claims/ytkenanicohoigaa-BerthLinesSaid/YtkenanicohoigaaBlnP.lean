/- BerthLines answers true for every list of mooring lines, and leaves it as it was. No condition: arguments may share memory. -/
import Derived.Test.YtkenanicohoigaaWbf
import Derived.Test.YtkenanicohoigaaBl5
namespace Go.Proofs.Ytkenanicohoigaa
open Go.ChangeShapes Go.WideShapes Go.ChangeAt Go.RowKit Go.Joins Kb Wb

theorem cells_str : Try.prog.cellsOf 9 = 1 := by kernel_rfl

theorem cells_Ml : Try.prog.cellsOf 46 = 6 := by kernel_rfl
section
variable {H : Type} {enc : TypeId × Value → H} {W : World}
theorem Ml_struct {t : TypeId} {f0 f1 f2 f3 f4 f5 : Field} {fuel : Nat} {cs : List Value} {x : DataW H × List MemPlace} (ht : Try.prog.underlying t = some (.struct #[f0, f1, f2, f3, f4, f5])) (h : DataW.trod enc Try.prog W 0 (fun _ => true) true fuel t cs = some x) :
    ∃ y0 y1 y2 y3 y4 y5 n, DataW.trod enc Try.prog W 0 (fun _ => true) true n f0.type ((cs.drop f0.offset).take (Try.prog.cellsOf f0.type)) = some y0 ∧ DataW.trod enc Try.prog W 0 (fun _ => true) true n f1.type ((cs.drop f1.offset).take (Try.prog.cellsOf f1.type)) = some y1 ∧ DataW.trod enc Try.prog W 0 (fun _ => true) true n f2.type ((cs.drop f2.offset).take (Try.prog.cellsOf f2.type)) = some y2 ∧ DataW.trod enc Try.prog W 0 (fun _ => true) true n f3.type ((cs.drop f3.offset).take (Try.prog.cellsOf f3.type)) = some y3 ∧ DataW.trod enc Try.prog W 0 (fun _ => true) true n f4.type ((cs.drop f4.offset).take (Try.prog.cellsOf f4.type)) = some y4 ∧ DataW.trod enc Try.prog W 0 (fun _ => true) true n f5.type ((cs.drop f5.offset).take (Try.prog.cellsOf f5.type)) = some y5 := by
  obtain ⟨xs, n, _, _, _, hlen, hf⟩ := DataW.trod_struct ht h
  match xs, hlen with
  | [y0, y1, y2, y3, y4, y5], _ => exact ⟨y0, y1, y2, y3, y4, y5, n, by simpa using hf 0 f0 rfl, by simpa using hf 1 f1 rfl, by simpa using hf 2 f2 rfl, by simpa using hf 3 f3 rfl, by simpa using hf 4 f4 rfl, by simpa using hf 5 f5 rfl⟩
theorem Ml_of {fuel : Nat} {cs : List Value} {y : DataW H × List MemPlace} (h : DataW.trod enc Try.prog W 0 (fun _ => true) true fuel 39 cs = some y) :
    ∃ A n c b, cs = [.slice A n c] ∧ Mll W W.heap.size A n b ∧ n ≤ c ∧ c ≤ maxLen ∧ ∀ i, i < n → (b i).nm.size ≤ maxLen := by
  rcases Go.Deep.open_slice Try.underlying39 h with ⟨rfl, _⟩ | ⟨a, len, cap, m, n, D, Pl, rfl, _, hl, hm, hmm, _, hx⟩
  · exact ⟨none, 0, 0, fun _ => ⟨s0, 0, 0, 0, 0, 0⟩, rfl, ⟨fun _ hi => absurd hi (Nat.not_lt_zero _), Nat.le_refl _⟩, Nat.le_refl _, Nat.zero_le _, fun _ hi => absurd hi (Nat.not_lt_zero _)⟩
  · have hmc : m = cap := by simpa using hmm
    have key : ∀ i, ∃ b : Mld, i < len → W.cell? (a.add (i * 6)) = some (.string b.nm) ∧ W.cell? ((a.add (i * 6)).add 1) = some (.int .i64 b.x) ∧ W.cell? ((a.add (i * 6)).add 2) = some (.int .i64 b.y) ∧ W.cell? ((a.add (i * 6)).add 3) = some (.int .i64 b.tx) ∧ W.cell? ((a.add (i * 6)).add 4) = some (.int .i64 b.ty) ∧ W.cell? ((a.add (i * 6)).add 5) = some (.int .i64 b.most) ∧ b.nm.size ≤ maxLen := fun i => by
      by_cases hil : i < len
      · obtain ⟨cs', h1, h2⟩ := hx i (by omega)
        rw [cells_Ml] at h1
        obtain ⟨_, hlen, hc⟩ := World.cells?_some h1
        match cs', hlen with
        | [v0, v1, v2, v3, v4, v5], _ =>
          obtain ⟨y0, y1, y2, y3, y4, y5, k, t0, t1, t2, t3, t4, t5⟩ := Ml_struct Try.underlying46 h2
          simp only [cells_str, cells_int, List.drop_zero, List.drop_succ_cons, List.take_succ_cons, List.take_zero] at t0 t1 t2 t3 t4 t5
          obtain ⟨z0, e0, _, k0⟩ := DataW.trod_string Try.underlying9 t0
          obtain ⟨z1, e1, _, _⟩ := DataW.trod_int Try.underlying3 t1
          obtain ⟨z2, e2, _, _⟩ := DataW.trod_int Try.underlying3 t2
          obtain ⟨z3, e3, _, _⟩ := DataW.trod_int Try.underlying3 t3
          obtain ⟨z4, e4, _, _⟩ := DataW.trod_int Try.underlying3 t4
          obtain ⟨z5, e5, _, _⟩ := DataW.trod_int Try.underlying3 t5
          simp only [List.cons.injEq, and_true] at e0 e1 e2 e3 e4 e5
          subst e0; subst e1; subst e2; subst e3; subst e4; subst e5
          refine ⟨⟨z0, z1, z2, z3, z4, z5⟩, fun _ => ⟨?_, ?_, ?_, ?_, ?_, ?_, k0⟩⟩
          · have := hc 0 (by decide); rw [add_of_add] at this; simpa using this
          · simpa using hc 1 (by decide)
          · simpa using hc 2 (by decide)
          · simpa using hc 3 (by decide)
          · simpa using hc 4 (by decide)
          · simpa using hc 5 (by decide)
      · exact ⟨⟨s0, 0, 0, 0, 0, 0⟩, fun hh => absurd hh hil⟩
    refine ⟨some a, len, cap, fun i => Classical.choose (key i), rfl, ⟨fun i hil => ?_, Nat.le_refl _⟩, hl, hm, fun i hil => (Classical.choose_spec (key i) hil).2.2.2.2.2.2⟩
    obtain ⟨c0, c1, c2, c3, c4, c5, _⟩ := Classical.choose_spec (key i) hil
    have hb := World.block_lt_of_cell? W _ c0
    rw [block_of_add] at hb
    exact ⟨a, rfl, hb, c0, by rw [← add_at (a.add (i * 6)) 0]; exact c1, by rw [← add_at (a.add (i * 6)) 1]; exact c2, by rw [← add_at (a.add (i * 6)) 2]; exact c3, by rw [← add_at (a.add (i * 6)) 3]; exact c4, by rw [← add_at (a.add (i * 6)) 4]; exact c5⟩
set_option maxRecDepth 100000 in
theorem open_Ml {base : Nat} {v : Value} {d : DataW H} {p : List MemPlace} (hv : Value.okWide Try.prog W .any base 39 v) (h : DataW.Trod enc Try.prog W 0 (fun _ => true) true 39 v d p) :
    ∃ A n c b, v = .slice A n c ∧ Mll W W.heap.size A n b ∧ n ≤ c ∧ c ≤ maxLen ∧ ∀ i, i < n → (b i).nm.size ≤ maxLen := by
  obtain ⟨a, len, cap, rfl⟩ := okWide_slice Try.underlying39 hv
  obtain ⟨fuel, hf⟩ := h
  obtain ⟨A, n, c, b, e, hY, h1, h2, h3⟩ := Ml_of hf
  simp only [Value.cells, List.cons.injEq, and_true] at e
  exact ⟨A, n, c, b, e, hY, h1, h2, h3⟩
end

set_option maxRecDepth 100000 in
theorem berthLines_lifted (os : Os) (started : os.Started) (H : Type) (enc : TypeId × Value → H) :
    ReturnsInHanded {} Try.checked os 4 .any (Rows.berthLinesSpec.pre6 enc Try.prog Try.f4 Rows.berthLinesRow.domain false) (Rows.berthLinesSpec.post enc Try.prog Try.f4 false true false false) := by
  refine returnsInHanded_of_change (C := Try.checked) own started (by kernel_rfl) Try.func4
    (ChangeSpec.witness6 (enc := enc) (C := Try.checked) false ⟨#[], #[.slice none 0 0], []⟩ 8 (by kernel_rfl) (by kernel_rfl) (by kernel_rfl) (by kernel_rfl)) ?_
  intro W base args ds gs before hval0 hW _ _
  have hval : ∀ (j : Nat) t v, Try.f4.params[j]? = some t → args[j]? = some v → Value.okWide Try.prog W .any base t v := hval0
  have hW' := hW
  obtain ⟨p, q, hA0, hV, rfl, hfz, hnd⟩ := hW
  have hA : DataW.TrodAll enc Try.prog W 0 (fun _ => true) true Try.f4.params.toList args.toList ds p := hA0
  rw [Try.params4] at hA hval
  obtain ⟨v0, vs0, d0, ds0, p0, q0, hargs, rfl, rfl, h0, r0⟩ := trodAll_cons hA
  obtain ⟨rfl, rfl, rfl⟩ := trodAll_nil r0
  obtain rfl : args = #[v0] := by cases args; simp_all
  obtain ⟨rfl, rfl⟩ := trodVars_none hV
  have k0 := h0
  have lt0 : ∀ x ∈ p0, x.block < W.heap.size := by obtain ⟨m, hm⟩ := k0; exact DataW.trod_lt m _ _ _ hm
  obtain ⟨A, n, c, b, rfl, hY, hc, hm, hs⟩ := open_Ml (hval 0 39 v0 rfl rfl) h0
  clear hA0 hval0
  refine (lines_walk hY hc hm hs).mono fun e W' ⟨he, bel⟩ => ?_
  subst he
  exact ⟨_, rfl, _, _, _, [], _, [], hW', trodAll_mk1 (shut_bool Try.underlying4 _), (trodAll_cons_mk (Below.trod laidOut (by kernel_rfl) (of_decide_eq_true (by kernel_rfl)) k0 bel lt0) trodAll_mk0), rfl, bel.frame _, fun h => by cases h⟩

theorem berthLines_holds : Rows.BerthLinesSaid :=
  OpenClaim.holds_of_wide 4 Try.f4 rfl rfl rfl rfl rfl rfl rfl ⟨rfl, rfl, rfl, rfl, rfl⟩ rfl rfl rfl rfl rfl (by kernel_rfl) Try.func4 (by kernel_rfl)
    (of_decide_eq_true (by kernel_rfl)) (by unfold Func.isWrapper; rw [if_neg (of_decide_eq_false (by kernel_rfl))]; exact ⟨rfl, rfl⟩)
    (fun os started H enc _ => berthLines_lifted os started H enc)
#print axioms berthLines_holds

end Go.Proofs.Ytkenanicohoigaa
