/- BerthDocks answers true for every two lists of docks and of ships, and leaves them as they were. No condition: arguments may share memory. -/
import Derived.Test.YtkenanicohoigaaWbf
import Derived.Test.YtkenanicohoigaaBg1
namespace Go.Proofs.Ytkenanicohoigaa
open Go.ChangeShapes Go.WideShapes Go.ChangeAt Go.RowKit Go.Joins Kb Wb

theorem cells_str : Try.prog.cellsOf 9 = 1 := by kernel_rfl

theorem cells_Dk : Try.prog.cellsOf 34 = 6 := by kernel_rfl
section
variable {H : Type} {enc : TypeId × Value → H} {W : World}
theorem Dk_struct {t : TypeId} {f0 f1 f2 f3 f4 f5 : Field} {fuel : Nat} {cs : List Value} {x : DataW H × List MemPlace} (ht : Try.prog.underlying t = some (.struct #[f0, f1, f2, f3, f4, f5])) (h : DataW.trod enc Try.prog W 0 (fun _ => true) true fuel t cs = some x) :
    ∃ y0 y1 y2 y3 y4 y5 n, DataW.trod enc Try.prog W 0 (fun _ => true) true n f0.type ((cs.drop f0.offset).take (Try.prog.cellsOf f0.type)) = some y0 ∧ DataW.trod enc Try.prog W 0 (fun _ => true) true n f1.type ((cs.drop f1.offset).take (Try.prog.cellsOf f1.type)) = some y1 ∧ DataW.trod enc Try.prog W 0 (fun _ => true) true n f2.type ((cs.drop f2.offset).take (Try.prog.cellsOf f2.type)) = some y2 ∧ DataW.trod enc Try.prog W 0 (fun _ => true) true n f3.type ((cs.drop f3.offset).take (Try.prog.cellsOf f3.type)) = some y3 ∧ DataW.trod enc Try.prog W 0 (fun _ => true) true n f4.type ((cs.drop f4.offset).take (Try.prog.cellsOf f4.type)) = some y4 ∧ DataW.trod enc Try.prog W 0 (fun _ => true) true n f5.type ((cs.drop f5.offset).take (Try.prog.cellsOf f5.type)) = some y5 := by
  obtain ⟨xs, n, _, _, _, hlen, hf⟩ := DataW.trod_struct ht h
  match xs, hlen with
  | [y0, y1, y2, y3, y4, y5], _ => exact ⟨y0, y1, y2, y3, y4, y5, n, by simpa using hf 0 f0 rfl, by simpa using hf 1 f1 rfl, by simpa using hf 2 f2 rfl, by simpa using hf 3 f3 rfl, by simpa using hf 4 f4 rfl, by simpa using hf 5 f5 rfl⟩
theorem Dk_of {fuel : Nat} {cs : List Value} {y : DataW H × List MemPlace} (h : DataW.trod enc Try.prog W 0 (fun _ => true) true fuel 22 cs = some y) :
    ∃ A n c b, cs = [.slice A n c] ∧ Dkl W W.heap.size A n b ∧ n ≤ c ∧ c ≤ maxLen ∧ ∀ i, i < n → (b i).nm.size ≤ maxLen := by
  rcases Go.Deep.open_slice Try.underlying22 h with ⟨rfl, _⟩ | ⟨a, len, cap, m, n, D, Pl, rfl, _, hl, hm, hmm, _, hx⟩
  · exact ⟨none, 0, 0, fun _ => ⟨s0, 0, 0, 0, 0, 0⟩, rfl, ⟨fun _ hi => absurd hi (Nat.not_lt_zero _), Nat.le_refl _⟩, Nat.le_refl _, Nat.zero_le _, fun _ hi => absurd hi (Nat.not_lt_zero _)⟩
  · have hmc : m = cap := by simpa using hmm
    have key : ∀ i, ∃ b : Dkd, i < len → W.cell? (a.add (i * 6)) = some (.string b.nm) ∧ W.cell? ((a.add (i * 6)).add 1) = some (.int .i64 b.len) ∧ W.cell? ((a.add (i * 6)).add 2) = some (.int .i64 b.wid) ∧ W.cell? ((a.add (i * 6)).add 3) = some (.int .i64 b.sill) ∧ W.cell? ((a.add (i * 6)).add 4) = some (.int .i64 b.flr) ∧ W.cell? ((a.add (i * 6)).add 5) = some (.int .i64 b.gap) ∧ b.nm.size ≤ maxLen := fun i => by
      by_cases hil : i < len
      · obtain ⟨cs', h1, h2⟩ := hx i (by omega)
        rw [cells_Dk] at h1
        obtain ⟨_, hlen, hc⟩ := World.cells?_some h1
        match cs', hlen with
        | [v0, v1, v2, v3, v4, v5], _ =>
          obtain ⟨y0, y1, y2, y3, y4, y5, k, t0, t1, t2, t3, t4, t5⟩ := Dk_struct Try.underlying34 h2
          simp only [cells_str, cells_int, List.drop_zero, List.drop_succ_cons, List.take_succ_cons, List.take_zero] at t0 t1 t2 t3 t4 t5
          obtain ⟨z0, e0, _, k0⟩ := DataW.trod_string Try.underlying9 t0
          obtain ⟨z1, e1, _, _⟩ := DataW.trod_int Try.underlying3 t1
          obtain ⟨z2, e2, _, _⟩ := DataW.trod_int Try.underlying3 t2
          obtain ⟨z3, e3, _, _⟩ := DataW.trod_int Try.underlying3 t3
          obtain ⟨z4, e4, _, _⟩ := DataW.trod_int Try.underlying3 t4
          obtain ⟨z5, e5, _, _⟩ := DataW.trod_int Try.underlying3 t5
          simp only [List.cons.injEq, and_true] at e0 e1 e2 e3 e4 e5
          subst e0; subst e1; subst e2; subst e3; subst e4; subst e5
          refine ⟨⟨z0, z1, z2, z3, z4, z5⟩, fun _ => ⟨?_, ?_, ?_, ?_, ?_, ?_, k0⟩⟩
          · have := hc 0 (by decide); rw [add_of_add] at this; simpa using this
          · simpa using hc 1 (by decide)
          · simpa using hc 2 (by decide)
          · simpa using hc 3 (by decide)
          · simpa using hc 4 (by decide)
          · simpa using hc 5 (by decide)
      · exact ⟨⟨s0, 0, 0, 0, 0, 0⟩, fun hh => absurd hh hil⟩
    refine ⟨some a, len, cap, fun i => Classical.choose (key i), rfl, ⟨fun i hil => ?_, Nat.le_refl _⟩, hl, hm, fun i hil => (Classical.choose_spec (key i) hil).2.2.2.2.2.2⟩
    obtain ⟨c0, c1, c2, c3, c4, c5, _⟩ := Classical.choose_spec (key i) hil
    have hb := World.block_lt_of_cell? W _ c0
    rw [block_of_add] at hb
    exact ⟨a, rfl, hb, c0, by rw [← add_at (a.add (i * 6)) 0]; exact c1, by rw [← add_at (a.add (i * 6)) 1]; exact c2, by rw [← add_at (a.add (i * 6)) 2]; exact c3, by rw [← add_at (a.add (i * 6)) 3]; exact c4, by rw [← add_at (a.add (i * 6)) 4]; exact c5⟩
set_option maxRecDepth 100000 in
theorem open_Dk {base : Nat} {v : Value} {d : DataW H} {p : List MemPlace} (hv : Value.okWide Try.prog W .any base 22 v) (h : DataW.Trod enc Try.prog W 0 (fun _ => true) true 22 v d p) :
    ∃ A n c b, v = .slice A n c ∧ Dkl W W.heap.size A n b ∧ n ≤ c ∧ c ≤ maxLen ∧ ∀ i, i < n → (b i).nm.size ≤ maxLen := by
  obtain ⟨a, len, cap, rfl⟩ := okWide_slice Try.underlying22 hv
  obtain ⟨fuel, hf⟩ := h
  obtain ⟨A, n, c, b, e, hY, h1, h2, h3⟩ := Dk_of hf
  simp only [Value.cells, List.cons.injEq, and_true] at e
  exact ⟨A, n, c, b, e, hY, h1, h2, h3⟩
end

theorem cells_Ca : Try.prog.cellsOf 36 = 9 := by kernel_rfl
section
variable {H : Type} {enc : TypeId × Value → H} {W : World}
theorem Ca_struct {t : TypeId} {f0 f1 f2 f3 f4 f5 f6 f7 f8 : Field} {fuel : Nat} {cs : List Value} {x : DataW H × List MemPlace} (ht : Try.prog.underlying t = some (.struct #[f0, f1, f2, f3, f4, f5, f6, f7, f8])) (h : DataW.trod enc Try.prog W 0 (fun _ => true) true fuel t cs = some x) :
    ∃ y0 y1 y2 y3 y4 y5 y6 y7 y8 n, DataW.trod enc Try.prog W 0 (fun _ => true) true n f0.type ((cs.drop f0.offset).take (Try.prog.cellsOf f0.type)) = some y0 ∧ DataW.trod enc Try.prog W 0 (fun _ => true) true n f1.type ((cs.drop f1.offset).take (Try.prog.cellsOf f1.type)) = some y1 ∧ DataW.trod enc Try.prog W 0 (fun _ => true) true n f2.type ((cs.drop f2.offset).take (Try.prog.cellsOf f2.type)) = some y2 ∧ DataW.trod enc Try.prog W 0 (fun _ => true) true n f3.type ((cs.drop f3.offset).take (Try.prog.cellsOf f3.type)) = some y3 ∧ DataW.trod enc Try.prog W 0 (fun _ => true) true n f4.type ((cs.drop f4.offset).take (Try.prog.cellsOf f4.type)) = some y4 ∧ DataW.trod enc Try.prog W 0 (fun _ => true) true n f5.type ((cs.drop f5.offset).take (Try.prog.cellsOf f5.type)) = some y5 ∧ DataW.trod enc Try.prog W 0 (fun _ => true) true n f6.type ((cs.drop f6.offset).take (Try.prog.cellsOf f6.type)) = some y6 ∧ DataW.trod enc Try.prog W 0 (fun _ => true) true n f7.type ((cs.drop f7.offset).take (Try.prog.cellsOf f7.type)) = some y7 ∧ DataW.trod enc Try.prog W 0 (fun _ => true) true n f8.type ((cs.drop f8.offset).take (Try.prog.cellsOf f8.type)) = some y8 := by
  obtain ⟨xs, n, _, _, _, hlen, hf⟩ := DataW.trod_struct ht h
  match xs, hlen with
  | [y0, y1, y2, y3, y4, y5, y6, y7, y8], _ => exact ⟨y0, y1, y2, y3, y4, y5, y6, y7, y8, n, by simpa using hf 0 f0 rfl, by simpa using hf 1 f1 rfl, by simpa using hf 2 f2 rfl, by simpa using hf 3 f3 rfl, by simpa using hf 4 f4 rfl, by simpa using hf 5 f5 rfl, by simpa using hf 6 f6 rfl, by simpa using hf 7 f7 rfl, by simpa using hf 8 f8 rfl⟩
theorem Ca_of {fuel : Nat} {cs : List Value} {y : DataW H × List MemPlace} (h : DataW.trod enc Try.prog W 0 (fun _ => true) true fuel 23 cs = some y) :
    ∃ A n c b, cs = [.slice A n c] ∧ Cal W W.heap.size A n b ∧ n ≤ c ∧ c ≤ maxLen ∧ ∀ i, i < n → (b i).nm.size ≤ maxLen := by
  rcases Go.Deep.open_slice Try.underlying23 h with ⟨rfl, _⟩ | ⟨a, len, cap, m, n, D, Pl, rfl, _, hl, hm, hmm, _, hx⟩
  · exact ⟨none, 0, 0, fun _ => ⟨s0, 0, 0, 0, 0, 0, 0, 0, 0⟩, rfl, ⟨fun _ hi => absurd hi (Nat.not_lt_zero _), Nat.le_refl _⟩, Nat.le_refl _, Nat.zero_le _, fun _ hi => absurd hi (Nat.not_lt_zero _)⟩
  · have hmc : m = cap := by simpa using hmm
    have key : ∀ i, ∃ b : Cad, i < len → W.cell? (a.add (i * 9)) = some (.string b.nm) ∧ W.cell? ((a.add (i * 9)).add 1) = some (.int .i64 b.len) ∧ W.cell? ((a.add (i * 9)).add 2) = some (.int .i64 b.beam) ∧ W.cell? ((a.add (i * 9)).add 3) = some (.int .i64 b.dra) ∧ W.cell? ((a.add (i * 9)).add 4) = some (.int .i64 b.und) ∧ W.cell? ((a.add (i * 9)).add 5) = some (.int .i64 b.arr) ∧ W.cell? ((a.add (i * 9)).add 6) = some (.int .i64 b.wrk) ∧ W.cell? ((a.add (i * 9)).add 7) = some (.int .i64 b.due) ∧ W.cell? ((a.add (i * 9)).add 8) = some (.int .i64 b.late) ∧ b.nm.size ≤ maxLen := fun i => by
      by_cases hil : i < len
      · obtain ⟨cs', h1, h2⟩ := hx i (by omega)
        rw [cells_Ca] at h1
        obtain ⟨_, hlen, hc⟩ := World.cells?_some h1
        match cs', hlen with
        | [v0, v1, v2, v3, v4, v5, v6, v7, v8], _ =>
          obtain ⟨y0, y1, y2, y3, y4, y5, y6, y7, y8, k, t0, t1, t2, t3, t4, t5, t6, t7, t8⟩ := Ca_struct Try.underlying36 h2
          simp only [cells_str, cells_int, List.drop_zero, List.drop_succ_cons, List.take_succ_cons, List.take_zero] at t0 t1 t2 t3 t4 t5 t6 t7 t8
          obtain ⟨z0, e0, _, k0⟩ := DataW.trod_string Try.underlying9 t0
          obtain ⟨z1, e1, _, _⟩ := DataW.trod_int Try.underlying3 t1
          obtain ⟨z2, e2, _, _⟩ := DataW.trod_int Try.underlying3 t2
          obtain ⟨z3, e3, _, _⟩ := DataW.trod_int Try.underlying3 t3
          obtain ⟨z4, e4, _, _⟩ := DataW.trod_int Try.underlying3 t4
          obtain ⟨z5, e5, _, _⟩ := DataW.trod_int Try.underlying3 t5
          obtain ⟨z6, e6, _, _⟩ := DataW.trod_int Try.underlying3 t6
          obtain ⟨z7, e7, _, _⟩ := DataW.trod_int Try.underlying3 t7
          obtain ⟨z8, e8, _, _⟩ := DataW.trod_int Try.underlying3 t8
          simp only [List.cons.injEq, and_true] at e0 e1 e2 e3 e4 e5 e6 e7 e8
          subst e0; subst e1; subst e2; subst e3; subst e4; subst e5; subst e6; subst e7; subst e8
          refine ⟨⟨z0, z1, z2, z3, z4, z5, z6, z7, z8⟩, fun _ => ⟨?_, ?_, ?_, ?_, ?_, ?_, ?_, ?_, ?_, k0⟩⟩
          · have := hc 0 (by decide); rw [add_of_add] at this; simpa using this
          · simpa using hc 1 (by decide)
          · simpa using hc 2 (by decide)
          · simpa using hc 3 (by decide)
          · simpa using hc 4 (by decide)
          · simpa using hc 5 (by decide)
          · simpa using hc 6 (by decide)
          · simpa using hc 7 (by decide)
          · simpa using hc 8 (by decide)
      · exact ⟨⟨s0, 0, 0, 0, 0, 0, 0, 0, 0⟩, fun hh => absurd hh hil⟩
    refine ⟨some a, len, cap, fun i => Classical.choose (key i), rfl, ⟨fun i hil => ?_, Nat.le_refl _⟩, hl, hm, fun i hil => (Classical.choose_spec (key i) hil).2.2.2.2.2.2.2.2.2⟩
    obtain ⟨c0, c1, c2, c3, c4, c5, c6, c7, c8, _⟩ := Classical.choose_spec (key i) hil
    have hb := World.block_lt_of_cell? W _ c0
    rw [block_of_add] at hb
    exact ⟨a, rfl, hb, c0, by rw [← add_at (a.add (i * 9)) 0]; exact c1, by rw [← add_at (a.add (i * 9)) 1]; exact c2, by rw [← add_at (a.add (i * 9)) 2]; exact c3, by rw [← add_at (a.add (i * 9)) 3]; exact c4, by rw [← add_at (a.add (i * 9)) 4]; exact c5, by rw [← add_at (a.add (i * 9)) 5]; exact c6, by rw [← add_at (a.add (i * 9)) 6]; exact c7, by rw [← add_at (a.add (i * 9)) 7]; exact c8⟩
set_option maxRecDepth 100000 in
theorem open_Ca {base : Nat} {v : Value} {d : DataW H} {p : List MemPlace} (hv : Value.okWide Try.prog W .any base 23 v) (h : DataW.Trod enc Try.prog W 0 (fun _ => true) true 23 v d p) :
    ∃ A n c b, v = .slice A n c ∧ Cal W W.heap.size A n b ∧ n ≤ c ∧ c ≤ maxLen ∧ ∀ i, i < n → (b i).nm.size ≤ maxLen := by
  obtain ⟨a, len, cap, rfl⟩ := okWide_slice Try.underlying23 hv
  obtain ⟨fuel, hf⟩ := h
  obtain ⟨A, n, c, b, e, hY, h1, h2, h3⟩ := Ca_of hf
  simp only [Value.cells, List.cons.injEq, and_true] at e
  exact ⟨A, n, c, b, e, hY, h1, h2, h3⟩
end

set_option maxRecDepth 100000 in
theorem berthDocks_lifted (os : Os) (started : os.Started) (H : Type) (enc : TypeId × Value → H) :
    ReturnsInHanded {} Try.checked os 3 .any (Rows.berthDocksSpec.pre6 enc Try.prog Try.f3 Rows.berthDocksRow.domain false) (Rows.berthDocksSpec.post enc Try.prog Try.f3 false true false false) := by
  refine returnsInHanded_of_change (C := Try.checked) own started (by kernel_rfl) Try.func3
    (ChangeSpec.witness6 (enc := enc) (C := Try.checked) false ⟨#[], #[.slice none 0 0, .slice none 0 0], []⟩ 8 (by kernel_rfl) (by kernel_rfl) (by kernel_rfl) (by kernel_rfl)) ?_
  intro W base args ds gs before hval0 hW _ _
  have hval : ∀ (j : Nat) t v, Try.f3.params[j]? = some t → args[j]? = some v → Value.okWide Try.prog W .any base t v := hval0
  have hW' := hW
  obtain ⟨p, q, hA0, hV, rfl, hfz, hnd⟩ := hW
  have hA : DataW.TrodAll enc Try.prog W 0 (fun _ => true) true Try.f3.params.toList args.toList ds p := hA0
  rw [Try.params3] at hA hval
  obtain ⟨v0, vs0, d0, ds0, p0, q0, hargs, rfl, rfl, h0, r0⟩ := trodAll_cons hA
  obtain ⟨v1, vs1, d1, ds1, p1, q1, rfl, rfl, rfl, h1, r1⟩ := trodAll_cons r0
  obtain ⟨rfl, rfl, rfl⟩ := trodAll_nil r1
  obtain rfl : args = #[v0, v1] := by cases args; simp_all
  obtain ⟨rfl, rfl⟩ := trodVars_none hV
  have k0 := h0
  have k1 := h1
  have lt0 : ∀ x ∈ p0, x.block < W.heap.size := by obtain ⟨m, hm⟩ := k0; exact DataW.trod_lt m _ _ _ hm
  have lt1 : ∀ x ∈ p1, x.block < W.heap.size := by obtain ⟨m, hm⟩ := k1; exact DataW.trod_lt m _ _ _ hm
  obtain ⟨A, n, c, d, rfl, hD, hc, hm, hs⟩ := open_Dk (hval 0 22 v0 rfl rfl) h0
  obtain ⟨M, m, e, x, rfl, hX, hc2, hm2, hs2⟩ := open_Ca (hval 1 23 v1 rfl rfl) h1
  clear hA0 hval0
  refine (docks_walk hD hX hc hm hc2 hm2 hs hs2).mono fun e W' ⟨he, bel⟩ => ?_
  subst he
  exact ⟨_, rfl, _, _, _, [], _, [], hW', trodAll_mk1 (shut_bool Try.underlying4 _), (trodAll_cons_mk (Below.trod laidOut (by kernel_rfl) (of_decide_eq_true (by kernel_rfl)) k0 bel lt0) (trodAll_cons_mk (Below.trod laidOut (by kernel_rfl) (of_decide_eq_true (by kernel_rfl)) k1 bel lt1) trodAll_mk0)), rfl, bel.frame _, fun h => by cases h⟩

theorem berthDocks_holds : Rows.BerthDocksSaid :=
  OpenClaim.holds_of_wide 3 Try.f3 rfl rfl rfl rfl rfl rfl rfl ⟨rfl, rfl, rfl, rfl, rfl⟩ rfl rfl rfl rfl rfl (by kernel_rfl) Try.func3 (by kernel_rfl)
    (of_decide_eq_true (by kernel_rfl)) (by unfold Func.isWrapper; rw [if_neg (of_decide_eq_false (by kernel_rfl))]; exact ⟨rfl, rfl⟩)
    (fun os started H enc _ => berthDocks_lifted os started H enc)
#print axioms berthDocks_holds

end Go.Proofs.Ytkenanicohoigaa
