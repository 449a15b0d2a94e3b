/- A network that comes in is opened: basins, marks, links; lists of numbers. -/
import Derived.Test.YtndcopljjnbkbaaWbf
import Derived.Test.YtndcopljjnbkbaaNt11
namespace Go.Proofs.Ytndcopljjnbkbaa
open Go.ChangeShapes Go.WideShapes Go.ChangeAt Go.RowKit Go.Joins Kb Wb


theorem cells_basin : Try.prog.cellsOf 42 = 3 := by kernel_rfl
theorem cells_link : Try.prog.cellsOf 59 = 8 := by kernel_rfl
theorem cells_str : Try.prog.cellsOf 9 = 1 := by kernel_rfl
theorem cells_areas : Try.prog.cellsOf 40 = 1 := by kernel_rfl

section
variable {H : Type} {enc : TypeId × Value → H} {W : World}
theorem basins_of {fuel : Nat} {cs : List Value} {y : DataW H × List MemPlace} (h : DataW.trod enc Try.prog W 0 (fun _ => true) true fuel 22 cs = some y) :
    ∃ A n c b, cs = [.slice A n c] ∧ Bl W W.heap.size A n b ∧ n ≤ c ∧ c ≤ maxLen ∧ ∀ i, i < n → (b i).nm.size ≤ maxLen := by
  rcases Go.Deep.open_slice Try.underlying22 h with ⟨rfl, _⟩ | ⟨a, len, cap, m, n, D, Pl, rfl, _, hl, hm, hmm, _, hx⟩
  · exact ⟨none, 0, 0, fun _ => ⟨s0, none, 0, 0, 0, fun _ => 0, fun _ => 0⟩, rfl, ⟨fun _ hi => absurd hi (Nat.not_lt_zero _), Nat.le_refl _⟩, Nat.le_refl _, Nat.zero_le _, fun _ hi => absurd hi (Nat.not_lt_zero _)⟩
  · have hmc : m = cap := by simpa using hmm
    have key : ∀ i, ∃ b : Bd, i < len → W.cell? (a.add (i * 3)) = some (.string b.nm) ∧ W.cell? ((a.add (i * 3)).add 1) = some (.slice b.A b.n b.c) ∧ W.cell? ((a.add (i * 3)).add 2) = some (.int .i64 b.rim) ∧ Pa W W.heap.size b.A b.n b.F b.S ∧ b.n ≤ b.c ∧ b.c ≤ maxLen ∧ b.nm.size ≤ maxLen := fun i => by
      by_cases hil : i < len
      · obtain ⟨cs', h1, h2⟩ := hx i (by omega)
        rw [cells_basin] at h1
        obtain ⟨_, hlen, hc⟩ := World.cells?_some h1
        match cs', hlen with
        | [v0, v1, v2], _ =>
          obtain ⟨y0, y1, y2, k, _, _, t0, t1, t2⟩ := Go.Deep.trod_struct3 Try.underlying42 h2
          simp only [cells_str, cells_areas, cells_int, List.drop_zero, List.drop_succ_cons, List.take_succ_cons, List.take_zero] at t0 t1 t2
          obtain ⟨s, e0, _, hs⟩ := DataW.trod_string Try.underlying9 t0
          obtain ⟨A, m', c, F, S, e1, hP, hc', hm'⟩ := pairs_of Try.underlying40 Try.underlying113 (by kernel_rfl) rfl rfl rfl rfl t1
          obtain ⟨r, e2, _, _⟩ := DataW.trod_int Try.underlying3 t2
          simp only [List.cons.injEq, and_true] at e0 e1 e2
          subst e0; subst e1; subst e2
          refine ⟨⟨s, A, m', c, r, F, S⟩, fun _ => ⟨?_, ?_, ?_, hP, hc', hm', hs⟩⟩
          · have := hc 0 (by decide); rw [add_of_add] at this; simpa using this
          · simpa using hc 1 (by decide)
          · simpa using hc 2 (by decide)
      · exact ⟨⟨s0, none, 0, 0, 0, fun _ => 0, fun _ => 0⟩, fun hh => absurd hh hil⟩
    refine ⟨some a, len, cap, fun i => Classical.choose (key i), rfl, ⟨fun i hil => ?_, Nat.le_refl _⟩, hl, hm, fun i hil => (Classical.choose_spec (key i) hil).2.2.2.2.2.2⟩
    obtain ⟨c0, c1, c2, hP, k1, k2, _⟩ := Classical.choose_spec (key i) hil
    have hb := World.block_lt_of_cell? W _ c0
    rw [block_of_add] at hb
    exact ⟨a, rfl, hb, c0, by rw [← add_at (a.add (i * 3)) 0]; exact c1, by rw [← add_at (a.add (i * 3)) 1]; exact c2, hP, k1, k2⟩

theorem trod_struct8 {t : TypeId} {f0 f1 f2 f3 f4 f5 f6 f7 : Field} {fuel : Nat} {cs : List Value} {x : DataW H × List MemPlace} (ht : Try.prog.underlying t = some (.struct #[f0, f1, f2, f3, f4, f5, f6, f7])) (h : DataW.trod enc Try.prog W 0 (fun _ => true) true fuel t cs = some x) :
    ∃ y0 y1 y2 y3 y4 y5 y6 y7 n, DataW.trod enc Try.prog W 0 (fun _ => true) true n f0.type ((cs.drop f0.offset).take (Try.prog.cellsOf f0.type)) = some y0 ∧ DataW.trod enc Try.prog W 0 (fun _ => true) true n f1.type ((cs.drop f1.offset).take (Try.prog.cellsOf f1.type)) = some y1 ∧ DataW.trod enc Try.prog W 0 (fun _ => true) true n f2.type ((cs.drop f2.offset).take (Try.prog.cellsOf f2.type)) = some y2 ∧ DataW.trod enc Try.prog W 0 (fun _ => true) true n f3.type ((cs.drop f3.offset).take (Try.prog.cellsOf f3.type)) = some y3 ∧ DataW.trod enc Try.prog W 0 (fun _ => true) true n f4.type ((cs.drop f4.offset).take (Try.prog.cellsOf f4.type)) = some y4 ∧ DataW.trod enc Try.prog W 0 (fun _ => true) true n f5.type ((cs.drop f5.offset).take (Try.prog.cellsOf f5.type)) = some y5 ∧ DataW.trod enc Try.prog W 0 (fun _ => true) true n f6.type ((cs.drop f6.offset).take (Try.prog.cellsOf f6.type)) = some y6 ∧ DataW.trod enc Try.prog W 0 (fun _ => true) true n f7.type ((cs.drop f7.offset).take (Try.prog.cellsOf f7.type)) = some y7 := by
  obtain ⟨xs, n, _, _, _, hlen, hf⟩ := DataW.trod_struct ht h
  match xs, hlen with
  | [y0, y1, y2, y3, y4, y5, y6, y7], _ => exact ⟨y0, y1, y2, y3, y4, y5, y6, y7, n, by simpa using hf 0 f0 rfl, by simpa using hf 1 f1 rfl, by simpa using hf 2 f2 rfl, by simpa using hf 3 f3 rfl, by simpa using hf 4 f4 rfl, by simpa using hf 5 f5 rfl, by simpa using hf 6 f6 rfl, by simpa using hf 7 f7 rfl⟩

theorem links_of {fuel : Nat} {cs : List Value} {y : DataW H × List MemPlace} (h : DataW.trod enc Try.prog W 0 (fun _ => true) true fuel 24 cs = some y) :
    ∃ A n c l, cs = [.slice A n c] ∧ Ll W W.heap.size A n l ∧ n ≤ c ∧ c ≤ maxLen ∧ ∀ i, i < n → (l i).nm.size ≤ maxLen ∧ (l i).fr.size ≤ maxLen ∧ (l i).tw.size ≤ maxLen := by
  rcases Go.Deep.open_slice Try.underlying24 h with ⟨rfl, _⟩ | ⟨a, len, cap, m, n, D, Pl, rfl, _, hl, hm, hmm, _, hx⟩
  · exact ⟨none, 0, 0, fun _ => ⟨s0, 0, s0, s0, 0, 0, 0, 0⟩, rfl, ⟨fun _ hi => absurd hi (Nat.not_lt_zero _), Nat.le_refl _⟩, Nat.le_refl _, Nat.zero_le _, fun _ hi => absurd hi (Nat.not_lt_zero _)⟩
  · have hmc : m = cap := by simpa using hmm
    have key : ∀ i, ∃ b : Ld, i < len → W.cell? (a.add (i * 8)) = some (.string b.nm) ∧ W.cell? ((a.add (i * 8)).add 1) = some (.int .i64 b.kind) ∧ W.cell? ((a.add (i * 8)).add 2) = some (.string b.fr) ∧ W.cell? ((a.add (i * 8)).add 3) = some (.string b.tw) ∧ W.cell? ((a.add (i * 8)).add 4) = some (.int .i64 b.sill) ∧ W.cell? ((a.add (i * 8)).add 5) = some (.int .i64 b.rate) ∧ W.cell? ((a.add (i * 8)).add 6) = some (.int .i64 b.fac) ∧ W.cell? ((a.add (i * 8)).add 7) = some (.int .i64 b.lift) ∧ b.nm.size ≤ maxLen ∧ b.fr.size ≤ maxLen ∧ b.tw.size ≤ maxLen := fun i => by
      by_cases hil : i < len
      · obtain ⟨cs', h1, h2⟩ := hx i (by omega)
        rw [cells_link] at h1
        obtain ⟨_, hlen, hc⟩ := World.cells?_some h1
        match cs', hlen with
        | [v0, v1, v2, v3, v4, v5, v6, v7], _ =>
          obtain ⟨y0, y1, y2, y3, y4, y5, y6, y7, k, t0, t1, t2, t3, t4, t5, t6, t7⟩ := trod_struct8 Try.underlying59 h2
          simp only [cells_str, cells_int, List.drop_zero, List.drop_succ_cons, List.take_succ_cons, List.take_zero] at t0 t1 t2 t3 t4 t5 t6 t7
          obtain ⟨z0, e0, _, k0⟩ := DataW.trod_string Try.underlying9 t0
          obtain ⟨z1, e1, _, _⟩ := DataW.trod_int Try.underlying3 t1
          obtain ⟨z2, e2, _, k2⟩ := DataW.trod_string Try.underlying9 t2
          obtain ⟨z3, e3, _, k3⟩ := DataW.trod_string Try.underlying9 t3
          obtain ⟨z4, e4, _, _⟩ := DataW.trod_int Try.underlying3 t4
          obtain ⟨z5, e5, _, _⟩ := DataW.trod_int Try.underlying3 t5
          obtain ⟨z6, e6, _, _⟩ := DataW.trod_int Try.underlying3 t6
          obtain ⟨z7, e7, _, _⟩ := DataW.trod_int Try.underlying3 t7
          simp only [List.cons.injEq, and_true] at e0 e1 e2 e3 e4 e5 e6 e7
          subst e0; subst e1; subst e2; subst e3; subst e4; subst e5; subst e6; subst e7
          refine ⟨⟨z0, z1, z2, z3, z4, z5, z6, z7⟩, fun _ => ⟨?_, ?_, ?_, ?_, ?_, ?_, ?_, ?_, k0, k2, k3⟩⟩
          · have := hc 0 (by decide); rw [add_of_add] at this; simpa using this
          · simpa using hc 1 (by decide)
          · simpa using hc 2 (by decide)
          · simpa using hc 3 (by decide)
          · simpa using hc 4 (by decide)
          · simpa using hc 5 (by decide)
          · simpa using hc 6 (by decide)
          · simpa using hc 7 (by decide)
      · exact ⟨⟨s0, 0, s0, s0, 0, 0, 0, 0⟩, fun hh => absurd hh hil⟩
    refine ⟨some a, len, cap, fun i => Classical.choose (key i), rfl, ⟨fun i hil => ?_, Nat.le_refl _⟩, hl, hm, fun i hil => (Classical.choose_spec (key i) hil).2.2.2.2.2.2.2.2⟩
    obtain ⟨c0, c1, c2, c3, c4, c5, c6, c7, _⟩ := Classical.choose_spec (key i) hil
    have hb := World.block_lt_of_cell? W _ c0
    rw [block_of_add] at hb
    exact ⟨a, rfl, hb, c0, by rw [← add_at (a.add (i * 8)) 0]; exact c1, by rw [← add_at (a.add (i * 8)) 1]; exact c2, by rw [← add_at (a.add (i * 8)) 2]; exact c3, by rw [← add_at (a.add (i * 8)) 3]; exact c4, by rw [← add_at (a.add (i * 8)) 4]; exact c5, by rw [← add_at (a.add (i * 8)) 5]; exact c6, by rw [← add_at (a.add (i * 8)) 6]; exact c7⟩

theorem nums_of {fuel : Nat} {cs : List Value} {y : DataW H × List MemPlace} (h : DataW.trod enc Try.prog W 0 (fun _ => true) true fuel 27 cs = some y) :
    ∃ A n c Z, cs = [.slice A n c] ∧ Ys W W.heap.size A n Z ∧ n ≤ c ∧ c ≤ maxLen := by
  rcases open_ints Try.underlying27 Try.underlying3 cells_int h with ⟨rfl, _⟩ | ⟨a, len, cap, zs, rfl, _, hl, hm, hz, _, hi, _⟩
  · exact ⟨none, 0, 0, fun _ => 0, rfl, ⟨fun _ hi => absurd hi (Nat.not_lt_zero _), Nat.le_refl _⟩, Nat.le_refl _, Nat.zero_le _⟩
  · have hzc : zs.length = cap := by simpa using hz
    refine ⟨some a, len, cap, fun i => zs.getD i 0, rfl, ⟨fun i hil => ?_, Nat.le_refl _⟩, hl, hm⟩
    have c0 := hi i (by omega)
    have hb := World.block_lt_of_cell? W _ c0
    rw [block_of_add] at hb
    exact ⟨a, rfl, hb, c0⟩

set_option maxRecDepth 100000 in
theorem open_Network {base : Nat} {v : Value} {d : DataW H} {p : List MemPlace} (hv : Value.okWide Try.prog W .any base 26 v) (h : DataW.Trod enc Try.prog W 0 (fun _ => true) true 26 v d p) :
    ∃ N : Nd, v = .agg #[.slice N.A N.n N.c, .slice N.M N.m N.d, .slice N.K N.k N.e] ∧ Nt W W.heap.size N ∧ (∀ i, i < N.k → (N.l i).nm.size ≤ maxLen ∧ (N.l i).fr.size ≤ maxLen ∧ (N.l i).tw.size ≤ maxLen) ∧ ∀ i, i < N.n → (N.b i).nm.size ≤ maxLen := by
  obtain ⟨v0, v1, v2, y0, y1, y2, n, rfl, _, _, h0, h1, h2⟩ := open_agg3 Try.underlying26 (by kernel_rfl) (by kernel_rfl) hv h
  obtain ⟨A, m0, c0, b, e0, hB, hb1, hb2, hb3⟩ := basins_of h0
  obtain ⟨M, m1, c1, F, S, e1, hP, hp1, hp2⟩ := pairs_of Try.underlying23 Try.underlying115 (by kernel_rfl) rfl rfl rfl rfl h1
  obtain ⟨K, m2, c2, l, e2, hL, hl1, hl2, hl3⟩ := links_of h2
  simp only [List.cons.injEq, and_true] at e0 e1 e2
  subst e0; subst e1; subst e2
  exact ⟨⟨A, m0, c0, b, M, m1, c1, F, S, K, m2, c2, l⟩, rfl, ⟨hB, hP, hL, hb1, hb2, hp1, hp2, hl1, hl2⟩, hl3, hb3⟩
set_option maxRecDepth 100000 in
theorem open_Nums {base : Nat} {v : Value} {d : DataW H} {p : List MemPlace} (hv : Value.okWide Try.prog W .any base 27 v) (h : DataW.Trod enc Try.prog W 0 (fun _ => true) true 27 v d p) :
    ∃ A n c Z, v = .slice A n c ∧ Ys W W.heap.size A n Z ∧ n ≤ c ∧ c ≤ maxLen := by
  obtain ⟨a, len, cap, rfl⟩ := okWide_slice Try.underlying27 hv
  obtain ⟨fuel, hf⟩ := h
  obtain ⟨A, n, c, Z, e, hY, h1, h2⟩ := nums_of hf
  simp only [Value.cells, List.cons.injEq, and_true] at e
  exact ⟨A, n, c, Z, e, hY, h1, h2⟩
end

end Go.Proofs.Ytndcopljjnbkbaa
