/- A case that comes in is opened: network, state and turns. -/
import Derived.Test.YtndcopljjnbkbaaNtP0
import Derived.Test.YtndcopljjnbkbaaNt22
namespace Go.Proofs.Ytndcopljjnbkbaa
open Go.ChangeShapes Go.WideShapes Go.ChangeAt Go.RowKit Go.Joins Kb Wb

theorem cells_bool : Try.prog.cellsOf 4 = 1 := by kernel_rfl
theorem cells_turn : Try.prog.cellsOf 95 = 3 := by kernel_rfl
theorem cells_net : Try.prog.cellsOf 26 = 3 := by kernel_rfl
theorem cells_water : Try.prog.cellsOf 33 = 3 := by kernel_rfl
theorem cells_turns : Try.prog.cellsOf 49 = 1 := by kernel_rfl
theorem cells_bs : Try.prog.cellsOf 22 = 1 := by kernel_rfl
theorem cells_ms : Try.prog.cellsOf 23 = 1 := by kernel_rfl
theorem cells_ls : Try.prog.cellsOf 24 = 1 := by kernel_rfl
theorem cells_is : Try.prog.cellsOf 27 = 1 := by kernel_rfl
theorem cells_os : Try.prog.cellsOf 31 = 1 := by kernel_rfl
theorem cells_case : Try.prog.cellsOf 51 = 7 := by kernel_rfl

section
variable {H : Type} {enc : TypeId × Value → H} {W : World}
theorem bools_of {fuel : Nat} {cs : List Value} {y : DataW H × List MemPlace} (h : DataW.trod enc Try.prog W 0 (fun _ => true) true fuel 31 cs = some y) :
    ∃ A n c, ∃ Y : Nat → Bool, cs = [.slice A n c] ∧ (∀ i, i < n → ∃ ad, A = some ad ∧ ad.block < W.heap.size ∧ W.cell? (ad.add i) = some (.bool (Y i))) ∧ n ≤ c ∧ c ≤ maxLen := by
  rcases Go.Deep.open_slice1 Try.underlying31 cells_bool h with ⟨rfl, _⟩ | ⟨a, len, cap, m, n, V, D, Pl, rfl, _, hl, hm, hmm, _, hx⟩
  · exact ⟨none, 0, 0, fun _ => false, rfl, fun _ hi => absurd hi (Nat.not_lt_zero _), Nat.le_refl _, Nat.zero_le _⟩
  · have hmc : m = cap := by simpa using hmm
    have key : ∀ i, ∃ b : Bool, i < len → W.cell? (a.add i) = some (.bool b) := fun i => by
      by_cases hil : i < len
      · obtain ⟨h1, h2⟩ := hx i (by omega)
        obtain ⟨b, e0, _⟩ := DataW.trod_bool Try.underlying4 h2
        simp only [List.cons.injEq, and_true] at e0
        exact ⟨b, fun _ => by rw [h1, e0]⟩
      · exact ⟨false, fun hh => absurd hh hil⟩
    refine ⟨some a, len, cap, fun i => Classical.choose (key i), rfl, fun i hil => ?_, hl, hm⟩
    have c0 := Classical.choose_spec (key i) hil
    have hb := World.block_lt_of_cell? W _ c0
    rw [block_of_add] at hb
    exact ⟨a, rfl, hb, c0⟩
theorem turns_of {fuel : Nat} {cs : List Value} {y : DataW H × List MemPlace} (h : DataW.trod enc Try.prog W 0 (fun _ => true) true fuel 49 cs = some y) :
    ∃ A n c tm tl tp, cs = [.slice A n c] ∧ Tl W W.heap.size A n tm tl tp ∧ n ≤ c ∧ c ≤ maxLen ∧ ∀ i, i < n → (tl i).size ≤ maxLen := by
  rcases Go.Deep.open_slice Try.underlying49 h with ⟨rfl, _⟩ | ⟨a, len, cap, m, n, D, Pl, rfl, _, hl, hm, hmm, _, hx⟩
  · exact ⟨none, 0, 0, fun _ => 0, fun _ => s0, fun _ => false, rfl, ⟨fun _ hi => absurd hi (Nat.not_lt_zero _), Nat.le_refl _⟩, Nat.le_refl _, Nat.zero_le _, fun _ hi => absurd hi (Nat.not_lt_zero _)⟩
  · have hmc : m = cap := by simpa using hmm
    have key : ∀ i, ∃ b : Int × ByteArray × Bool, i < len → W.cell? (a.add (i * 3)) = some (.int .i64 b.1) ∧ W.cell? ((a.add (i * 3)).add 1) = some (.string b.2.1) ∧ W.cell? ((a.add (i * 3)).add 2) = some (.bool b.2.2) ∧ b.2.1.size ≤ maxLen := fun i => by
      by_cases hil : i < len
      · obtain ⟨cs', h1, h2⟩ := hx i (by omega)
        rw [cells_turn] at h1
        obtain ⟨_, hlen, hc⟩ := World.cells?_some h1
        match cs', hlen with
        | [v0, v1, v2], _ =>
          obtain ⟨y0, y1, y2, k, _, _, t0, t1, t2⟩ := Go.Deep.trod_struct3 Try.underlying95 h2
          simp only [cells_str, cells_bool, cells_int, List.drop_zero, List.drop_succ_cons, List.take_succ_cons, List.take_zero] at t0 t1 t2
          obtain ⟨r, e0, _, _⟩ := DataW.trod_int Try.underlying3 t0
          obtain ⟨s, e1, _, hs⟩ := DataW.trod_string Try.underlying9 t1
          obtain ⟨o, e2, _⟩ := DataW.trod_bool Try.underlying4 t2
          simp only [List.cons.injEq, and_true] at e0 e1 e2
          subst e0; subst e1; subst e2
          refine ⟨(r, s, o), fun _ => ⟨?_, ?_, ?_, hs⟩⟩
          · have := hc 0 (by decide); rw [add_of_add] at this; simpa using this
          · simpa using hc 1 (by decide)
          · simpa using hc 2 (by decide)
      · exact ⟨(0, s0, false), fun hh => absurd hh hil⟩
    refine ⟨some a, len, cap, fun i => (Classical.choose (key i)).1, fun i => (Classical.choose (key i)).2.1, fun i => (Classical.choose (key i)).2.2, rfl, ⟨fun i hil => ?_, Nat.le_refl _⟩, hl, hm, fun i hil => (Classical.choose_spec (key i) hil).2.2.2⟩
    obtain ⟨c0, c1, c2, _⟩ := Classical.choose_spec (key i) hil
    have hb := World.block_lt_of_cell? W _ c0
    rw [block_of_add] at hb
    exact ⟨a, rfl, hb, c0, by rw [← add_at (a.add (i * 3)) 0]; exact c1, by rw [← add_at (a.add (i * 3)) 1]; exact c2⟩
set_option maxRecDepth 100000 in
theorem open_Case {base : Nat} {v : Value} {d : DataW H} {p : List MemPlace} (hv : Value.okWide Try.prog W .any base 51 v) (h : DataW.Trod enc Try.prog W 0 (fun _ => true) true 51 v d p) :
    ∃ (N : Nd) (V : Wd) (P : Option Addr) (n u : Nat) (tm : Nat → Int) (tl : Nat → ByteArray) (tp : Nat → Bool), v = .agg #[.slice N.A N.n N.c, .slice N.M N.m N.d, .slice N.K N.k N.e, .int .i64 V.min, .slice V.A V.n V.c, .slice V.M V.m V.d, .slice P n u] ∧ Nt W W.heap.size N ∧ Wt W W.heap.size V ∧ Tl W W.heap.size P n tm tl tp ∧ n ≤ u ∧ u ≤ maxLen ∧ I64 V.min ∧ (∀ i, i < N.k → (N.l i).nm.size ≤ maxLen ∧ (N.l i).fr.size ≤ maxLen ∧ (N.l i).tw.size ≤ maxLen) ∧ (∀ i, i < N.n → (N.b i).nm.size ≤ maxLen) ∧ ∀ i, i < n → (tl i).size ≤ maxLen := by
  obtain ⟨cs, rfl, hsz⟩ := okWide_struct Try.underlying51 hv
  rw [cells_case] at hsz
  obtain ⟨l, rfl⟩ : ∃ l : List Value, cs = l.toArray := ⟨cs.toList, by simp⟩
  match l, hsz with
  | [v0, v1, v2, v3, v4, v5, v6], _ =>
    obtain ⟨fuel, hf⟩ := h
    obtain ⟨y0, y1, y2, k, _, _, h0, h1, h2⟩ := Go.Deep.trod_struct3 Try.underlying51 hf
    simp only [Value.cells, cells_net, cells_water, cells_turns, List.drop_zero, List.drop_succ_cons, List.take_succ_cons, List.take_zero] at h0 h1 h2
    obtain ⟨z0, z1, z2, k2, _, _, a0, a1, a2⟩ := Go.Deep.trod_struct3 Try.underlying26 h0
    obtain ⟨u0, u1, u2, k3, _, _, b0, b1, b2⟩ := Go.Deep.trod_struct3 Try.underlying33 h1
    simp only [cells_bs, cells_ms, cells_ls, List.drop_zero, List.drop_succ_cons, List.take_succ_cons, List.take_zero] at a0 a1 a2
    simp only [cells_int, cells_is, cells_os, List.drop_zero, List.drop_succ_cons, List.take_succ_cons, List.take_zero] at b0 b1 b2
    obtain ⟨A, m0, c0, b, e0, hB, hb1, hb2, hb3⟩ := basins_of a0
    obtain ⟨M, m1, c1, F, S, e1, hP, hp1, hp2⟩ := pairs_of Try.underlying23 Try.underlying115 (by kernel_rfl) rfl rfl rfl rfl a1
    obtain ⟨K, m2, c2, ln, e2, hL, hl1, hl2, hl3⟩ := links_of a2
    obtain ⟨r, e3, _, hr⟩ := DataW.trod_int Try.underlying3 b0
    obtain ⟨A4, n4, c4, Z, e4, hZ, hz1, hz2⟩ := nums_of b1
    obtain ⟨A5, n5, c5, Y, e5, hY, hy1, hy2⟩ := bools_of b2
    obtain ⟨P, n, u, tm, tl, tp, e6, hT, ht1, ht2, ht3⟩ := turns_of h2
    simp only [List.cons.injEq, and_true] at e0 e1 e2 e3 e4 e5 e6
    subst e0; subst e1; subst e2; subst e3; subst e4; subst e5; subst e6
    exact ⟨⟨A, m0, c0, b, M, m1, c1, F, S, K, m2, c2, ln⟩, ⟨r, A4, n4, c4, Z, A5, n5, c5, Y⟩, P, n, u, tm, tl, tp, rfl, ⟨hB, hP, hL, hb1, hb2, hp1, hp2, hl1, hl2⟩, ⟨hZ.at_, hY, Nat.le_refl _, hz1, hz2, hy1, hy2⟩, hT, ht1, ht2, bounds_i64 hr, hl3, hb3, ht3⟩
end

end Go.Proofs.Ytndcopljjnbkbaa
