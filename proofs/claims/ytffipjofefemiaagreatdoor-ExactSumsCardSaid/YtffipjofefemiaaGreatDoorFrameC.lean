/- A curve that comes in is opened. -/
import Derived.Test.YtffipjofefemiaaGreatDoorFrameRm
import Derived.Test.YtffipjofefemiaaGreatDoorHvy
import Derived.Deep.Slices
namespace Go.Proofs.YtffipjofefemiaaGreatDoor
open Go.ChangeShapes Go.WideShapes Go.ChangeAt Go.RowKit Go.Joins Kb

theorem cells_intC : Tryz.prog.cellsOf 3 = 1 := by kernel_rfl
theorem cells_ints : Tryz.prog.cellsOf 45 = 1 := by kernel_rfl
theorem cells_rats : Tryz.prog.cellsOf 46 = 1 := by kernel_rfl
theorem cells_Curve : Tryz.prog.cellsOf 48 = 2 := by kernel_rfl
theorem choice2 {m : Nat} {E : Nat → Rat → Bool → Prop} (h : ∀ i, i < m → ∃ q b, E i q b) : ∃ (Q : Nat → Rat) (wd : Nat → Bool), ∀ i, i < m → E i (Q i) (wd i) := by
  have h' : ∀ i, ∃ p : Rat × Bool, i < m → E i p.1 p.2 := fun i => by
    rcases Nat.lt_or_ge i m with hi | hi
    · obtain ⟨q, b, e⟩ := h i hi
      exact ⟨(q, b), fun _ => e⟩
    · exact ⟨(0, false), fun hi' => by omega⟩
  exact ⟨fun i => (Classical.choose (h' i)).1, fun i => (Classical.choose (h' i)).2, fun i hi => Classical.choose_spec (h' i) hi⟩
section
variable {H : Type} {enc : TypeId × Value → H} {W : World} {base : Nat} {v : Value} {d : DataW H} {p : List MemPlace}
theorem ints_of {fuel : Nat} {cs : List Value} {y : DataW H × List MemPlace} (h : DataW.trod enc Tryz.prog W 0 (fun _ => true) true fuel 45 cs = some y) : ∃ A n c X, cs = [.slice A n c] ∧ Si W W.heap.size A n X := by
  rcases open_ints Tryz.underlying45 Tryz.underlying3 cells_intC h with ⟨rfl, _⟩ | ⟨x, l, c, zs, rfl, _, hl, hm, hz, _, hcell, hwz⟩
  · exact ⟨none, 0, 0, fun _ => 0, rfl, fun i hi => absurd hi (Nat.not_lt_zero _)⟩
  · have hz' : zs.length = c := by simpa using hz
    refine ⟨some x, l, c, fun i => zs.getD i 0, rfl, fun i hi => ?_⟩
    have h1 := hcell i (by omega)
    have h2 := World.block_lt_of_cell? W _ h1
    rw [block_of_add] at h2
    exact ⟨x, rfl, h2, h1⟩
theorem rat_of {fuel : Nat} {c0 c1 c2 c3 : Value} {y : DataW H × List MemPlace} (h : DataW.trod enc Tryz.prog W 0 (fun _ => true) true fuel 26 [c0, c1, c2, c3] = some y) :
    ∃ s1 A1 n1 c1' s2 A2 n2 c2' N D, c0 = .bool s1 ∧ c1 = .slice A1 n1 c1' ∧ c2 = .bool s2 ∧ c3 = .slice A2 n2 c2' ∧ Zi W s1 A1 n1 c1' N ∧ Zi W s2 A2 n2 c2' D ∧ Le n1 N ∧ Le n2 D := by
  obtain ⟨y0, y1, n, _, _, h0, h1⟩ := trod_struct2 Tryz.underlying26 h
  have h0' : DataW.trod enc Tryz.prog W 0 (fun _ => true) true n 24 [c0, c1] = some y0 := by simpa [cells_Int] using h0
  have h1' : DataW.trod enc Tryz.prog W 0 (fun _ => true) true n 24 [c2, c3] = some y1 := by simpa [cells_Int] using h1
  obtain ⟨s1, A1, n1, c1', N, rfl, rfl, hN, lN⟩ := int_of h0'
  obtain ⟨s2, A2, n2, c2', D, rfl, rfl, hD, lD⟩ := int_of h1'
  exact ⟨s1, A1, n1, c1', s2, A2, n2, c2', N, D, rfl, rfl, rfl, rfl, hN, hD, lN, lD⟩
theorem rats_of {fuel : Nat} {cs : List Value} {y : DataW H × List MemPlace} (h : DataW.trod enc Tryz.prog W 0 (fun _ => true) true fuel 46 cs = some y) : ∃ B m c Q wd, cs = [.slice B m c] ∧ Sq0 W W.heap.size B m Q wd := by
  rcases Go.Deep.open_slice Tryz.underlying46 h with ⟨rfl, _⟩ | ⟨a, len, cap, m, n, D, Pl, rfl, _, hl, _, hm, _, hi⟩
  · exact ⟨none, 0, 0, fun _ => 0, fun _ => false, rfl, fun i hi => absurd hi (Nat.not_lt_zero _)⟩
  · have hmc : m = cap := by simpa using hm
    have key : ∀ i, i < len → ∃ (q : Rat) (b : Bool), ∃ ad s1 A1 n1 c1 s2 A2 n2 c2 N D, some a = some ad ∧ ad.block < W.heap.size ∧ W.cell? (ad.add (i * 4)) = some (.bool s1) ∧ W.cell? ⟨(ad.add (i * 4)).block, (ad.add (i * 4)).off + 1, none⟩ = some (.slice A1 n1 c1) ∧ W.cell? ⟨(ad.add (i * 4)).block, (ad.add (i * 4)).off + 2, none⟩ = some (.bool s2) ∧ W.cell? ⟨(ad.add (i * 4)).block, (ad.add (i * 4)).off + 3, none⟩ = some (.slice A2 n2 c2) ∧ Zi W s1 A1 n1 c1 N ∧ Zi W s2 A2 n2 c2 D ∧ Le n1 N ∧ Le n2 D ∧ Hid (rv N D = q) ∧ Hid (b = decide (12 < n1 ∨ 12 < n2)) := fun i hil => by
      obtain ⟨cs', hc, ht⟩ := hi i (by omega)
      rw [cells_Rat] at hc
      obtain ⟨_, hcl, hat⟩ := World.cells?_some hc
      match cs', hcl with
      | [c0, c1, c2, c3], _ =>
        obtain ⟨s1, A1, n1, c1', s2, A2, n2, c2', N, D, rfl, rfl, rfl, rfl, hN, hD, lN, lD⟩ := rat_of ht
        have e0 := hat 0 (by decide)
        have e1 := hat 1 (by decide)
        have e2 := hat 2 (by decide)
        have e3 := hat 3 (by decide)
        rw [addr_zero] at e0
        rw [add_at (a.add (i * 4)) 0] at e1
        rw [add_at (a.add (i * 4)) 1] at e2
        rw [add_at (a.add (i * 4)) 2] at e3
        have hb := World.block_lt_of_cell? W _ e0
        rw [block_of_add] at hb
        exact ⟨rv N D, decide (12 < n1 ∨ 12 < n2), a, s1, A1, n1, c1', s2, A2, n2, c2', N, D, rfl, hb, e0, e1, e2, e3, hN, hD, lN, lD, hid rfl, hid rfl⟩
    obtain ⟨Q, wd, hQ⟩ := choice2 key
    exact ⟨some a, len, cap, Q, wd, rfl, hQ⟩
set_option maxRecDepth 100000 in
/-- A curve that came in. -/
theorem open_Curve (hv : Value.okWide Tryz.prog W .any base 48 v) (h : DataW.Trod enc Tryz.prog W 0 (fun _ => true) true 48 v d p) :
    ∃ A n c B m c' X Q wd, v = .agg #[.slice A n c, .slice B m c'] ∧ Si W W.heap.size A n X ∧ Sq0 W W.heap.size B m Q wd := by
  obtain ⟨c0, c1, y0, y1, m, rfl, rfl, rfl, h0, h1⟩ := open_agg2 Tryz.underlying48 (by kernel_rfl) cells_Curve hv h
  obtain ⟨A, n, c, X, e0, hX⟩ := ints_of h0
  obtain ⟨B, m, c', Q, wd, e1, hQ⟩ := rats_of h1
  simp only [List.cons.injEq, and_true] at e0 e1
  subst e0; subst e1
  exact ⟨A, n, c, B, m, c', X, Q, wd, rfl, hX, hQ⟩
end

end Go.Proofs.YtffipjofefemiaaGreatDoor
