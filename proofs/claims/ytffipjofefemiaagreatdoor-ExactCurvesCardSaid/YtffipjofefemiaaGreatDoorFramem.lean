/- What every claim of this seat begins with: the table lies where the program's text lays it; an integer that comes in is opened. -/
import Derived.Test.YtffipjofefemiaaGreatDoorRows
import Derived.Test.YtffipjofefemiaaGreatDoorME
import Derived.ProofKit
import Derived.LaidMore
import Derived.OpenShut
import Derived.ChangeOld
import Derived.Carry
import Derived.Lib.SmallJoins
import Derived.Stop.Joined
namespace Go.Proofs.YtffipjofefemiaaGreatDoor
open Go.ChangeShapes Go.WideShapes Go.ChangeAt Go.RowKit Go.Joins Kb

theorem own : ownKnob Tryz.prog.godebug = none := by kernel_rfl
theorem laidOut : laidOutB Tryz.prog = true := by kernel_rfl
theorem gTab : Tryz.prog.globalNamed "math/bits.deBruijn64tab" = some 0 := by kernel_rfl
theorem tTab : (Tryz.prog.globals[0]?).map (·.type) = some 174 := by kernel_rfl
theorem cells_u8 : Tryz.prog.cellsOf 5 = 1 := by kernel_rfl
theorem cells_u16 : Tryz.prog.cellsOf 92 = 1 := by kernel_rfl
theorem cells_Int : Tryz.prog.cellsOf 24 = 2 := by kernel_rfl
def tabRow : List (String × DataW Unit) := [("math/bits.deBruijn64tab", Rows.laid_math_bits_deBruijn64tab)]
/-- The door's own heap meets the condition. -/
theorem door_met (os : Os) (args : Array Value) : laidMetH Tryz.prog tabRow ((World.doorLaid Tryz.prog 400 os).forCall (fun _ _ => 0) ⟨#[], args, []⟩).memory :=
  laidMetH_of_parts3 (fuel := 8) (laidMet_of_run' 8 (by kernel_rfl) (by kernel_rfl)) (by kernel_rfl) (by kernel_rfl)
theorem tab_datum : (Rows.laid_math_bits_deBruijn64tab : DataW Unit) = .agg (Lib.deBruijn64tab.map fun n => .lit (.int .u8 (n : Nat))) := by kernel_rfl
set_option maxRecDepth 100000 in
theorem of_laid {W : World} (h : laidMetH Tryz.prog tabRow W) : Tb W := by
  unfold tabRow at h
  rw [MakeChecks.laidMetH_plain _ _ _ (by kernel_rfl)] at h
  obtain ⟨ps, ⟨g0, t0, cs0, f0, p0, q0, hg0, ht0, hv0, hd0, _⟩, _, _⟩ := h
  obtain rfl := Option.some.inj (gTab.symm.trans hg0)
  obtain rfl := Option.some.inj (tTab.symm.trans ht0)
  obtain ⟨xs, m1, rfl, hx1, hlen, hn, hel⟩ := DataW.trod_array Tryz.underlying174 hd0
  simp only [Prod.mk.injEq] at hx1
  have hx : Lib.deBruijn64tab.map (fun n => (DataW.lit (.int .u8 (n : Nat)) : DataW Unit)) = xs.map (·.1) := by
    have := tab_datum.symm.trans hx1.1
    injection this
  have cell : ∀ j, j < 64 → W.cell? ⟨0, j, none⟩ = some (.int .u8 (Lib.deBruijn64tab.getD j 0 : Nat)) := fun j hj => by
    have h0 := hel j hj
    rw [cells_u8, Nat.mul_one] at h0
    have hjx : j < xs.length := by omega
    rw [List.getElem?_eq_getElem hjx] at h0
    obtain ⟨k, e1, e2, _⟩ := DataW.trod_int Tryz.underlying5 h0
    have hj2 : j < Lib.deBruijn64tab.length := by
      have := congrArg List.length hx
      simp only [List.length_map] at this
      omega
    have h3 : (xs.map (·.1))[j]? = some (xs[j]'hjx).1 := by simp [hjx]
    rw [← hx] at h3
    have h4 : (Lib.deBruijn64tab.map (fun n => (DataW.lit (.int .u8 (n : Nat)) : DataW Unit)))[j]? = some (DataW.lit (.int .u8 (Lib.deBruijn64tab.getD j 0 : Nat))) := by
      simp [hj2]
    rw [h4] at h3
    have h5 : k = (Lib.deBruijn64tab.getD j 0 : Nat) := by
      rw [e2] at h3
      injection h3 with h3
      injection h3 with h3
      injection h3 with _ h3
      exact h3.symm
    rw [World.var?_cell hg0 hv0 j, ← h5]
    have h6 : (cs0.toList.drop j)[0]? = some (.int .u8 k) := by
      have := congrArg (fun l => l[0]?) e1
      simpa [List.getElem?_take] using this
    simpa using h6
  refine ⟨fun j hj => cell j hj, ?_⟩
  exact World.block_lt_of_cell? W ⟨0, 0, none⟩ (cell 0 (by decide))

section
variable {H : Type} {enc : TypeId × Value → H} {W : World} {base : Nat} {v : Value} {d : DataW H} {p : List MemPlace}
/-- The limbs of a slice that came in. -/
theorem raw_of {fuel : Nat} {cs : List Value} {y : DataW H × List MemPlace} (h : DataW.trod enc Tryz.prog W 0 (fun _ => true) true fuel 22 cs = some y) : ∃ A n c a, cs = [.slice A n c] ∧ Raw W A n c a ∧ a < 65536 ^ n := by
  rcases open_ints Tryz.underlying22 Tryz.underlying92 cells_u16 h with ⟨rfl, _⟩ | ⟨x, l, c, zs, rfl, _, hl, hm, hz, _, hcell, hwz⟩
  · exact ⟨none, 0, 0, 0, rfl, ⟨[], rfl, Sl.nil _ _ _, fun x hx => by simp at hx, rfl, Nat.le_refl _, by unfold maxLen; omega⟩, by decide⟩
  · have hz' : zs.length = c := by simpa using hz
    have hb : ∀ z ∈ zs, 0 ≤ z ∧ z < 65536 := fun z hz => by
      have := bounds_u16 (hwz z hz)
      omega
    have hL : Lim ((zs.take l).map Int.toNat) := fun x hx => by
      obtain ⟨z, hz, rfl⟩ := List.mem_map.1 hx
      have := hb z (List.mem_of_mem_take hz)
      omega
    have hlen : ((zs.take l).map Int.toNat).length = l := by rw [List.length_map, List.length_take]; omega
    refine ⟨some x, l, c, val ((zs.take l).map Int.toNat), rfl, ⟨_, hlen, fun i hi => ?_, hL, rfl, hl, hm⟩, ?_⟩
    · rw [hlen] at hi
      have hi2 : i < zs.length := by omega
      have h1 := hcell i hi2
      refine ⟨x, rfl, ?_, ?_⟩
      · have := World.block_lt_of_cell? W _ h1
        rwa [block_of_add] at this
      · rw [h1]
        have h2 : zs.getD i 0 = zs[i]'hi2 := by simp [hi2]
        have h3 : nth ((zs.take l).map Int.toNat) i = (zs[i]'hi2).toNat := by
          unfold nth
          simp [hi, hi2]
        rw [h2, h3, Int.toNat_of_nonneg (hb _ (List.getElem_mem hi2)).1]
    · have := val_lt hL
      rwa [hlen] at this
set_option maxRecDepth 100000 in
/-- An integer that came in. -/
theorem open_Int (hv : Value.okWide Tryz.prog W .any base 24 v) (h : DataW.Trod enc Tryz.prog W 0 (fun _ => true) true 24 v d p) :
    ∃ s A n c z, v = .agg #[.bool s, .slice A n c] ∧ Zi W s A n c z ∧ Le n z := by
  obtain ⟨c0, c1, y0, y1, m, rfl, rfl, rfl, h0, h1⟩ := open_agg2 Tryz.underlying24 (by kernel_rfl) cells_Int hv h
  obtain ⟨s, e0, _⟩ := DataW.trod_bool Tryz.underlying4 h0
  obtain ⟨A, n, c, a, e1, hr, ha⟩ := raw_of h1
  simp only [List.cons.injEq, and_true] at e0 e1
  subst e0; subst e1
  exact ⟨s, A, n, c, toZ s a, rfl, ⟨a, hr, hid rfl⟩, by unfold Le; rwa [natAbs_toZ]⟩
end

end Go.Proofs.YtffipjofefemiaaGreatDoor
