/- ExactFractions where a fraction has an integer of more than 12 limbs. -/
import Derived.Test.YtffipjofefemiaaGreatDoorMJ
namespace Go.Proofs.YtffipjofefemiaaGreatDoor
open Go.RowKit Kb

set_option maxRecDepth 100000 in
set_option maxHeartbeats 8000000 in
theorem frac_long (p1 : Bool) (A1 : Option Addr) (n1 c1 : Nat) (q1 : Bool) (B1 : Option Addr) (m1 d1 : Nat) (p2 : Bool) (A2 : Option Addr) (n2 c2 : Nat) (q2 : Bool) (B2 : Option Addr) (m2 d2 : Nat) (z0 z1 : Int) (w : World) (hT : Tb w) (hl : (12 < n1 ∨ (n1 ≤ 12 ∧ 12 < m1)) ∨ ((n1 ≤ 12 ∧ m1 ≤ 12) ∧ (12 < n2 ∨ (n2 ≤ 12 ∧ 12 < m2)))) :
    Calls Tryz.prog 3 #[.agg #[.bool p1, .slice A1 n1 c1, .bool q1, .slice B1 m1 d1], .agg #[.bool p2, .slice A2 n2 c2, .bool q2, .slice B2 m2 d2], .agg #[.int .i64 z0, .int .i64 z1]] w fun e w' => e = .returned (.bool true) ∧ Below w.heap.size w w' := by
  have k2 := three_new w (.cells #[.bool p1, .slice A1 n1 c1, .bool q1, .slice B1 m1 d1] 26) (.cells #[.bool p2, .slice A2 n2 c2, .bool q2, .slice B2 m2 d2] 26) (.cells #[.int .i64 z0, .int .i64 z1] 27)
  have hB := (((Below.refl w.heap.size w).alloc (Nat.le_refl _) (.cells #[.bool p1, .slice A1 n1 c1, .bool q1, .slice B1 m1 d1] 26)).alloc (by simp) (.cells #[.bool p2, .slice A2 n2 c2, .bool q2, .slice B2 m2 d2] 26)).alloc (by simp; omega) (.cells #[.int .i64 z0, .int .i64 z1] 27)
  go_enter Tryz.func3, Tryz.ntmps3
  go_wp2_with fail
  generalize ((w.alloc (.cells #[.bool p1, .slice A1 n1 c1, .bool q1, .slice B1 m1 d1] 26)).alloc (.cells #[.bool p2, .slice A2 n2 c2, .bool q2, .slice B2 m2 d2] 26)).alloc (.cells #[.int .i64 z0, .int .i64 z1] 27) = W0 at *
  have T0 := hT.below hB
  have HB := hid hB
  obtain ⟨a0, a1, a2⟩ := k2
  clear hT hB a2 a0
  rcases hl with h | ⟨⟨g1, g2⟩, h⟩
  · refine (wide_yes h).mono ?_
    rintro e w1 ⟨rfl, hb1⟩
    have T1 := T0.below hb1
    have hB1 := hid (bthen HB.out hb1 (Nat.le_refl _))
    clear hb1
    go_wp2_with fail
    refine (awake_true _ T1).mono ?_
    rintro e w9 ⟨rfl, hb9⟩
    have hE := bthen hB1.out hb9 (Nat.le_refl _)
    clear hb9
    go_wp2
    go_ret
    exact ⟨rfl, hE⟩
  · refine (wide_no g1 g2).mono ?_
    rintro e w1 ⟨rfl, hb1⟩
    have T1 := T0.below hb1
    have hB1 := hid (bthen HB.out hb1 (Nat.le_refl _))
    replace a1 := a1.step hb1
    clear hb1
    obtain ⟨x0, x1, x2, x3, -, -, -, -⟩ := a1.c4
    go_wp2_with fail
    refine (wide_yes h).mono ?_
    rintro e w2 ⟨rfl, hb2⟩
    have T2 := T1.below hb2
    have hB2 := hid (bthen hB1.out hb2 (Nat.le_refl _))
    clear hb2 x0 x1 x2 x3 a1
    go_wp2_with fail
    refine (awake_true _ T2).mono ?_
    rintro e w9 ⟨rfl, hb9⟩
    have hE := bthen hB2.out hb9 (Nat.le_refl _)
    clear hb9
    go_wp2
    go_ret
    exact ⟨rfl, hE⟩

end Go.Proofs.YtffipjofefemiaaGreatDoor
