/- ExactField where a fraction has an integer of more than 12 limbs. -/
import Derived.Test.YtffipjofefemiaaDoorMJ
namespace Go.Proofs.YtffipjofefemiaaDoor
open Go.RowKit Kb

set_option maxRecDepth 100000 in
set_option maxHeartbeats 8000000 in
theorem field_long (p1 : Bool) (A1 : Option Addr) (n1 c1 : Nat) (q1 : Bool) (B1 : Option Addr) (m1 d1 : Nat) (p2 : Bool) (A2 : Option Addr) (n2 c2 : Nat) (q2 : Bool) (B2 : Option Addr) (m2 d2 : Nat) (p3 : Bool) (A3 : Option Addr) (n3 c3 : Nat) (q3 : Bool) (B3 : Option Addr) (m3 d3 : Nat) (w : World) (hT : Tb w) (hl : (12 < n1 ∨ (n1 ≤ 12 ∧ 12 < m1)) ∨ ((n1 ≤ 12 ∧ m1 ≤ 12) ∧ (12 < n2 ∨ (n2 ≤ 12 ∧ 12 < m2))) ∨ ((n1 ≤ 12 ∧ m1 ≤ 12) ∧ (n2 ≤ 12 ∧ m2 ≤ 12) ∧ (12 < n3 ∨ (n3 ≤ 12 ∧ 12 < m3)))) :
    Calls Tryd.prog 3 #[.agg #[.bool p1, .slice A1 n1 c1, .bool q1, .slice B1 m1 d1], .agg #[.bool p2, .slice A2 n2 c2, .bool q2, .slice B2 m2 d2], .agg #[.bool p3, .slice A3 n3 c3, .bool q3, .slice B3 m3 d3]] w fun e w' => e = .returned (.bool true) ∧ Below w.heap.size w w' := by
  have k2 := three_new w (.cells #[.bool p1, .slice A1 n1 c1, .bool q1, .slice B1 m1 d1] 26) (.cells #[.bool p2, .slice A2 n2 c2, .bool q2, .slice B2 m2 d2] 26) (.cells #[.bool p3, .slice A3 n3 c3, .bool q3, .slice B3 m3 d3] 26)
  have hB := (((Below.refl w.heap.size w).alloc (Nat.le_refl _) (.cells #[.bool p1, .slice A1 n1 c1, .bool q1, .slice B1 m1 d1] 26)).alloc (by simp) (.cells #[.bool p2, .slice A2 n2 c2, .bool q2, .slice B2 m2 d2] 26)).alloc (by simp; omega) (.cells #[.bool p3, .slice A3 n3 c3, .bool q3, .slice B3 m3 d3] 26)
  go_enter Tryd.func3, Tryd.ntmps3
  go_wp2_with fail
  generalize ((w.alloc (.cells #[.bool p1, .slice A1 n1 c1, .bool q1, .slice B1 m1 d1] 26)).alloc (.cells #[.bool p2, .slice A2 n2 c2, .bool q2, .slice B2 m2 d2] 26)).alloc (.cells #[.bool p3, .slice A3 n3 c3, .bool q3, .slice B3 m3 d3] 26) = W0 at *
  have T0 := hT.below hB
  have HB := hid hB
  obtain ⟨a0, a1, a2⟩ := k2
  clear hT hB
  rcases hl with h | ⟨⟨g1, g2⟩, h⟩ | ⟨⟨g1, g2⟩, ⟨g3, g4⟩, h⟩
  · refine (wide_yes h).mono ?_
    rintro e w1 ⟨rfl, hb1⟩
    have T1 := T0.below hb1
    have hB1 := hid (bthen HB.out hb1 (Nat.le_refl _))
    replace a1 := a1.step hb1
    replace a2 := a2.step hb1
    clear hb1
    go_wp2_with fail
    refine (awake_true _ T1).mono ?_
    rintro e w9 ⟨rfl, hb9⟩
    have hE := bthen hB1.out hb9 (Nat.le_refl _)
    clear hb9
    go_wp2
    go_ret
    exact ⟨rfl, hE⟩
  · refine (wide_no g1 g2).mono ?_
    rintro e w1 ⟨rfl, hb1⟩
    have T1 := T0.below hb1
    have hB1 := hid (bthen HB.out hb1 (Nat.le_refl _))
    replace a1 := a1.step hb1
    replace a2 := a2.step hb1
    clear hb1
    obtain ⟨x0, x1, x2, x3, -, -, -, -⟩ := a1.c4
    go_wp2_with fail
    refine (wide_yes h).mono ?_
    rintro e w2 ⟨rfl, hb2⟩
    have T2 := T1.below hb2
    have hB2 := hid (bthen hB1.out hb2 (Nat.le_refl _))
    replace a1 := a1.step hb2
    replace a2 := a2.step hb2
    clear hb2
    clear x0 x1 x2 x3
    go_wp2_with fail
    refine (awake_true _ T2).mono ?_
    rintro e w9 ⟨rfl, hb9⟩
    have hE := bthen hB2.out hb9 (Nat.le_refl _)
    clear hb9
    go_wp2
    go_ret
    exact ⟨rfl, hE⟩
  · refine (wide_no g1 g2).mono ?_
    rintro e w1 ⟨rfl, hb1⟩
    have T1 := T0.below hb1
    have hB1 := hid (bthen HB.out hb1 (Nat.le_refl _))
    replace a1 := a1.step hb1
    replace a2 := a2.step hb1
    clear hb1
    obtain ⟨x0, x1, x2, x3, -, -, -, -⟩ := a1.c4
    go_wp2_with fail
    refine (wide_no g3 g4).mono ?_
    rintro e w2 ⟨rfl, hb2⟩
    have T2 := T1.below hb2
    have hB2 := hid (bthen hB1.out hb2 (Nat.le_refl _))
    replace a1 := a1.step hb2
    replace a2 := a2.step hb2
    clear hb2
    clear x0 x1 x2 x3
    obtain ⟨x0, x1, x2, x3, -, -, -, -⟩ := a2.c4
    go_wp2_with fail
    refine (wide_yes h).mono ?_
    rintro e w3 ⟨rfl, hb3⟩
    have T3 := T2.below hb3
    have hB3 := hid (bthen hB2.out hb3 (Nat.le_refl _))
    replace a1 := a1.step hb3
    replace a2 := a2.step hb3
    clear hb3
    clear x0 x1 x2 x3
    go_wp2_with fail
    refine (awake_true _ T3).mono ?_
    rintro e w9 ⟨rfl, hb9⟩
    have hE := bthen hB3.out hb9 (Nat.le_refl _)
    clear hb9
    go_wp2
    go_ret
    exact ⟨rfl, hE⟩

end Go.Proofs.YtffipjofefemiaaDoor
