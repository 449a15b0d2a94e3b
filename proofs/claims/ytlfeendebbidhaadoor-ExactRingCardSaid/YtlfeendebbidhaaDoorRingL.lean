/- ExactRing where an integer has more than 60 limbs. -/
import Derived.Test.YtlfeendebbidhaaDoorRing0
namespace Go.Proofs.YtlfeendebbidhaaDoor
open Go.RowKit Kb

set_option maxRecDepth 100000 in
set_option maxHeartbeats 8000000 in
theorem ring_long (p1 p2 p3 : Bool) (A1 A2 A3 : Option Addr) (n1 c1 n2 c2 n3 c3 : Nat) (w : World) (hT : Tb w) (hl : 60 < n1 ∨ 60 < n2 ∨ 60 < n3) :
    Calls Tryd.prog 4 #[.agg #[.bool p1, .slice A1 n1 c1], .agg #[.bool p2, .slice A2 n2 c2], .agg #[.bool p3, .slice A3 n3 c3]] w fun e w' => e = .returned (.bool true) ∧ Below w.heap.size w w' := by
  have k3 := three_new w (.cells #[.bool p1, .slice A1 n1 c1] 24) (.cells #[.bool p2, .slice A2 n2 c2] 24) (.cells #[.bool p3, .slice A3 n3 c3] 24)
  have hB := (((Below.refl w.heap.size w).alloc (Nat.le_refl _) (.cells #[.bool p1, .slice A1 n1 c1] 24)).alloc (by simp) (.cells #[.bool p2, .slice A2 n2 c2] 24)).alloc (by simp; omega) (.cells #[.bool p3, .slice A3 n3 c3] 24)
  have hl' : 60 < n1 ∨ (n1 ≤ 60 ∧ 60 < n2) ∨ (n1 ≤ 60 ∧ n2 ≤ 60 ∧ 60 < n3) := by omega
  clear hl
  go_enter Tryd.func4, Tryd.ntmps4
  go_wp2_with fail
  generalize ((w.alloc (.cells #[.bool p1, .slice A1 n1 c1] 24)).alloc (.cells #[.bool p2, .slice A2 n2 c2] 24)).alloc (.cells #[.bool p3, .slice A3 n3 c3] 24) = W0 at *
  have T0 := hT.below hB
  have HB := hid hB
  clear hT hB
  obtain ⟨a0, a1, a2⟩ := k3
  rcases hl' with h | ⟨h, h'⟩ | ⟨h, h', h''⟩
  · refine (long_yes p1 A1 n1 c1 _ h).mono ?_
    rintro e w1 ⟨rfl, hb1⟩
    have T1 := T0.below hb1
    have hB1 := hid (bthen HB.out hb1 (Nat.le_refl _))
    clear hb1 T0 HB h
    go_wp2_with fail
    refine (awake_true _ T1).mono ?_
    rintro e w4 ⟨rfl, hb4⟩
    have hE := bthen hB1.out hb4 (Nat.le_refl _)
    clear hb4
    go_wp2
    go_ret
    exact ⟨rfl, hE⟩
  · refine (long_no p1 A1 n1 c1 _ h).mono ?_
    rintro e w1 ⟨rfl, hb1⟩
    have T1 := T0.below hb1
    have hB1 := hid (bthen HB.out hb1 (Nat.le_refl _))
    replace a1 := a1.step hb1
    obtain ⟨x0, x1, -, -⟩ := a1.c2
    clear hb1 T0 HB h
    go_wp2_with fail
    refine (long_yes p2 A2 n2 c2 _ h').mono ?_
    rintro e w2 ⟨rfl, hb2⟩
    have T2 := T1.below hb2
    have hB2 := hid (bthen hB1.out hb2 (Nat.le_refl _))
    clear hb2 T1 hB1 h' x0 x1
    go_wp2_with fail
    refine (awake_true _ T2).mono ?_
    rintro e w4 ⟨rfl, hb4⟩
    have hE := bthen hB2.out hb4 (Nat.le_refl _)
    clear hb4
    go_wp2
    go_ret
    exact ⟨rfl, hE⟩
  · refine (long_no p1 A1 n1 c1 _ h).mono ?_
    rintro e w1 ⟨rfl, hb1⟩
    have T1 := T0.below hb1
    have hB1 := hid (bthen HB.out hb1 (Nat.le_refl _))
    replace a1 := a1.step hb1
    replace a2 := a2.step hb1
    obtain ⟨x0, x1, -, -⟩ := a1.c2
    clear hb1 T0 HB h
    go_wp2_with fail
    refine (long_no p2 A2 n2 c2 _ h').mono ?_
    rintro e w2 ⟨rfl, hb2⟩
    have T2 := T1.below hb2
    have hB2 := hid (bthen hB1.out hb2 (Nat.le_refl _))
    replace a2 := a2.step hb2
    clear hb2 T1 hB1 h' x0 x1
    obtain ⟨x0, x1, -, -⟩ := a2.c2
    go_wp2_with fail
    refine (long_yes p3 A3 n3 c3 _ h'').mono ?_
    rintro e w3 ⟨rfl, hb3⟩
    have T3 := T2.below hb3
    have hB3 := hid (bthen hB2.out hb3 (Nat.le_refl _))
    clear hb3 T2 hB2 h'' x0 x1
    go_wp2_with fail
    refine (awake_true _ T3).mono ?_
    rintro e w4 ⟨rfl, hb4⟩
    have hE := bthen hB3.out hb4 (Nat.le_refl _)
    clear hb4
    go_wp2
    go_ret
    exact ⟨rfl, hE⟩

end Go.Proofs.YtlfeendebbidhaaDoor
