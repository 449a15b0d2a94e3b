/- ExactTexts where its arguments are too great: it asks awake alone. -/
import Derived.Test.YtgdclneolgmggaaGreatDoorRpq
import Derived.Test.YtgdclneolgmggaaGreatDoorFrc0
namespace Go.Proofs.YtgdclneolgmggaaGreatDoor
open Go.RowKit Kb Go.Lib

set_option maxRecDepth 100000 in
set_option maxHeartbeats 4000000 in
theorem texts_great {w : World} {s1 : Bool} {A1 : Option Addr} {n1 c1 : Nat} {s2 : Bool} {A2 : Option Addr} {n2 c2 : Nat} (s : ByteArray) (hT : Tb w) (h : (12 < n1 ∨ (n1 ≤ 12 ∧ 12 < n2)) ∨ ((n1 ≤ 12 ∧ n2 ≤ 12) ∧ 900 < s.size)) :
    Calls Tryz.prog 3 #[.agg #[.bool s1, .slice A1 n1 c1, .bool s2, .slice A2 n2 c2], .string s] w fun e w' => e = .returned (.bool true) ∧ Below w.heap.size w w' := by
  have hB := al1' w (.cells #[.bool s1, .slice A1 n1 c1, .bool s2, .slice A2 n2 c2] 26)
  have T0 := hT.below hB
  have HB := hid hB
  clear hB hT
  go_enter Tryz.func3, Tryz.ntmps3
  go_wp2_with (go_at_call 5; fail)
  generalize w.alloc (.cells #[.bool s1, .slice A1 n1 c1, .bool s2, .slice A2 n2 c2] 26) = W0 at *
  rcases h with h | ⟨⟨h1, h2⟩, h3⟩
  · refine (wide_yes h).mono ?_
    rintro e w1 ⟨rfl, hb1⟩
    have T1 := T0.below hb1
    go_wp2_with (go_at_call 6; refine (awake_true _ T1).mono ?_; rintro e w2 ⟨rfl, hb2⟩)
    go_ret
    exact ⟨rfl, bthen (bthen HB.out hb1 (Nat.le_refl _)) hb2 (Nat.le_refl _)⟩
  · refine (wide_no h1 h2).mono ?_
    rintro e w1 ⟨rfl, hb1⟩
    have T1 := T0.below hb1
    go_wp2_with (go_at_call 6; refine (awake_true _ T1).mono ?_; rintro e w2 ⟨rfl, hb2⟩)
    go_ret
    exact ⟨rfl, bthen (bthen HB.out hb1 (Nat.le_refl _)) hb2 (Nat.le_refl _)⟩

end Go.Proofs.YtgdclneolgmggaaGreatDoor
