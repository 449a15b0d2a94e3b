/- rat where an error is expected. -/
import Derived.Test.YtgdclneolgmggaaGreatDoorTxw
namespace Go.Proofs.YtgdclneolgmggaaGreatDoor
open Go.RowKit Kb Go.Lib

theorem rz_z0 {w : World} {s1 : Bool} {A1 : Option Addr} {n1 c1 : Nat} {s2 : Bool} {A2 : Option Addr} {n2 c2 : Nat} (h1 : Zn w s1 A1 n1 c1 0) (h2 : Zn w s2 A2 n2 c2 0) : Rz w (.agg #[.bool s1, .slice A1 n1 c1, .bool s2, .slice A2 n2 c2]) 0 0 :=
  ⟨s1, A1, n1, c1, s2, A2, n2, c2, rfl, h1.1, h2.1, h1.2, h2.2⟩

set_option maxRecDepth 100000 in
set_option maxHeartbeats 20000000 in
theorem rat_err {w : World} {s1 : Bool} {A1 : Option Addr} {n1 c1 : Nat} {s2 : Bool} {A2 : Option Addr} {n2 c2 : Nat} {t1 : Bool} {B1 : Option Addr} {m1 d1 : Nat} {t2 : Bool} {B2 : Option Addr} {m2 d2 : Nat} (r : Int) (hr : r = 7 ∨ r = 8) (h1 : Zn w s1 A1 n1 c1 0) (h2 : Zn w s2 A2 n2 c2 0) :
    Calls Tryz.prog 16 #[.agg #[.bool s1, .slice A1 n1 c1, .bool s2, .slice A2 n2 c2], .int .i64 r, .agg #[.bool t1, .slice B1 m1 d1, .bool t2, .slice B2 m2 d2], .int .i64 r] w fun e w' => e = .returned (.bool true) ∧ Below w.heap.size w w' := by
  have hB := below_two w (.cells #[.bool s1, .slice A1 n1 c1, .bool s2, .slice A2 n2 c2] 26) (.cells #[.bool t1, .slice B1 m1 d1, .bool t2, .slice B2 m2 d2] 26)
  have g1 := h1.below hB
  have g2 := h2.below hB
  clear h1 h2
  rcases hr with rfl | rfl
  all_goals
    go_enter Tryz.func16, Tryz.ntmps16
    go_wp2_with fail
    refine (SameRat_true (rz_z0 g1 g2) (rz_zero _)).mono ?_
    rintro e w1 ⟨rfl, hb1⟩
    have hE := bthen hB hb1 (Nat.le_refl _)
    clear hB hb1 g1 g2
    go_wp2
    go_ret
    exact ⟨rfl, hE⟩

/-- Two outcomes of ParseRat at the same text. -/
theorem rat_two {w : World} {l : List UInt8} {s1 : Bool} {A1 : Option Addr} {n1 c1 : Nat} {s2 : Bool} {A2 : Option Addr} {n2 c2 : Nat} {t1 : Bool} {B1 : Option Addr} {m1 d1 : Nat} {t2 : Bool} {B2 : Option Addr} {m2 d2 : Nat} {r q : Int}
    (h : (r = 0 ∧ l.length ≤ 800 ∧ fq (xq l) = l ∧ Qf w s1 A1 n1 c1 s2 A2 n2 c2 (xq l)) ∨ (Zn w s1 A1 n1 c1 0 ∧ Zn w s2 A2 n2 c2 0 ∧ ((800 < l.length ∧ r = 8) ∨ (l.length ≤ 800 ∧ fq (xq l) ≠ l ∧ r = 7))))
    (k : (q = 0 ∧ l.length ≤ 800 ∧ fq (xq l) = l ∧ Qf w t1 B1 m1 d1 t2 B2 m2 d2 (xq l)) ∨ (Zn w t1 B1 m1 d1 0 ∧ Zn w t2 B2 m2 d2 0 ∧ ((800 < l.length ∧ q = 8) ∨ (l.length ≤ 800 ∧ fq (xq l) ≠ l ∧ q = 7)))) :
    Calls Tryz.prog 16 #[.agg #[.bool s1, .slice A1 n1 c1, .bool s2, .slice A2 n2 c2], .int .i64 r, .agg #[.bool t1, .slice B1 m1 d1, .bool t2, .slice B2 m2 d2], .int .i64 q] w fun e w' => e = .returned (.bool true) ∧ Below w.heap.size w w' := by
  rcases h with ⟨rfl, a1, a2, a3⟩ | ⟨a1, a2, ⟨a3, rfl⟩ | ⟨a3, a4, rfl⟩⟩ <;> rcases k with ⟨rfl, b1, b2, b3⟩ | ⟨b1, b2, ⟨b3, rfl⟩ | ⟨b3, b4, rfl⟩⟩
  · exact rat_ok a3 b3 rfl
  · omega
  · exact absurd a2 b4
  · omega
  · exact rat_err 8 (.inr rfl) a1 a2
  · omega
  · exact absurd b2 a4
  · omega
  · exact rat_err 7 (.inl rfl) a1 a2

end Go.Proofs.YtgdclneolgmggaaGreatDoor
