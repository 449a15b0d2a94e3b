/- The contracts of the calls of the statements' example, as it makes them. -/
import Derived.Test.YtlfeendebbidhaaDoorQ
import Derived.Test.YtlfeendebbidhaaDoorValue
import Derived.Test.YtlfeendebbidhaaDoorWs
namespace Go.Proofs.YtlfeendebbidhaaDoor
open Go.RowKit Kb

theorem z_m7 (w : World) : Calls Tryd.prog 34 #[.int .i64 (-7)] w fun e w' => ∃ A n c, e = .returned (.agg #[.bool true, .slice A n c]) ∧ Nm w' (.slice A n c) 7 ∧ Below w.heap.size w w' := by
  refine (nz_openb (Z_any (-7) w (by decide) (by decide))).mono ?_
  rintro e w1 ⟨s1, A1, n1, c1, rfl, hs1, hn1, hb1⟩
  obtain rfl : s1 = true := hs1.out.trans (by decide)
  exact ⟨A1, n1, c1, rfl, hn1, hb1⟩
theorem z_m4 (w : World) : Calls Tryd.prog 34 #[.int .i64 (-4)] w fun e w' => ∃ A n c, e = .returned (.agg #[.bool true, .slice A n c]) ∧ Nm w' (.slice A n c) 4 ∧ Below w.heap.size w w' := by
  refine (nz_openb (Z_any (-4) w (by decide) (by decide))).mono ?_
  rintro e w1 ⟨s1, A1, n1, c1, rfl, hs1, hn1, hb1⟩
  obtain rfl : s1 = true := hs1.out.trans (by decide)
  exact ⟨A1, n1, c1, rfl, hn1, hb1⟩
theorem z_1 (w : World) : Calls Tryd.prog 34 #[.int .i64 1] w fun e w' => ∃ A n c, e = .returned (.agg #[.bool false, .slice A n c]) ∧ Nm w' (.slice A n c) 1 ∧ Below w.heap.size w w' := z_p 1 w (by decide)
theorem dm_72 (A B : Option Addr) (n c m d : Nat) (w : World) (h : Nm w (.slice A n c) 7) (k : Nm w (.slice B m d) 2) :
    Calls Tryd.prog 11 #[.agg #[.bool true, .slice A n c], .agg #[.bool false, .slice B m d]] w fun e w' => ∃ A1 n1 c1 A2 n2 c2, e = .returned (.tuple #[.agg #[.bool true, .slice A1 n1 c1], .agg #[.bool false, .slice A2 n2 c2], .int .i64 0]) ∧ Nm w' (.slice A1 n1 c1) 4 ∧ Nm w' (.slice A2 n2 c2) 1 ∧ Below w.heap.size w w' := by
  refine (DivMod_any true false A B n c m d 7 2 w h.raw k.raw (by decide) (by rw [dig_small (by decide) (by decide)]; decide) (by rw [dig_small (by decide) (by decide)]; decide)).mono ?_
  rintro e w1 ⟨v, u, rfl, ⟨A1, n1, c1, rfl, h1⟩, ⟨A2, n2, c2, rfl, h2⟩, hb⟩
  exact ⟨A1, n1, c1, A2, n2, c2, rfl, h1, h2, hb⟩
theorem ratio_64 (w : World) (hT : Tb w) :
    Calls Tryd.prog 35 #[.int .i64 6, .int .i64 (-4)] w fun e w' => ∃ A1 n1 c1 A2 n2 c2, e = .returned (.tuple #[.agg #[.bool true, .slice A1 n1 c1, .bool false, .slice A2 n2 c2], .int .i64 0]) ∧ Nm w' (.slice A1 n1 c1) 3 ∧ Nm w' (.slice A2 n2 c2) 2 ∧ Below w.heap.size w w' := by
  refine (Ratio_any 6 (-4) w (by decide) (by decide) (by decide) (by decide) (by decide) hT (by rw [show (6 : Int).natAbs = 6 from by decide, show (-4 : Int).natAbs = 4 from by decide]; exact CD_64)).mono ?_
  rintro e w1 ⟨v, rfl, ⟨s1, A1, n1, c1, s2, A2, n2, c2, rfl, hs1, hs2, h1, h2⟩, hb⟩
  obtain rfl : s1 = true := hs1.out.trans (by decide)
  obtain rfl : s2 = false := hs2.out.trans (by decide)
  exact ⟨A1, n1, c1, A2, n2, c2, rfl, h1, h2, hb⟩
theorem q_m32 (w : World) (hT : Tb w) : Calls Tryd.prog 38 #[.int .i64 (-3), .int .i64 2] w fun e w' => ∃ A1 n1 c1 A2 n2 c2, e = .returned (.agg #[.bool true, .slice A1 n1 c1, .bool false, .slice A2 n2 c2]) ∧ Nm w' (.slice A1 n1 c1) 3 ∧ Nm w' (.slice A2 n2 c2) 2 ∧ Below w.heap.size w w' := by
  refine (Q_ex w hT).mono ?_
  rintro e w1 ⟨v, rfl, ⟨s1, A1, n1, c1, s2, A2, n2, c2, rfl, hs1, hs2, h1, h2⟩, hb⟩
  obtain rfl : s1 = true := hs1.out.trans (by decide)
  obtain rfl : s2 = false := hs2.out.trans (by decide)
  exact ⟨A1, n1, c1, A2, n2, c2, rfl, h1, h2, hb⟩
theorem w_5 (w : World) : Calls Tryd.prog 32 #[.int .i64 5] w fun e w' => ∃ A m c B m' d, e = .returned (.agg #[.bool false, .slice A m c, .bool false, .slice B m' d]) ∧ Nm w' (.slice A m c) 5 ∧ Nm w' (.slice B m' d) 1 ∧ Below w.heap.size w w' := by
  refine (W_new 5 w (by decide)).mono ?_
  rintro e w1 ⟨A, m, c, B, m', d, rfl, h1, h2, -, -, hb⟩
  exact ⟨A, m, c, B, m', d, rfl, h1, h2, hb⟩
theorem w_10 (w : World) : Calls Tryd.prog 32 #[.int .i64 10] w fun e w' => ∃ A m c B m' d, e = .returned (.agg #[.bool false, .slice A m c, .bool false, .slice B m' d]) ∧ Nm w' (.slice A m c) 10 ∧ Nm w' (.slice B m' d) 1 ∧ Below w.heap.size w w' := by
  refine (W_new 10 w (by decide)).mono ?_
  rintro e w1 ⟨A, m, c, B, m', d, rfl, h1, h2, -, -, hb⟩
  exact ⟨A, m, c, B, m', d, rfl, h1, h2, hb⟩
theorem sr_m32 (A B C D : Option Addr) (n c m d n' c' m' d' : Nat) (w : World) (h1 : Nm w (.slice A n c) 3) (h2 : Nm w (.slice B m d) 2) (h3 : Nm w (.slice C n' c') 3) (h4 : Nm w (.slice D m' d') 2) :
    Calls Tryd.prog 27 #[.agg #[.bool true, .slice A n c, .bool false, .slice B m d], .agg #[.bool true, .slice C n' c', .bool false, .slice D m' d']] w fun e w' => e = .returned (.bool true) ∧ Below w.heap.size w w' :=
  SameRat_true (x := -3) (y := 2) ⟨true, A, n, c, false, B, m, d, rfl, hid (by decide), hid rfl, by rw [show (-3 : Int).natAbs = 3 from by decide]; exact h1, h2⟩ ⟨true, C, n', c', false, D, m', d', rfl, hid (by decide), hid rfl, by rw [show (-3 : Int).natAbs = 3 from by decide]; exact h3, h4⟩
theorem sr_10 (A B C D : Option Addr) (n c m d n' c' m' d' : Nat) (w : World) (h1 : Nm w (.slice A n c) 10) (h2 : Nm w (.slice B m d) 1) (h3 : Nm w (.slice C n' c') 10) (h4 : Nm w (.slice D m' d') 1) :
    Calls Tryd.prog 27 #[.agg #[.bool false, .slice A n c, .bool false, .slice B m d], .agg #[.bool false, .slice C n' c', .bool false, .slice D m' d']] w fun e w' => e = .returned (.bool true) ∧ Below w.heap.size w w' :=
  SameRat_true (x := 10) (y := 1) ⟨false, A, n, c, false, B, m, d, rfl, hid rfl, hid rfl, h1, h2⟩ ⟨false, C, n', c', false, D, m', d', rfl, hid rfl, hid rfl, h3, h4⟩

end Go.Proofs.YtlfeendebbidhaaDoor
