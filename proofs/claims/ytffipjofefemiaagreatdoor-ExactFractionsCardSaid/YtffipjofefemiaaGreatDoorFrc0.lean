/- The contracts of rat, of Ratio at 0, of QuoRat and Ratio with their errors. -/
import Derived.Test.YtffipjofefemiaaGreatDoorTw4
namespace Go.Proofs.YtffipjofefemiaaGreatDoor
open Go.RowKit Kb

theorem rz_zero (w : World) : Rz w (.agg #[.bool false, .slice none 0 0, .bool false, .slice none 0 0]) 0 0 := ⟨false, none, 0, 0, false, none, 0, 0, rfl, hid rfl, hid rfl, nm_nil w, nm_nil w⟩
set_option maxRecDepth 100000 in
set_option maxHeartbeats 20000000 in
theorem rat_bad (w : World) :
    Calls Tryz.prog 12 #[.agg #[.bool false, .slice none 0 0, .bool false, .slice none 0 0], .int .i64 9, .agg #[.bool false, .slice none 0 0, .bool false, .slice none 0 0], .int .i64 9] w fun e w' => e = .returned (.bool true) ∧ Below w.heap.size w w' := by
  have hB := below_two w (.cells #[.bool false, .slice none 0 0, .bool false, .slice none 0 0] 26) (.cells #[.bool false, .slice none 0 0, .bool false, .slice none 0 0] 26)
  go_enter Tryz.func12, Tryz.ntmps12
  go_wp2_with fail
  refine (SameRat_true (rz_zero _) (rz_zero _)).mono ?_
  rintro e w1 ⟨rfl, hb1⟩
  have hE := bthen hB hb1 (Nat.le_refl _)
  clear hB hb1
  go_wp2
  go_ret
  exact ⟨rfl, hE⟩
set_option maxRecDepth 100000 in
set_option maxHeartbeats 20000000 in
theorem rat_ok {w : World} {s1 : Bool} {A1 : Option Addr} {n1 c1 : Nat} {s2 : Bool} {A2 : Option Addr} {n2 c2 : Nat} {t1 : Bool} {B1 : Option Addr} {m1 d1 : Nat} {t2 : Bool} {B2 : Option Addr} {m2 d2 : Nat} {x y : Rat} (h : Qf w s1 A1 n1 c1 s2 A2 n2 c2 x) (g0 : Qf w t1 B1 m1 d1 t2 B2 m2 d2 y) (exy : x = y) :
    Calls Tryz.prog 12 #[.agg #[.bool s1, .slice A1 n1 c1, .bool s2, .slice A2 n2 c2], .int .i64 0, .agg #[.bool t1, .slice B1 m1 d1, .bool t2, .slice B2 m2 d2], .int .i64 0] w fun e w' => e = .returned (.bool true) ∧ Below w.heap.size w w' := by
  have hB := below_two w (.cells #[.bool s1, .slice A1 n1 c1, .bool s2, .slice A2 n2 c2] 26) (.cells #[.bool t1, .slice B1 m1 d1, .bool t2, .slice B2 m2 d2] 26)
  have h' := h.below hB
  have g' := g0.below hB
  have E := hid exy
  clear h g0 exy
  go_enter Tryz.func12, Tryz.ntmps12
  go_wp2_with fail
  refine (SameQ h' g' E.out).mono ?_
  rintro e w1 ⟨rfl, hb1⟩
  have hE := bthen hB hb1 (Nat.le_refl _)
  clear hB hb1 h' g'
  go_wp2
  go_ret
  exact ⟨rfl, hE⟩
/-- What QuoRat and Ratio answer: a fraction, or no fraction with the error. -/
def Qe (w : World) (s1 : Bool) (A1 : Option Addr) (n1 c1 : Nat) (s2 : Bool) (A2 : Option Addr) (n2 c2 : Nat) (E : Int) (bad : Prop) (r : Rat) : Prop := (¬ bad ∧ E = 0 ∧ Qf w s1 A1 n1 c1 s2 A2 n2 c2 r) ∨ (bad ∧ E = 9 ∧ s1 = false ∧ A1 = none ∧ n1 = 0 ∧ c1 = 0 ∧ s2 = false ∧ A2 = none ∧ n2 = 0 ∧ c2 = 0)
theorem Qe.below {w w' : World} {s1 : Bool} {A1 : Option Addr} {n1 c1 : Nat} {s2 : Bool} {A2 : Option Addr} {n2 c2 : Nat} {E : Int} {bad : Prop} {r : Rat} (h : Qe w s1 A1 n1 c1 s2 A2 n2 c2 E bad r) (hb : Below w.heap.size w w') : Qe w' s1 A1 n1 c1 s2 A2 n2 c2 E bad r := by
  rcases h with ⟨a, b, c⟩ | h
  · exact .inl ⟨a, b, c.below hb⟩
  · exact .inr h
theorem QuoE {w : World} {s1 : Bool} {A1 : Option Addr} {n1 c1 : Nat} {s2 : Bool} {A2 : Option Addr} {n2 c2 : Nat} {t1 : Bool} {B1 : Option Addr} {m1 d1 : Nat} {t2 : Bool} {B2 : Option Addr} {m2 d2 : Nat} {k l : Nat} {x y : Rat} (h : Qi w s1 A1 n1 c1 s2 A2 n2 c2 k x) (g0 : Qi w t1 B1 m1 d1 t2 B2 m2 d2 l y) (hk0 : 0 < k) (hl0 : 0 < l) (hk : k ≤ 400) (hl : l ≤ 400) (hT : Tb w) :
    Calls Tryz.prog 9 #[.agg #[.bool s1, .slice A1 n1 c1, .bool s2, .slice A2 n2 c2], .agg #[.bool t1, .slice B1 m1 d1, .bool t2, .slice B2 m2 d2]] w fun e w' => ∃ s1 A1 n1 c1 s2 A2 n2 c2 E, e = .returned (.tuple #[.agg #[.bool s1, .slice A1 n1 c1, .bool s2, .slice A2 n2 c2], .int .i64 E]) ∧ Qe w' s1 A1 n1 c1 s2 A2 n2 c2 E (y = 0) (x / y) ∧ Below w.heap.size w w' := by
  by_cases hy : y = 0
  · refine (QuoRat_zero h g0 hk0 hl0 hk hl hT hy).mono ?_
    rintro e w' ⟨rfl, hb⟩
    exact ⟨_, _, _, _, _, _, _, _, _, rfl, .inr ⟨hy, rfl, rfl, rfl, rfl, rfl, rfl, rfl, rfl, rfl⟩, hb⟩
  · refine (QuoRat_q h g0 hk0 hl0 hk hl hT hy).mono ?_
    rintro e w' ⟨a, b, c, d, a', b', c', d', rfl, hq, hb⟩
    exact ⟨_, _, _, _, _, _, _, _, _, rfl, .inl ⟨hy, rfl, hq⟩, hb⟩
set_option maxRecDepth 100000 in
set_option maxHeartbeats 20000000 in
theorem Ratio_zero (x : Int) (w : World) :
    Calls Tryz.prog 10 #[.int .i64 x, .int .i64 0] w fun e w' => e = .returned (.tuple #[.agg #[.bool false, .slice none 0 0, .bool false, .slice none 0 0], .int .i64 9]) ∧ Below w.heap.size w w' := by
  have hB := alo (W := w) (o := (.cells #[.bool false, .slice none 0 0, .bool false, .slice none 0 0] 26))
  have b0 := Bk.of_alloc w (.cells #[.bool false, .slice none 0 0, .bool false, .slice none 0 0] 26) rfl
  obtain ⟨g, hg⟩ : ∃ g, w.heap.size = g := ⟨_, rfl⟩
  rw [hg] at b0
  have h11 := hid hB
  have hl := b0.lt
  obtain ⟨i0, i1, i2, i3, i4, i5, i6, i7⟩ := b0.c4
  go_enter Tryz.func10, Tryz.ntmps10
  clear b0 hB
  go_wp2
  exact bodyPost_ret (v := .tuple #[.agg #[.bool false, .slice none 0 0, .bool false, .slice none 0 0], .int .i64 9]) (by simp [results, Tryz.results10, go_sem, i0, i1, i2, i3]) rfl ⟨rfl, h11.out⟩
theorem RatioE (x y : Int) (w : World) (h1 : -9223372036854775808 ≤ x) (h2 : x ≤ 9223372036854775807) (k1 : -9223372036854775808 ≤ y) (k2 : y ≤ 9223372036854775807) (hT : Tb w) :
    Calls Tryz.prog 10 #[.int .i64 x, .int .i64 y] w fun e w' => ∃ s1 A1 n1 c1 s2 A2 n2 c2 E, e = .returned (.tuple #[.agg #[.bool s1, .slice A1 n1 c1, .bool s2, .slice A2 n2 c2], .int .i64 E]) ∧ Qe w' s1 A1 n1 c1 s2 A2 n2 c2 E (y = 0) (rv x y) ∧ Below w.heap.size w w' := by
  by_cases hy : y = 0
  · subst hy
    refine (Ratio_zero x w).mono ?_
    rintro e w' ⟨rfl, hb⟩
    exact ⟨_, _, _, _, _, _, _, _, _, rfl, .inr ⟨rfl, rfl, rfl, rfl, rfl, rfl, rfl, rfl, rfl, rfl⟩, hb⟩
  · have l1 : (dig x.natAbs).length ≤ 4 := dig_length_le (by rw [show (65536 : Nat) ^ 4 = 18446744073709551616 from rfl]; omega)
    have l2 : (dig y.natAbs).length ≤ 4 := dig_length_le (by rw [show (65536 : Nat) ^ 4 = 18446744073709551616 from rfl]; omega)
    have e1 := rv_num (decide (x < 0)) (decide (y < 0)) (a := x.natAbs) (b := y.natAbs) (by omega)
    have e2 := rv_den (decide (x < 0)) (decide (y < 0)) (a := x.natAbs) (b := y.natAbs) (by omega)
    rw [toZ_natAbs, toZ_natAbs] at e1 e2
    refine (Ratio_any x y w h1 h2 k1 k2 hy hT (CD_any _ _ (by omega) (by omega))).mono ?_
    rintro e w' ⟨v, rfl, hr, hb⟩
    rw [e1, e2] at hr
    obtain ⟨a, b, c, d, a', b', c', d', rfl, q1, q2, q3, q4⟩ := hr
    exact ⟨_, _, _, _, _, _, _, _, _, rfl, .inl ⟨hy, rfl, ⟨q1, q3⟩, ⟨q2, q4⟩⟩, hb⟩

end Go.Proofs.YtffipjofefemiaaGreatDoor
