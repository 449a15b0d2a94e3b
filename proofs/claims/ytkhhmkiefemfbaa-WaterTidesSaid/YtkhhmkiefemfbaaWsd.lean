/- Tide of the program and of the reference. For all lists of marks, and all minutes. -/
import Derived.Test.YtkhhmkiefemfbaaWsr
namespace Go.Proofs.Ytkhhmkiefemfbaa
open Go.RowKit Kb Wb

/-- What Tide tells. -/
def To (n : Nat) (F L : Nat → Int) (t r e : Int) : Prop := ∃ q, Cs n F L q ∧ ((q ≠ 0 ∧ r = 0 ∧ e = q) ∨ (q = 0 ∧ ((¬ (0 ≤ t ∧ t ≤ 1000000) ∧ r = 0 ∧ e = 2) ∨ ((0 ≤ t ∧ t ≤ 1000000) ∧ ((n = 0 ∧ r = 0 ∧ e = 29) ∨ (0 < n ∧ Td n F L t r ∧ e = 0))))))
theorem To.same {n : Nat} {F L : Nat → Int} {t r e r' e' : Int} (h : To n F L t r e) (k : To n F L t r' e') : r = r' ∧ e = e' := by
  obtain ⟨q, hq, h⟩ := h
  obtain ⟨p, hp, k⟩ := k
  have := hq.same hp
  subst this
  rcases h with ⟨h0, h1, h2⟩ | ⟨h0, ⟨h1, h2, h3⟩ | ⟨h1, ⟨h2, h3, h4⟩ | ⟨h2, h3, h4⟩⟩⟩ <;> rcases k with ⟨k0, k1, k2⟩ | ⟨k0, ⟨k1, k2, k3⟩ | ⟨k1, ⟨k2, k3, k4⟩ | ⟨k2, k3, k4⟩⟩⟩ <;> first | exact absurd k0 h0 | exact absurd h0 k0 | exact absurd k1 h1 | exact absurd h1 k1 | exact ⟨by omega, by omega⟩ | (exfalso; omega) | (subst h0; exact ⟨h3.same hq.sea h2 k3, by omega⟩)

set_option maxRecDepth 100000 in
set_option maxHeartbeats 8000000 in
theorem Tide_any {w : World} {B0 n c : Nat} {A : Option Addr} {F L : Nat → Int} (t : Int) (h : Pa w B0 A n F L) (hn : n ≤ maxLen) :
    Calls Try.prog 14 #[.slice A n c, .int .i64 t] w fun e w' => ∃ r x : Int, e = .returned (.tuple #[.int .i64 r, .int .i64 x]) ∧ Hid (To n F L t r x) ∧ Below w.heap.size w w' := by
  have hn' := hid hn
  have hnm : n ≤ 9223372036854775807 := by unfold maxLen at hn; omega
  clear hn
  go_enter Try.func14, Try.ntmps14
  go_wp2_with fail
  refine (CheckSea_any h hn'.out).mono ?_
  rintro e w2 ⟨q, rfl, hz, hb⟩
  have p2 := h.below hb
  have HB := hid hb
  have Hh := hid h
  clear hb h
  by_cases hq : q = 0
  · subst hq
    have HZ : Hid (Cs n F L 0) := hz
    have hS := hz.out.sea
    by_cases hl : inB t 0 1000000 = true
    · have hl' := inB_iff.1 hl
      by_cases h0 : n = 0
      · have e1 : ((n : Int) == 0) = true := by rw [beq_iff_eq]; omega
        have HE := hid (show To n F L t 0 29 from ⟨0, HZ.out, .inr ⟨rfl, .inr ⟨hl', .inl ⟨h0, rfl, rfl⟩⟩⟩⟩)
        have H0 := hid h0
        clear h0
        go_wp2_with (((with_reducible refine (isMinute_any _ _).mono ?_); rintro e w' ⟨rfl, rfl⟩))
        go_ret2
        exact ⟨_, _, rfl, HE, HB.out⟩
      · have e1 : ((n : Int) == 0) = false := by rw [beq_eq_false_iff_ne]; omega
        go_wp2_with (((with_reducible refine (isMinute_any _ _).mono ?_); rintro e w' ⟨rfl, rfl⟩))
        refine (tide_any p2 hS (by omega) hl'.1 hl'.2).mono ?_
        rintro e w3 ⟨r, rfl, hr, hb⟩
        have HE := hid (show To n F L t r 0 from ⟨0, HZ.out, .inr ⟨rfl, .inr ⟨hl', .inr ⟨by omega, hr.out, rfl⟩⟩⟩⟩)
        have HB3 := hid (bthen HB.out hb (Nat.le_refl _))
        clear hb hr
        go_wp2
        go_ret2
        exact ⟨_, _, rfl, HE, HB3.out⟩
    · have HE := hid (show To n F L t 0 2 from ⟨0, HZ.out, .inr ⟨rfl, .inl ⟨fun hx => hl (inB_t hx), rfl, rfl⟩⟩⟩)
      have hl0 := Bool.eq_false_iff.2 hl
      clear hl
      go_wp2_with (((with_reducible refine (isMinute_any _ _).mono ?_); rintro e w' ⟨rfl, rfl⟩))
      go_ret2
      exact ⟨_, _, rfl, HE, HB.out⟩
  · have HE := hid (show To n F L t 0 q from ⟨q, hz.out, .inl ⟨hq, rfl, rfl⟩⟩)
    have hq1 : (q != 0) = true := by rw [bne_iff_ne]; exact hq
    clear hq hz
    go_wp2
    go_ret2
    exact ⟨_, _, rfl, HE, HB.out⟩

set_option maxRecDepth 100000 in
set_option maxHeartbeats 8000000 in
theorem rTide_any {w : World} {B0 n c : Nat} {A : Option Addr} {F L : Nat → Int} (t : Int) (h : Pa w B0 A n F L) (hn : n ≤ maxLen) :
    Calls Try.prog 15 #[.slice A n c, .int .i64 t] w fun e w' => ∃ r x : Int, e = .returned (.tuple #[.int .i64 r, .int .i64 x]) ∧ Hid (To n F L t r x) ∧ Below w.heap.size w w' := by
  have hn' := hid hn
  have hnm : n ≤ 9223372036854775807 := by unfold maxLen at hn; omega
  clear hn
  go_enter Try.func15, Try.ntmps15
  go_wp2_with fail
  refine (rCheckSea_any h hn'.out).mono ?_
  rintro e w2 ⟨q, rfl, hz, hb⟩
  have p2 := h.below hb
  have HB := hid hb
  have Hh := hid h
  clear hb h
  by_cases hq : q = 0
  · subst hq
    have HZ : Hid (Cs n F L 0) := hz
    have hS := hz.out.sea
    by_cases hl : inB t 0 1000000 = true
    · have hl' := inB_iff.1 hl
      by_cases h0 : n = 0
      · have e1 : ((n : Int) == 0) = true := by rw [beq_iff_eq]; omega
        have HE := hid (show To n F L t 0 29 from ⟨0, HZ.out, .inr ⟨rfl, .inr ⟨hl', .inl ⟨h0, rfl, rfl⟩⟩⟩⟩)
        have H0 := hid h0
        clear h0
        go_wp2_with (((with_reducible refine (inside_any _ _ _ _).mono ?_); rintro e w' ⟨rfl, rfl⟩))
        go_ret2
        exact ⟨_, _, rfl, HE, HB.out⟩
      · have e1 : ((n : Int) == 0) = false := by rw [beq_eq_false_iff_ne]; omega
        go_wp2_with (((with_reducible refine (inside_any _ _ _ _).mono ?_); rintro e w' ⟨rfl, rfl⟩))
        refine (rAt_any p2 hS (by omega) hl'.1 hl'.2).mono ?_
        rintro e w3 ⟨r, rfl, hr, hb⟩
        have HE := hid (show To n F L t r 0 from ⟨0, HZ.out, .inr ⟨rfl, .inr ⟨hl', .inr ⟨by omega, hr.out, rfl⟩⟩⟩⟩)
        have HB3 := hid (bthen HB.out hb (Nat.le_refl _))
        clear hb hr
        go_wp2
        go_ret2
        exact ⟨_, _, rfl, HE, HB3.out⟩
    · have HE := hid (show To n F L t 0 2 from ⟨0, HZ.out, .inr ⟨rfl, .inl ⟨fun hx => hl (inB_t hx), rfl, rfl⟩⟩⟩)
      have hl0 := Bool.eq_false_iff.2 hl
      clear hl
      go_wp2_with (((with_reducible refine (inside_any _ _ _ _).mono ?_); rintro e w' ⟨rfl, rfl⟩))
      go_ret2
      exact ⟨_, _, rfl, HE, HB.out⟩
  · have HE := hid (show To n F L t 0 q from ⟨q, hz.out, .inl ⟨hq, rfl, rfl⟩⟩)
    have hq1 : (q != 0) = true := by rw [bne_iff_ne]; exact hq
    clear hq hz
    go_wp2
    go_ret2
    exact ⟨_, _, rfl, HE, HB.out⟩

end Go.Proofs.Ytkhhmkiefemfbaa
