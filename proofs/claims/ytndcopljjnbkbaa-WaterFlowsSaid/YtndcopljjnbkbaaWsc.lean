/- The error of the marks of a sea: CheckSea of the program and of the reference. For all lists of marks. -/
import Derived.Test.YtndcopljjnbkbaaWb0
import Derived.Test.YtndcopljjnbkbaaWsm
import Derived.IntWalk
namespace Go.Proofs.Ytndcopljjnbkbaa
open Go.RowKit Kb Wb

/-- Mark i is within the limits. -/
def Rm (F L : Nat → Int) (i : Nat) : Prop := (0 ≤ F i ∧ F i ≤ 1000000) ∧ (-1000000 ≤ L i ∧ L i ≤ 1000000)
/-- Mark i is right behind the one before it. -/
def Gm (F L : Nat → Int) (i : Nat) : Prop := Rm F L i ∧ (0 < i → F (i - 1) < F i)
/-- r is the error of marks. -/
def Cs (n : Nat) (F L : Nat → Int) (r : Int) : Prop :=
  (400 < n ∧ r = 8) ∨ (n ≤ 400 ∧
    ((∃ i, i < n ∧ (∀ j, j < i → Gm F L j) ∧ ((¬ Rm F L i ∧ r = 2) ∨ (Rm F L i ∧ 0 < i ∧ F i ≤ F (i - 1) ∧ r = 10))) ∨ ((∀ j, j < n → Gm F L j) ∧ r = 0)))
theorem Cs.same {n : Nat} {F L : Nat → Int} {r q : Int} (h : Cs n F L r) (k : Cs n F L q) : r = q := by
  rcases h with ⟨a, rfl⟩ | ⟨a, h⟩ <;> rcases k with ⟨b, rfl⟩ | ⟨b, k⟩
  · rfl
  · omega
  · omega
  · rcases h with ⟨i, hi, hg, h⟩ | ⟨hg, rfl⟩ <;> rcases k with ⟨j, hj, kg, k⟩ | ⟨kg, rfl⟩
    · have hni : ¬ Gm F L i := fun g => by
        rcases h with ⟨h, _⟩ | ⟨_, h0, h, _⟩
        · exact h g.1
        · have := g.2 h0; omega
      have hnj : ¬ Gm F L j := fun g => by
        rcases k with ⟨h, _⟩ | ⟨_, h0, h, _⟩
        · exact h g.1
        · have := g.2 h0; omega
      have e : i = j := by
        rcases Nat.lt_trichotomy i j with l | l | l
        · exact absurd (kg i l) hni
        · exact l
        · exact absurd (hg j l) hnj
      subst e
      rcases h with ⟨h, rfl⟩ | ⟨h, _, _, rfl⟩ <;> rcases k with ⟨k, rfl⟩ | ⟨k, _, _, rfl⟩
      · rfl
      · exact absurd k h
      · exact absurd h k
      · rfl
    · exfalso
      have g := kg i hi
      rcases h with ⟨h, _⟩ | ⟨_, h0, h, _⟩
      · exact h g.1
      · have := g.2 h0; omega
    · exfalso
      have g := hg j hj
      rcases k with ⟨h, _⟩ | ⟨_, h0, h, _⟩
      · exact h g.1
      · have := g.2 h0; omega
    · rfl
theorem Cs.sea {n : Nat} {F L : Nat → Int} (h : Cs n F L 0) : Sea n F L := by
  rcases h with ⟨_, h⟩ | ⟨a, h⟩
  · cases h
  · rcases h with ⟨i, hi, hg, ⟨_, h⟩ | ⟨_, _, _, h⟩⟩ | ⟨hg, _⟩
    · cases h
    · cases h
    · exact ⟨a, fun i hi => (hg i hi).1.1, fun i hi => (hg i hi).1.2, fun i hi => (hg (i + 1) hi).2 (Nat.succ_pos _)⟩

theorem isMinute_any (n : Int) (w : World) :
    Calls Try.prog 44 #[.int .i64 n] w fun e w' => e = .returned (.bool (inB n 0 1000000)) ∧ w = w' := by
  go_enter Try.func44, Try.ntmps44
  go_wp2_with ((with_reducible refine (Within_any _ _ _ _).mono ?_); rintro e w' ⟨rfl, rfl⟩)
  go_ret
  exact ⟨rfl, rfl⟩

set_option maxRecDepth 100000 in
set_option maxHeartbeats 8000000 in
theorem CheckSea_any {w : World} {B0 n c : Nat} {A : Option Addr} {F L : Nat → Int} (h0 : Pa w B0 A n F L) (hn : n ≤ maxLen) :
    Calls Try.prog 49 #[.slice A n c] w fun e w' => ∃ r : Int, e = .returned (.int .i64 r) ∧ Hid (Cs n F L r) ∧ Below w.heap.size w w' := by
  unfold maxLen at hn
  by_cases hbig : 400 < n
  · have hd : decide ((400 : Int) < (n : Int)) = true := decide_eq_true (by omega)
    have HE := hid (show Cs n F L 8 from .inl ⟨hbig, rfl⟩)
    go_enter Try.func49, Try.ntmps49
    go_wp2
    go_ret
    exact ⟨8, rfl, HE, Below.refl _ _⟩
  · have hd : decide ((400 : Int) < (n : Int)) = false := decide_eq_false (by omega)
    go_enter Try.func49, Try.ntmps49
    go_wp2_with fail
    clear hd
    go_loopw [10] (fun iv wr => ∃ (i : Nat), i ≤ n ∧ iv = .int .i64 i ∧ Hid (∀ j, j < i → Gm F L j) ∧ Below w.heap.size w wr) (fun iv _ => n - (intOf iv).toNat)
    case atStart => exact ⟨0, Nat.zero_le _, rfl, hid (fun j hj => absurd hj (Nat.not_lt_zero _)), Below.refl _ _⟩
    case round =>
      obtain ⟨i, hi, rfl, HN, hbel⟩ := hrel
      have hw := h0.below hbel
      have Hbel := hid hbel
      clear hbel
      by_cases hlt : i < n
      · obtain ⟨ad, hA, hl, q0, q1, qf, qs⟩ := hw.at_ i hlt
        subst hA
        have hl2 := Nat.lt_of_lt_of_le hl hw.le
        obtain ⟨gb, hgb⟩ : ∃ gb, wr.heap.size = gb := ⟨_, rfl⟩
        have jb := Bk.of_alloc wr (.cells #[.int .i64 (F i), .int .i64 (L i)] 115) hgb
        have ha := alo (W := wr) (o := (.cells #[.int .i64 (F i), .int .i64 (L i)] 115))
        have hwa := hw.below ha
        have Hba := hid (Hbel.out.trans (ha.mono Hbel.out.size))
        clear hw ha
        by_cases hF : inB (F i) 0 1000000 = true
        · have hF' := inB_iff.1 hF
          by_cases hS : inB (L i) (-1000000) 1000000 = true
          · have hS' := inB_iff.1 hS
            have HR := hid (show Rm F L i from ⟨hF', hS'⟩)
            go_wp2_with fail
            generalize wr.alloc (.cells #[.int .i64 (F i), .int .i64 (L i)] 115) = wa at *
            clear q0 q1
            obtain ⟨b0, b1⟩ := jb.c2
            refine (isMinute_any _ _).mono ?_
            rintro e w' ⟨rfl, rfl⟩
            by_cases hp : 0 < i
            · obtain ⟨ad', hA', hl', p0, p1, pf, ps⟩ := hwa.at_ (i - 1) (by omega)
              injection hA' with hA'
              subst hA'
              have hip : (decide ((0 : Int) < (i : Int))) = true := decide_eq_true (by omega)
              have hip2 : (decide (0 < i)) = true := decide_eq_true hp
              have hi1 : (1 : Int) ≤ (i : Int) := by omega
              by_cases ho : F (i - 1) < F i
              · have hod : decide (F i ≤ F (i - 1)) = false := decide_eq_false (by omega)
                have HG := hid (show Gm F L i from ⟨HR.out, fun _ => ho⟩)
                go_wp2_with (first | ((with_reducible refine (isMinute_any _ _).mono ?_); rintro e w' ⟨rfl, rfl⟩) | ((with_reducible refine (isLevel_any _ _).mono ?_); rintro e w' ⟨rfl, rfl⟩))
                have w1 : IntKind.i64.wrap ((i : Int) - 1) = (i : Int) - 1 := IntWalk.i64_in _ (by omega)
                have w2 : ((i : Int) - 1).toNat = i - 1 := by omega
                have w3 : (0 : Int) ≤ (i : Int) - 1 := by omega
                have w4 : (i : Int) - 1 < (n : Int) := by omega
                go_quiet (fail)
                clear w1 w2 w3 w4
                go_wp2
                go_roundw
                case rel => exact ⟨i + 1, by omega, by go_num, hid (fun j hj => by rcases Nat.lt_or_ge j i with h | h; exact HN.out j h; have : j = i := (by omega); subst this; exact HG.out), Hba.out.drewN' _⟩
                case measure => simp [intOf]; omega
              · have hod : decide (F i ≤ F (i - 1)) = true := decide_eq_true (by omega)
                have HE := hid (show Cs n F L 10 from .inr ⟨by omega, .inl ⟨i, hlt, HN.out, .inr ⟨HR.out, hp, by omega, rfl⟩⟩⟩)
                go_wp2_with (first | ((with_reducible refine (isMinute_any _ _).mono ?_); rintro e w' ⟨rfl, rfl⟩) | ((with_reducible refine (isLevel_any _ _).mono ?_); rintro e w' ⟨rfl, rfl⟩))
                have w1 : IntKind.i64.wrap ((i : Int) - 1) = (i : Int) - 1 := IntWalk.i64_in _ (by omega)
                have w2 : ((i : Int) - 1).toNat = i - 1 := by omega
                have w3 : (0 : Int) ≤ (i : Int) - 1 := by omega
                have w4 : (i : Int) - 1 < (n : Int) := by omega
                go_quiet (fail)
                clear w1 w2 w3 w4
                go_wp2
                go_ret
                exact ⟨10, rfl, HE, Hba.out.drewN' _⟩
            · have hip : (decide ((0 : Int) < (i : Int))) = false := decide_eq_false (by omega)
              have hip2 : (decide (0 < i)) = false := decide_eq_false hp
              have HG := hid (show Gm F L i from ⟨HR.out, fun h => absurd h hp⟩)
              go_wp2_with (first | ((with_reducible refine (isMinute_any _ _).mono ?_); rintro e w' ⟨rfl, rfl⟩) | ((with_reducible refine (isLevel_any _ _).mono ?_); rintro e w' ⟨rfl, rfl⟩))
              go_quiet (fail)
              go_wp2
              go_roundw
              case rel => exact ⟨i + 1, by omega, by go_num, hid (fun j hj => by rcases Nat.lt_or_ge j i with h | h; exact HN.out j h; have : j = i := (by omega); subst this; exact HG.out), Hba.out.drewN' _⟩
              case measure => simp [intOf]; omega
          · have hS0 := Bool.eq_false_iff.2 hS
            have HE := hid (show Cs n F L 2 from .inr ⟨by omega, .inl ⟨i, hlt, HN.out, .inl ⟨fun hg => hS (inB_t hg.2), rfl⟩⟩⟩)
            clear hS
            go_wp2_with (first | ((with_reducible refine (isMinute_any _ _).mono ?_); rintro e w' ⟨rfl, rfl⟩) | ((with_reducible refine (isLevel_any _ _).mono ?_); rintro e w' ⟨rfl, rfl⟩))
            go_ret
            exact ⟨2, rfl, HE, Hba.out⟩
        · have hF0 := Bool.eq_false_iff.2 hF
          have HE := hid (show Cs n F L 2 from .inr ⟨by omega, .inl ⟨i, hlt, HN.out, .inl ⟨fun hg => hF (inB_t hg.1), rfl⟩⟩⟩)
          clear hF
          go_wp2_with (first | ((with_reducible refine (isMinute_any _ _).mono ?_); rintro e w' ⟨rfl, rfl⟩) | ((with_reducible refine (isLevel_any _ _).mono ?_); rintro e w' ⟨rfl, rfl⟩))
          go_ret
          exact ⟨2, rfl, HE, Hba.out⟩
      · obtain rfl : i = n := by omega
        have HE := hid (show Cs i F L 0 from .inr ⟨by omega, .inr ⟨HN.out, rfl⟩⟩)
        go_wp2
        go_ret
        exact ⟨0, rfl, HE, Hbel.out⟩

set_option maxRecDepth 100000 in
set_option maxHeartbeats 8000000 in
theorem rCheckSea_any {w : World} {B0 n c : Nat} {A : Option Addr} {F L : Nat → Int} (h0 : Pa w B0 A n F L) (hn : n ≤ maxLen) :
    Calls Try.prog 42 #[.slice A n c] w fun e w' => ∃ r : Int, e = .returned (.int .i64 r) ∧ Hid (Cs n F L r) ∧ Below w.heap.size w w' := by
  unfold maxLen at hn
  by_cases hbig : 400 < n
  · have hd : decide ((400 : Int) < (n : Int)) = true := decide_eq_true (by omega)
    have HE := hid (show Cs n F L 8 from .inl ⟨hbig, rfl⟩)
    go_enter Try.func42, Try.ntmps42
    go_wp2
    go_ret
    exact ⟨8, rfl, HE, Below.refl _ _⟩
  · have hd : decide ((400 : Int) < (n : Int)) = false := decide_eq_false (by omega)
    go_enter Try.func42, Try.ntmps42
    go_wp2_with fail
    clear hd
    go_loopw [3] (fun iv wr => ∃ (i : Nat), i ≤ n ∧ iv = .int .i64 i ∧ Hid (∀ j, j < i → Gm F L j) ∧ Below w.heap.size w wr) (fun iv _ => n - (intOf iv).toNat)
    case atStart => exact ⟨0, Nat.zero_le _, rfl, hid (fun j hj => absurd hj (Nat.not_lt_zero _)), Below.refl _ _⟩
    case round =>
      obtain ⟨i, hi, rfl, HN, hbel⟩ := hrel
      have hw := h0.below hbel
      have Hbel := hid hbel
      clear hbel
      by_cases hlt : i < n
      · obtain ⟨ad, hA, hl, q0, q1, qf, qs⟩ := hw.at_ i hlt
        subst hA
        by_cases hF : inB (F i) 0 1000000 = true
        · have hF' := inB_iff.1 hF
          by_cases hS : inB (L i) (-1000000) 1000000 = true
          · have hS' := inB_iff.1 hS
            have HR := hid (show Rm F L i from ⟨hF', hS'⟩)
            by_cases hp : 0 < i
            · obtain ⟨ad', hA', hl', p0, p1, pf, ps⟩ := hw.at_ (i - 1) (by omega)
              injection hA' with hA'
              subst hA'
              have hip : (decide ((0 : Int) < (i : Int))) = true := decide_eq_true (by omega)
              have hip2 : (decide (0 < i)) = true := decide_eq_true hp
              have hi1 : (1 : Int) ≤ (i : Int) := by omega
              by_cases ho : F (i - 1) < F i
              · have hod : decide (F i ≤ F (i - 1)) = false := decide_eq_false (by omega)
                have HG := hid (show Gm F L i from ⟨HR.out, fun _ => ho⟩)
                go_wp2_with (((with_reducible refine (inside_any _ _ _ _).mono ?_); rintro e w' ⟨rfl, rfl⟩))
                have w1 : IntKind.i64.wrap ((i : Int) - 1) = (i : Int) - 1 := IntWalk.i64_in _ (by omega)
                have w2 : ((i : Int) - 1).toNat = i - 1 := by omega
                have w3 : (0 : Int) ≤ (i : Int) - 1 := by omega
                have w4 : (i : Int) - 1 < (n : Int) := by omega
                go_quiet (fail)
                clear w1 w2 w3 w4
                go_wp2
                go_roundw
                case rel => exact ⟨i + 1, by omega, by go_num, hid (fun j hj => by rcases Nat.lt_or_ge j i with h | h; exact HN.out j h; have : j = i := (by omega); subst this; exact HG.out), Hbel.out.drewN' _⟩
                case measure => simp [intOf]; omega
              · have hod : decide (F i ≤ F (i - 1)) = true := decide_eq_true (by omega)
                have HE := hid (show Cs n F L 10 from .inr ⟨by omega, .inl ⟨i, hlt, HN.out, .inr ⟨HR.out, hp, by omega, rfl⟩⟩⟩)
                go_wp2_with (((with_reducible refine (inside_any _ _ _ _).mono ?_); rintro e w' ⟨rfl, rfl⟩))
                have w1 : IntKind.i64.wrap ((i : Int) - 1) = (i : Int) - 1 := IntWalk.i64_in _ (by omega)
                have w2 : ((i : Int) - 1).toNat = i - 1 := by omega
                have w3 : (0 : Int) ≤ (i : Int) - 1 := by omega
                have w4 : (i : Int) - 1 < (n : Int) := by omega
                go_quiet (fail)
                clear w1 w2 w3 w4
                go_wp2
                go_ret
                exact ⟨10, rfl, HE, Hbel.out.drewN' _⟩
            · have hip : (decide ((0 : Int) < (i : Int))) = false := decide_eq_false (by omega)
              have hip2 : (decide (0 < i)) = false := decide_eq_false hp
              have HG := hid (show Gm F L i from ⟨HR.out, fun h => absurd h hp⟩)
              go_wp2_with (((with_reducible refine (inside_any _ _ _ _).mono ?_); rintro e w' ⟨rfl, rfl⟩))
              go_quiet (fail)
              go_wp2
              go_roundw
              case rel => exact ⟨i + 1, by omega, by go_num, hid (fun j hj => by rcases Nat.lt_or_ge j i with h | h; exact HN.out j h; have : j = i := (by omega); subst this; exact HG.out), Hbel.out.drewN' _⟩
              case measure => simp [intOf]; omega
          · have hS0 := Bool.eq_false_iff.2 hS
            have HE := hid (show Cs n F L 2 from .inr ⟨by omega, .inl ⟨i, hlt, HN.out, .inl ⟨fun hg => hS (inB_t hg.2), rfl⟩⟩⟩)
            clear hS
            go_wp2_with (((with_reducible refine (inside_any _ _ _ _).mono ?_); rintro e w' ⟨rfl, rfl⟩))
            go_ret
            exact ⟨2, rfl, HE, Hbel.out⟩
        · have hF0 := Bool.eq_false_iff.2 hF
          have HE := hid (show Cs n F L 2 from .inr ⟨by omega, .inl ⟨i, hlt, HN.out, .inl ⟨fun hg => hF (inB_t hg.1), rfl⟩⟩⟩)
          clear hF
          go_wp2_with (((with_reducible refine (inside_any _ _ _ _).mono ?_); rintro e w' ⟨rfl, rfl⟩))
          go_ret
          exact ⟨2, rfl, HE, Hbel.out⟩
      · obtain rfl : i = n := by omega
        have HE := hid (show Cs i F L 0 from .inr ⟨by omega, .inr ⟨HN.out, rfl⟩⟩)
        go_wp2
        go_ret
        exact ⟨0, rfl, HE, Hbel.out⟩

end Go.Proofs.Ytndcopljjnbkbaa
