/- The mathematics of the sea: its level at a minute, and the marks at which it is highest. No program is run in this text. The error of the marks of a sea: CheckSea of the program and of the reference. For all lists of marks. The level of the sea at a minute: roundedDown, tide, Tide; floorDiv, At, Tide of the reference. For all marks that are right. The level of the sea at a minute by the reference: At. For all marks that are right. -/
import Derived.Test.YtockfiobhmohnaaGa
import Derived.IntWalk
import Derived.Deep.RegionHeld3
import Derived.Deep.RegionWith
import Derived.Deep.DeepCutAuto
namespace Go.Proofs.Wb

/-- Marks that are right. -/
structure Sea (n : Nat) (F L : Nat → Int) : Prop where
  most : n ≤ 400
  f : ∀ i, i < n → 0 ≤ F i ∧ F i ≤ 1000000
  l : ∀ i, i < n → -1000000 ≤ L i ∧ L i ≤ 1000000
  up : ∀ i, i + 1 < n → F i < F (i + 1)
section
variable {n : Nat} {F L : Nat → Int}
theorem Sea.mono (h : Sea n F L) : ∀ j i, i ≤ j → j < n → F i ≤ F j
  | 0, i, hi, _ => by have : i = 0 := by omega
                      subst this; exact Int.le_refl _
  | j + 1, i, hi, hj => by
    by_cases e : i = j + 1
    · subst e; exact Int.le_refl _
    · have h1 := h.mono j i (by omega) (by omega)
      have h2 := h.up j hj
      omega
theorem Sea.lt (h : Sea n F L) {i j : Nat} (hi : i < j) (hj : j < n) : F i < F j := by
  have h1 := h.up i (by omega)
  have h2 := h.mono j (i + 1) hi hj
  omega

/-- The level between two marks. -/
def seg (F L : Nat → Int) (i : Nat) (t : Int) : Int := L i + (L (i + 1) - L i) * (t - F i) / (F (i + 1) - F i)
/-- r is the level of the sea at t. -/
def Td (n : Nat) (F L : Nat → Int) (t r : Int) : Prop :=
  (t ≤ F 0 ∧ r = L 0) ∨ (F (n - 1) ≤ t ∧ r = L (n - 1)) ∨ ∃ i, i + 1 < n ∧ F i ≤ t ∧ t ≤ F (i + 1) ∧ r = seg F L i t
theorem seg_lo (i : Nat) : seg F L i (F i) = L i := by unfold seg; rw [Int.sub_self, Int.mul_zero, Int.zero_ediv]; omega
theorem seg_hi {i : Nat} (h : F i < F (i + 1)) : seg F L i (F (i + 1)) = L (i + 1) := by
  unfold seg; rw [Int.mul_ediv_cancel _ (by omega)]; omega
theorem Td.same (h : Sea n F L) (hn : 0 < n) {t r q : Int} (a : Td n F L t r) (b : Td n F L t q) : r = q := by
  have m0 := fun i hi => h.mono i 0 (Nat.zero_le _) hi
  have ml := fun i (hi : i < n) => h.mono (n - 1) i (by omega) (by omega)
  have z0 : ∀ i, i < n → F i ≤ F 0 → i = 0 := fun i hi e => by
    rcases Nat.eq_zero_or_pos i with e0 | e0
    · exact e0
    · have := h.lt e0 hi; omega
  have zl : ∀ i, i < n → F (n - 1) ≤ F i → i = n - 1 := fun i hi e => by
    rcases Nat.lt_or_ge i (n - 1) with e0 | e0
    · have := h.lt e0 (by omega); omega
    · omega
  -- the level at the ends of a part
  have k0 : ∀ i, i + 1 < n → F i ≤ t → t ≤ F 0 → seg F L i t = L 0 := fun i hi h1 h2 => by
    have e := z0 i (by omega) (by omega)
    subst e
    have : t = F 0 := by omega
    subst this
    exact seg_lo 0
  have kl : ∀ i, i + 1 < n → t ≤ F (i + 1) → F (n - 1) ≤ t → seg F L i t = L (n - 1) := fun i hi h1 h2 => by
    have e := zl (i + 1) hi (by omega)
    have ht : t = F (i + 1) := by have := ml (i + 1) hi; omega
    rw [ht, seg_hi (h.up i hi), e]
  have ks : ∀ i j, i < j → j + 1 < n → F j ≤ t → t ≤ F (i + 1) → seg F L i t = seg F L j t := fun i j hij hj h1 h2 => by
    have e : j = i + 1 := by
      rcases Nat.lt_or_ge (i + 1) j with e0 | e0
      · have := h.lt e0 (by omega); omega
      · omega
    subst e
    have ht : t = F (i + 1) := by omega
    rw [ht, seg_lo, seg_hi (h.up i (by omega))]
  rcases a with ⟨a1, rfl⟩ | ⟨a1, rfl⟩ | ⟨i, hi, a1, a2, rfl⟩ <;> rcases b with ⟨b1, rfl⟩ | ⟨b1, rfl⟩ | ⟨j, hj, b1, b2, rfl⟩
  · rfl
  · have e := z0 (n - 1) (by omega) (by omega); rw [e]
  · exact (k0 j hj b1 a1).symm
  · have e := z0 (n - 1) (by omega) (by omega); rw [e]
  · rfl
  · exact (kl j hj b2 a1).symm
  · exact k0 i hi a1 b1
  · exact kl i hi a2 b1
  · rcases Nat.lt_trichotomy i j with e | e | e
    · exact ks i j e hj b1 a2
    · subst e; rfl
    · exact (ks j i e hi a1 b2).symm
/-- The level at a part is between those of its marks; the bounds that a walk needs. -/
theorem seg_bd (h : Sea n F L) {i : Nat} (hi : i + 1 < n) {t : Int} (h1 : F i ≤ t) (h2 : t ≤ F (i + 1)) :
    (-2000000000000 ≤ (L (i + 1) - L i) * (t - F i) ∧ (L (i + 1) - L i) * (t - F i) ≤ 2000000000000) ∧ (-2000000 ≤ (L (i + 1) - L i) * (t - F i) / (F (i + 1) - F i) ∧ (L (i + 1) - L i) * (t - F i) / (F (i + 1) - F i) ≤ 2000000) := by
  have a := h.l i (by omega)
  have b := h.l (i + 1) hi
  have c := h.f i (by omega)
  have d := h.f (i + 1) hi
  have u := h.up i hi
  obtain ⟨R, hR⟩ : ∃ R, L (i + 1) - L i = R := ⟨_, rfl⟩
  obtain ⟨T, hT⟩ : ∃ T, t - F i = T := ⟨_, rfl⟩
  obtain ⟨D, hD⟩ : ∃ D, F (i + 1) - F i = D := ⟨_, rfl⟩
  rw [hR, hT, hD]
  have p1 : R * T ≤ 2000000 * T := Int.mul_le_mul_of_nonneg_right (by omega) (by omega)
  have p2 : -2000000 * T ≤ R * T := Int.mul_le_mul_of_nonneg_right (by omega) (by omega)
  have e1 : R * T / D ≤ 2000000 := by
    refine Int.ediv_le_of_le_mul (by omega) ?_
    omega
  have e2 : -2000000 ≤ R * T / D := by
    refine Int.le_ediv_of_mul_le (by omega) ?_
    omega
  exact ⟨⟨by omega, by omega⟩, e2, e1⟩

/-- Rounding down by the quotient that is nearer to 0. -/
theorem down_neg {a b : Int} (hb : 0 < b) (ha : a < 0) (hr : a.tmod b ≠ 0) : a.tdiv b - 1 = a / b := by
  have h := Int.tdiv_eq_ediv (a := a) (b := b)
  have hnd : ¬ (0 ≤ a ∨ b ∣ a) := fun h => h.elim (fun h => by omega) (fun h => hr (Int.tmod_eq_zero_of_dvd h))
  rw [if_neg hnd, Int.sign_eq_one_of_pos hb] at h
  omega
theorem down_zero {a b : Int} (hr : a.tmod b = 0) : a.tdiv b = a / b := by
  have h := Int.tdiv_eq_ediv (a := a) (b := b)
  rw [if_pos (.inr (Int.dvd_of_tmod_eq_zero hr))] at h
  omega
theorem down_nonneg {a b : Int} (ha : 0 ≤ a) : a.tdiv b = a / b := Int.tdiv_eq_ediv_of_nonneg ha
theorem tmod_sign {a b : Int} : (a.tmod b < 0 ↔ a < 0 ∧ a.tmod b ≠ 0) := by
  by_cases ha : 0 ≤ a
  · have := Int.tmod_nonneg b ha
    exact ⟨fun h => by omega, fun h => by omega⟩
  · have h1 := Int.neg_tmod a b
    have h2 := Int.tmod_nonneg b (show 0 ≤ -a by omega)
    exact ⟨fun h => ⟨by omega, by omega⟩, fun h => by omega⟩

/-- Mark i is one at which the sea is highest. -/
def Hw (n : Nat) (L : Nat → Int) (i : Nat) : Prop := (0 < i → L (i - 1) < L i) ∧ ∀ k, i < k → k < n → (∀ j, i < j → j < k → L j = L i) → L k ≠ L i → L k < L i
open Classical in
noncomputable def hwl (n : Nat) (L : Nat → Int) (k : Nat) : List Nat := (List.range k).filter fun i => decide (Hw n L i)
theorem hwl_zero : hwl n L 0 = [] := rfl
theorem hwl_yes {k : Nat} (h : Hw n L k) : hwl n L (k + 1) = hwl n L k ++ [k] := by
  unfold hwl
  rw [List.range_succ, List.filter_append]
  simp [h]
theorem hwl_no {k : Nat} (h : ¬ Hw n L k) : hwl n L (k + 1) = hwl n L k := by
  unfold hwl
  rw [List.range_succ, List.filter_append]
  simp [h]
theorem hwl_len (k : Nat) : (hwl n L k).length ≤ k := by
  unfold hwl
  have := List.length_filter_le (fun i => @decide (Hw n L i) (Classical.propDecidable _)) (List.range k)
  simpa using this
/-- k is the first mark behind i with another level, or there is none up to k = n. -/
theorem hw_iff {i k : Nat} (h0 : 0 < i → L (i - 1) < L i) (hk : i < k) (hkn : k ≤ n) (hs : ∀ j, i < j → j < k → L j = L i) (hd : k < n → L k ≠ L i) : Hw n L i ↔ (k = n ∨ L k < L i) := by
  constructor
  · intro h
    rcases Nat.lt_or_ge k n with e | e
    · exact .inr (h.2 k hk e hs (hd e))
    · exact .inl (by omega)
  · intro h
    refine ⟨h0, fun k' h1 h2 h3 h4 => ?_⟩
    rcases Nat.lt_trichotomy k' k with e | e | e
    · exact absurd (hs k' h1 e) h4
    · subst e
      rcases h with h | h
      · omega
      · exact h
    · exact absurd (h3 k hk e) (hd (by omega))
end
end Go.Proofs.Wb

namespace Go.Proofs.Ytockfiobhmohnaa
open Go.RowKit Kb Wb

/-- Mark i is within the limits. -/
def Rm (F L : Nat → Int) (i : Nat) : Prop := (0 ≤ F i ∧ F i ≤ 1000000) ∧ (-1000000 ≤ L i ∧ L i ≤ 1000000)
/-- Mark i is right behind the one before it. -/
def Gm (F L : Nat → Int) (i : Nat) : Prop := Rm F L i ∧ (0 < i → F (i - 1) < F i)
/-- r is the error of marks. -/
def Cs (n : Nat) (F L : Nat → Int) (r : Int) : Prop :=
  (400 < n ∧ r = 8) ∨ (n ≤ 400 ∧
    ((∃ i, i < n ∧ (∀ j, j < i → Gm F L j) ∧ ((¬ Rm F L i ∧ r = 2) ∨ (Rm F L i ∧ 0 < i ∧ F i ≤ F (i - 1) ∧ r = 10))) ∨ ((∀ j, j < n → Gm F L j) ∧ r = 0)))
theorem Cs.same {n : Nat} {F L : Nat → Int} {r q : Int} (h : Cs n F L r) (k : Cs n F L q) : r = q := by
  rcases h with ⟨a, rfl⟩ | ⟨a, h⟩ <;> rcases k with ⟨b, rfl⟩ | ⟨b, k⟩
  · rfl
  · omega
  · omega
  · rcases h with ⟨i, hi, hg, h⟩ | ⟨hg, rfl⟩ <;> rcases k with ⟨j, hj, kg, k⟩ | ⟨kg, rfl⟩
    · have hni : ¬ Gm F L i := fun g => by
        rcases h with ⟨h, _⟩ | ⟨_, h0, h, _⟩
        · exact h g.1
        · have := g.2 h0; omega
      have hnj : ¬ Gm F L j := fun g => by
        rcases k with ⟨h, _⟩ | ⟨_, h0, h, _⟩
        · exact h g.1
        · have := g.2 h0; omega
      have e : i = j := by
        rcases Nat.lt_trichotomy i j with l | l | l
        · exact absurd (kg i l) hni
        · exact l
        · exact absurd (hg j l) hnj
      subst e
      rcases h with ⟨h, rfl⟩ | ⟨h, _, _, rfl⟩ <;> rcases k with ⟨k, rfl⟩ | ⟨k, _, _, rfl⟩
      · rfl
      · exact absurd k h
      · exact absurd h k
      · rfl
    · exfalso
      have g := kg i hi
      rcases h with ⟨h, _⟩ | ⟨_, h0, h, _⟩
      · exact h g.1
      · have := g.2 h0; omega
    · exfalso
      have g := hg j hj
      rcases k with ⟨h, _⟩ | ⟨_, h0, h, _⟩
      · exact h g.1
      · have := g.2 h0; omega
    · rfl
theorem Cs.sea {n : Nat} {F L : Nat → Int} (h : Cs n F L 0) : Sea n F L := by
  rcases h with ⟨_, h⟩ | ⟨a, h⟩
  · cases h
  · rcases h with ⟨i, hi, hg, ⟨_, h⟩ | ⟨_, _, _, h⟩⟩ | ⟨hg, _⟩
    · cases h
    · cases h
    · exact ⟨a, fun i hi => (hg i hi).1.1, fun i hi => (hg i hi).1.2, fun i hi => (hg (i + 1) hi).2 (Nat.succ_pos _)⟩

theorem isMinute_any (n : Int) (w : World) :
    Calls Try.prog 76 #[.int .i64 n] w fun e w' => e = .returned (.bool (inB n 0 1000000)) ∧ w = w' := by
  go_enter Try.func76, Try.ntmps76
  go_wp2_with ((with_reducible refine (Within_any _ _ _ _).mono ?_); rintro e w' ⟨rfl, rfl⟩)
  go_ret
  exact ⟨rfl, rfl⟩

set_option maxRecDepth 100000 in
set_option maxHeartbeats 8000000 in
theorem CheckSea_any {w : World} {B0 n c : Nat} {A : Option Addr} {F L : Nat → Int} (h0 : Pa w B0 A n F L) (hn : n ≤ maxLen) :
    Calls Try.prog 90 #[.slice A n c] w fun e w' => ∃ r : Int, e = .returned (.int .i64 r) ∧ Hid (Cs n F L r) ∧ Below w.heap.size w w' := by
  unfold maxLen at hn
  by_cases hbig : 400 < n
  · have hd : decide ((400 : Int) < (n : Int)) = true := decide_eq_true (by omega)
    have HE := hid (show Cs n F L 8 from .inl ⟨hbig, rfl⟩)
    go_enter Try.func90, Try.ntmps90
    go_wp2
    go_ret
    exact ⟨8, rfl, HE, Below.refl _ _⟩
  · have hd : decide ((400 : Int) < (n : Int)) = false := decide_eq_false (by omega)
    go_enter Try.func90, Try.ntmps90
    go_wp2_with fail
    clear hd
    go_loopw [10] (fun iv wr => ∃ (i : Nat), i ≤ n ∧ iv = .int .i64 i ∧ Hid (∀ j, j < i → Gm F L j) ∧ Below w.heap.size w wr) (fun iv _ => n - (intOf iv).toNat)
    case atStart => exact ⟨0, Nat.zero_le _, rfl, hid (fun j hj => absurd hj (Nat.not_lt_zero _)), Below.refl _ _⟩
    case round =>
      obtain ⟨i, hi, rfl, HN, hbel⟩ := hrel
      have hw := h0.below hbel
      have Hbel := hid hbel
      clear hbel
      by_cases hlt : i < n
      · obtain ⟨ad, hA, hl, q0, q1, qf, qs⟩ := hw.at_ i hlt
        subst hA
        have hl2 := Nat.lt_of_lt_of_le hl hw.le
        obtain ⟨gb, hgb⟩ : ∃ gb, wr.heap.size = gb := ⟨_, rfl⟩
        have jb := Bk.of_alloc wr (.cells #[.int .i64 (F i), .int .i64 (L i)] 110) hgb
        have ha := alo (W := wr) (o := (.cells #[.int .i64 (F i), .int .i64 (L i)] 110))
        have hwa := hw.below ha
        have Hba := hid (Hbel.out.trans (ha.mono Hbel.out.size))
        clear hw ha
        by_cases hF : inB (F i) 0 1000000 = true
        · have hF' := inB_iff.1 hF
          by_cases hS : inB (L i) (-1000000) 1000000 = true
          · have hS' := inB_iff.1 hS
            have HR := hid (show Rm F L i from ⟨hF', hS'⟩)
            go_wp2_with fail
            generalize wr.alloc (.cells #[.int .i64 (F i), .int .i64 (L i)] 110) = wa at *
            clear q0 q1
            obtain ⟨b0, b1⟩ := jb.c2
            refine (isMinute_any _ _).mono ?_
            rintro e w' ⟨rfl, rfl⟩
            by_cases hp : 0 < i
            · obtain ⟨ad', hA', hl', p0, p1, pf, ps⟩ := hwa.at_ (i - 1) (by omega)
              injection hA' with hA'
              subst hA'
              have hip : (decide ((0 : Int) < (i : Int))) = true := decide_eq_true (by omega)
              have hip2 : (decide (0 < i)) = true := decide_eq_true hp
              have hi1 : (1 : Int) ≤ (i : Int) := by omega
              by_cases ho : F (i - 1) < F i
              · have hod : decide (F i ≤ F (i - 1)) = false := decide_eq_false (by omega)
                have HG := hid (show Gm F L i from ⟨HR.out, fun _ => ho⟩)
                go_wp2_with (first | ((with_reducible refine (isMinute_any _ _).mono ?_); rintro e w' ⟨rfl, rfl⟩) | ((with_reducible refine (isLevel_any _ _).mono ?_); rintro e w' ⟨rfl, rfl⟩))
                have w1 : IntKind.i64.wrap ((i : Int) - 1) = (i : Int) - 1 := IntWalk.i64_in _ (by omega)
                have w2 : ((i : Int) - 1).toNat = i - 1 := by omega
                have w3 : (0 : Int) ≤ (i : Int) - 1 := by omega
                have w4 : (i : Int) - 1 < (n : Int) := by omega
                go_quiet (fail)
                clear w1 w2 w3 w4
                go_wp2
                go_roundw
                case rel => exact ⟨i + 1, by omega, by go_num, hid (fun j hj => by rcases Nat.lt_or_ge j i with h | h; exact HN.out j h; have : j = i := (by omega); subst this; exact HG.out), Hba.out.drewN' _⟩
                case measure => simp [intOf]; omega
              · have hod : decide (F i ≤ F (i - 1)) = true := decide_eq_true (by omega)
                have HE := hid (show Cs n F L 10 from .inr ⟨by omega, .inl ⟨i, hlt, HN.out, .inr ⟨HR.out, hp, by omega, rfl⟩⟩⟩)
                go_wp2_with (first | ((with_reducible refine (isMinute_any _ _).mono ?_); rintro e w' ⟨rfl, rfl⟩) | ((with_reducible refine (isLevel_any _ _).mono ?_); rintro e w' ⟨rfl, rfl⟩))
                have w1 : IntKind.i64.wrap ((i : Int) - 1) = (i : Int) - 1 := IntWalk.i64_in _ (by omega)
                have w2 : ((i : Int) - 1).toNat = i - 1 := by omega
                have w3 : (0 : Int) ≤ (i : Int) - 1 := by omega
                have w4 : (i : Int) - 1 < (n : Int) := by omega
                go_quiet (fail)
                clear w1 w2 w3 w4
                go_wp2
                go_ret
                exact ⟨10, rfl, HE, Hba.out.drewN' _⟩
            · have hip : (decide ((0 : Int) < (i : Int))) = false := decide_eq_false (by omega)
              have hip2 : (decide (0 < i)) = false := decide_eq_false hp
              have HG := hid (show Gm F L i from ⟨HR.out, fun h => absurd h hp⟩)
              go_wp2_with (first | ((with_reducible refine (isMinute_any _ _).mono ?_); rintro e w' ⟨rfl, rfl⟩) | ((with_reducible refine (isLevel_any _ _).mono ?_); rintro e w' ⟨rfl, rfl⟩))
              go_quiet (fail)
              go_wp2
              go_roundw
              case rel => exact ⟨i + 1, by omega, by go_num, hid (fun j hj => by rcases Nat.lt_or_ge j i with h | h; exact HN.out j h; have : j = i := (by omega); subst this; exact HG.out), Hba.out.drewN' _⟩
              case measure => simp [intOf]; omega
          · have hS0 := Bool.eq_false_iff.2 hS
            have HE := hid (show Cs n F L 2 from .inr ⟨by omega, .inl ⟨i, hlt, HN.out, .inl ⟨fun hg => hS (inB_t hg.2), rfl⟩⟩⟩)
            clear hS
            go_wp2_with (first | ((with_reducible refine (isMinute_any _ _).mono ?_); rintro e w' ⟨rfl, rfl⟩) | ((with_reducible refine (isLevel_any _ _).mono ?_); rintro e w' ⟨rfl, rfl⟩))
            go_ret
            exact ⟨2, rfl, HE, Hba.out⟩
        · have hF0 := Bool.eq_false_iff.2 hF
          have HE := hid (show Cs n F L 2 from .inr ⟨by omega, .inl ⟨i, hlt, HN.out, .inl ⟨fun hg => hF (inB_t hg.1), rfl⟩⟩⟩)
          clear hF
          go_wp2_with (first | ((with_reducible refine (isMinute_any _ _).mono ?_); rintro e w' ⟨rfl, rfl⟩) | ((with_reducible refine (isLevel_any _ _).mono ?_); rintro e w' ⟨rfl, rfl⟩))
          go_ret
          exact ⟨2, rfl, HE, Hba.out⟩
      · obtain rfl : i = n := by omega
        have HE := hid (show Cs i F L 0 from .inr ⟨by omega, .inr ⟨HN.out, rfl⟩⟩)
        go_wp2
        go_ret
        exact ⟨0, rfl, HE, Hbel.out⟩

set_option maxRecDepth 100000 in
set_option maxHeartbeats 8000000 in
theorem rCheckSea_any {w : World} {B0 n c : Nat} {A : Option Addr} {F L : Nat → Int} (h0 : Pa w B0 A n F L) (hn : n ≤ maxLen) :
    Calls Try.prog 67 #[.slice A n c] w fun e w' => ∃ r : Int, e = .returned (.int .i64 r) ∧ Hid (Cs n F L r) ∧ Below w.heap.size w w' := by
  unfold maxLen at hn
  by_cases hbig : 400 < n
  · have hd : decide ((400 : Int) < (n : Int)) = true := decide_eq_true (by omega)
    have HE := hid (show Cs n F L 8 from .inl ⟨hbig, rfl⟩)
    go_enter Try.func67, Try.ntmps67
    go_wp2
    go_ret
    exact ⟨8, rfl, HE, Below.refl _ _⟩
  · have hd : decide ((400 : Int) < (n : Int)) = false := decide_eq_false (by omega)
    go_enter Try.func67, Try.ntmps67
    go_wp2_with fail
    clear hd
    go_loopw [3] (fun iv wr => ∃ (i : Nat), i ≤ n ∧ iv = .int .i64 i ∧ Hid (∀ j, j < i → Gm F L j) ∧ Below w.heap.size w wr) (fun iv _ => n - (intOf iv).toNat)
    case atStart => exact ⟨0, Nat.zero_le _, rfl, hid (fun j hj => absurd hj (Nat.not_lt_zero _)), Below.refl _ _⟩
    case round =>
      obtain ⟨i, hi, rfl, HN, hbel⟩ := hrel
      have hw := h0.below hbel
      have Hbel := hid hbel
      clear hbel
      by_cases hlt : i < n
      · obtain ⟨ad, hA, hl, q0, q1, qf, qs⟩ := hw.at_ i hlt
        subst hA
        by_cases hF : inB (F i) 0 1000000 = true
        · have hF' := inB_iff.1 hF
          by_cases hS : inB (L i) (-1000000) 1000000 = true
          · have hS' := inB_iff.1 hS
            have HR := hid (show Rm F L i from ⟨hF', hS'⟩)
            by_cases hp : 0 < i
            · obtain ⟨ad', hA', hl', p0, p1, pf, ps⟩ := hw.at_ (i - 1) (by omega)
              injection hA' with hA'
              subst hA'
              have hip : (decide ((0 : Int) < (i : Int))) = true := decide_eq_true (by omega)
              have hip2 : (decide (0 < i)) = true := decide_eq_true hp
              have hi1 : (1 : Int) ≤ (i : Int) := by omega
              by_cases ho : F (i - 1) < F i
              · have hod : decide (F i ≤ F (i - 1)) = false := decide_eq_false (by omega)
                have HG := hid (show Gm F L i from ⟨HR.out, fun _ => ho⟩)
                go_wp2_with (((with_reducible refine (inside_any _ _ _ _).mono ?_); rintro e w' ⟨rfl, rfl⟩))
                have w1 : IntKind.i64.wrap ((i : Int) - 1) = (i : Int) - 1 := IntWalk.i64_in _ (by omega)
                have w2 : ((i : Int) - 1).toNat = i - 1 := by omega
                have w3 : (0 : Int) ≤ (i : Int) - 1 := by omega
                have w4 : (i : Int) - 1 < (n : Int) := by omega
                go_quiet (fail)
                clear w1 w2 w3 w4
                go_wp2
                go_roundw
                case rel => exact ⟨i + 1, by omega, by go_num, hid (fun j hj => by rcases Nat.lt_or_ge j i with h | h; exact HN.out j h; have : j = i := (by omega); subst this; exact HG.out), Hbel.out.drewN' _⟩
                case measure => simp [intOf]; omega
              · have hod : decide (F i ≤ F (i - 1)) = true := decide_eq_true (by omega)
                have HE := hid (show Cs n F L 10 from .inr ⟨by omega, .inl ⟨i, hlt, HN.out, .inr ⟨HR.out, hp, by omega, rfl⟩⟩⟩)
                go_wp2_with (((with_reducible refine (inside_any _ _ _ _).mono ?_); rintro e w' ⟨rfl, rfl⟩))
                have w1 : IntKind.i64.wrap ((i : Int) - 1) = (i : Int) - 1 := IntWalk.i64_in _ (by omega)
                have w2 : ((i : Int) - 1).toNat = i - 1 := by omega
                have w3 : (0 : Int) ≤ (i : Int) - 1 := by omega
                have w4 : (i : Int) - 1 < (n : Int) := by omega
                go_quiet (fail)
                clear w1 w2 w3 w4
                go_wp2
                go_ret
                exact ⟨10, rfl, HE, Hbel.out.drewN' _⟩
            · have hip : (decide ((0 : Int) < (i : Int))) = false := decide_eq_false (by omega)
              have hip2 : (decide (0 < i)) = false := decide_eq_false hp
              have HG := hid (show Gm F L i from ⟨HR.out, fun h => absurd h hp⟩)
              go_wp2_with (((with_reducible refine (inside_any _ _ _ _).mono ?_); rintro e w' ⟨rfl, rfl⟩))
              go_quiet (fail)
              go_wp2
              go_roundw
              case rel => exact ⟨i + 1, by omega, by go_num, hid (fun j hj => by rcases Nat.lt_or_ge j i with h | h; exact HN.out j h; have : j = i := (by omega); subst this; exact HG.out), Hbel.out.drewN' _⟩
              case measure => simp [intOf]; omega
          · have hS0 := Bool.eq_false_iff.2 hS
            have HE := hid (show Cs n F L 2 from .inr ⟨by omega, .inl ⟨i, hlt, HN.out, .inl ⟨fun hg => hS (inB_t hg.2), rfl⟩⟩⟩)
            clear hS
            go_wp2_with (((with_reducible refine (inside_any _ _ _ _).mono ?_); rintro e w' ⟨rfl, rfl⟩))
            go_ret
            exact ⟨2, rfl, HE, Hbel.out⟩
        · have hF0 := Bool.eq_false_iff.2 hF
          have HE := hid (show Cs n F L 2 from .inr ⟨by omega, .inl ⟨i, hlt, HN.out, .inl ⟨fun hg => hF (inB_t hg.1), rfl⟩⟩⟩)
          clear hF
          go_wp2_with (((with_reducible refine (inside_any _ _ _ _).mono ?_); rintro e w' ⟨rfl, rfl⟩))
          go_ret
          exact ⟨2, rfl, HE, Hbel.out⟩
      · obtain rfl : i = n := by omega
        have HE := hid (show Cs i F L 0 from .inr ⟨by omega, .inr ⟨HN.out, rfl⟩⟩)
        go_wp2
        go_ret
        exact ⟨0, rfl, HE, Hbel.out⟩

end Go.Proofs.Ytockfiobhmohnaa

namespace Go.Proofs.Ytockfiobhmohnaa
open Go.RowKit Kb Wb

set_option maxRecDepth 100000 in
set_option maxHeartbeats 4000000 in
theorem roundedDown_any (a b : Int) (w : World) (hb : 0 < b) (hb2 : b ≤ 1000000) (h1 : -2000000000000 ≤ a) (h2 : a ≤ 2000000000000) :
    Calls Try.prog 108 #[.int .i64 a, .int .i64 b] w fun e w' => e = .returned (.int .i64 (a / b)) ∧ w = w' := by
  have hq1 : -2000000000000 ≤ a / b := Int.le_ediv_of_mul_le hb (by have := Int.mul_le_mul_of_nonneg_left (c := 2000000000000) (show 1 ≤ b by omega) (by decide); rw [Int.neg_mul]; omega)
  have hq2 : a / b ≤ 2000000000000 := Int.ediv_le_of_le_mul hb (by have := Int.mul_le_mul_of_nonneg_left (c := 2000000000000) (show 1 ≤ b by omega) (by decide); omega)
  have hb0 : ¬ b = 0 := by omega
  by_cases ha : a < 0
  · by_cases hm : a.tmod b = 0
    · have hd := hid (down_zero hm)
      have hm2 : (a.tmod b != 0) = false := by rw [bne_eq_false_iff_eq]; exact hm
      have hd2 := hd.out
      clear hm
      go_enter Try.func108, Try.ntmps108
      go_wp2
      go_ret
      exact ⟨rfl, rfl⟩
    · have hd := hid (down_neg hb ha hm)
      have hm2 : (a.tmod b != 0) = true := by rw [bne_iff_ne]; exact hm
      have t1 : -2000000000000 ≤ a.tdiv b := by have := hd.out; omega
      have t2 : a.tdiv b ≤ 2000000000001 := by have := hd.out; omega
      clear hm
      go_enter Try.func108, Try.ntmps108
      go_wp2
      go_ret
      exact ⟨ret_int hd.out, rfl⟩
  · go_enter Try.func108, Try.ntmps108
    go_wp2
    go_ret
    exact ⟨rfl, rfl⟩

set_option maxRecDepth 100000 in
set_option maxHeartbeats 4000000 in
theorem floorDiv_any (a b : Int) (w : World) (hb : 0 < b) (hb2 : b ≤ 1000000) (h1 : -2000000000000 ≤ a) (h2 : a ≤ 2000000000000) :
    Calls Try.prog 71 #[.int .i64 a, .int .i64 b] w fun e w' => e = .returned (.int .i64 (a / b)) ∧ w = w' := by
  have hq1 : -2000000000000 ≤ a / b := Int.le_ediv_of_mul_le hb (by have := Int.mul_le_mul_of_nonneg_left (c := 2000000000000) (show 1 ≤ b by omega) (by decide); rw [Int.neg_mul]; omega)
  have hq2 : a / b ≤ 2000000000000 := Int.ediv_le_of_le_mul hb (by have := Int.mul_le_mul_of_nonneg_left (c := 2000000000000) (show 1 ≤ b by omega) (by decide); omega)
  have hb0 : ¬ b = 0 := by omega
  by_cases ha : a < 0
  · by_cases hm : a.tmod b = 0
    · have hd2 := down_zero hm
      have hm2 : decide (a.tmod b < 0) = false := decide_eq_false (by omega)
      have hm3 : 0 ≤ a.tmod b := by omega
      clear hm
      go_enter Try.func71, Try.ntmps71
      go_wp2
      go_ret
      exact ⟨rfl, rfl⟩
    · have hd := hid (down_neg hb ha hm)
      have hm3 : a.tmod b < 0 := tmod_sign.2 ⟨ha, hm⟩
      have hm2 : decide (a.tmod b < 0) = true := decide_eq_true hm3
      have t1 : -2000000000000 ≤ a.tdiv b := by have := hd.out; omega
      have t2 : a.tdiv b ≤ 2000000000001 := by have := hd.out; omega
      clear hm
      go_enter Try.func71, Try.ntmps71
      go_wp2
      go_ret
      exact ⟨ret_int hd.out, rfl⟩
  · have hm3 := Int.emod_nonneg a hb0
    have hm2 : decide (a % b < 0) = false := decide_eq_false (by omega)
    go_enter Try.func71, Try.ntmps71
    go_wp2
    go_ret
    exact ⟨rfl, rfl⟩

/-- The closure of tide: whether a mark is behind the minute; m and the minute lie in boxes. -/
theorem later_any {w : World} {B0 n c gm gt : Nat} {A : Option Addr} {F L : Nat → Int} {t : Int} (i : Nat) (h : Pa w B0 A n F L) (hi : i < n) (hm : w.cell? ⟨gm, 0, none⟩ = some (.slice A n c)) (ht : w.cell? ⟨gt, 0, none⟩ = some (.int .i64 t)) :
    Calls Try.prog 107 #[.int .i64 i, .pointer (some ⟨gm, 0, none⟩), .pointer (some ⟨gt, 0, none⟩)] w fun e w' => e = .returned (.bool (decide (t < F i))) ∧ ∃ k, w' = w.drewN k := by
  obtain ⟨ad, hA, hl, q0, q1, qf, qs⟩ := h.at_ i hi
  subst hA
  go_enter Try.func107, Try.ntmps107
  go_wp2
  go_quiet (fail)
  go_wp2
  go_ret
  exact ⟨rfl, _, rfl⟩

/-- i is the first mark behind t. -/
structure Fst (n : Nat) (F : Nat → Int) (t : Int) (i : Nat) : Prop where
  le : i ≤ n
  lo : ∀ j, j < i → F j ≤ t
  hi : i < n → t < F i

set_option maxRecDepth 100000 in
set_option maxHeartbeats 8000000 in
theorem Search_any {w : World} {B0 n c gm gt : Nat} {A : Option Addr} {F L : Nat → Int} {t : Int} (h : Pa w B0 A n F L) (hS : Sea n F L) (hm : w.cell? ⟨gm, 0, none⟩ = some (.slice A n c)) (ht : w.cell? ⟨gt, 0, none⟩ = some (.int .i64 t)) :
    Calls Try.prog 106 #[.int .i64 n, .func (.func 107) #[] #[.pointer (some ⟨gm, 0, none⟩), .pointer (some ⟨gt, 0, none⟩)]] w fun e w' => ∃ i : Nat, e = .returned (.int .i64 i) ∧ Hid (Fst n F t i) ∧ ∃ k, w' = w.drewN k := by
  have hn := hS.most
  have hcall : ∀ (i q : Nat), i < n → Calls Try.prog 107 #[.int .i64 i, .pointer (some ⟨gm, 0, none⟩), .pointer (some ⟨gt, 0, none⟩)] (w.drewN q) fun e w' => e = .returned (.bool (decide (t < F i))) ∧ ∃ k, w' = w.drewN k := fun i q hi =>
    (later_any (c := c) i (h.below (below_drewN (Below.refl _ _) q)) hi hm ht).mono fun _ _ ⟨he, k, hk⟩ => ⟨he, q + k, by rw [hk, World.drewN_drewN]⟩
  have Hcall := hid hcall
  have HS := hid hS
  clear hcall h hS hm ht
  go_enter Try.func106, Try.ntmps106
  go_wp2_with fail
  go_loopw [5, 6, 7] (fun lv hv _ wr => ∃ (lo hi q : Nat), lo ≤ hi ∧ hi ≤ n ∧ lv = .int .i64 lo ∧ hv = .int .i64 hi ∧ Hid (∀ j, j < lo → F j ≤ t) ∧ Hid (∀ j, hi ≤ j → j < n → t < F j) ∧ wr = w.drewN q) (fun lv hv _ _ => (intOf hv).toNat - (intOf lv).toNat)
  case atStart => exact ⟨0, n, 0, Nat.zero_le _, Nat.le_refl _, rfl, rfl, hid (fun j hj => absurd hj (Nat.not_lt_zero _)), hid (fun j h1 h2 => by omega), rfl⟩
  case round =>
    obtain ⟨lo, hi, q, h1, h2, rfl, rfl, HL, HH, rfl⟩ := hrel
    by_cases hlt : lo < hi
    · obtain ⟨M, hM⟩ : ∃ M, (lo + hi) / 2 = M := ⟨_, rfl⟩
      have m1 : lo ≤ M := by omega
      have m2 : M < hi := by omega
      have hME : ((lo : Int) + (hi : Int)) / 2 = (M : Int) := by omega
      have HM := hid hM
      clear hM
      by_cases hc : t < F M
      · have hd : decide (t < F M) = true := decide_eq_true hc
        have HH2 := hid (show ∀ j, M ≤ j → j < n → t < F j from fun j a b => by have := HS.out.mono j M a b; omega)
        go_wp2_with fail
        refine (Hcall.out M q (by omega)).mono ?_
        rintro e w2 ⟨rfl, k, hk⟩
        rw [hd]
        have HK := hid hk
        clear hME hd hc hk
        go_wp2
        go_roundw
        case rel => exact ⟨lo, M, k, by omega, by omega, rfl, rfl, HL, HH2, HK.out⟩
        case measure => simp [intOf]; omega
      · have hd : decide (t < F M) = false := decide_eq_false hc
        have HL2 := hid (show ∀ j, j < M + 1 → F j ≤ t from fun j a => by have := HS.out.mono M j (by omega) (by omega); omega)
        go_wp2_with fail
        refine (Hcall.out M q (by omega)).mono ?_
        rintro e w2 ⟨rfl, k, hk⟩
        rw [hd]
        have HK := hid hk
        clear hME hd hc hk
        go_wp2
        go_roundw
        case rel => exact ⟨M + 1, hi, k, by omega, by omega, by go_num, rfl, HL2, HH, HK.out⟩
        case measure => simp [intOf]; omega
    · obtain rfl : lo = hi := by omega
      have HE := hid (show Fst n F t lo from ⟨h2, HL.out, fun hl => HH.out lo (Nat.le_refl _) hl⟩)
      go_wp2
      go_ret
      exact ⟨lo, rfl, HE, q, rfl⟩

theorem Bk.c1 {W : World} {g : Nat} {a : Value} {T : TypeId} (h : Bk W g (.cells #[a] T (0, 0))) : W.cell? ⟨g, 0, none⟩ = some a := by
  have hh := fun i => cell_of_row W g i _ T (0, 0) h
  exact (hh 0).trans rfl

set_option maxRecDepth 100000 in
set_option maxHeartbeats 8000000 in
theorem tide_any {w : World} {B0 n c : Nat} {A : Option Addr} {F L : Nat → Int} {t : Int} (h : Pa w B0 A n F L) (hS : Sea n F L) (hn : 0 < n) (t1 : 0 ≤ t) (t2 : t ≤ 1000000) :
    Calls Try.prog 94 #[.slice A n c, .int .i64 t] w fun e w' => ∃ r : Int, e = .returned (.int .i64 r) ∧ Hid (Td n F L t r) ∧ Below w.heap.size w w' := by
  have hnm := hS.most
  obtain ⟨g, hg⟩ : ∃ g, w.heap.size = g := ⟨_, rfl⟩
  have hb0 := ((Below.refl w.heap.size w).alloc (Nat.le_refl _) (.cells #[.slice A n c] 23)).alloc (by simp) (.cells #[.int .i64 t] 3)
  have j1 := (Bk.of_alloc w (.cells #[.slice A n c] 23) hg).alloc (.cells #[.int .i64 t] 3)
  have j2 : Bk _ (g + 1) _ := Bk.of_alloc (w.alloc (.cells #[.slice A n c] 23)) (.cells #[.int .i64 t] 3) (by simp [hg])
  have hp := h.below (hb0.mono (Nat.le_refl _))
  go_enter Try.func94, Try.ntmps94
  go_wp2_with fail
  generalize (w.alloc (.cells #[.slice A n c] 23)).alloc (.cells #[.int .i64 t] 3) = W0 at *
  have HB0 := hid hb0
  have Hg := hid hg
  clear hb0 hg h
  refine (Search_any hp hS j1.c1 j2.c1).mono ?_
  rintro e w1 ⟨i, rfl, HF, k, rfl⟩
  have hq : Below W0.heap.size W0 (W0.drewN k) := below_drewN (Below.refl _ _) k
  have HB1 := hid (bthen HB0.out hq (Nat.le_refl _))
  have p1 := hp.below hq
  have i1 := j1.step hq
  have i2 := j2.step hq
  clear hp j1 j2 hq
  generalize W0.drewN k = W1 at *
  have x0 := i1.c1
  have x1 := i2.c1
  by_cases hi0 : i = 0
  · have e1 : ((i : Int) == 0) = true := by rw [beq_iff_eq]; omega
    obtain ⟨ad, hA, hl, q0, q1, qf, qs⟩ := p1.at_ 0 hn
    subst hA
    rw [Nat.zero_mul, addr_zero] at q0 q1
    have HE := hid (show Td n F L t (L 0) from .inl ⟨by have := HF.out.hi (by omega); rw [hi0] at this; omega, rfl⟩)
    have HI := hid hi0
    clear hi0
    go_wp2
    go_ret
    exact ⟨_, rfl, HE, HB1.out⟩
  · have e1 : ((i : Int) == 0) = false := by rw [beq_eq_false_iff_ne]; omega
    have hin := HF.out.le
    obtain ⟨ad, hA, hl, q0, q1, qf, qs⟩ := p1.at_ (i - 1) (by omega)
    subst hA
    have hi1 : (1 : Int) ≤ (i : Int) := by omega
    have hl2 := Nat.lt_of_lt_of_le hl p1.le
    obtain ⟨gb, hgb⟩ : ∃ gb, W1.heap.size = gb := ⟨_, rfl⟩
    have jb := Bk.of_alloc W1 (.cells #[.int .i64 (F (i - 1)), .int .i64 (L (i - 1))] 110) hgb
    have ha := alo (W := W1) (o := (.cells #[.int .i64 (F (i - 1)), .int .i64 (L (i - 1))] 110))
    have p2 := p1.below ha
    have k1 := i1.step ha
    have k2 := i2.step ha
    have HB2 := hid (bthen HB1.out ha (Nat.le_refl _))
    have iw2 : ((i : Int) - 1).toNat = i - 1 := by omega
    go_upto_region 5 with (fail)
    generalize W1.alloc (.cells #[.int .i64 (F (i - 1)), .int .i64 (L (i - 1))] 110) = W2 at *
    have Hgb := hid hgb
    clear x0 x1 q0 q1 hgb p1 i1 i2 ha iw2
    have x0 := k1.c1
    have x1 := k2.c1
    obtain ⟨b0, b1⟩ := jb.c2
    have lo := hid (HF.out.lo (i - 1) (by omega))
    by_cases hil : i = n
    · have e2 : ((i : Int) == (n : Int)) = true := by rw [beq_iff_eq]; omega
      have HE := hid (show Td n F L t (L (i - 1)) from .inr (.inl ⟨by rw [← hil]; exact lo.out, by rw [hil]⟩))
      have HI := hid hil
      clear hil
      go_wp2
      go_ret
      exact ⟨_, rfl, HE, HB2.out⟩
    · have e2 : ((i : Int) == (n : Int)) = false := by rw [beq_eq_false_iff_ne]; omega
      have hlt : i < n := by omega
      obtain ⟨ad', hA', hl', r0, r1, rf, rs⟩ := p2.at_ i hlt
      injection hA' with hA'
      subst hA'
      obtain ⟨m, hm⟩ : ∃ m, i = m + 1 := ⟨i - 1, by omega⟩
      have hi' := HF.out.hi hlt
      have lo' := lo.out
      have u := hS.up (i - 1) (by omega)
      rw [Nat.sub_add_cancel (by omega)] at u
      have sb := seg_bd hS (i := i - 1) (by omega) lo' (by rw [Nat.sub_add_cancel (by omega)]; omega)
      rw [Nat.sub_add_cancel (by omega)] at sb
      have fl := hS.f i hlt
      have fl' := hS.f (i - 1) (by omega)
      have ll := hS.l i hlt
      have ll' := hS.l (i - 1) (by omega)
      have HE := hid (show Td n F L t (L (i - 1) + (L i - L (i - 1)) * (t - F (i - 1)) / (F i - F (i - 1))) from .inr (.inr ⟨i - 1, by omega, lo', by rw [Nat.sub_add_cancel (by omega)]; omega, by unfold seg; rw [Nat.sub_add_cancel (by omega)]⟩))
      have Hm := hid hm
      clear hm hil
      go_wp2
      have y1 : IntKind.i64.wrap (L i - L (i - 1)) = L i - L (i - 1) := IntWalk.i64_in _ (by omega)
      have y2 : IntKind.i64.wrap (F i - F (i - 1)) = F i - F (i - 1) := IntWalk.i64_in _ (by omega)
      go_quiet (fail)
      clear y1 y2
      have p3 := p2.below (below_drewN (Below.refl W2.heap.size W2) nq)
      have k3 := k1.step (below_drewN (Below.refl W2.heap.size W2) nq)
      have k4 := k2.step (below_drewN (Below.refl W2.heap.size W2) nq)
      have jb3 := jb.step (below_drewN (Below.refl W2.heap.size W2) nq)
      have HB3 := hid (HB2.out.drewN' nq)
      clear x0 x1 b0 b1 r0 r1
      generalize W2.drewN nq = W3 at *
      have x0 := k3.c1
      have x1 := k4.c1
      obtain ⟨b0, b1⟩ := jb3.c2
      go_wp2
      have y1 : IntKind.i64.wrap (t - F (i - 1)) = t - F (i - 1) := IntWalk.i64_in _ (by omega)
      have y2 : IntKind.i64.wrap ((L i - L (i - 1)) * (t - F (i - 1))) = (L i - L (i - 1)) * (t - F (i - 1)) := IntWalk.i64_in _ (by omega)
      have y3 : IntKind.i64.wrap (L (i - 1) + (L i - L (i - 1)) * (t - F (i - 1)) / (F i - F (i - 1))) = L (i - 1) + (L i - L (i - 1)) * (t - F (i - 1)) / (F i - F (i - 1)) := IntWalk.i64_in _ (by omega)
      have hcall := fun W : World => roundedDown_any ((L i - L (i - 1)) * (t - F (i - 1))) (F i - F (i - 1)) W (by omega) (by omega) (by omega) (by omega)
      have Hcall := hid hcall
      clear hcall
      go_quiet ((go_at_call 108; exact quiet_left (Hcall.out _)))
      clear y1 y2 y3
      go_wp2
      go_ret
      exact ⟨_, rfl, HE, HB3.out.drewN' _⟩

end Go.Proofs.Ytockfiobhmohnaa

namespace Go.Proofs.Ytockfiobhmohnaa
open Go.RowKit Kb Wb

theorem two_news (w : World) (o1 o2 : Obj) : Bk ((w.alloc o1).alloc o2).drew w.heap.size o1 ∧ Bk ((w.alloc o1).alloc o2).drew (w.heap.size + 1) o2 ∧ Below w.heap.size w ((w.alloc o1).alloc o2).drew :=
  ⟨(Bk.of_alloc w o1 rfl).alloc o2, Bk.of_alloc (w.alloc o1) o2 (by simp), (((Below.refl _ _).alloc (Nat.le_refl _) o1).alloc (by simp) o2).drew⟩

set_option maxRecDepth 100000 in
set_option maxHeartbeats 8000000 in
theorem rAt_any {w : World} {B0 n c : Nat} {A : Option Addr} {F L : Nat → Int} {t : Int} (h : Pa w B0 A n F L) (hS : Sea n F L) (hn : 0 < n) (t1 : 0 ≤ t) (t2 : t ≤ 1000000) :
    Calls Try.prog 46 #[.slice A n c, .int .i64 t] w fun e w' => ∃ r : Int, e = .returned (.int .i64 r) ∧ Hid (Td n F L t r) ∧ Below w.heap.size w w' := by
  have hnm := hS.most
  obtain ⟨ad, hA, hl, q0, q1, qf, qs⟩ := h.at_ 0 hn
  subst hA
  rw [Nat.zero_mul, addr_zero] at q0 q1
  by_cases h0 : t ≤ F 0
  · have HE := hid (show Td n F L t (L 0) from .inl ⟨h0, rfl⟩)
    go_enter Try.func46, Try.ntmps46
    go_wp2
    go_ret
    exact ⟨_, rfl, HE, Below.refl _ _⟩
  · have hd : decide (t ≤ F 0) = false := decide_eq_false h0
    go_enter Try.func46, Try.ntmps46
    go_wp2_with fail
    clear hd q0 q1
    go_loop [5, 6, 7] (fun iv _ _ => ∃ i : Nat, 1 ≤ i ∧ i ≤ n ∧ iv = .int .i64 i ∧ Hid (F (i - 1) < t)) (fun iv _ _ => n - (intOf iv).toNat)
    case atStart => exact ⟨1, Nat.le_refl _, hn, rfl, hid (by show F 0 < t; omega)⟩
    case round =>
      obtain ⟨i, hi1, hi, rfl, HF⟩ := hrel
      by_cases hlt : i < n
      · obtain ⟨ad', hA', hl', r0, r1, rf, rs⟩ := h.at_ i hlt
        injection hA' with hA'
        subst hA'
        by_cases hc : t ≤ F i
        · obtain ⟨ad', hA', hl', s0, s1, sf, ss⟩ := h.at_ (i - 1) (by omega)
          injection hA' with hA'
          subst hA'
          have hi1' : (1 : Int) ≤ (i : Int) := by omega
          go_wp2_with fail
          have w1 : IntKind.i64.wrap ((i : Int) - 1) = (i : Int) - 1 := IntWalk.i64_in _ (by omega)
          have w2 : ((i : Int) - 1).toNat = i - 1 := by omega
          have w3 : (0 : Int) ≤ (i : Int) - 1 := by omega
          have w4 : (i : Int) - 1 < (n : Int) := by omega
          have hsb : ∀ w', Below w.heap.size w w' → w'.cell? (ad.add (i * 2)) = some (.int .i64 (F i)) ∧ w'.cell? ⟨(ad.add (i * 2)).block, (ad.add (i * 2)).off + 1, none⟩ = some (.int .i64 (L i)) ∧ w'.cell? (ad.add ((i - 1) * 2)) = some (.int .i64 (F (i - 1))) ∧ w'.cell? ⟨(ad.add ((i - 1) * 2)).block, (ad.add ((i - 1) * 2)).off + 1, none⟩ = some (.int .i64 (L (i - 1))) := fun w' hb => by
            have l := Nat.lt_of_lt_of_le hl h.le
            exact ⟨(hb.cell (p := ad.add (i * 2)) (in_add l)).trans r0, (hb.cell (p := ⟨(ad.add (i * 2)).block, (ad.add (i * 2)).off + 1, none⟩) (in_add l)).trans r1, (hb.cell (p := ad.add ((i - 1) * 2)) (in_add l)).trans s0, (hb.cell (p := ⟨(ad.add ((i - 1) * 2)).block, (ad.add ((i - 1) * 2)).off + 1, none⟩) (in_add l)).trans s1⟩
          have HSB := hid hsb
          clear hsb
          go_region_held3 (fun w' => w'.cell? (ad.add (i * 2)) = some (.int .i64 (F i)) ∧ w'.cell? ⟨(ad.add (i * 2)).block, (ad.add (i * 2)).off + 1, none⟩ = some (.int .i64 (L i)) ∧ w'.cell? (ad.add ((i - 1) * 2)) = some (.int .i64 (F (i - 1))) ∧ w'.cell? ⟨(ad.add ((i - 1) * 2)).block, (ad.add ((i - 1) * 2)).off + 1, none⟩ = some (.int .i64 (L (i - 1)))) ((refine HSB.out _ ?_; repeat (first | with_reducible exact Below.refl _ _ | with_reducible refine Below.drew ?_ | (with_reducible refine Below.alloc ?_ (by simp) _) | (with_reducible refine Below.setCell ?_ (by simp) _)))) (fail)
          all_goals
            clear w1 w2 w3 w4 r0 r1 s0 s1
            have lo' := HF.out
            have u := hS.up (i - 1) (by omega)
            rw [Nat.sub_add_cancel (by omega)] at u
            have sb := seg_bd hS (i := i - 1) (t := t) (by omega) (by omega) (by rw [Nat.sub_add_cancel (by omega)]; omega)
            rw [Nat.sub_add_cancel (by omega)] at sb
            have fl := hS.f i hlt
            have fl' := hS.f (i - 1) (by omega)
            have ll := hS.l i hlt
            have ll' := hS.l (i - 1) (by omega)
            have HE := hid (show Td n F L t (L (i - 1) + (L i - L (i - 1)) * (t - F (i - 1)) / (F i - F (i - 1))) from .inr (.inr ⟨i - 1, by omega, by omega, by rw [Nat.sub_add_cancel (by omega)]; omega, by unfold seg; rw [Nat.sub_add_cancel (by omega)]⟩))
            have hcall := fun W : World => floorDiv_any ((L i - L (i - 1)) * (t - F (i - 1))) (F i - F (i - 1)) W (by omega) (by omega) (by omega) (by omega)
            have Hcall := hid hcall
            have y0 : IntKind.i64.wrap (L i - L (i - 1)) = L i - L (i - 1) := IntWalk.i64_in _ (by omega)
            have y1 : IntKind.i64.wrap (t - F (i - 1)) = t - F (i - 1) := IntWalk.i64_in _ (by omega)
            have y2 : IntKind.i64.wrap ((L i - L (i - 1)) * (t - F (i - 1))) = (L i - L (i - 1)) * (t - F (i - 1)) := IntWalk.i64_in _ (by omega)
            have y3 : IntKind.i64.wrap (L (i - 1) + (L i - L (i - 1)) * (t - F (i - 1)) / (F i - F (i - 1))) = L (i - 1) + (L i - L (i - 1)) * (t - F (i - 1)) / (F i - F (i - 1)) := IntWalk.i64_in _ (by omega)
            have y4 : IntKind.i64.wrap (F i - F (i - 1)) = F i - F (i - 1) := IntWalk.i64_in _ (by omega)
            clear hcall
          · have nw := two_news w (.cells #[.int .i64 (F (i - 1)), .int .i64 (L (i - 1))] 110) (.cells #[.int .i64 (F i), .int .i64 (L i)] 110)
            generalize ((w.alloc (.cells #[.int .i64 (F (i - 1)), .int .i64 (L (i - 1))] 110)).alloc (.cells #[.int .i64 (F i), .int .i64 (L i)] 110)).drew = W1 at *
            obtain ⟨m1, m2, mb⟩ := nw
            obtain ⟨b0, b1⟩ := m1.c2
            obtain ⟨d0, d1⟩ := m2.c2
            have HB := hid mb
            clear m1 m2 mb
            obtain ⟨g, hg⟩ : ∃ g, w.heap.size = g := ⟨_, rfl⟩
            rw [hg] at b0 b1 d0 d1
            go_wp2
            go_quiet ((go_at_call 71; exact quiet_left (Hcall.out _)))
            clear y0 y1 y2 y3 y4
            go_wp2
            go_ret
            exact ⟨_, rfl, HE, HB.out.drewN' _⟩
          · have nw := two_news w (.cells #[.int .i64 (F i), .int .i64 (L i)] 110) (.cells #[.int .i64 (F (i - 1)), .int .i64 (L (i - 1))] 110)
            generalize ((w.alloc (.cells #[.int .i64 (F i), .int .i64 (L i)] 110)).alloc (.cells #[.int .i64 (F (i - 1)), .int .i64 (L (i - 1))] 110)).drew = W1 at *
            obtain ⟨m1, m2, mb⟩ := nw
            obtain ⟨b0, b1⟩ := m1.c2
            obtain ⟨d0, d1⟩ := m2.c2
            have HB := hid mb
            clear m1 m2 mb
            obtain ⟨g, hg⟩ : ∃ g, w.heap.size = g := ⟨_, rfl⟩
            rw [hg] at b0 b1 d0 d1
            go_wp2
            go_quiet ((go_at_call 71; exact quiet_left (Hcall.out _)))
            clear y0 y1 y2 y3 y4
            go_wp2
            go_ret
            exact ⟨_, rfl, HE, HB.out.drewN' _⟩
        · have HF2 := hid (show F (i + 1 - 1) < t by rw [Nat.add_sub_cancel]; omega)
          go_wp2
          go_round
          case rel => exact ⟨i + 1, by omega, by omega, by go_num, HF2⟩
          case measure => simp [intOf]; omega
      · obtain rfl : i = n := by omega
        obtain ⟨ad', hA', hl', s0, s1, sf, ss⟩ := h.at_ (i - 1) (by omega)
        injection hA' with hA'
        subst hA'
        have hi1' : (1 : Int) ≤ (i : Int) := by omega
        have w2 : ((i : Int) - 1).toNat = i - 1 := by omega
        have HE := hid (show Td i F L t (L (i - 1)) from .inr (.inl ⟨by have := HF.out; omega, rfl⟩))
        go_wp2
        go_ret
        exact ⟨_, rfl, HE, Below.refl _ _⟩

end Go.Proofs.Ytockfiobhmohnaa

