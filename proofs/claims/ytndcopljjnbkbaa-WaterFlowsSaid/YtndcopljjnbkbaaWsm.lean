/- The mathematics of the sea: its level at a minute, and the marks at which it is highest. No program is run in this text. -/
namespace Go.Proofs.Wb

/-- Marks that are right. -/
structure Sea (n : Nat) (F L : Nat → Int) : Prop where
  most : n ≤ 400
  f : ∀ i, i < n → 0 ≤ F i ∧ F i ≤ 1000000
  l : ∀ i, i < n → -1000000 ≤ L i ∧ L i ≤ 1000000
  up : ∀ i, i + 1 < n → F i < F (i + 1)
section
variable {n : Nat} {F L : Nat → Int}
theorem Sea.mono (h : Sea n F L) : ∀ j i, i ≤ j → j < n → F i ≤ F j
  | 0, i, hi, _ => by have : i = 0 := by omega
                      subst this; exact Int.le_refl _
  | j + 1, i, hi, hj => by
    by_cases e : i = j + 1
    · subst e; exact Int.le_refl _
    · have h1 := h.mono j i (by omega) (by omega)
      have h2 := h.up j hj
      omega
theorem Sea.lt (h : Sea n F L) {i j : Nat} (hi : i < j) (hj : j < n) : F i < F j := by
  have h1 := h.up i (by omega)
  have h2 := h.mono j (i + 1) hi hj
  omega

/-- The level between two marks. -/
def seg (F L : Nat → Int) (i : Nat) (t : Int) : Int := L i + (L (i + 1) - L i) * (t - F i) / (F (i + 1) - F i)
/-- r is the level of the sea at t. -/
def Td (n : Nat) (F L : Nat → Int) (t r : Int) : Prop :=
  (t ≤ F 0 ∧ r = L 0) ∨ (F (n - 1) ≤ t ∧ r = L (n - 1)) ∨ ∃ i, i + 1 < n ∧ F i ≤ t ∧ t ≤ F (i + 1) ∧ r = seg F L i t
theorem seg_lo (i : Nat) : seg F L i (F i) = L i := by unfold seg; rw [Int.sub_self, Int.mul_zero, Int.zero_ediv]; omega
theorem seg_hi {i : Nat} (h : F i < F (i + 1)) : seg F L i (F (i + 1)) = L (i + 1) := by
  unfold seg; rw [Int.mul_ediv_cancel _ (by omega)]; omega
theorem Td.same (h : Sea n F L) (hn : 0 < n) {t r q : Int} (a : Td n F L t r) (b : Td n F L t q) : r = q := by
  have m0 := fun i hi => h.mono i 0 (Nat.zero_le _) hi
  have ml := fun i (hi : i < n) => h.mono (n - 1) i (by omega) (by omega)
  have z0 : ∀ i, i < n → F i ≤ F 0 → i = 0 := fun i hi e => by
    rcases Nat.eq_zero_or_pos i with e0 | e0
    · exact e0
    · have := h.lt e0 hi; omega
  have zl : ∀ i, i < n → F (n - 1) ≤ F i → i = n - 1 := fun i hi e => by
    rcases Nat.lt_or_ge i (n - 1) with e0 | e0
    · have := h.lt e0 (by omega); omega
    · omega
  -- the level at the ends of a part
  have k0 : ∀ i, i + 1 < n → F i ≤ t → t ≤ F 0 → seg F L i t = L 0 := fun i hi h1 h2 => by
    have e := z0 i (by omega) (by omega)
    subst e
    have : t = F 0 := by omega
    subst this
    exact seg_lo 0
  have kl : ∀ i, i + 1 < n → t ≤ F (i + 1) → F (n - 1) ≤ t → seg F L i t = L (n - 1) := fun i hi h1 h2 => by
    have e := zl (i + 1) hi (by omega)
    have ht : t = F (i + 1) := by have := ml (i + 1) hi; omega
    rw [ht, seg_hi (h.up i hi), e]
  have ks : ∀ i j, i < j → j + 1 < n → F j ≤ t → t ≤ F (i + 1) → seg F L i t = seg F L j t := fun i j hij hj h1 h2 => by
    have e : j = i + 1 := by
      rcases Nat.lt_or_ge (i + 1) j with e0 | e0
      · have := h.lt e0 (by omega); omega
      · omega
    subst e
    have ht : t = F (i + 1) := by omega
    rw [ht, seg_lo, seg_hi (h.up i (by omega))]
  rcases a with ⟨a1, rfl⟩ | ⟨a1, rfl⟩ | ⟨i, hi, a1, a2, rfl⟩ <;> rcases b with ⟨b1, rfl⟩ | ⟨b1, rfl⟩ | ⟨j, hj, b1, b2, rfl⟩
  · rfl
  · have e := z0 (n - 1) (by omega) (by omega); rw [e]
  · exact (k0 j hj b1 a1).symm
  · have e := z0 (n - 1) (by omega) (by omega); rw [e]
  · rfl
  · exact (kl j hj b2 a1).symm
  · exact k0 i hi a1 b1
  · exact kl i hi a2 b1
  · rcases Nat.lt_trichotomy i j with e | e | e
    · exact ks i j e hj b1 a2
    · subst e; rfl
    · exact (ks j i e hi a1 b2).symm
/-- The level at a part is between those of its marks; the bounds that a walk needs. -/
theorem seg_bd (h : Sea n F L) {i : Nat} (hi : i + 1 < n) {t : Int} (h1 : F i ≤ t) (h2 : t ≤ F (i + 1)) :
    (-2000000000000 ≤ (L (i + 1) - L i) * (t - F i) ∧ (L (i + 1) - L i) * (t - F i) ≤ 2000000000000) ∧ (-2000000 ≤ (L (i + 1) - L i) * (t - F i) / (F (i + 1) - F i) ∧ (L (i + 1) - L i) * (t - F i) / (F (i + 1) - F i) ≤ 2000000) := by
  have a := h.l i (by omega)
  have b := h.l (i + 1) hi
  have c := h.f i (by omega)
  have d := h.f (i + 1) hi
  have u := h.up i hi
  obtain ⟨R, hR⟩ : ∃ R, L (i + 1) - L i = R := ⟨_, rfl⟩
  obtain ⟨T, hT⟩ : ∃ T, t - F i = T := ⟨_, rfl⟩
  obtain ⟨D, hD⟩ : ∃ D, F (i + 1) - F i = D := ⟨_, rfl⟩
  rw [hR, hT, hD]
  have p1 : R * T ≤ 2000000 * T := Int.mul_le_mul_of_nonneg_right (by omega) (by omega)
  have p2 : -2000000 * T ≤ R * T := Int.mul_le_mul_of_nonneg_right (by omega) (by omega)
  have e1 : R * T / D ≤ 2000000 := by
    refine Int.ediv_le_of_le_mul (by omega) ?_
    omega
  have e2 : -2000000 ≤ R * T / D := by
    refine Int.le_ediv_of_mul_le (by omega) ?_
    omega
  exact ⟨⟨by omega, by omega⟩, e2, e1⟩

/-- Rounding down by the quotient that is nearer to 0. -/
theorem down_neg {a b : Int} (hb : 0 < b) (ha : a < 0) (hr : a.tmod b ≠ 0) : a.tdiv b - 1 = a / b := by
  have h := Int.tdiv_eq_ediv (a := a) (b := b)
  have hnd : ¬ (0 ≤ a ∨ b ∣ a) := fun h => h.elim (fun h => by omega) (fun h => hr (Int.tmod_eq_zero_of_dvd h))
  rw [if_neg hnd, Int.sign_eq_one_of_pos hb] at h
  omega
theorem down_zero {a b : Int} (hr : a.tmod b = 0) : a.tdiv b = a / b := by
  have h := Int.tdiv_eq_ediv (a := a) (b := b)
  rw [if_pos (.inr (Int.dvd_of_tmod_eq_zero hr))] at h
  omega
theorem down_nonneg {a b : Int} (ha : 0 ≤ a) : a.tdiv b = a / b := Int.tdiv_eq_ediv_of_nonneg ha
theorem tmod_sign {a b : Int} : (a.tmod b < 0 ↔ a < 0 ∧ a.tmod b ≠ 0) := by
  by_cases ha : 0 ≤ a
  · have := Int.tmod_nonneg b ha
    exact ⟨fun h => by omega, fun h => by omega⟩
  · have h1 := Int.neg_tmod a b
    have h2 := Int.tmod_nonneg b (show 0 ≤ -a by omega)
    exact ⟨fun h => ⟨by omega, by omega⟩, fun h => by omega⟩

/-- Mark i is one at which the sea is highest. -/
def Hw (n : Nat) (L : Nat → Int) (i : Nat) : Prop := (0 < i → L (i - 1) < L i) ∧ ∀ k, i < k → k < n → (∀ j, i < j → j < k → L j = L i) → L k ≠ L i → L k < L i
open Classical in
noncomputable def hwl (n : Nat) (L : Nat → Int) (k : Nat) : List Nat := (List.range k).filter fun i => decide (Hw n L i)
theorem hwl_zero : hwl n L 0 = [] := rfl
theorem hwl_yes {k : Nat} (h : Hw n L k) : hwl n L (k + 1) = hwl n L k ++ [k] := by
  unfold hwl
  rw [List.range_succ, List.filter_append]
  simp [h]
theorem hwl_no {k : Nat} (h : ¬ Hw n L k) : hwl n L (k + 1) = hwl n L k := by
  unfold hwl
  rw [List.range_succ, List.filter_append]
  simp [h]
theorem hwl_len (k : Nat) : (hwl n L k).length ≤ k := by
  unfold hwl
  have := List.length_filter_le (fun i => @decide (Hw n L i) (Classical.propDecidable _)) (List.range k)
  simpa using this
/-- k is the first mark behind i with another level, or there is none up to k = n. -/
theorem hw_iff {i k : Nat} (h0 : 0 < i → L (i - 1) < L i) (hk : i < k) (hkn : k ≤ n) (hs : ∀ j, i < j → j < k → L j = L i) (hd : k < n → L k ≠ L i) : Hw n L i ↔ (k = n ∨ L k < L i) := by
  constructor
  · intro h
    rcases Nat.lt_or_ge k n with e | e
    · exact .inr (h.2 k hk e hs (hd e))
    · exact .inl (by omega)
  · intro h
    refine ⟨h0, fun k' h1 h2 h3 h4 => ?_⟩
    rcases Nat.lt_trichotomy k' k with e | e | e
    · exact absurd (hs k' h1 e) h4
    · subst e
      rcases h with h | h
      · omega
      · exact h
    · exact absurd (h3 k hk e) (hd (by omega))
end
end Go.Proofs.Wb
