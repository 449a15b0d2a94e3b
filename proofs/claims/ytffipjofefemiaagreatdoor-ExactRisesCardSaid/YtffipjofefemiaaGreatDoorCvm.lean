/- Curves as rows of numbers: their values, and where a value is reached. No program in it. -/
namespace Go.Proofs.YtffipjofefemiaaGreatDoor
namespace Kc
/-- The sum of the first numbers of a row. -/
def sm (f : Nat → Rat) : Nat → Rat
  | 0 => 0
  | i + 1 => sm f i + f i
theorem sm_congr {f g : Nat → Rat} {n : Nat} (h : ∀ i, i < n → f i = g i) : sm f n = sm g n := by
  induction n with
  | zero => rfl
  | succ n ih => unfold sm; rw [ih (fun i hi => h i (by omega)), h n (by omega)]
theorem sm_le {f g : Nat → Rat} {n : Nat} (h : ∀ i, i < n → f i ≤ g i) : sm f n ≤ sm g n := by
  induction n with
  | zero => exact Rat.le_refl
  | succ n ih =>
    have h1 := ih (fun i hi => h i (by omega))
    have h2 := h n (by omega)
    unfold sm; grind
theorem sm_sub {f g : Nat → Rat} (n : Nat) : sm (fun i => f i - g i) n = sm f n - sm g n := by
  induction n with
  | zero => unfold sm; grind
  | succ n ih => unfold sm; grind
theorem sm_mul {f : Nat → Rat} (c : Rat) (n : Nat) : sm (fun i => c * f i) n = c * sm f n := by
  induction n with
  | zero => unfold sm; grind
  | succ n ih => unfold sm; grind
theorem sm_zero {f : Nat → Rat} {k n : Nat} (hk : k ≤ n) (h : ∀ i, k ≤ i → i < n → f i = 0) : sm f n = sm f k := by
  induction n with
  | zero => have : k = 0 := by omega
            subst this; rfl
  | succ n ih =>
    by_cases e : k = n + 1
    · subst e; rfl
    · have h1 := ih (by omega) (fun i h1 h2 => h i h1 (by omega))
      have h2 := h n (by omega) (by omega)
      have h3 : sm f (n + 1) = sm f n + f n := rfl
      rw [h3, h1, h2]; grind

/-- The starts are increasing. -/
def Inc (n : Nat) (X : Nat → Int) : Prop := ∀ i, i + 1 < n → X i < X (i + 1)
theorem Inc.lt {n : Nat} {X : Nat → Int} (h : Inc n X) {i j : Nat} (hij : i < j) (hj : j < n) : X i < X j := by
  induction j with
  | zero => omega
  | succ j ih =>
    have h1 := h j hj
    by_cases e : i = j
    · subst e; exact h1
    · have := ih (by omega) (by omega); omega
theorem Inc.le {n : Nat} {X : Nat → Int} (h : Inc n X) {i j : Nat} (hij : i ≤ j) (hj : j < n) : X i ≤ X j := by
  by_cases e : i = j
  · subst e; exact Int.le_refl _
  · have := h.lt (show i < j by omega) hj; omega
/-- The length of the part of piece i below y. -/
def pc (n : Nat) (X : Nat → Int) (i : Nat) (y : Rat) : Rat :=
  if y ≤ (X i : Rat) then 0 else if i + 1 < n ∧ (X (i + 1) : Rat) < y then (X (i + 1) : Rat) - (X i : Rat) else y - (X i : Rat)
/-- The value of a curve. -/
def vl (n : Nat) (X : Nat → Int) (Q : Nat → Rat) (y : Rat) : Rat := sm (fun i => Q i * pc n X i y) n
theorem cast_lt {a b : Int} (h : a < b) : (a : Rat) < (b : Rat) := Rat.intCast_lt_intCast.2 h
theorem cast_le {a b : Int} (h : a ≤ b) : (a : Rat) ≤ (b : Rat) := Rat.intCast_le_intCast.2 h
section
variable {n : Nat} {X : Nat → Int} {Q : Nat → Rat}
theorem pc_nonneg (h : Inc n X) {i : Nat} (y : Rat) : 0 ≤ pc n X i y := by
  unfold pc
  by_cases h1 : y ≤ (X i : Rat)
  · rw [if_pos h1]; exact Rat.le_refl
  · rw [if_neg h1]
    by_cases h2 : i + 1 < n ∧ (X (i + 1) : Rat) < y
    · rw [if_pos h2]
      have := cast_lt (h i h2.1); grind
    · rw [if_neg h2]; grind
theorem pc_mono (h : Inc n X) {i : Nat} {y z : Rat} (hyz : y ≤ z) : pc n X i y ≤ pc n X i z := by
  have hn := pc_nonneg h (i := i) z
  by_cases h1 : y ≤ (X i : Rat)
  · have : pc n X i y = 0 := by unfold pc; rw [if_pos h1]
    rw [this]; exact hn
  · unfold pc
    rw [if_neg h1, if_neg (show ¬ z ≤ (X i : Rat) by grind)]
    by_cases h2 : i + 1 < n ∧ (X (i + 1) : Rat) < y
    · rw [if_pos h2, if_pos ⟨h2.1, by grind⟩]; exact Rat.le_refl
    · rw [if_neg h2]
      by_cases h3 : i + 1 < n ∧ (X (i + 1) : Rat) < z
      · rw [if_pos h3]
        have : ¬ (X (i + 1) : Rat) < y := fun e => h2 ⟨h3.1, e⟩
        grind
      · rw [if_neg h3]; grind
/-- All pieces together. -/
theorem pc_all (h : Inc n X) (y : Rat) {m : Nat} (hm : m < n) : sm (fun i => pc n X i y) m = if y ≤ (X 0 : Rat) then 0 else if (X m : Rat) < y then (X m : Rat) - (X 0 : Rat) else y - (X 0 : Rat) := by
  induction m with
  | zero => unfold sm; by_cases h1 : y ≤ (X 0 : Rat)
            · rw [if_pos h1]
            · rw [if_neg h1, if_pos (Rat.not_le.1 h1)]; grind
  | succ m ih =>
    have e : sm (fun i => pc n X i y) (m + 1) = sm (fun i => pc n X i y) m + pc n X m y := rfl
    rw [e, ih (by omega)]
    have l1 := cast_lt (h m hm)
    have l0 := cast_le (h.le (Nat.zero_le m) (by omega))
    unfold pc
    by_cases h1 : y ≤ (X 0 : Rat)
    · rw [if_pos h1, if_pos h1, if_pos (by grind)]; grind
    · rw [if_neg h1, if_neg h1]
      by_cases h2 : (X m : Rat) < y
      · rw [if_pos h2, if_neg (Rat.not_le.2 h2)]
        by_cases h3 : (X (m + 1) : Rat) < y
        · rw [if_pos ⟨hm, h3⟩, if_pos h3]; grind
        · rw [if_neg (fun e => h3 e.2), if_neg h3]; grind
      · rw [if_neg h2, if_pos (Rat.not_lt.1 h2), if_neg (by grind)]; grind
theorem pc_total (h : Inc n X) (y : Rat) (hn : 0 < n) : sm (fun i => pc n X i y) n = if y ≤ (X 0 : Rat) then 0 else y - (X 0 : Rat) := by
  obtain ⟨m, rfl⟩ : ∃ m, n = m + 1 := ⟨n - 1, by omega⟩
  have e : sm (fun i => pc (m + 1) X i y) (m + 1) = sm (fun i => pc (m + 1) X i y) m + pc (m + 1) X m y := rfl
  have l0 := cast_le (h.le (Nat.zero_le m) (by omega))
  rw [e, pc_all h y (by omega)]
  unfold pc
  by_cases h1 : y ≤ (X 0 : Rat)
  · rw [if_pos h1, if_pos h1, if_pos (by grind)]; grind
  · rw [if_neg h1, if_neg h1]
    by_cases h2 : (X m : Rat) < y
    · rw [if_pos h2, if_neg (Rat.not_le.2 h2), if_neg (by omega)]; grind
    · rw [if_neg h2, if_pos (Rat.not_lt.1 h2)]; grind
/-- Pieces grow by no more than the way. -/
theorem pc_way (h : Inc n X) {y z : Rat} (hyz : y ≤ z) : sm (fun i => pc n X i z - pc n X i y) n ≤ z - y := by
  rw [sm_sub]
  by_cases hn : 0 < n
  · rw [pc_total h z hn, pc_total h y hn]
    by_cases h1 : z ≤ (X 0 : Rat)
    · rw [if_pos h1, if_pos (by grind)]; grind
    · rw [if_neg h1]
      by_cases h2 : y ≤ (X 0 : Rat)
      · rw [if_pos h2]; grind
      · rw [if_neg h2]; grind
  · have : n = 0 := by omega
    subst this; unfold sm; grind
theorem vl_mono (h : Inc n X) (hQ : ∀ i, i < n → 0 ≤ Q i) {y z : Rat} (hyz : y ≤ z) : vl n X Q y ≤ vl n X Q z :=
  sm_le fun i hi => Rat.mul_le_mul_of_nonneg_left (pc_mono h hyz) (hQ i hi)
theorem vl_nonneg (h : Inc n X) (hQ : ∀ i, i < n → 0 ≤ Q i) (y : Rat) : 0 ≤ vl n X Q y := by
  have : sm (fun _ => (0 : Rat)) n = 0 := by rw [sm_zero (k := 0) (Nat.zero_le _) (fun _ _ _ => rfl)]; rfl
  have h1 := sm_le (f := fun _ => (0 : Rat)) (g := fun i => Q i * pc n X i y) (n := n) fun i hi => Rat.mul_nonneg (hQ i hi) (pc_nonneg h y)
  rw [this] at h1; exact h1
theorem vl_steep (h : Inc n X) {M : Rat} (hM : 0 ≤ M) (hQM : ∀ i, i < n → Q i ≤ M) {y z : Rat} (hyz : y ≤ z) : vl n X Q z - vl n X Q y ≤ M * (z - y) := by
  unfold vl
  rw [← sm_sub]
  have h1 := sm_le (f := fun i => Q i * pc n X i z - Q i * pc n X i y) (g := fun i => M * (pc n X i z - pc n X i y)) (n := n) fun i hi => by
    have e : Q i * pc n X i z - Q i * pc n X i y = Q i * (pc n X i z - pc n X i y) := by grind
    rw [e]
    have := pc_mono h (i := i) hyz
    exact Rat.mul_le_mul_of_nonneg_right (hQM i hi) (by grind)
  rw [sm_mul] at h1
  exact Rat.le_trans h1 (Rat.mul_le_mul_of_nonneg_left (pc_way h hyz) hM)

/-- What the pieces ahead of i give as a whole. -/
def pre (X : Nat → Int) (Q : Nat → Rat) (i : Nat) : Rat := sm (fun j => Q j * ((X (j + 1) : Rat) - (X j : Rat))) i
/-- The value within piece i. -/
theorem vl_in (h : Inc n X) {i : Nat} (hi : i < n) {y : Rat} (h1 : (X i : Rat) ≤ y) (h2 : i + 1 < n → y ≤ (X (i + 1) : Rat)) : vl n X Q y = pre X Q i + Q i * (y - (X i : Rat)) := by
  have e1 : sm (fun j => Q j * pc n X j y) n = sm (fun j => Q j * pc n X j y) (i + 1) := sm_zero (by omega) fun j hj hjn => by
    have : pc n X j y = 0 := by
      unfold pc
      have h3 := h2 (by omega)
      have h4 := cast_le (h.le hj hjn)
      rw [if_pos (by grind)]
    rw [this]; grind
  have e2 : sm (fun j => Q j * pc n X j y) (i + 1) = sm (fun j => Q j * pc n X j y) i + Q i * pc n X i y := rfl
  have e3 : sm (fun j => Q j * pc n X j y) i = pre X Q i := sm_congr fun j hj => by
    have h3 := cast_lt (h.lt hj hi)
    have h4 := cast_le (h.le (show j + 1 ≤ i by omega) hi)
    have : pc n X j y = (X (j + 1) : Rat) - (X j : Rat) := by
      unfold pc
      rw [if_neg (by grind)]
      by_cases h5 : (X (j + 1) : Rat) < y
      · rw [if_pos ⟨by omega, h5⟩]
      · rw [if_neg (fun e => h5 e.2)]; grind
    show Q j * pc n X j y = _
    rw [this]
  have e4 : pc n X i y = y - (X i : Rat) := by
    unfold pc
    by_cases h3 : y ≤ (X i : Rat)
    · rw [if_pos h3]; grind
    · rw [if_neg h3, if_neg (fun e => by have := h2 e.1; grind)]
  unfold vl
  rw [e1, e2, e3, e4]
theorem vl_at (h : Inc n X) {i : Nat} (hi : i < n) : vl n X Q (X i : Rat) = pre X Q i := by
  rw [vl_in h hi Rat.le_refl (fun hl => by have := cast_lt (h i hl); grind)]
  grind
theorem vl_before (h : Inc n X) {y : Rat} (h1 : 0 < n → y ≤ (X 0 : Rat)) : vl n X Q y = 0 := by
  unfold vl
  rw [sm_zero (k := 0) (Nat.zero_le _) (fun j _ hj => by
    have h2 := cast_le (h.le (Nat.zero_le j) hj)
    have h3 := h1 (by omega)
    have : pc n X j y = 0 := by unfold pc; rw [if_pos (by grind)]
    rw [this]; grind)]
  rfl
/-- The sum that along makes: k pieces, the last one up to y. -/
def term (X : Nat → Int) (Q : Nat → Rat) (k : Nat) (y : Rat) (j : Nat) : Rat := Q j * ((if j + 1 < k then (X (j + 1) : Rat) else y) - (X j : Rat))
theorem along_vl (h : Inc n X) {k : Nat} {y : Rat} (hk : k ≤ n) (h1 : ∀ i, i < k → (X i : Rat) ≤ y) (h2 : ∀ i, k ≤ i → i < n → y < (X i : Rat)) : sm (term X Q k y) k = vl n X Q y := by
  match k with
  | 0 =>
    rw [vl_before h (fun hn => Rat.le_of_lt (h2 0 (Nat.le_refl _) hn))]; rfl
  | i + 1 =>
    rw [vl_in h (show i < n by omega) (h1 i (by omega)) (fun hl => Rat.le_of_lt (h2 (i + 1) (by omega) hl))]
    have e : sm (term X Q (i + 1) y) (i + 1) = sm (term X Q (i + 1) y) i + term X Q (i + 1) y i := rfl
    rw [e]
    have e1 : sm (term X Q (i + 1) y) i = pre X Q i := sm_congr fun j hj => by
      unfold term; rw [if_pos (by omega)]
    have e2 : term X Q (i + 1) y i = Q i * (y - (X i : Rat)) := by unfold term; rw [if_neg (by omega)]
    rw [e1, e2]

/-- Piece i is where Reach stops. -/
def Hit (n : Nat) (X : Nat → Int) (Q : Nat → Rat) (v : Rat) (i : Nat) : Prop := Q i ≠ 0 ∧ (i + 1 = n ∨ (v - pre X Q i) / Q i ≤ (X (i + 1) : Rat) - (X i : Rat))
/-- Where it stops there. -/
def hitAt (X : Nat → Int) (Q : Nat → Rat) (v : Rat) (i : Nat) : Rat := (X i : Rat) + (v - pre X Q i) / Q i
theorem div_le {a b c : Rat} (hc : 0 < c) : a / c ≤ b ↔ a ≤ b * c := by
  have := Rat.lt_div_iff (a := b) (b := a) hc
  grind
theorem div_pos {a c : Rat} (ha : 0 < a) (hc : 0 < c) : 0 < a / c := by
  rw [Rat.lt_div_iff hc]; grind
theorem left_pos (hQ : ∀ i, i < n → 0 ≤ Q i) {v : Rat} (hv : 0 < v) {i : Nat} (hi : i < n) (h : ∀ j, j < i → ¬ Hit n X Q v j) : 0 < v - pre X Q i := by
  induction i with
  | zero => unfold pre sm; grind
  | succ i ih =>
    have h1 := ih (by omega) (fun j hj => h j (by omega))
    have e : pre X Q (i + 1) = pre X Q i + Q i * ((X (i + 1) : Rat) - (X i : Rat)) := rfl
    have h2 := h i (by omega)
    by_cases h0 : Q i = 0
    · rw [e, h0]; grind
    · have hp : 0 < Q i := by have := hQ i (by omega); grind
      have h3 : ¬ (v - pre X Q i) / Q i ≤ (X (i + 1) : Rat) - (X i : Rat) := fun hh => h2 ⟨h0, .inr hh⟩
      rw [div_le hp] at h3
      rw [e]; grind
theorem div_mul {a b : Rat} (hb : b ≠ 0) : b * (a / b) = a := by
  rw [Rat.mul_comm]; exact Rat.div_mul_cancel hb
theorem hit_in (hQ : ∀ i, i < n → 0 ≤ Q i) {v : Rat} (hv : 0 < v) {i : Nat} (hi : i < n) (h : ∀ j, j < i → ¬ Hit n X Q v j) (hh : Hit n X Q v i) : 0 < Q i ∧ (X i : Rat) < hitAt X Q v i ∧ (i + 1 < n → hitAt X Q v i ≤ (X (i + 1) : Rat)) := by
  have hp : 0 < Q i := by have := hQ i hi; have := hh.1; grind
  have h1 := div_pos (left_pos hQ hv hi h) hp
  unfold hitAt
  refine ⟨hp, by grind, fun hl => ?_⟩
  rcases hh.2 with h2 | h2
  · omega
  · grind
theorem vl_hit (hI : Inc n X) (hQ : ∀ i, i < n → 0 ≤ Q i) {v : Rat} (hv : 0 < v) {i : Nat} (hi : i < n) (h : ∀ j, j < i → ¬ Hit n X Q v j) (hh : Hit n X Q v i) : vl n X Q (hitAt X Q v i) = v := by
  obtain ⟨hp, h1, h2⟩ := hit_in hQ hv hi h hh
  rw [vl_in hI hi (Rat.le_of_lt h1) h2]
  have e : hitAt X Q v i - (X i : Rat) = (v - pre X Q i) / Q i := by unfold hitAt; grind
  rw [e, div_mul (by grind)]; grind
/-- Ahead of it the value is less. -/
theorem vl_ahead (hI : Inc n X) (hQ : ∀ i, i < n → 0 ≤ Q i) {v : Rat} (hv : 0 < v) {i : Nat} (hi : i < n) (h : ∀ j, j < i → ¬ Hit n X Q v j) (hh : Hit n X Q v i) {y : Rat} (hy : y < hitAt X Q v i) : vl n X Q y < v := by
  obtain ⟨hp, h1, h2⟩ := hit_in hQ hv hi h hh
  have h3 := left_pos hQ hv hi h
  by_cases h4 : (X i : Rat) ≤ y
  · have e := vl_hit hI hQ hv hi h hh
    rw [vl_in hI hi (Rat.le_of_lt h1) h2] at e
    rw [vl_in hI hi h4 (fun hl => by have := h2 hl; grind)]
    have h5 : Q i * (y - (X i : Rat)) < Q i * (hitAt X Q v i - (X i : Rat)) := Rat.mul_lt_mul_of_pos_left (by grind) hp
    grind
  · have h5 := vl_mono (Q := Q) hI hQ (show y ≤ (X i : Rat) by grind)
    rw [vl_at hI hi] at h5
    grind
/-- A value that is taken is reached. -/
theorem hit_of (hI : Inc n X) (hQ : ∀ i, i < n → 0 ≤ Q i) {v z : Rat} (hv : 0 < v) (hz : vl n X Q z = v) : ¬ ∀ j, j < n → ¬ Hit n X Q v j := by
  intro h
  by_cases hn : 0 < n
  · obtain ⟨m, rfl⟩ : ∃ m, n = m + 1 := ⟨n - 1, by omega⟩
    have h1 := left_pos hQ hv (show m < m + 1 by omega) (fun j hj => h j (by omega))
    have h2 : Q m = 0 := Classical.byContradiction fun e => h m (by omega) ⟨e, .inl rfl⟩
    by_cases h3 : (X m : Rat) ≤ z
    · rw [vl_in hI (show m < m + 1 by omega) h3 (fun hl => by omega), h2] at hz
      grind
    · have h5 := vl_mono (Q := Q) hI hQ (show z ≤ (X m : Rat) by grind)
      rw [vl_at hI (show m < m + 1 by omega)] at h5
      grind
  · have : n = 0 := by omega
    subst this
    unfold vl sm at hz
    grind
/-- Where a value that is taken at z is reached: at z, or at a start. -/
theorem hit_where (hI : Inc n X) (hQ : ∀ i, i < n → 0 ≤ Q i) {v z : Rat} (hv : 0 < v) (hz : vl n X Q z = v) {i : Nat} (hi : i < n) (h : ∀ j, j < i → ¬ Hit n X Q v j) (hh : Hit n X Q v i) :
    hitAt X Q v i ≤ z ∧ (hitAt X Q v i = z ∨ (i + 1 < n ∧ hitAt X Q v i = (X (i + 1) : Rat))) := by
  obtain ⟨hp, h1, h2⟩ := hit_in hQ hv hi h hh
  have h3 : hitAt X Q v i ≤ z := Classical.byContradiction fun e => by
    have := vl_ahead hI hQ hv hi h hh (show z < hitAt X Q v i by grind)
    grind
  refine ⟨h3, ?_⟩
  have e := vl_hit hI hQ hv hi h hh
  rw [vl_in hI hi (Rat.le_of_lt h1) h2] at e
  by_cases h4 : hitAt X Q v i = z
  · exact .inl h4
  · right
    by_cases hl : i + 1 < n
    · refine ⟨hl, ?_⟩
      have h5 := h2 hl
      by_cases h6 : hitAt X Q v i = (X (i + 1) : Rat)
      · exact h6
      · exfalso
        -- a number between, within the piece
        by_cases h7 : z ≤ (X (i + 1) : Rat)
        · rw [vl_in hI hi (by grind) (fun _ => h7)] at hz
          have h8 : Q i * (hitAt X Q v i - (X i : Rat)) < Q i * (z - (X i : Rat)) := Rat.mul_lt_mul_of_pos_left (by grind) hp
          grind
        · have h8 := vl_mono (Q := Q) hI hQ (show (X (i + 1) : Rat) ≤ z by grind)
          rw [vl_at hI hl] at h8
          have e2 : pre X Q (i + 1) = pre X Q i + Q i * ((X (i + 1) : Rat) - (X i : Rat)) := rfl
          have h9 : Q i * (hitAt X Q v i - (X i : Rat)) < Q i * ((X (i + 1) : Rat) - (X i : Rat)) := Rat.mul_lt_mul_of_pos_left (by grind) hp
          grind
    · exfalso
      rw [vl_in hI hi (by grind) (fun hl' => by omega)] at hz
      have h8 : Q i * (hitAt X Q v i - (X i : Rat)) < Q i * (z - (X i : Rat)) := Rat.mul_lt_mul_of_pos_left (by grind) hp
      grind
end
end Kc

end Go.Proofs.YtffipjofefemiaaGreatDoor
