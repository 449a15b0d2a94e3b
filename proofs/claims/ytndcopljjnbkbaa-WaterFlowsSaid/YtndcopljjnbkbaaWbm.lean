/- The mathematics of basins: volumes below levels, levels of volumes. No program is run in this text. -/
namespace Go.Proofs.Wb

/-- The height to which part i of the areas reaches, if the water stands at lv. -/
def wtop (F : Nat → Int) (n : Nat) (lv : Int) (i : Nat) : Int := if i + 1 < n then min lv (F (i + 1)) else lv
def wterm (F S : Nat → Int) (n : Nat) (lv : Int) (i : Nat) : Int := if F i < wtop F n lv i then S i * (wtop F n lv i - F i) else 0
/-- The volume in the first parts. -/
def wsum (F S : Nat → Int) (n : Nat) (lv : Int) : Nat → Int
  | 0 => 0
  | k + 1 => wsum F S n lv k + wterm F S n lv k
def wbelow (F S : Nat → Int) (n : Nat) (lv : Int) : Int := wsum F S n lv n

/-- A basin that is right, but for its name. -/
structure Bas (F S : Nat → Int) (n : Nat) (rim : Int) : Prop where
  pos : 0 < n
  most : n ≤ 20
  f : ∀ i, i < n → -1000000 ≤ F i ∧ F i ≤ 1000000
  s : ∀ i, i < n → 1 ≤ S i ∧ S i ≤ 1000000
  up : ∀ i, i + 1 < n → F i < F (i + 1)
  rl : F (n - 1) < rim
  rm : rim ≤ 1000000

section
variable {F S : Nat → Int} {n : Nat} {rim : Int}

theorem wtop_mono {a b : Int} (h : a ≤ b) (i : Nat) : wtop F n a i ≤ wtop F n b i := by
  unfold wtop; split <;> omega
theorem wterm_nonneg {a : Int} {i : Nat} (hs : 1 ≤ S i) : 0 ≤ wterm F S n a i := by
  unfold wterm
  split
  · exact Int.mul_nonneg (by omega) (by omega)
  · omega
theorem wterm_mono {a b : Int} (h : a ≤ b) {i : Nat} (hs : 1 ≤ S i) : wterm F S n a i ≤ wterm F S n b i := by
  have ht := wtop_mono (F := F) (n := n) h i
  unfold wterm
  split
  · rw [if_pos (by omega)]
    exact Int.mul_le_mul_of_nonneg_left (by omega) (by omega)
  · have := wterm_nonneg (F := F) (n := n) (a := b) hs
    unfold wterm at this; exact this
theorem wterm_le {a : Int} {i : Nat} (B : Bas F S n rim) (hi : i < n) (ha : a ≤ 1000000) : wterm F S n a i ≤ 2000000000000 := by
  have h1 := B.f i hi
  have h2 := B.s i hi
  have ht : wtop F n a i ≤ 1000000 := by unfold wtop; split <;> omega
  unfold wterm
  split
  · have h3 : wtop F n a i - F i ≤ 2000000 := by omega
    calc S i * (wtop F n a i - F i) ≤ S i * 2000000 := Int.mul_le_mul_of_nonneg_left h3 (by omega)
      _ ≤ 1000000 * 2000000 := Int.mul_le_mul_of_nonneg_right h2.2 (by omega)
      _ = 2000000000000 := by decide
  · omega
theorem wsum_range (B : Bas F S n rim) {a : Int} (ha : a ≤ 1000000) : ∀ k, k ≤ n → 0 ≤ wsum F S n a k ∧ wsum F S n a k ≤ k * 2000000000000
  | 0, _ => by simp [wsum]
  | k + 1, hk => by
    have ih := wsum_range B ha k (by omega)
    have h1 := wterm_le B (a := a) (i := k) (by omega) ha
    have h2 := wterm_nonneg (F := F) (n := n) (a := a) (B.s k (by omega)).1
    simp only [wsum]
    omega
theorem wsum_mono (B : Bas F S n rim) {a b : Int} (h : a ≤ b) : ∀ k, k ≤ n → wsum F S n a k ≤ wsum F S n b k
  | 0, _ => by simp [wsum]
  | k + 1, hk => by
    have ih := wsum_mono B h k (by omega)
    have h1 := wterm_mono (F := F) (n := n) h (B.s k (by omega)).1
    simp only [wsum]
    omega
theorem below_mono (B : Bas F S n rim) {a b : Int} (h : a ≤ b) : wbelow F S n a ≤ wbelow F S n b := wsum_mono B h n (Nat.le_refl _)
/-- Above the floor the volume grows with each millimetre. -/
theorem wsum_lt (B : Bas F S n rim) {a : Int} : ∀ k, k ≤ n → (k = n ∨ a < F k) → F 0 ≤ a → wsum F S n a k + 1 ≤ wsum F S n (a + 1) k
  | 0, _, h, h0 => by have := B.pos; omega
  | k + 1, hk, h, h0 => by
    by_cases hka : F k ≤ a
    · have h1 := wsum_mono B (a := a) (b := a + 1) (by omega) k (by omega)
      have h2 := B.s k (by omega)
      simp only [wsum]
      have t1 : wtop F n (a + 1) k = a + 1 := by
        unfold wtop; split <;> omega
      have t2 : wtop F n a k = a := by
        unfold wtop; split <;> omega
      have h3 : wterm F S n (a + 1) k = S k * (a + 1 - F k) := by unfold wterm; rw [t1, if_pos (by omega)]
      have h4 : wterm F S n a k = S k * (a - F k) := by
        unfold wterm; rw [t2]; split
        · rfl
        · rw [show a - F k = 0 by omega, Int.mul_zero]
      rw [h3, h4, show a + 1 - F k = (a - F k) + 1 by omega, Int.mul_add]
      omega
    · have ih := wsum_lt B (a := a) k (by omega) (.inr (by omega)) h0
      have h1 := wterm_mono (F := F) (n := n) (show a ≤ a + 1 by omega) (B.s k (by omega)).1
      simp only [wsum]
      omega
theorem below_succ (B : Bas F S n rim) {a : Int} (h0 : F 0 ≤ a) : wbelow F S n a + 1 ≤ wbelow F S n (a + 1) := wsum_lt B n (Nat.le_refl _) (.inl rfl) h0
theorem below_lt (B : Bas F S n rim) {a b : Int} (h0 : F 0 ≤ a) (h : a < b) : wbelow F S n a < wbelow F S n b := by
  have h1 := below_succ B h0
  have h2 := below_mono B (a := a + 1) (b := b) (by omega)
  omega
theorem F_mono (B : Bas F S n rim) : ∀ j i, i ≤ j → j < n → F i ≤ F j
  | 0, i, h, _ => by have : i = 0 := by omega
                     subst this; exact Int.le_refl _
  | j + 1, i, h, hj => by
    by_cases e : i = j + 1
    · subst e; exact Int.le_refl _
    · have h1 := F_mono B j i (by omega) (by omega)
      have h2 := B.up j hj
      omega
theorem below_floor (B : Bas F S n rim) {a : Int} (h : a ≤ F 0) : wbelow F S n a = 0 := by
  suffices H : ∀ k, k ≤ n → wsum F S n a k = 0 from H n (Nat.le_refl _)
  intro k
  induction k with
  | zero => intro _; rfl
  | succ k ih =>
    intro hk
    simp only [wsum]
    rw [ih (by omega)]
    have h1 := F_mono B k 0 (by omega) (by omega)
    have h2 : wtop F n a k ≤ a := by unfold wtop; split <;> omega
    unfold wterm
    rw [if_neg (by omega)]; omega
theorem floor_rim (B : Bas F S n rim) : F 0 < rim := by
  have h := F_mono B (n - 1) 0 (by omega) (by have := B.pos; omega)
  have := B.rl; omega
theorem below_nonneg (B : Bas F S n rim) {a : Int} (ha : a ≤ 1000000) : 0 ≤ wbelow F S n a ∧ wbelow F S n a ≤ 40000000000000 := by
  have h := wsum_range B ha n (Nat.le_refl _)
  have := B.most
  unfold wbelow
  omega

/-- l is the level of v litres. -/
structure Lev (F S : Nat → Int) (n : Nat) (rim v l : Int) : Prop where
  lo : F 0 ≤ l
  hi : l ≤ rim
  at_ : wbelow F S n l ≤ v
  next : l < rim → v < wbelow F S n (l + 1)
theorem Lev.same (B : Bas F S n rim) {v l l' : Int} (h : Lev F S n rim v l) (k : Lev F S n rim v l') : l = l' := by
  rcases Int.lt_trichotomy l l' with e | e | e
  · have h1 := h.next (by have := k.hi; omega)
    have h2 := below_mono B (a := l + 1) (b := l') (by omega)
    have := k.at_; omega
  · exact e
  · have h1 := k.next (by have := h.hi; omega)
    have h2 := below_mono B (a := l' + 1) (b := l) (by omega)
    have := h.at_; omega
theorem Lev.of_below (B : Bas F S n rim) {l : Int} (h0 : F 0 ≤ l) (h1 : l ≤ rim) : Lev F S n rim (wbelow F S n l) l :=
  ⟨h0, h1, Int.le_refl _, fun _ => by have := below_succ B h0; omega⟩
/-- One step of the search by halves: middle is low or high. -/
theorem Lev.step {v lo hi : Int} (h0 : F 0 ≤ lo) (hr : hi ≤ rim) (h1 : wbelow F S n lo ≤ v) (h2 : hi < rim → v < wbelow F S n (hi + 1)) (e : lo = hi) : Lev F S n rim v lo := by
  subst e; exact ⟨h0, hr, h1, h2⟩
end
end Go.Proofs.Wb
