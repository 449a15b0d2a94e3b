/- Numbers as lists of limbs below 65536, the lowest first: values, digits, sums, differences, products and quotients digit by digit. Plain arithmetic, for all lists. -/
namespace Kb

/-- The value of limbs, the lowest first. -/
def val : List Nat → Nat
  | [] => 0
  | x :: l => x + 65536 * val l

def Lim (l : List Nat) : Prop := ∀ x, x ∈ l → x < 65536

/-- The i-th limb; 0 beyond the end. Closed to simp. -/
def nth (l : List Nat) (i : Nat) : Nat := l.getD i 0

theorem lim_nil : Lim [] := fun _ h => by cases h
theorem lim_cons {x : Nat} {l : List Nat} : Lim (x :: l) ↔ x < 65536 ∧ Lim l := by
  unfold Lim; simp
theorem lim_append {a b : List Nat} : Lim (a ++ b) ↔ Lim a ∧ Lim b := by
  unfold Lim; simp only [List.mem_append]
  exact ⟨fun h => ⟨fun x hx => h x (.inl hx), fun x hx => h x (.inr hx)⟩, fun h x hx => hx.elim (h.1 x) (h.2 x)⟩
theorem lim_nth {l : List Nat} (h : Lim l) (i : Nat) : nth l i < 65536 := by
  unfold nth
  rw [List.getD_eq_getElem?_getD]
  by_cases hi : i < l.length
  · rw [List.getElem?_eq_getElem hi]; exact h _ (List.getElem_mem hi)
  · rw [List.getElem?_eq_none (by omega)]; decide
theorem lim_take {l : List Nat} (h : Lim l) (k : Nat) : Lim (l.take k) := fun x hx => h x (List.mem_of_mem_take hx)
theorem lim_drop {l : List Nat} (h : Lim l) (k : Nat) : Lim (l.drop k) := fun x hx => h x (List.mem_of_mem_drop hx)

theorem nth_out {l : List Nat} {i : Nat} (h : l.length ≤ i) : nth l i = 0 := by
  unfold nth; rw [List.getD_eq_getElem?_getD, List.getElem?_eq_none h]; rfl
theorem nth_eq {l : List Nat} {i : Nat} (h : i < l.length) : nth l i = l[i] := by
  unfold nth; rw [List.getD_eq_getElem?_getD, List.getElem?_eq_getElem h]; rfl
theorem nth_append {a b : List Nat} {i : Nat} : nth (a ++ b) i = if i < a.length then nth a i else nth b (i - a.length) := by
  unfold nth
  simp only [List.getD_eq_getElem?_getD, List.getElem?_append]
  split <;> rfl
theorem nth_take {l : List Nat} {k i : Nat} (h : i < k) : nth (l.take k) i = nth l i := by
  unfold nth; simp only [List.getD_eq_getElem?_getD, List.getElem?_take, if_pos h]
theorem nth_drop {l : List Nat} {k i : Nat} : nth (l.drop k) i = nth l (k + i) := by
  unfold nth; simp only [List.getD_eq_getElem?_getD, List.getElem?_drop]
theorem nth_cons_zero {x : Nat} {l : List Nat} : nth (x :: l) 0 = x := rfl
theorem nth_cons_succ {x : Nat} {l : List Nat} {i : Nat} : nth (x :: l) (i + 1) = nth l i := by
  unfold nth; simp
theorem take_succ_nth {l : List Nat} {k : Nat} (h : k < l.length) : l.take (k + 1) = l.take k ++ [nth l k] := by
  rw [List.take_succ_eq_append_getElem h, nth_eq h]
theorem list_ext {a b : List Nat} (hl : a.length = b.length) (h : ∀ i, i < a.length → nth a i = nth b i) : a = b := by
  apply List.ext_getElem hl
  intro i h1 h2
  have := h i h1
  rw [nth_eq h1, nth_eq h2] at this
  exact this

theorem val_append (a b : List Nat) : val (a ++ b) = val a + 65536 ^ a.length * val b := by
  induction a with
  | nil => simp [val]
  | cons x a ih =>
    simp only [List.cons_append, val, ih, List.length_cons, Nat.pow_succ]
    rw [Nat.mul_add, Nat.mul_comm (65536 ^ a.length) 65536, Nat.mul_assoc]
    omega
theorem val_snoc (a : List Nat) (x : Nat) : val (a ++ [x]) = val a + 65536 ^ a.length * x := by
  rw [val_append]; simp [val]
theorem val_lt {l : List Nat} (h : Lim l) : val l < 65536 ^ l.length := by
  induction l with
  | nil => simp [val]
  | cons x l ih =>
    have hx := (lim_cons.1 h)
    have := ih hx.2
    simp only [val, List.length_cons, Nat.pow_succ]
    omega
theorem val_replicate (n : Nat) : val (List.replicate n 0) = 0 := by
  induction n with
  | zero => rfl
  | succ n ih => simp [List.replicate_succ, val, ih]
theorem val_take_succ {l : List Nat} {k : Nat} (h : k < l.length) : val (l.take (k + 1)) = val (l.take k) + 65536 ^ k * nth l k := by
  rw [take_succ_nth h, val_snoc, List.length_take, Nat.min_eq_left (by omega)]
theorem val_split {l : List Nat} (k : Nat) (h : k ≤ l.length) : val l = val (l.take k) + 65536 ^ k * val (l.drop k) := by
  have e := val_append (l.take k) (l.drop k)
  rw [List.take_append_drop, List.length_take, Nat.min_eq_left h] at e
  exact e
theorem val_drop_nth {l : List Nat} {k : Nat} (h : k < l.length) : val (l.drop k) = nth l k + 65536 * val (l.drop (k + 1)) := by
  rw [List.drop_eq_getElem_cons h, nth_eq h]; rfl

/-- The limbs of a number: no 0 at the end. -/
def dig (n : Nat) : List Nat := if h : n = 0 then [] else (n % 65536) :: dig (n / 65536)
termination_by n
decreasing_by omega

theorem dig_zero : dig 0 = [] := by unfold dig; simp
theorem dig_pos {n : Nat} (h : n ≠ 0) : dig n = (n % 65536) :: dig (n / 65536) := by rw [dig]; simp [h]
theorem val_dig (n : Nat) : val (dig n) = n := by
  induction n using Nat.strongRecOn with
  | ind n ih =>
    by_cases h : n = 0
    · subst h; rw [dig_zero]; rfl
    · rw [dig_pos h]; simp only [val]; rw [ih (n / 65536) (by omega)]; omega
theorem lim_dig (n : Nat) : Lim (dig n) := by
  induction n using Nat.strongRecOn with
  | ind n ih =>
    by_cases h : n = 0
    · subst h; rw [dig_zero]; exact lim_nil
    · rw [dig_pos h]; exact lim_cons.2 ⟨by omega, ih (n / 65536) (by omega)⟩
theorem dig_nil_iff {n : Nat} : dig n = [] ↔ n = 0 := by
  constructor
  · intro h; have := val_dig n; rw [h] at this; exact this.symm
  · intro h; subst h; exact dig_zero
theorem dig_cons {x n : Nat} (hx : x < 65536) (h : x ≠ 0 ∨ n ≠ 0) : dig (x + 65536 * n) = x :: dig n := by
  rw [dig_pos (by omega)]
  rw [show (x + 65536 * n) % 65536 = x by omega, show (x + 65536 * n) / 65536 = n by omega]
theorem dig_inj {a b : Nat} (h : dig a = dig b) : a = b := by rw [← val_dig a, ← val_dig b, h]

/-- The list without the zeros at its end. -/
def trimL : List Nat → List Nat
  | [] => []
  | x :: l => if trimL l = [] ∧ x = 0 then [] else x :: trimL l

theorem trimL_dig {l : List Nat} (h : Lim l) : trimL l = dig (val l) := by
  induction l with
  | nil => simp [trimL, val, dig_zero]
  | cons x l ih =>
    have hx := lim_cons.1 h
    have e := ih hx.2
    simp only [trimL, val, e]
    by_cases h0 : dig (val l) = [] ∧ x = 0
    · rw [if_pos h0]
      have := dig_nil_iff.1 h0.1
      rw [this, h0.2]; exact dig_zero.symm
    · rw [if_neg h0]
      rw [dig_cons hx.1]
      by_cases hx0 : x = 0
      · right; intro hv; exact h0 ⟨dig_nil_iff.2 hv, hx0⟩
      · left; exact hx0
theorem dig_snoc {l : List Nat} {x : Nat} (h : Lim (l ++ [x])) (hx : x ≠ 0) : dig (val (l ++ [x])) = l ++ [x] := by
  induction l with
  | nil =>
    have h1 := lim_cons.1 h
    simp only [List.nil_append, val, Nat.mul_zero, Nat.add_zero]
    have := dig_cons (n := 0) h1.1 (.inl hx)
    simpa [dig_zero] using this
  | cons y l ih =>
    have h1 := lim_cons.1 h
    simp only [List.cons_append, val]
    rw [dig_cons h1.1, ih h1.2]
    right
    intro hv
    have e := ih h1.2
    rw [hv, dig_zero] at e
    simp at e
/-- Zeros at the end do not count. -/
theorem dig_snoc_zero (l : List Nat) : val (l ++ [0]) = val l := by rw [val_snoc]; simp
/-- A list without a zero at its end is that of its value. -/
theorem dig_of_last {l : List Nat} (h : Lim l) (hl : l = [] ∨ nth l (l.length - 1) ≠ 0) : dig (val l) = l := by
  rcases hl with rfl | hl
  · simp [val, dig_zero]
  · by_cases hn : l = []
    · subst hn; simp [val, dig_zero]
    · have e : l = l.take (l.length - 1) ++ [nth l (l.length - 1)] := by
        have hp : 0 < l.length := List.length_pos_iff.2 hn
        have := take_succ_nth (l := l) (k := l.length - 1) (by omega)
        rw [show l.length - 1 + 1 = l.length by omega, List.take_length] at this
        exact this
      rw [e] at h ⊢
      exact dig_snoc h hl
theorem dig_length_le {n k : Nat} (h : n < 65536 ^ k) : (dig n).length ≤ k := by
  induction k generalizing n with
  | zero => simp at h; subst h; simp [dig_zero]
  | succ k ih =>
    by_cases h0 : n = 0
    · subst h0; simp [dig_zero]
    · rw [dig_pos h0, List.length_cons]
      have : n / 65536 < 65536 ^ k := by
        rw [Nat.pow_succ] at h
        exact Nat.div_lt_of_lt_mul (by rw [Nat.mul_comm]; exact h)
      have := ih this
      omega
theorem lt_of_dig_length {n k : Nat} (h : (dig n).length ≤ k) : n < 65536 ^ k := by
  have h1 := val_lt (lim_dig n)
  rw [val_dig] at h1
  exact Nat.lt_of_lt_of_le h1 (Nat.pow_le_pow_right (by decide) h)
theorem dig_last {n : Nat} (h : n ≠ 0) : nth (dig n) ((dig n).length - 1) ≠ 0 := by
  induction n using Nat.strongRecOn with
  | ind n ih =>
    rw [dig_pos h]
    by_cases h1 : n / 65536 = 0
    · rw [h1, dig_zero]; show n % 65536 ≠ 0; omega
    · have := ih (n / 65536) (by omega) h1
      have hl : (dig (n / 65536)).length ≠ 0 := by
        intro e; exact h1 (dig_nil_iff.1 (List.eq_nil_of_length_eq_zero e))
      rw [List.length_cons, show (dig (n / 65536)).length + 1 - 1 = ((dig (n / 65536)).length - 1) + 1 by omega, nth_cons_succ]
      exact this
theorem pow_le_of_dig {n : Nat} (h : n ≠ 0) : 65536 ^ ((dig n).length - 1) ≤ n := by
  rcases Nat.lt_or_ge n (65536 ^ ((dig n).length - 1)) with h1 | h1
  · exfalso
    have h2 := dig_length_le h1
    have : (dig n).length ≠ 0 := fun e => h (dig_nil_iff.1 (List.eq_nil_of_length_eq_zero e))
    omega
  · exact h1
/-- More limbs, greater number. -/
theorem lt_of_length_lt {a b : Nat} (h : (dig a).length < (dig b).length) : a < b := by
  have h1 := lt_of_dig_length (n := a) (Nat.le_refl _)
  have hb : b ≠ 0 := by intro e; subst e; rw [dig_zero] at h; simp at h
  have h2 := pow_le_of_dig hb
  have h3 : 65536 ^ (dig a).length ≤ 65536 ^ ((dig b).length - 1) := Nat.pow_le_pow_right (by decide) (by omega)
  omega
theorem dig_length_mono {a b : Nat} (h : a ≤ b) : (dig a).length ≤ (dig b).length := by
  rcases Nat.lt_or_ge (dig b).length (dig a).length with h1 | h1
  · exact absurd (lt_of_length_lt h1) (by omega)
  · exact h1
/-- Two lists of one length, compared from the top. -/
theorem val_lt_of_top {a b : List Nat} {k : Nat} (ha : Lim a) (hl : a.length = b.length) (hk : k < a.length) (hd : a.drop (k + 1) = b.drop (k + 1)) (h : nth a k < nth b k) : val a < val b := by
  have e1 := val_split (l := a) (k + 1) (by omega)
  have e2 := val_split (l := b) (k + 1) (by omega)
  rw [hd] at e1
  have t1 := val_take_succ (l := a) hk
  have t2 := val_take_succ (l := b) (k := k) (by omega)
  have l1 := val_lt (lim_take ha k)
  rw [List.length_take, Nat.min_eq_left (by omega)] at l1
  have : 65536 ^ k * (nth a k + 1) ≤ 65536 ^ k * nth b k := Nat.mul_le_mul_left _ h
  rw [Nat.mul_add, Nat.mul_one] at this
  omega

theorem length_set' (l : List Nat) (i v : Nat) : (l.set i v).length = l.length := List.length_set
theorem nth_set {l : List Nat} {i j v : Nat} (hi : i < l.length) : nth (l.set i v) j = if j = i then v else nth l j := by
  unfold nth
  simp only [List.getD_eq_getElem?_getD, List.getElem?_set]
  by_cases h : i = j
  · subst h; simp [hi]
  · rw [if_neg h, if_neg (fun e => h e.symm)]
theorem nth_replicate (n i : Nat) : nth (List.replicate n 0) i = 0 := by
  unfold nth; simp only [List.getD_eq_getElem?_getD, List.getElem?_replicate]; split <;> rfl
theorem lim_replicate (n : Nat) : Lim (List.replicate n 0) := fun x hx => by
  rw [List.mem_replicate] at hx; omega
theorem lim_set {l : List Nat} (h : Lim l) {i v : Nat} (hv : v < 65536) : Lim (l.set i v) := by
  intro x hx
  rcases List.mem_or_eq_of_mem_set hx with h1 | h1
  · exact h x h1
  · omega
theorem val_set {l : List Nat} {i v : Nat} (hi : i < l.length) : val (l.set i v) + 65536 ^ i * nth l i = val l + 65536 ^ i * v := by
  induction l generalizing i with
  | nil => simp at hi
  | cons x l ih =>
    cases i with
    | zero => simp only [List.set_cons_zero, val, Nat.pow_zero, nth_cons_zero]; omega
    | succ i =>
      simp only [List.set_cons_succ, val, nth_cons_succ, Nat.pow_succ]
      have := ih (i := i) (by simpa using hi)
      rw [Nat.mul_comm (65536 ^ i) 65536, Nat.mul_assoc, Nat.mul_assoc]
      omega
theorem take_set_ge {l : List Nat} {i v k : Nat} (h : k ≤ i) : (l.set i v).take k = l.take k := by
  rw [List.take_set_of_le h]
theorem drop_set_lt {l : List Nat} {i v k : Nat} (h : i < k) : (l.set i v).drop k = l.drop k := by
  rw [List.drop_set_of_lt h]
theorem take_set_succ {l : List Nat} {i v : Nat} (hi : i < l.length) : (l.set i v).take (i + 1) = l.take i ++ [v] := by
  rw [take_succ_nth (by rw [List.length_set]; exact hi), take_set_ge (Nat.le_refl _), nth_set hi, if_pos rfl]
theorem drop_set_self {l : List Nat} {i v : Nat} (hi : i < l.length) : (l.set i v).drop i = v :: l.drop (i + 1) := by
  have h2 : i < (l.set i v).length := by rw [List.length_set]; exact hi
  rw [List.drop_eq_getElem_cons h2]
  congr 1
  · rw [← nth_eq h2, nth_set hi, if_pos rfl]
  · exact drop_set_lt (by omega)

/-- One digit of a sum: o the digits that are written, P the weight of the next one. -/
theorem add_step {o : List Nat} {k va vb x y c : Nat} (hl : o.length = k) (h : val o + 65536 ^ k * c = va + vb) :
    val (o ++ [(c + x + y) % 65536]) + 65536 ^ (k + 1) * ((c + x + y) / 65536) = (va + 65536 ^ k * x) + (vb + 65536 ^ k * y) := by
  rw [val_snoc, hl, Nat.pow_succ, Nat.mul_assoc]
  have e : 65536 ^ k * ((c + x + y) % 65536) + 65536 ^ k * (65536 * ((c + x + y) / 65536)) = 65536 ^ k * (c + x + y) := by
    rw [← Nat.mul_add]; congr 1; omega
  rw [Nat.mul_add, Nat.mul_add] at e
  omega

/-- One digit of a difference: d the digit, b the next borrow. -/
theorem sub_step {o : List Nat} {k va vb x y b d b' : Nat} (hl : o.length = k) (h : val o + vb = va + 65536 ^ k * b) (hd : d + y + b = x + 65536 * b') :
    val (o ++ [d]) + (vb + 65536 ^ k * y) = (va + 65536 ^ k * x) + 65536 ^ (k + 1) * b' := by
  rw [val_snoc, hl, Nat.pow_succ, Nat.mul_assoc]
  have e : 65536 ^ k * d + 65536 ^ k * y + 65536 ^ k * b = 65536 ^ k * x + 65536 ^ k * (65536 * b') := by
    rw [← Nat.mul_add, ← Nat.mul_add, ← Nat.mul_add, hd]
  omega

/-- One step of the inner loop of a product, by the whole value of the row. -/
theorem mul_step {o : List Nat} {i j x y c v0 vb : Nat} (hi : i + j < o.length) (h : val o + 65536 ^ (i + j) * c = v0 + 65536 ^ i * (x * vb)) :
    val (o.set (i + j) ((c + x * y + nth o (i + j)) % 65536)) + 65536 ^ (i + (j + 1)) * ((c + x * y + nth o (i + j)) / 65536) = v0 + 65536 ^ i * (x * (vb + 65536 ^ j * y)) := by
  have e := val_set (v := (c + x * y + nth o (i + j)) % 65536) hi
  generalize hs : c + x * y + nth o (i + j) = s at *
  have e2 : 65536 ^ (i + j) * (s % 65536) + 65536 ^ (i + (j + 1)) * (s / 65536) = 65536 ^ (i + j) * s := by
    rw [show i + (j + 1) = (i + j) + 1 by omega, Nat.pow_succ, Nat.mul_assoc, ← Nat.mul_add]; congr 1; omega
  have e3 : 65536 ^ (i + j) * s = 65536 ^ (i + j) * c + 65536 ^ (i + j) * (x * y) + 65536 ^ (i + j) * nth o (i + j) := by
    rw [← hs, Nat.mul_add, Nat.mul_add]
  have e4 : 65536 ^ i * (x * (vb + 65536 ^ j * y)) = 65536 ^ i * (x * vb) + 65536 ^ (i + j) * (x * y) := by
    rw [Nat.mul_add, Nat.mul_add, Nat.pow_add]
    congr 1
    rw [Nat.mul_left_comm x, Nat.mul_assoc]
  rw [e4]
  omega

/-- Division by one digit, from the top: q the digits that are written, r the rest. -/
theorem divby_step {k va x by_ r : Nat} {q : List Nat} (h : va = val q * by_ + r) (hb : 0 < by_) :
    x + 65536 * va = val (((r * 65536 + x) / by_) :: q) * by_ + (r * 65536 + x) % by_ ∧ (r * 65536 + x) % by_ < by_ ∧ k = k := by
  have e := Nat.div_add_mod (r * 65536 + x) by_
  refine ⟨?_, Nat.mod_lt _ hb, rfl⟩
  simp only [val]
  rw [Nat.add_mul, Nat.mul_comm ((r * 65536 + x) / by_) by_]
  have : 65536 * val q * by_ = 65536 * (val q * by_) := by rw [Nat.mul_assoc]
  omega
theorem div_digit_lt {r x b : Nat} (hr : r < b) (hx : x < 65536) : (r * 65536 + x) / b < 65536 := by
  apply Nat.div_lt_of_lt_mul
  have : (r + 1) * 65536 ≤ b * 65536 := Nat.mul_le_mul_right _ hr
  omega

/-- The guess of a digit of a quotient (Knuth's D): it is never too small. -/
theorem guess_ge {V2 vl P U3 ul q : Nat} (hul : ul < P) (hq : q * (V2 * P + vl) ≤ U3 * P + ul) : q * V2 ≤ U3 := by
  rcases Nat.lt_or_ge U3 (q * V2) with h | h
  · exfalso
    have h1 : (U3 + 1) * P ≤ q * V2 * P := Nat.mul_le_mul_right _ h
    have h2 : q * V2 * P ≤ q * (V2 * P + vl) := by rw [Nat.mul_assoc]; exact Nat.mul_le_mul_left _ (by omega)
    rw [Nat.add_mul, Nat.one_mul] at h1
    omega
  · exact h
/-- .. and too great by one at most. -/
theorem guess_le {V2 vl P U3 ul q g : Nat} (hvl : vl < P) (hq : U3 * P + ul < (q + 1) * (V2 * P + vl)) (hg : g * V2 ≤ U3) (hV : g ≤ V2) : g ≤ q + 1 := by
  rcases Nat.lt_or_ge (q + 1) g with h | h
  · exfalso
    have h1 : g * V2 * P ≤ U3 * P := Nat.mul_le_mul_right _ hg
    have h2 : (q + 1) * (V2 * P + vl) ≤ (g - 1) * (V2 * P + vl) := Nat.mul_le_mul_right _ (by omega)
    have h3 : (g - 1) * (V2 * P + vl) ≤ (g - 1) * ((V2 + 1) * P) := Nat.mul_le_mul_left _ (by rw [Nat.add_mul]; omega)
    have h4 : (g - 1) * ((V2 + 1) * P) = ((g - 1) * (V2 + 1)) * P := by rw [Nat.mul_assoc]
    have h5 : g * V2 * P < ((g - 1) * (V2 + 1)) * P := by omega
    have h6 : g * V2 < (g - 1) * (V2 + 1) := Nat.lt_of_mul_lt_mul_right h5
    obtain ⟨m, rfl⟩ : ∃ m, g = m + 1 := ⟨g - 1, by omega⟩
    rw [Nat.add_sub_cancel, Nat.add_mul, Nat.mul_add] at h6
    omega
  · exact h
/-- How much of a list stays when zeros at its end are left out. -/
def keepL (xs : List Nat) (n : Nat) : Prop := n ≤ xs.length ∧ ∀ i, n ≤ i → i < xs.length → nth xs i = 0
theorem keepL_start (xs : List Nat) : keepL xs xs.length := ⟨Nat.le_refl _, fun i h1 h2 => by omega⟩
theorem keepL_step {xs : List Nat} {n : Nat} (h : keepL xs n) (hz : nth xs (n - 1) = 0) : keepL xs (n - 1) :=
  ⟨by have := h.1; omega, fun i h1 h2 => by
    by_cases e : i = n - 1
    · rw [e]; exact hz
    · exact h.2 i (by omega) h2⟩
theorem trimL_take {xs : List Nat} {n : Nat} (h : keepL xs n) (hl : ∀ m, n = m + 1 → nth xs m ≠ 0) : trimL xs = xs.take n := by
  induction xs generalizing n with
  | nil => simp [trimL]
  | cons x xs ih =>
    cases n with
    | zero =>
      have h2 := ih (n := 0) ⟨by omega, fun i _ h2 => by have := h.2 (i + 1) (by omega) (by simpa using h2); simpa [nth_cons_succ] using this⟩ (fun m e => by omega)
      have hx := h.2 0 (by omega) (by simp)
      rw [nth_cons_zero] at hx
      simp only [trimL, h2, hx]
      simp
    | succ n =>
      have hk : keepL xs n := ⟨by have := h.1; simpa using this, fun i h1 h2 => by have := h.2 (i + 1) (by omega) (by simpa using h2); simpa [nth_cons_succ] using this⟩
      have h2 := ih hk (fun m e => by
        have := hl (m + 1) (by omega)
        rwa [nth_cons_succ] at this)
      simp only [trimL, h2, List.take_succ_cons]
      cases n with
      | zero =>
        have h3 := hl 0 rfl
        rw [nth_cons_zero] at h3
        simp [h3]
      | succ m =>
        rw [if_neg]
        rintro ⟨h3, -⟩
        have h4 := congrArg List.length h3
        have := hk.1
        rw [List.length_take, List.length_nil, Nat.min_eq_left this] at h4
        omega
theorem trimL_length {xs : List Nat} {n : Nat} (h : keepL xs n) (hl : n = 0 ∨ nth xs (n - 1) ≠ 0) : (trimL xs).length = n := by
  rw [trimL_take h (fun m e => by subst e; exact hl.elim (fun h => by omega) (fun h => h)), List.length_take, Nat.min_eq_left h.1]

/-- Digits that are written from below into a row of zeros. -/
theorem set_pad {o : List Nat} {n k d : Nat} (hl : o.length = k) (hk : k < n) : (o ++ List.replicate (n - k) 0).set k d = (o ++ [d]) ++ List.replicate (n - (k + 1)) 0 := by
  obtain ⟨m, hm⟩ : ∃ m, n - k = m + 1 := ⟨n - k - 1, by omega⟩
  rw [hm, List.replicate_succ, List.set_append_right _ _ (by omega), hl, Nat.sub_self, List.set_cons_zero, show n - (k + 1) = m by omega]
  simp
theorem length_pad {o : List Nat} {n k : Nat} (hl : o.length = k) (hk : k ≤ n) : (o ++ List.replicate (n - k) 0).length = n := by
  simp; omega

/-- The state of a sum: k digits are written. -/
def AddRel (a b k : Nat) (o : List Nat) (cr : Nat) : Prop :=
  o.length = k ∧ Lim o ∧ cr ≤ 1 ∧ val o + 65536 ^ k * cr = val ((dig a).take k) + val ((dig b).take k)
theorem AddRel.start (a b : Nat) : AddRel a b 0 [] 0 := ⟨rfl, lim_nil, by omega, by simp [val]⟩
theorem val_take_ge {l : List Nat} {k : Nat} (h : l.length ≤ k) : val (l.take k) = val l := by rw [List.take_of_length_le h]
theorem val_take_succ' (l : List Nat) (k : Nat) : val (l.take (k + 1)) = val (l.take k) + 65536 ^ k * nth l k := by
  by_cases h : k < l.length
  · exact val_take_succ h
  · rw [val_take_ge (by omega), val_take_ge (by omega), nth_out (by omega)]; simp
theorem AddRel.next {a b k cr : Nat} {o : List Nat} (h : AddRel a b k o cr) :
    AddRel a b (k + 1) (o ++ [(cr + nth (dig a) k + nth (dig b) k) % 65536]) ((cr + nth (dig a) k + nth (dig b) k) / 65536) := by
  obtain ⟨h1, h2, h3, h4⟩ := h
  have hx := lim_nth (lim_dig a) k
  have hy := lim_nth (lim_dig b) k
  refine ⟨by simp [h1], lim_append.2 ⟨h2, fun x hm => ?_⟩, by omega, ?_⟩
  · rw [List.mem_singleton] at hm; subst hm; omega
  · rw [add_step h1 h4, val_take_succ', val_take_succ']
theorem AddRel.done {a b n cr : Nat} {o : List Nat} (h : AddRel a b n o cr) (ha : (dig a).length ≤ n) (hb : (dig b).length ≤ n) : trimL (o ++ [cr]) = dig (a + b) := by
  obtain ⟨h1, h2, h3, h4⟩ := h
  rw [trimL_dig (lim_append.2 ⟨h2, fun x hm => by rw [List.mem_singleton] at hm; subst hm; omega⟩)]
  rw [val_snoc, h1, h4, val_take_ge ha, val_take_ge hb, val_dig, val_dig]

theorem trimL_is_take (l : List Nat) : ∃ n, trimL l = l.take n := by
  induction l with
  | nil => exact ⟨0, rfl⟩
  | cons x l ih =>
    obtain ⟨n, hn⟩ := ih
    simp only [trimL]
    by_cases h : trimL l = [] ∧ x = 0
    · exact ⟨0, by rw [if_pos h]; rfl⟩
    · exact ⟨n + 1, by rw [if_neg h, hn]; rfl⟩
theorem trimL_length_le (l : List Nat) : (trimL l).length ≤ l.length := by
  obtain ⟨n, hn⟩ := trimL_is_take l
  rw [hn, List.length_take]
  omega

/-- The state of a difference: k digits are written. -/
def SubRel (a b k : Nat) (o : List Nat) (br : Nat) : Prop :=
  o.length = k ∧ Lim o ∧ br ≤ 1 ∧ val o + val ((dig b).take k) = val ((dig a).take k) + 65536 ^ k * br
theorem SubRel.start (a b : Nat) : SubRel a b 0 [] 0 := ⟨rfl, lim_nil, by omega, by simp [val]⟩
theorem SubRel.next {a b k br d br' : Nat} {o : List Nat} (h : SubRel a b k o br) (hd : d < 65536) (hb : br' ≤ 1) (he : d + nth (dig b) k + br = nth (dig a) k + 65536 * br') :
    SubRel a b (k + 1) (o ++ [d]) br' := by
  obtain ⟨h1, h2, h3, h4⟩ := h
  refine ⟨by simp [h1], lim_append.2 ⟨h2, fun x hm => ?_⟩, hb, ?_⟩
  · rw [List.mem_singleton] at hm; subst hm; exact hd
  · rw [val_take_succ', val_take_succ']; exact sub_step h1 h4 he
theorem SubRel.done {a b n br : Nat} {o : List Nat} (h : SubRel a b n o br) (ha : (dig a).length ≤ n) (hb : (dig b).length ≤ n) (hge : b ≤ a) : val o = a - b := by
  obtain ⟨h1, h2, h3, h4⟩ := h
  have h5 := val_lt h2
  rw [h1] at h5
  rw [val_take_ge ha, val_take_ge hb, val_dig, val_dig] at h4
  have h6 : br = 0 := by
    rcases Nat.eq_zero_or_pos br with h | h
    · exact h
    · have : br = 1 := by omega
      subst this
      rw [Nat.mul_one] at h4
      omega
  subst h6
  rw [Nat.mul_zero] at h4
  omega

/-- One digit taken from a number. -/
theorem dig_out {a r : Nat} {o : List Nat} (h : dig a = o ++ dig r) (hr : r ≠ 0) : dig a = (o ++ [r % 65536]) ++ dig (r / 65536) := by
  rw [h, dig_pos hr]; simp
theorem dig_rest {a r : Nat} {o : List Nat} (h : dig a = o ++ dig r) (hr : r = 0) : dig a = o := by
  rw [h, hr, dig_zero]; simp
theorem room_of {a r n : Nat} {o : List Nat} (h : dig a = o ++ dig r) (hr : r ≠ 0) (hn : (dig a).length ≤ n) : o.length + 1 ≤ n := by
  rw [h, dig_pos hr] at hn
  simp at hn
  omega

/-- The state of a division by one digit b: the digits from k on are divided, r is the rest. -/
def DivRel (xs : List Nat) (b k : Nat) (o : List Nat) (r : Nat) : Prop :=
  o.length = xs.length ∧ Lim o ∧ r < b ∧ o.take k = xs.take k ∧ val (xs.drop k) = val (o.drop k) * b + r
theorem DivRel.start {xs : List Nat} {b : Nat} (hx : Lim xs) (hb : 0 < b) : DivRel xs b xs.length xs 0 :=
  ⟨rfl, hx, hb, rfl, by rw [List.drop_length]; simp [val]⟩
theorem nth_of_take {a b : List Nat} {k i : Nat} (h : a.take k = b.take k) (hi : i < k) : nth a i = nth b i := by
  rw [← nth_take (l := a) hi, h, nth_take hi]
theorem DivRel.next {xs o : List Nat} {b k r : Nat} (h : DivRel xs b (k + 1) o r) (hk : k < xs.length) :
    DivRel xs b k (o.set k ((r * 65536 + nth o k) / b)) ((r * 65536 + nth o k) % b) ∧ (r * 65536 + nth o k) / b < 65536 := by
  obtain ⟨h1, h2, h3, h4, h5⟩ := h
  have hx := lim_nth h2 k
  have hq := div_digit_lt h3 hx
  refine ⟨⟨by rw [List.length_set, h1], lim_set h2 hq, Nat.mod_lt _ (by omega), ?_, ?_⟩, hq⟩
  · rw [take_set_ge (Nat.le_refl _)]
    have := congrArg (List.take k) h4
    rwa [List.take_take, List.take_take, Nat.min_eq_left (by omega)] at this
  · rw [drop_set_self (by omega), val_drop_nth hk, ← nth_of_take h4 (by omega)]
    exact (divby_step (k := 0) h5 (by omega)).1
theorem DivRel.done {xs o : List Nat} {b r : Nat} (h : DivRel xs b 0 o r) : val o = val xs / b ∧ r = val xs % b := by
  obtain ⟨h1, h2, h3, h4, h5⟩ := h
  rw [List.drop_zero, List.drop_zero] at h5
  rw [h5]
  have hb : 0 < b := by omega
  constructor
  · rw [Nat.mul_comm, Nat.mul_add_div hb, Nat.div_eq_of_lt h3]; omega
  · rw [Nat.mul_comm, Nat.mul_add_mod, Nat.mod_eq_of_lt h3]
end Kb
