/- Integers as lists of limbs: their mathematics, words for memory, the contracts of trim, addition, multiplication, division by a digit. -/
import Derived.WalkKit
import Derived.WalkSpells
import Derived.WalkLawsBesides
import Derived.Test.YtffipjofefemiaaGreatDoorChecked
import Derived.Deep.Draws
import Derived.WalkSmall
import Derived.Deep.QuietTactic
import Derived.BigQuiet
import Derived.Lib.SliceRun
namespace Kb

/-- The value of limbs, the lowest first. -/
def val : List Nat → Nat
  | [] => 0
  | x :: l => x + 65536 * val l

def Lim (l : List Nat) : Prop := ∀ x, x ∈ l → x < 65536

/-- The i-th limb; 0 beyond the end. Closed to simp. -/
def nth (l : List Nat) (i : Nat) : Nat := l.getD i 0

theorem lim_nil : Lim [] := fun _ h => by cases h
theorem lim_cons {x : Nat} {l : List Nat} : Lim (x :: l) ↔ x < 65536 ∧ Lim l := by
  unfold Lim; simp
theorem lim_append {a b : List Nat} : Lim (a ++ b) ↔ Lim a ∧ Lim b := by
  unfold Lim; simp only [List.mem_append]
  exact ⟨fun h => ⟨fun x hx => h x (.inl hx), fun x hx => h x (.inr hx)⟩, fun h x hx => hx.elim (h.1 x) (h.2 x)⟩
theorem lim_nth {l : List Nat} (h : Lim l) (i : Nat) : nth l i < 65536 := by
  unfold nth
  rw [List.getD_eq_getElem?_getD]
  by_cases hi : i < l.length
  · rw [List.getElem?_eq_getElem hi]; exact h _ (List.getElem_mem hi)
  · rw [List.getElem?_eq_none (by omega)]; decide
theorem lim_take {l : List Nat} (h : Lim l) (k : Nat) : Lim (l.take k) := fun x hx => h x (List.mem_of_mem_take hx)
theorem lim_drop {l : List Nat} (h : Lim l) (k : Nat) : Lim (l.drop k) := fun x hx => h x (List.mem_of_mem_drop hx)

theorem nth_out {l : List Nat} {i : Nat} (h : l.length ≤ i) : nth l i = 0 := by
  unfold nth; rw [List.getD_eq_getElem?_getD, List.getElem?_eq_none h]; rfl
theorem nth_eq {l : List Nat} {i : Nat} (h : i < l.length) : nth l i = l[i] := by
  unfold nth; rw [List.getD_eq_getElem?_getD, List.getElem?_eq_getElem h]; rfl
theorem nth_append {a b : List Nat} {i : Nat} : nth (a ++ b) i = if i < a.length then nth a i else nth b (i - a.length) := by
  unfold nth
  simp only [List.getD_eq_getElem?_getD, List.getElem?_append]
  split <;> rfl
theorem nth_take {l : List Nat} {k i : Nat} (h : i < k) : nth (l.take k) i = nth l i := by
  unfold nth; simp only [List.getD_eq_getElem?_getD, List.getElem?_take, if_pos h]
theorem nth_drop {l : List Nat} {k i : Nat} : nth (l.drop k) i = nth l (k + i) := by
  unfold nth; simp only [List.getD_eq_getElem?_getD, List.getElem?_drop]
theorem nth_cons_zero {x : Nat} {l : List Nat} : nth (x :: l) 0 = x := rfl
theorem nth_cons_succ {x : Nat} {l : List Nat} {i : Nat} : nth (x :: l) (i + 1) = nth l i := by
  unfold nth; simp
theorem take_succ_nth {l : List Nat} {k : Nat} (h : k < l.length) : l.take (k + 1) = l.take k ++ [nth l k] := by
  rw [List.take_succ_eq_append_getElem h, nth_eq h]
theorem list_ext {a b : List Nat} (hl : a.length = b.length) (h : ∀ i, i < a.length → nth a i = nth b i) : a = b := by
  apply List.ext_getElem hl
  intro i h1 h2
  have := h i h1
  rw [nth_eq h1, nth_eq h2] at this
  exact this

theorem val_append (a b : List Nat) : val (a ++ b) = val a + 65536 ^ a.length * val b := by
  induction a with
  | nil => simp [val]
  | cons x a ih =>
    simp only [List.cons_append, val, ih, List.length_cons, Nat.pow_succ]
    rw [Nat.mul_add, Nat.mul_comm (65536 ^ a.length) 65536, Nat.mul_assoc]
    omega
theorem val_snoc (a : List Nat) (x : Nat) : val (a ++ [x]) = val a + 65536 ^ a.length * x := by
  rw [val_append]; simp [val]
theorem val_lt {l : List Nat} (h : Lim l) : val l < 65536 ^ l.length := by
  induction l with
  | nil => simp [val]
  | cons x l ih =>
    have hx := (lim_cons.1 h)
    have := ih hx.2
    simp only [val, List.length_cons, Nat.pow_succ]
    omega
theorem val_replicate (n : Nat) : val (List.replicate n 0) = 0 := by
  induction n with
  | zero => rfl
  | succ n ih => simp [List.replicate_succ, val, ih]
theorem val_take_succ {l : List Nat} {k : Nat} (h : k < l.length) : val (l.take (k + 1)) = val (l.take k) + 65536 ^ k * nth l k := by
  rw [take_succ_nth h, val_snoc, List.length_take, Nat.min_eq_left (by omega)]
theorem val_split {l : List Nat} (k : Nat) (h : k ≤ l.length) : val l = val (l.take k) + 65536 ^ k * val (l.drop k) := by
  have e := val_append (l.take k) (l.drop k)
  rw [List.take_append_drop, List.length_take, Nat.min_eq_left h] at e
  exact e
theorem val_drop_nth {l : List Nat} {k : Nat} (h : k < l.length) : val (l.drop k) = nth l k + 65536 * val (l.drop (k + 1)) := by
  rw [List.drop_eq_getElem_cons h, nth_eq h]; rfl

/-- The limbs of a number: no 0 at the end. -/
def dig (n : Nat) : List Nat := if h : n = 0 then [] else (n % 65536) :: dig (n / 65536)
termination_by n
decreasing_by omega

theorem dig_zero : dig 0 = [] := by unfold dig; simp
theorem dig_pos {n : Nat} (h : n ≠ 0) : dig n = (n % 65536) :: dig (n / 65536) := by rw [dig]; simp [h]
theorem val_dig (n : Nat) : val (dig n) = n := by
  induction n using Nat.strongRecOn with
  | ind n ih =>
    by_cases h : n = 0
    · subst h; rw [dig_zero]; rfl
    · rw [dig_pos h]; simp only [val]; rw [ih (n / 65536) (by omega)]; omega
theorem lim_dig (n : Nat) : Lim (dig n) := by
  induction n using Nat.strongRecOn with
  | ind n ih =>
    by_cases h : n = 0
    · subst h; rw [dig_zero]; exact lim_nil
    · rw [dig_pos h]; exact lim_cons.2 ⟨by omega, ih (n / 65536) (by omega)⟩
theorem dig_nil_iff {n : Nat} : dig n = [] ↔ n = 0 := by
  constructor
  · intro h; have := val_dig n; rw [h] at this; exact this.symm
  · intro h; subst h; exact dig_zero
theorem dig_cons {x n : Nat} (hx : x < 65536) (h : x ≠ 0 ∨ n ≠ 0) : dig (x + 65536 * n) = x :: dig n := by
  rw [dig_pos (by omega)]
  rw [show (x + 65536 * n) % 65536 = x by omega, show (x + 65536 * n) / 65536 = n by omega]
theorem dig_inj {a b : Nat} (h : dig a = dig b) : a = b := by rw [← val_dig a, ← val_dig b, h]

/-- The list without the zeros at its end. -/
def trimL : List Nat → List Nat
  | [] => []
  | x :: l => if trimL l = [] ∧ x = 0 then [] else x :: trimL l

theorem trimL_dig {l : List Nat} (h : Lim l) : trimL l = dig (val l) := by
  induction l with
  | nil => simp [trimL, val, dig_zero]
  | cons x l ih =>
    have hx := lim_cons.1 h
    have e := ih hx.2
    simp only [trimL, val, e]
    by_cases h0 : dig (val l) = [] ∧ x = 0
    · rw [if_pos h0]
      have := dig_nil_iff.1 h0.1
      rw [this, h0.2]; exact dig_zero.symm
    · rw [if_neg h0]
      rw [dig_cons hx.1]
      by_cases hx0 : x = 0
      · right; intro hv; exact h0 ⟨dig_nil_iff.2 hv, hx0⟩
      · left; exact hx0
theorem dig_snoc {l : List Nat} {x : Nat} (h : Lim (l ++ [x])) (hx : x ≠ 0) : dig (val (l ++ [x])) = l ++ [x] := by
  induction l with
  | nil =>
    have h1 := lim_cons.1 h
    simp only [List.nil_append, val, Nat.mul_zero, Nat.add_zero]
    have := dig_cons (n := 0) h1.1 (.inl hx)
    simpa [dig_zero] using this
  | cons y l ih =>
    have h1 := lim_cons.1 h
    simp only [List.cons_append, val]
    rw [dig_cons h1.1, ih h1.2]
    right
    intro hv
    have e := ih h1.2
    rw [hv, dig_zero] at e
    simp at e
/-- Zeros at the end do not count. -/
theorem dig_snoc_zero (l : List Nat) : val (l ++ [0]) = val l := by rw [val_snoc]; simp
/-- A list without a zero at its end is that of its value. -/
theorem dig_of_last {l : List Nat} (h : Lim l) (hl : l = [] ∨ nth l (l.length - 1) ≠ 0) : dig (val l) = l := by
  rcases hl with rfl | hl
  · simp [val, dig_zero]
  · by_cases hn : l = []
    · subst hn; simp [val, dig_zero]
    · have e : l = l.take (l.length - 1) ++ [nth l (l.length - 1)] := by
        have hp : 0 < l.length := List.length_pos_iff.2 hn
        have := take_succ_nth (l := l) (k := l.length - 1) (by omega)
        rw [show l.length - 1 + 1 = l.length by omega, List.take_length] at this
        exact this
      rw [e] at h ⊢
      exact dig_snoc h hl
theorem dig_length_le {n k : Nat} (h : n < 65536 ^ k) : (dig n).length ≤ k := by
  induction k generalizing n with
  | zero => simp at h; subst h; simp [dig_zero]
  | succ k ih =>
    by_cases h0 : n = 0
    · subst h0; simp [dig_zero]
    · rw [dig_pos h0, List.length_cons]
      have : n / 65536 < 65536 ^ k := by
        rw [Nat.pow_succ] at h
        exact Nat.div_lt_of_lt_mul (by rw [Nat.mul_comm]; exact h)
      have := ih this
      omega
theorem lt_of_dig_length {n k : Nat} (h : (dig n).length ≤ k) : n < 65536 ^ k := by
  have h1 := val_lt (lim_dig n)
  rw [val_dig] at h1
  exact Nat.lt_of_lt_of_le h1 (Nat.pow_le_pow_right (by decide) h)
theorem dig_last {n : Nat} (h : n ≠ 0) : nth (dig n) ((dig n).length - 1) ≠ 0 := by
  induction n using Nat.strongRecOn with
  | ind n ih =>
    rw [dig_pos h]
    by_cases h1 : n / 65536 = 0
    · rw [h1, dig_zero]; show n % 65536 ≠ 0; omega
    · have := ih (n / 65536) (by omega) h1
      have hl : (dig (n / 65536)).length ≠ 0 := by
        intro e; exact h1 (dig_nil_iff.1 (List.eq_nil_of_length_eq_zero e))
      rw [List.length_cons, show (dig (n / 65536)).length + 1 - 1 = ((dig (n / 65536)).length - 1) + 1 by omega, nth_cons_succ]
      exact this
theorem pow_le_of_dig {n : Nat} (h : n ≠ 0) : 65536 ^ ((dig n).length - 1) ≤ n := by
  rcases Nat.lt_or_ge n (65536 ^ ((dig n).length - 1)) with h1 | h1
  · exfalso
    have h2 := dig_length_le h1
    have : (dig n).length ≠ 0 := fun e => h (dig_nil_iff.1 (List.eq_nil_of_length_eq_zero e))
    omega
  · exact h1
/-- More limbs, greater number. -/
theorem lt_of_length_lt {a b : Nat} (h : (dig a).length < (dig b).length) : a < b := by
  have h1 := lt_of_dig_length (n := a) (Nat.le_refl _)
  have hb : b ≠ 0 := by intro e; subst e; rw [dig_zero] at h; simp at h
  have h2 := pow_le_of_dig hb
  have h3 : 65536 ^ (dig a).length ≤ 65536 ^ ((dig b).length - 1) := Nat.pow_le_pow_right (by decide) (by omega)
  omega
theorem dig_length_mono {a b : Nat} (h : a ≤ b) : (dig a).length ≤ (dig b).length := by
  rcases Nat.lt_or_ge (dig b).length (dig a).length with h1 | h1
  · exact absurd (lt_of_length_lt h1) (by omega)
  · exact h1
/-- Two lists of one length, compared from the top. -/
theorem val_lt_of_top {a b : List Nat} {k : Nat} (ha : Lim a) (hl : a.length = b.length) (hk : k < a.length) (hd : a.drop (k + 1) = b.drop (k + 1)) (h : nth a k < nth b k) : val a < val b := by
  have e1 := val_split (l := a) (k + 1) (by omega)
  have e2 := val_split (l := b) (k + 1) (by omega)
  rw [hd] at e1
  have t1 := val_take_succ (l := a) hk
  have t2 := val_take_succ (l := b) (k := k) (by omega)
  have l1 := val_lt (lim_take ha k)
  rw [List.length_take, Nat.min_eq_left (by omega)] at l1
  have : 65536 ^ k * (nth a k + 1) ≤ 65536 ^ k * nth b k := Nat.mul_le_mul_left _ h
  rw [Nat.mul_add, Nat.mul_one] at this
  omega

theorem length_set' (l : List Nat) (i v : Nat) : (l.set i v).length = l.length := List.length_set
theorem nth_set {l : List Nat} {i j v : Nat} (hi : i < l.length) : nth (l.set i v) j = if j = i then v else nth l j := by
  unfold nth
  simp only [List.getD_eq_getElem?_getD, List.getElem?_set]
  by_cases h : i = j
  · subst h; simp [hi]
  · rw [if_neg h, if_neg (fun e => h e.symm)]
theorem nth_replicate (n i : Nat) : nth (List.replicate n 0) i = 0 := by
  unfold nth; simp only [List.getD_eq_getElem?_getD, List.getElem?_replicate]; split <;> rfl
theorem lim_replicate (n : Nat) : Lim (List.replicate n 0) := fun x hx => by
  rw [List.mem_replicate] at hx; omega
theorem lim_set {l : List Nat} (h : Lim l) {i v : Nat} (hv : v < 65536) : Lim (l.set i v) := by
  intro x hx
  rcases List.mem_or_eq_of_mem_set hx with h1 | h1
  · exact h x h1
  · omega
theorem val_set {l : List Nat} {i v : Nat} (hi : i < l.length) : val (l.set i v) + 65536 ^ i * nth l i = val l + 65536 ^ i * v := by
  induction l generalizing i with
  | nil => simp at hi
  | cons x l ih =>
    cases i with
    | zero => simp only [List.set_cons_zero, val, Nat.pow_zero, nth_cons_zero]; omega
    | succ i =>
      simp only [List.set_cons_succ, val, nth_cons_succ, Nat.pow_succ]
      have := ih (i := i) (by simpa using hi)
      rw [Nat.mul_comm (65536 ^ i) 65536, Nat.mul_assoc, Nat.mul_assoc]
      omega
theorem take_set_ge {l : List Nat} {i v k : Nat} (h : k ≤ i) : (l.set i v).take k = l.take k := by
  rw [List.take_set_of_le h]
theorem drop_set_lt {l : List Nat} {i v k : Nat} (h : i < k) : (l.set i v).drop k = l.drop k := by
  rw [List.drop_set_of_lt h]
theorem take_set_succ {l : List Nat} {i v : Nat} (hi : i < l.length) : (l.set i v).take (i + 1) = l.take i ++ [v] := by
  rw [take_succ_nth (by rw [List.length_set]; exact hi), take_set_ge (Nat.le_refl _), nth_set hi, if_pos rfl]
theorem drop_set_self {l : List Nat} {i v : Nat} (hi : i < l.length) : (l.set i v).drop i = v :: l.drop (i + 1) := by
  have h2 : i < (l.set i v).length := by rw [List.length_set]; exact hi
  rw [List.drop_eq_getElem_cons h2]
  congr 1
  · rw [← nth_eq h2, nth_set hi, if_pos rfl]
  · exact drop_set_lt (by omega)

/-- One digit of a sum: o the digits that are written, P the weight of the next one. -/
theorem add_step {o : List Nat} {k va vb x y c : Nat} (hl : o.length = k) (h : val o + 65536 ^ k * c = va + vb) :
    val (o ++ [(c + x + y) % 65536]) + 65536 ^ (k + 1) * ((c + x + y) / 65536) = (va + 65536 ^ k * x) + (vb + 65536 ^ k * y) := by
  rw [val_snoc, hl, Nat.pow_succ, Nat.mul_assoc]
  have e : 65536 ^ k * ((c + x + y) % 65536) + 65536 ^ k * (65536 * ((c + x + y) / 65536)) = 65536 ^ k * (c + x + y) := by
    rw [← Nat.mul_add]; congr 1; omega
  rw [Nat.mul_add, Nat.mul_add] at e
  omega

/-- One digit of a difference: d the digit, b the next borrow. -/
theorem sub_step {o : List Nat} {k va vb x y b d b' : Nat} (hl : o.length = k) (h : val o + vb = va + 65536 ^ k * b) (hd : d + y + b = x + 65536 * b') :
    val (o ++ [d]) + (vb + 65536 ^ k * y) = (va + 65536 ^ k * x) + 65536 ^ (k + 1) * b' := by
  rw [val_snoc, hl, Nat.pow_succ, Nat.mul_assoc]
  have e : 65536 ^ k * d + 65536 ^ k * y + 65536 ^ k * b = 65536 ^ k * x + 65536 ^ k * (65536 * b') := by
    rw [← Nat.mul_add, ← Nat.mul_add, ← Nat.mul_add, hd]
  omega

/-- One step of the inner loop of a product, by the whole value of the row. -/
theorem mul_step {o : List Nat} {i j x y c v0 vb : Nat} (hi : i + j < o.length) (h : val o + 65536 ^ (i + j) * c = v0 + 65536 ^ i * (x * vb)) :
    val (o.set (i + j) ((c + x * y + nth o (i + j)) % 65536)) + 65536 ^ (i + (j + 1)) * ((c + x * y + nth o (i + j)) / 65536) = v0 + 65536 ^ i * (x * (vb + 65536 ^ j * y)) := by
  have e := val_set (v := (c + x * y + nth o (i + j)) % 65536) hi
  generalize hs : c + x * y + nth o (i + j) = s at *
  have e2 : 65536 ^ (i + j) * (s % 65536) + 65536 ^ (i + (j + 1)) * (s / 65536) = 65536 ^ (i + j) * s := by
    rw [show i + (j + 1) = (i + j) + 1 by omega, Nat.pow_succ, Nat.mul_assoc, ← Nat.mul_add]; congr 1; omega
  have e3 : 65536 ^ (i + j) * s = 65536 ^ (i + j) * c + 65536 ^ (i + j) * (x * y) + 65536 ^ (i + j) * nth o (i + j) := by
    rw [← hs, Nat.mul_add, Nat.mul_add]
  have e4 : 65536 ^ i * (x * (vb + 65536 ^ j * y)) = 65536 ^ i * (x * vb) + 65536 ^ (i + j) * (x * y) := by
    rw [Nat.mul_add, Nat.mul_add, Nat.pow_add]
    congr 1
    rw [Nat.mul_left_comm x, Nat.mul_assoc]
  rw [e4]
  omega

/-- Division by one digit, from the top: q the digits that are written, r the rest. -/
theorem divby_step {k va x by_ r : Nat} {q : List Nat} (h : va = val q * by_ + r) (hb : 0 < by_) :
    x + 65536 * va = val (((r * 65536 + x) / by_) :: q) * by_ + (r * 65536 + x) % by_ ∧ (r * 65536 + x) % by_ < by_ ∧ k = k := by
  have e := Nat.div_add_mod (r * 65536 + x) by_
  refine ⟨?_, Nat.mod_lt _ hb, rfl⟩
  simp only [val]
  rw [Nat.add_mul, Nat.mul_comm ((r * 65536 + x) / by_) by_]
  have : 65536 * val q * by_ = 65536 * (val q * by_) := by rw [Nat.mul_assoc]
  omega
theorem div_digit_lt {r x b : Nat} (hr : r < b) (hx : x < 65536) : (r * 65536 + x) / b < 65536 := by
  apply Nat.div_lt_of_lt_mul
  have : (r + 1) * 65536 ≤ b * 65536 := Nat.mul_le_mul_right _ hr
  omega

/-- The guess of a digit of a quotient (Knuth's D): it is never too small. -/
theorem guess_ge {V2 vl P U3 ul q : Nat} (hul : ul < P) (hq : q * (V2 * P + vl) ≤ U3 * P + ul) : q * V2 ≤ U3 := by
  rcases Nat.lt_or_ge U3 (q * V2) with h | h
  · exfalso
    have h1 : (U3 + 1) * P ≤ q * V2 * P := Nat.mul_le_mul_right _ h
    have h2 : q * V2 * P ≤ q * (V2 * P + vl) := by rw [Nat.mul_assoc]; exact Nat.mul_le_mul_left _ (by omega)
    rw [Nat.add_mul, Nat.one_mul] at h1
    omega
  · exact h
/-- .. and too great by one at most. -/
theorem guess_le {V2 vl P U3 ul q g : Nat} (hvl : vl < P) (hq : U3 * P + ul < (q + 1) * (V2 * P + vl)) (hg : g * V2 ≤ U3) (hV : g ≤ V2) : g ≤ q + 1 := by
  rcases Nat.lt_or_ge (q + 1) g with h | h
  · exfalso
    have h1 : g * V2 * P ≤ U3 * P := Nat.mul_le_mul_right _ hg
    have h2 : (q + 1) * (V2 * P + vl) ≤ (g - 1) * (V2 * P + vl) := Nat.mul_le_mul_right _ (by omega)
    have h3 : (g - 1) * (V2 * P + vl) ≤ (g - 1) * ((V2 + 1) * P) := Nat.mul_le_mul_left _ (by rw [Nat.add_mul]; omega)
    have h4 : (g - 1) * ((V2 + 1) * P) = ((g - 1) * (V2 + 1)) * P := by rw [Nat.mul_assoc]
    have h5 : g * V2 * P < ((g - 1) * (V2 + 1)) * P := by omega
    have h6 : g * V2 < (g - 1) * (V2 + 1) := Nat.lt_of_mul_lt_mul_right h5
    obtain ⟨m, rfl⟩ : ∃ m, g = m + 1 := ⟨g - 1, by omega⟩
    rw [Nat.add_sub_cancel, Nat.add_mul, Nat.mul_add] at h6
    omega
  · exact h
/-- How much of a list stays when zeros at its end are left out. -/
def keepL (xs : List Nat) (n : Nat) : Prop := n ≤ xs.length ∧ ∀ i, n ≤ i → i < xs.length → nth xs i = 0
theorem keepL_start (xs : List Nat) : keepL xs xs.length := ⟨Nat.le_refl _, fun i h1 h2 => by omega⟩
theorem keepL_step {xs : List Nat} {n : Nat} (h : keepL xs n) (hz : nth xs (n - 1) = 0) : keepL xs (n - 1) :=
  ⟨by have := h.1; omega, fun i h1 h2 => by
    by_cases e : i = n - 1
    · rw [e]; exact hz
    · exact h.2 i (by omega) h2⟩
theorem trimL_take {xs : List Nat} {n : Nat} (h : keepL xs n) (hl : ∀ m, n = m + 1 → nth xs m ≠ 0) : trimL xs = xs.take n := by
  induction xs generalizing n with
  | nil => simp [trimL]
  | cons x xs ih =>
    cases n with
    | zero =>
      have h2 := ih (n := 0) ⟨by omega, fun i _ h2 => by have := h.2 (i + 1) (by omega) (by simpa using h2); simpa [nth_cons_succ] using this⟩ (fun m e => by omega)
      have hx := h.2 0 (by omega) (by simp)
      rw [nth_cons_zero] at hx
      simp only [trimL, h2, hx]
      simp
    | succ n =>
      have hk : keepL xs n := ⟨by have := h.1; simpa using this, fun i h1 h2 => by have := h.2 (i + 1) (by omega) (by simpa using h2); simpa [nth_cons_succ] using this⟩
      have h2 := ih hk (fun m e => by
        have := hl (m + 1) (by omega)
        rwa [nth_cons_succ] at this)
      simp only [trimL, h2, List.take_succ_cons]
      cases n with
      | zero =>
        have h3 := hl 0 rfl
        rw [nth_cons_zero] at h3
        simp [h3]
      | succ m =>
        rw [if_neg]
        rintro ⟨h3, -⟩
        have h4 := congrArg List.length h3
        have := hk.1
        rw [List.length_take, List.length_nil, Nat.min_eq_left this] at h4
        omega
theorem trimL_length {xs : List Nat} {n : Nat} (h : keepL xs n) (hl : n = 0 ∨ nth xs (n - 1) ≠ 0) : (trimL xs).length = n := by
  rw [trimL_take h (fun m e => by subst e; exact hl.elim (fun h => by omega) (fun h => h)), List.length_take, Nat.min_eq_left h.1]

/-- Digits that are written from below into a row of zeros. -/
theorem set_pad {o : List Nat} {n k d : Nat} (hl : o.length = k) (hk : k < n) : (o ++ List.replicate (n - k) 0).set k d = (o ++ [d]) ++ List.replicate (n - (k + 1)) 0 := by
  obtain ⟨m, hm⟩ : ∃ m, n - k = m + 1 := ⟨n - k - 1, by omega⟩
  rw [hm, List.replicate_succ, List.set_append_right _ _ (by omega), hl, Nat.sub_self, List.set_cons_zero, show n - (k + 1) = m by omega]
  simp
theorem length_pad {o : List Nat} {n k : Nat} (hl : o.length = k) (hk : k ≤ n) : (o ++ List.replicate (n - k) 0).length = n := by
  simp; omega

/-- The state of a sum: k digits are written. -/
def AddRel (a b k : Nat) (o : List Nat) (cr : Nat) : Prop :=
  o.length = k ∧ Lim o ∧ cr ≤ 1 ∧ val o + 65536 ^ k * cr = val ((dig a).take k) + val ((dig b).take k)
theorem AddRel.start (a b : Nat) : AddRel a b 0 [] 0 := ⟨rfl, lim_nil, by omega, by simp [val]⟩
theorem val_take_ge {l : List Nat} {k : Nat} (h : l.length ≤ k) : val (l.take k) = val l := by rw [List.take_of_length_le h]
theorem val_take_succ' (l : List Nat) (k : Nat) : val (l.take (k + 1)) = val (l.take k) + 65536 ^ k * nth l k := by
  by_cases h : k < l.length
  · exact val_take_succ h
  · rw [val_take_ge (by omega), val_take_ge (by omega), nth_out (by omega)]; simp
theorem AddRel.next {a b k cr : Nat} {o : List Nat} (h : AddRel a b k o cr) :
    AddRel a b (k + 1) (o ++ [(cr + nth (dig a) k + nth (dig b) k) % 65536]) ((cr + nth (dig a) k + nth (dig b) k) / 65536) := by
  obtain ⟨h1, h2, h3, h4⟩ := h
  have hx := lim_nth (lim_dig a) k
  have hy := lim_nth (lim_dig b) k
  refine ⟨by simp [h1], lim_append.2 ⟨h2, fun x hm => ?_⟩, by omega, ?_⟩
  · rw [List.mem_singleton] at hm; subst hm; omega
  · rw [add_step h1 h4, val_take_succ', val_take_succ']
theorem AddRel.done {a b n cr : Nat} {o : List Nat} (h : AddRel a b n o cr) (ha : (dig a).length ≤ n) (hb : (dig b).length ≤ n) : trimL (o ++ [cr]) = dig (a + b) := by
  obtain ⟨h1, h2, h3, h4⟩ := h
  rw [trimL_dig (lim_append.2 ⟨h2, fun x hm => by rw [List.mem_singleton] at hm; subst hm; omega⟩)]
  rw [val_snoc, h1, h4, val_take_ge ha, val_take_ge hb, val_dig, val_dig]

theorem trimL_is_take (l : List Nat) : ∃ n, trimL l = l.take n := by
  induction l with
  | nil => exact ⟨0, rfl⟩
  | cons x l ih =>
    obtain ⟨n, hn⟩ := ih
    simp only [trimL]
    by_cases h : trimL l = [] ∧ x = 0
    · exact ⟨0, by rw [if_pos h]; rfl⟩
    · exact ⟨n + 1, by rw [if_neg h, hn]; rfl⟩
theorem trimL_length_le (l : List Nat) : (trimL l).length ≤ l.length := by
  obtain ⟨n, hn⟩ := trimL_is_take l
  rw [hn, List.length_take]
  omega

/-- The state of a difference: k digits are written. -/
def SubRel (a b k : Nat) (o : List Nat) (br : Nat) : Prop :=
  o.length = k ∧ Lim o ∧ br ≤ 1 ∧ val o + val ((dig b).take k) = val ((dig a).take k) + 65536 ^ k * br
theorem SubRel.start (a b : Nat) : SubRel a b 0 [] 0 := ⟨rfl, lim_nil, by omega, by simp [val]⟩
theorem SubRel.next {a b k br d br' : Nat} {o : List Nat} (h : SubRel a b k o br) (hd : d < 65536) (hb : br' ≤ 1) (he : d + nth (dig b) k + br = nth (dig a) k + 65536 * br') :
    SubRel a b (k + 1) (o ++ [d]) br' := by
  obtain ⟨h1, h2, h3, h4⟩ := h
  refine ⟨by simp [h1], lim_append.2 ⟨h2, fun x hm => ?_⟩, hb, ?_⟩
  · rw [List.mem_singleton] at hm; subst hm; exact hd
  · rw [val_take_succ', val_take_succ']; exact sub_step h1 h4 he
theorem SubRel.done {a b n br : Nat} {o : List Nat} (h : SubRel a b n o br) (ha : (dig a).length ≤ n) (hb : (dig b).length ≤ n) (hge : b ≤ a) : val o = a - b := by
  obtain ⟨h1, h2, h3, h4⟩ := h
  have h5 := val_lt h2
  rw [h1] at h5
  rw [val_take_ge ha, val_take_ge hb, val_dig, val_dig] at h4
  have h6 : br = 0 := by
    rcases Nat.eq_zero_or_pos br with h | h
    · exact h
    · have : br = 1 := by omega
      subst this
      rw [Nat.mul_one] at h4
      omega
  subst h6
  rw [Nat.mul_zero] at h4
  omega

/-- One digit taken from a number. -/
theorem dig_out {a r : Nat} {o : List Nat} (h : dig a = o ++ dig r) (hr : r ≠ 0) : dig a = (o ++ [r % 65536]) ++ dig (r / 65536) := by
  rw [h, dig_pos hr]; simp
theorem dig_rest {a r : Nat} {o : List Nat} (h : dig a = o ++ dig r) (hr : r = 0) : dig a = o := by
  rw [h, hr, dig_zero]; simp
theorem room_of {a r n : Nat} {o : List Nat} (h : dig a = o ++ dig r) (hr : r ≠ 0) (hn : (dig a).length ≤ n) : o.length + 1 ≤ n := by
  rw [h, dig_pos hr] at hn
  simp at hn
  omega

/-- The state of a division by one digit b: the digits from k on are divided, r is the rest. -/
def DivRel (xs : List Nat) (b k : Nat) (o : List Nat) (r : Nat) : Prop :=
  o.length = xs.length ∧ Lim o ∧ r < b ∧ o.take k = xs.take k ∧ val (xs.drop k) = val (o.drop k) * b + r
theorem DivRel.start {xs : List Nat} {b : Nat} (hx : Lim xs) (hb : 0 < b) : DivRel xs b xs.length xs 0 :=
  ⟨rfl, hx, hb, rfl, by rw [List.drop_length]; simp [val]⟩
theorem nth_of_take {a b : List Nat} {k i : Nat} (h : a.take k = b.take k) (hi : i < k) : nth a i = nth b i := by
  rw [← nth_take (l := a) hi, h, nth_take hi]
theorem DivRel.next {xs o : List Nat} {b k r : Nat} (h : DivRel xs b (k + 1) o r) (hk : k < xs.length) :
    DivRel xs b k (o.set k ((r * 65536 + nth o k) / b)) ((r * 65536 + nth o k) % b) ∧ (r * 65536 + nth o k) / b < 65536 := by
  obtain ⟨h1, h2, h3, h4, h5⟩ := h
  have hx := lim_nth h2 k
  have hq := div_digit_lt h3 hx
  refine ⟨⟨by rw [List.length_set, h1], lim_set h2 hq, Nat.mod_lt _ (by omega), ?_, ?_⟩, hq⟩
  · rw [take_set_ge (Nat.le_refl _)]
    have := congrArg (List.take k) h4
    rwa [List.take_take, List.take_take, Nat.min_eq_left (by omega)] at this
  · rw [drop_set_self (by omega), val_drop_nth hk, ← nth_of_take h4 (by omega)]
    exact (divby_step (k := 0) h5 (by omega)).1
theorem DivRel.done {xs o : List Nat} {b r : Nat} (h : DivRel xs b 0 o r) : val o = val xs / b ∧ r = val xs % b := by
  obtain ⟨h1, h2, h3, h4, h5⟩ := h
  rw [List.drop_zero, List.drop_zero] at h5
  rw [h5]
  have hb : 0 < b := by omega
  constructor
  · rw [Nat.mul_comm, Nat.mul_add_div hb, Nat.div_eq_of_lt h3]; omega
  · rw [Nat.mul_comm, Nat.mul_add_mod, Nat.mod_eq_of_lt h3]
end Kb

namespace Kb
open Go

theorem or_nat {i v x : Nat} (hv : v < 2 ^ i) : v ||| (2 ^ i * x) = v + 2 ^ i * x := by
  rw [Nat.or_comm, ← Nat.two_pow_add_eq_or_of_lt hv, Nat.add_comm]
theorem pow16 (k : Nat) : (65536 : Nat) ^ k = 2 ^ (16 * k) := by
  rw [Nat.pow_mul]
theorem pow16_int (k : Nat) : (2 : Int) ^ (16 * k) = ((65536 ^ k : Nat) : Int) := by
  rw [pow16]; simp
theorem pow_lt_64 {k : Nat} (hk : k ≤ 4) : 65536 ^ k ≤ 18446744073709551616 := by
  match k, hk with
  | 0, _ => decide
  | 1, _ => decide
  | 2, _ => decide
  | 3, _ => decide
  | 4, _ => decide
theorem or_word {k v x : Nat} (hk : k < 4) (hv : v < 65536 ^ k) (hx : x < 65536) :
    bits .or .u64 (v : Int) (IntKind.u64.wrap (IntKind.u64.wrap (x : Int) * 2 ^ (16 * k))) = ((v + 65536 ^ k * x : Nat) : Int) := by
  have h1 : 65536 ^ (k + 1) ≤ 18446744073709551616 := pow_lt_64 hk
  have h2 : 65536 ^ k * x < 65536 ^ (k + 1) := by
    rw [Nat.pow_succ]; exact Nat.mul_lt_mul_of_pos_left hx (Nat.pow_pos (by decide))
  have e1 : IntKind.u64.wrap (x : Int) = (x : Int) := by rw [IntKind.wrap_u64]; omega
  have e2 : IntKind.u64.wrap (IntKind.u64.wrap (x : Int) * 2 ^ (16 * k)) = ((65536 ^ k * x : Nat) : Int) := by
    rw [e1, pow16_int, IntKind.wrap_u64, Int.mul_comm, ← Int.natCast_mul]
    omega
  have h3 : 65536 ^ k ≤ 18446744073709551616 := pow_lt_64 (by omega)
  rw [e2, u64_or_nat _ _ (by omega) (by omega)]
  rw [pow16] at hv ⊢
  rw [or_nat hv]

theorem u16_of (s : Nat) : IntKind.u16.wrap (s : Int) = ((s % 65536 : Nat) : Int) := by rw [IntKind.wrap_u16]; omega
theorem u32_of {s : Nat} (h : s < 4294967296) : IntKind.u32.wrap (s : Int) = (s : Int) := by rw [IntKind.wrap_u32']; omega
theorem u64_of {s : Nat} (h : s < 18446744073709551616) : IntKind.u64.wrap (s : Int) = (s : Int) := by rw [IntKind.wrap_u64]; omega

theorem sub_digit {x y br : Nat} {S : Int} (hx : x < 65536) (hy : y < 65536) (hbr : br ≤ 1) (hS : S = (x : Int) - br - y) :
    ∃ d br' : Nat, d < 65536 ∧ br' ≤ 1 ∧ d + y + br = x + 65536 * br' ∧ S % 4294967296 / 2147483648 = (br' : Int) ∧ IntKind.u16.wrap (S % 4294967296) = (d : Int) := by
  subst hS
  by_cases h : y + br ≤ x
  · exact ⟨x - y - br, 0, by omega, by omega, by omega, by omega, by rw [IntKind.wrap_u16]; omega⟩
  · exact ⟨x + 65536 - y - br, 1, by omega, by omega, by omega, by omega, by rw [IntKind.wrap_u16]; omega⟩

theorem or_shl16 {r x : Nat} (hr : r < 65536) (hx : x < 65536) {R X : Int} (hR : R = (r : Int) * 65536) (hX : X = (x : Int)) : bits .or .u32 R X = ((r * 65536 + x : Nat) : Int) := by
  subst hR; subst hX
  rw [show (r : Int) * 65536 = ((65536 * r : Nat) : Int) by omega, u32_or_nat _ _ (by omega) (by omega)]
  have := or_nat (i := 16) (v := x) (x := r) (by omega)
  rw [show (2 : Nat) ^ 16 = 65536 from rfl] at this
  rw [Nat.or_comm, this]
  omega

theorem pow_int (s : Nat) : (2 : Int) ^ s = ((2 ^ s : Nat) : Int) := by simp
theorem shl_lt {x s : Nat} (hx : x < 65536) (hs : s < 16) : 2 ^ s * x < 4294967296 := by
  have h1 : (2 : Nat) ^ s ≤ 2 ^ 15 := Nat.pow_le_pow_right (by decide) (by omega)
  have h2 : 2 ^ s * x ≤ 2 ^ 15 * 65535 := Nat.mul_le_mul h1 (by omega)
  omega
theorem shl_or {cr x s : Nat} (hcr : cr < 2 ^ s) (hx : x < 65536) (hs : s < 16) : bits .or .u32 (cr : Int) ((x : Int) * 2 ^ s % 4294967296) = ((cr + 2 ^ s * x : Nat) : Int) := by
  have h1 := shl_lt hx hs
  have h0 : (2 : Nat) ^ s ≤ 2 ^ 15 := Nat.pow_le_pow_right (by decide) (by omega)
  have e : (x : Int) * 2 ^ s % 4294967296 = ((2 ^ s * x : Nat) : Int) := by
    rw [pow_int, Int.mul_comm, ← Int.natCast_mul]
    omega
  rw [e, u32_or_nat _ _ (by omega) (by omega), or_nat hcr]

theorem pow_split {s : Nat} (hs : s < 16) : 2 ^ s * 2 ^ (16 - s) = 65536 := by
  rw [← Nat.pow_add, show s + (16 - s) = 16 by omega]
theorem down_or {a z s : Nat} (ha : a < 65536) (hs : s < 16) :
    bits .or .u16 ((a : Int) / 2 ^ s) (IntKind.u16.wrap ((z : Int) * 2 ^ (16 - s))) = ((a / 2 ^ s + (z % 2 ^ s) * 2 ^ (16 - s) : Nat) : Int) := by
  have hp := pow_split hs
  have h1 : a / 2 ^ s < 2 ^ (16 - s) := by
    apply Nat.div_lt_of_lt_mul
    rw [hp]; exact ha
  have h2 : z * 2 ^ (16 - s) % 65536 = (z % 2 ^ s) * 2 ^ (16 - s) := by
    rw [← hp]; exact Nat.mul_mod_mul_right _ _ _
  have hps : 0 < 2 ^ (16 - s) := Nat.pow_pos (by decide)
  have h3 : (z % 2 ^ s) * 2 ^ (16 - s) < 65536 := by
    rw [← hp]; exact Nat.mul_lt_mul_of_pos_right (Nat.mod_lt _ (Nat.pow_pos (by decide))) hps
  have h4 : a / 2 ^ s < 65536 := Nat.lt_of_le_of_lt (Nat.div_le_self _ _) ha
  rw [pow_int s, pow_int (16 - s), ← Int.natCast_mul, ← Int.natCast_ediv, u16_of, h2, u16_or_nat _ _ h4 h3]
  rw [Nat.mul_comm (z % 2 ^ s), or_nat h1]
/-- Digits that a shift leaves, joined: the quotient. -/
theorem down_val {xs o : List Nat} {s : Nat} (hs : s < 16) (hl : o.length = xs.length) (h : ∀ i, i < xs.length → nth o i = nth xs i / 2 ^ s + (nth xs (i + 1) % 2 ^ s) * 2 ^ (16 - s)) : val o = val xs / 2 ^ s := by
  have hp := pow_split hs
  have hpos : 0 < 2 ^ s := Nat.pow_pos (by decide)
  have key : ∀ m k, xs.length = m + k → 2 ^ s * val (o.drop k) + nth xs k % 2 ^ s = val (xs.drop k) := by
    intro m
    induction m with
    | zero =>
      intro k hk
      rw [List.drop_of_length_le (by omega), List.drop_of_length_le (by omega), nth_out (by omega)]
      simp [val]
    | succ m ih =>
      intro k hk
      have e := ih (k + 1) (by omega)
      rw [val_drop_nth (l := o) (by omega), val_drop_nth (l := xs) (by omega), h k (by omega), ← e]
      have e1 : 2 ^ s * (nth xs (k + 1) % 2 ^ s * 2 ^ (16 - s)) = 65536 * (nth xs (k + 1) % 2 ^ s) := by
        rw [Nat.mul_comm (nth xs (k + 1) % 2 ^ s), ← Nat.mul_assoc, hp]
      have e2 : 2 ^ s * (65536 * val (o.drop (k + 1))) = 65536 * (2 ^ s * val (o.drop (k + 1))) := Nat.mul_left_comm _ _ _
      have e3 := Nat.div_add_mod (nth xs k) (2 ^ s)
      rw [Nat.mul_add, Nat.mul_add, e1, e2]
      omega
  have e := key xs.length 0 (by omega)
  rw [List.drop_zero, List.drop_zero] at e
  rw [← e, Nat.mul_add_div hpos, Nat.div_eq_of_lt (Nat.mod_lt _ hpos)]
  omega

theorem down_lt {a z s : Nat} (ha : a < 65536) (hs : s < 16) : a / 2 ^ s + (z % 2 ^ s) * 2 ^ (16 - s) < 65536 := by
  have hp := pow_split hs
  have h1 : a / 2 ^ s < 2 ^ (16 - s) := by
    apply Nat.div_lt_of_lt_mul
    rw [hp]; exact ha
  have h2 : z % 2 ^ s + 1 ≤ 2 ^ s := Nat.mod_lt _ (Nat.pow_pos (by decide))
  have h3 : (z % 2 ^ s + 1) * 2 ^ (16 - s) ≤ 2 ^ s * 2 ^ (16 - s) := Nat.mul_le_mul_right _ h2
  rw [Nat.add_mul, Nat.one_mul, hp] at h3
  omega

theorem and_mask {t : Nat} (ht : t < 4294967296) : bits .and .u32 (t : Int) 65535 = ((t % 65536 : Nat) : Int) := by
  have e := u32_and_nat t 65535 ht (by decide)
  have e2 : t &&& 65535 = t % 65536 := by
    have := Nat.and_two_pow_sub_one_eq_mod t 16
    rw [show (2 : Nat) ^ 16 - 1 = 65535 from rfl, show (2 : Nat) ^ 16 = 65536 from rfl] at this
    exact this
  rw [e2] at e
  exact e
end Kb

namespace Go.Proofs.YtffipjofefemiaaGreatDoor
open Go.RowKit Kb

theorem hid {p : Prop} (h : p) : Hid p := h
theorem block_of_add (a : Addr) (n : Nat) : (a.add n).block = a.block := by unfold Addr.add; split <;> rfl
theorem addr_zero (a : Addr) : a.add 0 = a := by unfold Addr.add; simp
theorem add_of_add (a : Addr) (i j : Nat) : (a.add i).add j = a.add (i + j) := by
  unfold Addr.add
  by_cases hi : i = 0 <;> by_cases hj : j = 0 <;> simp [hi, hj, Nat.add_assoc]

/-- The slice at A reads as the numbers xs of kind k. -/
def Sl (w : World) (k : IntKind) (A : Option Addr) (xs : List Nat) : Prop :=
  ∀ i, i < xs.length → ∃ ad, A = some ad ∧ ad.block < w.heap.size ∧ w.cell? (ad.add i) = some (.int k (nth xs i))

section
variable {w w' : World} {k : IntKind} {A : Option Addr} {xs : List Nat}
theorem Sl.nil (w : World) (k : IntKind) (A : Option Addr) : Sl w k A [] := fun i h => by simp at h
theorem Sl.keep (h : Sl w k A xs) (hz : w.heap.size ≤ w'.heap.size) (hk : ∀ p : Addr, p.block < w.heap.size → w'.cell? p = w.cell? p) : Sl w' k A xs := fun i hi => by
  obtain ⟨ad, e, hb, hc⟩ := h i hi
  exact ⟨ad, e, by omega, (hk _ (by rw [block_of_add]; exact hb)).trans hc⟩
theorem Sl.below (h : Sl w k A xs) (hb : Below w.heap.size w w') : Sl w' k A xs := h.keep hb.size fun _ hp => hb.cell hp
theorem Sl.take (h : Sl w k A xs) (n : Nat) : Sl w k A (xs.take n) := fun i hi => by
  rw [List.length_take] at hi
  obtain ⟨ad, e, hb, hc⟩ := h i (by omega)
  exact ⟨ad, e, hb, by rw [hc, nth_take (by omega)]⟩
theorem Sl.drop (h : Sl w k A xs) (n : Nat) : Sl w k (A.map (·.add n)) (xs.drop n) := fun i hi => by
  rw [List.length_drop] at hi
  obtain ⟨ad, e, hb, hc⟩ := h (n + i) (by omega)
  subst e
  exact ⟨ad.add n, rfl, by rw [block_of_add]; exact hb, by rw [add_of_add, hc, nth_drop]⟩
end

/-- Nothing but draws. -/
def Qt (w w' : World) : Prop := ∃ n, w.drewN n = w'
theorem Qt.refl (w : World) : Qt w w := ⟨0, rfl⟩
theorem Qt.drewN {w w' : World} (h : Qt w w') (n : Nat) : Qt w (w'.drewN n) := by
  obtain ⟨m, rfl⟩ := h; exact ⟨m + n, (World.drewN_drewN ..).symm⟩
theorem Qt.drew {w w' : World} (h : Qt w w') : Qt w w'.drew := by
  obtain ⟨m, rfl⟩ := h; exact ⟨m + 1, rfl⟩
theorem Qt.trans {a b c : World} (h : Qt a b) (k : Qt b c) : Qt a c := by
  obtain ⟨m, rfl⟩ := k; exact h.drewN m
theorem Qt.below {w w' : World} (h : Qt w w') (B : Nat) : Below B w w' := by
  obtain ⟨m, rfl⟩ := h; exact below_drewN (Below.refl _ _) m
theorem Sl.qt {w w' : World} {k : IntKind} {A : Option Addr} {xs : List Nat} (h : Sl w k A xs) (hq : Qt w w') : Sl w' k A xs := h.below (hq.below _)
theorem quiet_left {P : Program} {f : FuncId} {args : Array Value} {w : World} {n : Nat} {v : Value}
    (h : Calls P f args (w.drewN n) fun e w' => e = .returned v ∧ w.drewN n = w') : Calls P f args (w.drewN n) fun e w'' => e = .returned v ∧ ∃ m, w'' = w.drewN m :=
  h.mono fun _ _ ⟨he, hm⟩ => ⟨he, n, hm.symm⟩
theorem quiet_qt {P : Program} {f : FuncId} {args : Array Value} {w : World} {n : Nat} {v : Value}
    (h : Calls P f args (w.drewN n) fun e w' => e = .returned v ∧ Qt (w.drewN n) w') : Calls P f args (w.drewN n) fun e w'' => e = .returned v ∧ ∃ m, w'' = w.drewN m :=
  h.mono fun _ _ ⟨he, m, hm⟩ => ⟨he, n + m, by rw [← hm, World.drewN_drewN]⟩

/-- The slice v is the number a: its limbs, no 0 at the end. -/
def Nm (w : World) (v : Value) (a : Nat) : Prop :=
  ∃ A c, v = .slice A (dig a).length c ∧ Sl w .u16 A (dig a) ∧ (dig a).length ≤ c ∧ c ≤ maxLen
theorem Nm.below {w w' : World} {v : Value} {a : Nat} (h : Nm w v a) (hb : Below w.heap.size w w') : Nm w' v a := by
  obtain ⟨A, c, e, h1, h2, h3⟩ := h
  exact ⟨A, c, e, h1.below hb, h2, h3⟩
theorem Nm.qt {w w' : World} {v : Value} {a : Nat} (h : Nm w v a) (hq : Qt w w') : Nm w' v a := h.below (hq.below _)
theorem nm_nil (w : World) : Nm w (.slice none 0 0) 0 := ⟨none, 0, by rw [dig_zero]; rfl, by rw [dig_zero]; exact Sl.nil _ _ _, by rw [dig_zero]; exact Nat.le_refl _, by unfold maxLen; omega⟩
theorem Nm.len {w : World} {v : Value} {a : Nat} (h : Nm w v a) : (dig a).length ≤ 9223372036854775807 := by
  obtain ⟨A, c, _, _, h2, h3⟩ := h
  unfold maxLen at h3
  omega

/-- The cells of a row of numbers. -/
def rowOf (k : IntKind) (xs : List Nat) : Array Value := (xs.map fun (x : Nat) => Value.int k (x : Int)).toArray
/-- Numbers as values of kind k. -/
def vals (k : IntKind) (xs : List Nat) : List Value := xs.map fun (x : Nat) => Value.int k (x : Int)
theorem vals_snoc (k : IntKind) (xs : List Nat) (x : Nat) (X : Int) (h : X = (x : Int)) : vals k xs ++ [Value.int k X] = vals k (xs ++ [x]) := by subst h; simp [vals]
theorem vals_length (k : IntKind) (xs : List Nat) : (vals k xs).length = xs.length := by simp [vals]
/-- What the call owns reads. -/
theorem Sl.of_own {w : World} {base n cap : Nat} {e : TypeId} {k : IntKind} {A : Option Addr} {xs : List Nat} (h : w.ownsRow base e 1 (.slice A n cap) n (vals k xs)) : Sl w k A xs := fun i hi => by
  have hl := h.1
  rw [vals_length] at hl
  rcases h.2 with ⟨_, h2⟩ | ⟨g, c, cur, hv, _, hg, _⟩
  · omega
  · injection hv with h1
    subst h1
    exact ⟨_, rfl, (Array.getElem?_eq_some_iff.1 hg).1, h.cells (g := g) rfl i _ (by simp [vals, hi, nth_eq hi])⟩
theorem Sl.cells {w : World} {k : IntKind} {ad : Addr} {xs : List Nat} (h : Sl w k (some ad) xs) : ∀ j u, (vals k xs)[j]? = some u → w.cell? (ad.add j) = some u := fun j u hu => by
  have hj : j < xs.length := by
    rcases Nat.lt_or_ge j xs.length with h1 | h1
    · exact h1
    · rw [List.getElem?_eq_none (by rw [vals_length]; exact h1)] at hu; cases hu
  obtain ⟨ad', e, _, hc⟩ := h j hj
  injection e with e
  subst e
  rw [hc, ← hu]
  simp [vals, hj, nth_eq hj]
theorem vals_one (k : IntKind) (xs : List Nat) : ∀ u ∈ vals k xs, u.oneCell' = true := fun u hu => by
  obtain ⟨_, _, rfl⟩ := List.mem_map.1 hu
  rfl
/-- What is owned and not empty lies in a block of its own. -/
theorem own_form {w : World} {base n : Nat} {e : TypeId} {k : IntKind} {v : Value} {xs : List Nat} (h : w.ownsRow base e 1 v n (vals k xs)) (hn : 0 < n) :
    ∃ g c, v = .slice (some ⟨g, 0, none⟩) n c ∧ base ≤ g ∧ n ≤ c ∧ c ≤ maxLen := by
  rcases h.2 with ⟨_, h2⟩ | ⟨g, c, cur, hv, hb, _, h3, h4, _⟩
  · omega
  · exact ⟨g, c, hv, hb, h3, h4⟩
theorem one_cell (v : Value) (h : v.oneCell' = true) : ∀ u ∈ [v], u.oneCell' = true := fun u hu => by
  rw [List.mem_singleton] at hu; rw [hu]; exact h

theorem _root_.Go.RowKit.Below.drewN' {B : Nat} {a w : World} (h : Below B a w) (n : Nat) : Below B a (w.drewN n) := below_drewN h n
/-- Block g is the row of the numbers xs, nothing else. -/
def Row (w : World) (g : Nat) (t : TypeId) (k : IntKind) (xs : List Nat) : Prop :=
  w.heap[g]? = some (.cells (rowOf k xs) t (0, 0))
theorem Row.new (w : World) (t : TypeId) (k : IntKind) (xs : List Nat) : Row (w.alloc (.cells (rowOf k xs) t)) w.heap.size t k xs := heap_alloc_new w _

section
variable {w w' : World} {g : Nat} {t : TypeId} {k : IntKind} {xs : List Nat}
theorem Row.lt (h : Row w g t k xs) : g < w.heap.size := by
  rcases Nat.lt_or_ge g w.heap.size with hlt | hge
  · exact hlt
  · unfold Row at h; rw [Array.getElem?_eq_none hge] at h; cases h
theorem Row.cell (h : Row w g t k xs) {i : Nat} (hi : i < xs.length) : w.cell? ⟨g, i, none⟩ = some (.int k (nth xs i)) := by
  rw [cell_of_row w g i _ t (0, 0) h]
  simp [rowOf, hi, nth_eq hi]
theorem Row.frozen (h : Row w g t k xs) (i : Nat) : w.frozen? ⟨g, i, none⟩ = false := by
  unfold Row at h
  simp [World.frozen?, h]
theorem Row.set (h : Row w g t k xs) (i v : Nat) : Row (w.setCell ⟨g, i, none⟩ (.int k (v : Int))) g t k (xs.set i v) := by
  unfold Row at h ⊢
  simp only [World.setCell, Array.getElem?_modify, h]
  simp [rowOf, List.map_set]
theorem Row.far (h : Row w g t k xs) {p : Addr} (hp : g ≠ p.block) (u : Value) : Row (w.setCell p u) g t k xs := (Below.heap_setCell w p u g hp).trans h
theorem Row.alloc (h : Row w g t k xs) (o : Obj) : Row (w.alloc o) g t k xs := (Below.heap_alloc w o g h.lt).trans h
theorem Row.below {B : Nat} (h : Row w g t k xs) (hb : Below B w w') (hg : g < B) : Row w' g t k xs := (hb.block g hg).trans h
theorem Row.grown {r : Option Nat} (h : Row w g t k xs) (hb : w.grownBy w' r) (hg : some g ≠ r) : Row w' g t k xs := (hb.block g h.lt hg).trans h
theorem Row.sl (h : Row w g t k xs) : Sl w k (some ⟨g, 0, none⟩) xs := fun i hi =>
  ⟨_, rfl, h.lt, by rw [Addr.add_lit, Nat.zero_add]; exact h.cell hi⟩
theorem madeCells_int (k : IntKind) (n : Nat) : madeCells #[Value.int k 0] (n * 1) = rowOf k (List.replicate n 0) := by
  unfold rowOf
  apply Array.ext
  · simp [madeCells]
  · intro i h1 h2
    simp [madeCells, Nat.mod_one]
/-- 'make([]T, n)' of an integer type: a new row of zeros. -/
theorem run_make_rowOf {P : Program} (T e : TypeId) (i : TypeInfo) (k : IntKind) (L : Int) (n : Nat) (w : World) (ht : P.underlying T = some (.slice e)) (hi : P.info? e = some i) (hz : i.zero = some (.int k 0)) (hs : i.size = 1)
    (hL : L = (n : Int)) (hn : n ≤ 2000000000) (hb : i.bytes ≤ 8) :
    (Instr.makeSlice T (.int .i64 L) (.int .i64 L)).run P w = .ok (.slice (some ⟨w.heap.size, 0, none⟩) n n) (w.alloc (.cells (rowOf k (List.replicate n 0)) e)) := by
  subst hL
  have h1 : i.bytes * n ≤ 8 * n := Nat.mul_le_mul_right _ hb
  rw [run_make (P := P) w T e i (.int k 0) ht hi hz .i64 .i64 n n (Int.natCast_nonneg n) (Int.le_refl _) (by rw [← Int.natCast_mul]; omega) (by omega)]
  rw [hs, Int.toNat_natCast, show (Value.int k 0).cells = #[Value.int k 0] from rfl, madeCells_int]
end
theorem row_pad_set {wr : World} {g k n s : Nat} {T : TypeId} {o : List Nat} {S : Int} (hrow : Row wr g T .u16 (o ++ List.replicate (n - k) 0)) (hl : o.length = k) (hk : k < n) (hS : S = (s : Nat)) :
    Row (wr.setCell ⟨g, k, none⟩ (.int .u16 (IntKind.u16.wrap S))) g T .u16 ((o ++ [s % 65536]) ++ List.replicate (n - (k + 1)) 0) := by
  subst hS
  rw [u16_of, ← set_pad hl hk]
  exact hrow.set k _
theorem row_pad_put {wr : World} {g k n s : Nat} {T : TypeId} {o : List Nat} {S : Int} (hrow : Row wr g T .u16 (o ++ List.replicate (n - k) 0)) (hl : o.length = k) (hk : k < n) (hS : S = (s : Nat)) :
    Row (wr.setCell ⟨g, k, none⟩ (.int .u16 S)) g T .u16 ((o ++ [s]) ++ List.replicate (n - (k + 1)) 0) := by
  subst hS
  rw [← set_pad hl hk]
  exact hrow.set k _
theorem val_int {k : IntKind} {a b : Int} (h : a = b) : Value.int k a = Value.int k b := by rw [h]
/-- Block g begins with the numbers xs. -/
def Pre (w : World) (g : Nat) (t : TypeId) (k : IntKind) (xs : List Nat) : Prop :=
  ∃ cur : Array Value, w.heap[g]? = some (.cells cur t (0, 0)) ∧ xs.length ≤ cur.size ∧ ∀ i, i < xs.length → cur[i]? = some (.int k (nth xs i : Nat))
section
variable {w w' : World} {g : Nat} {t : TypeId} {k : IntKind} {xs : List Nat}
theorem Row.pre (h : Row w g t k xs) : Pre w g t k xs := ⟨rowOf k xs, h, by simp [rowOf], fun i hi => by simp [rowOf, hi, nth_eq hi]⟩
theorem Pre.lt (h : Pre w g t k xs) : g < w.heap.size := by
  obtain ⟨cur, h, _⟩ := h
  exact (Array.getElem?_eq_some_iff.1 h).1
theorem Pre.cell (h : Pre w g t k xs) {i : Nat} (hi : i < xs.length) : w.cell? ⟨g, i, none⟩ = some (.int k (nth xs i)) := by
  obtain ⟨cur, h1, h2, h3⟩ := h
  rw [cell_of_row w g i _ t (0, 0) h1]
  exact h3 i hi
theorem Pre.frozen (h : Pre w g t k xs) (i : Nat) : w.frozen? ⟨g, i, none⟩ = false := by
  obtain ⟨cur, h1, h2, h3⟩ := h
  simp [World.frozen?, h1]
theorem Pre.set (h : Pre w g t k xs) {i : Nat} (hi : i < xs.length) (v : Nat) : Pre (w.setCell ⟨g, i, none⟩ (.int k (v : Int))) g t k (xs.set i v) := by
  obtain ⟨cur, h1, h2, h3⟩ := h
  refine ⟨cur.setIfInBounds i (.int k (v : Int)), ?_, by simpa using h2, fun j hj => ?_⟩
  · simp only [World.setCell, Array.getElem?_modify, h1]
    simp
  · rw [List.length_set] at hj
    rw [nth_set hi, Array.getElem?_setIfInBounds]
    by_cases e : i = j
    · subst e
      rw [if_pos rfl, if_pos rfl, if_pos (by omega)]
    · rw [if_neg e, if_neg (fun x => e x.symm)]
      exact h3 j hj
theorem Pre.below {B : Nat} (h : Pre w g t k xs) (hb : Below B w w') (hg : g < B) : Pre w' g t k xs := by
  obtain ⟨cur, h1, h2, h3⟩ := h
  exact ⟨cur, (hb.block g hg).trans h1, h2, h3⟩
theorem Pre.grown {r : Option Nat} (h : Pre w g t k xs) (hb : w.grownBy w' r) (hg : some g ≠ r) : Pre w' g t k xs := by
  have hl := h.lt
  obtain ⟨cur, h1, h2, h3⟩ := h
  exact ⟨cur, (hb.block g hl hg).trans h1, h2, h3⟩
theorem Pre.take (h : Pre w g t k xs) (n : Nat) : Pre w g t k (xs.take n) := by
  obtain ⟨cur, h1, h2, h3⟩ := h
  refine ⟨cur, h1, by rw [List.length_take]; omega, fun i hi => ?_⟩
  rw [List.length_take] at hi
  rw [nth_take (by omega)]
  exact h3 i (by omega)
theorem Pre.sl (h : Pre w g t k xs) : Sl w k (some ⟨g, 0, none⟩) xs := fun i hi =>
  ⟨_, rfl, h.lt, by rw [Addr.add_lit, Nat.zero_add]; exact h.cell hi⟩
theorem Pre.of_own {base n c : Nat} (h : w.ownsRow base t 1 (.slice (some ⟨g, 0, none⟩) n c) n (vals k xs)) : Pre w g t k xs := by
  have hl := h.1
  rw [vals_length] at hl
  rcases h.2 with ⟨e, _⟩ | ⟨g', cap, cur, e, _, hh, hnc, _, hs, ht⟩
  · cases e
  · injection e with e1 e2 e3
    injection e1 with e1
    injection e1 with e1
    subst e1; subst e3
    refine ⟨cur, hh, by omega, fun i hi => ?_⟩
    have h4 : (vals k xs)[i]? = some (.int k (nth xs i : Nat)) := by simp [vals, hi, nth_eq hi]
    rw [← ht, List.getElem?_take, if_pos (by omega)] at h4
    simpa using h4
theorem Sl.grown {A : Option Addr} {r : Option Nat} (h : Sl w k A xs) (hb : w.grownBy w' r) (hne : ∀ ad, A = some ad → xs ≠ [] → some ad.block ≠ r) : Sl w' k A xs := fun i hi => by
  obtain ⟨ad, e, hl, hc⟩ := h i hi
  have hx : xs ≠ [] := by intro e; subst e; simp at hi
  refine ⟨ad, e, Nat.lt_of_lt_of_le hl hb.size, ?_⟩
  rw [← hc]
  exact World.cell?_of_block (by rw [block_of_add]; exact hb.block _ hl (hne ad e hx))
end
theorem gb_set {w w' : World} {g : Nat} (h : w.grownBy w' (some g)) (i : Nat) (v : Value) : w.grownBy (w'.setCell ⟨g, i, none⟩ v) (some g) :=
  ⟨h.os, h.tape, h.output, by have := h.size; simpa [World.setCell] using this, fun k hk hne => by
    rw [Below.heap_setCell _ _ _ _ (fun e => hne (by rw [e]))]
    exact h.block k hk hne⟩
theorem gb_drewN {w w' : World} {r : Option Nat} (h : w.grownBy w' r) (n : Nat) : w.grownBy (w'.drewN n) r := ⟨h.os, h.tape, h.output, h.size, h.block⟩
theorem gb_trans {a b c : World} {r : Option Nat} (h : a.grownBy b r) (k : b.grownBy c r) : a.grownBy c r :=
  ⟨k.os.trans h.os, k.tape.trans h.tape, k.output.trans h.output, Nat.le_trans h.size k.size, fun i hi hne => (k.block i (Nat.lt_of_lt_of_le hi h.size) hne).trans (h.block i hi hne)⟩
theorem gb_of_below {a b : World} {r : Option Nat} (h : Below a.heap.size a b) : a.grownBy b r := ⟨h.os, h.tape, h.output, h.size, fun i hi _ => h.block i hi⟩
theorem bthen {B : Nat} {w w1 w2 : World} (h1 : Below B w w1) (h2 : Below w1.heap.size w1 w2) (hB : B ≤ w.heap.size) : Below B w w2 := h1.trans (h2.mono (Nat.le_trans hB h1.size))
section
variable {w w2 : World} {C : Array Value} {T : TypeId}
theorem box_heap (hb : Below (w.alloc (.cells C T)).heap.size (w.alloc (.cells C T)) w2) : w2.heap[w.heap.size]? = some (.cells C T (0, 0)) := (hb.block _ (by simp)).trans (heap_alloc_new w _)
theorem box_cell (hb : Below (w.alloc (.cells C T)).heap.size (w.alloc (.cells C T)) w2) (i : Nat) : w2.cell? ⟨w.heap.size, i, none⟩ = C[i]? := cell_of_row w2 _ i _ T (0, 0) (box_heap hb)
theorem box_frozen (hb : Below (w.alloc (.cells C T)).heap.size (w.alloc (.cells C T)) w2) (i : Nat) : w2.frozen? ⟨w.heap.size, i, none⟩ = false := by
  have := box_heap hb
  simp [World.frozen?, this]
theorem box_size (hb : Below (w.alloc (.cells C T)).heap.size (w.alloc (.cells C T)) w2) : w.heap.size < w2.heap.size := by
  have := hb.size
  simp at this
  omega
end
theorem ret_slice {A : Option Addr} {m n c : Nat} (h : m = n) : Ending.returned (.slice A m c) = .returned (.slice A n c) := by rw [h]
theorem ret_int {k : IntKind} {a b : Int} (h : a = b) : Ending.returned (.int k a) = .returned (.int k b) := by rw [h]
def lenOf : Value → Nat | .slice _ n _ => n | _ => 0

end Go.Proofs.YtffipjofefemiaaGreatDoor

namespace Go.Proofs.YtffipjofefemiaaGreatDoor
open Go.RowKit Kb

set_option maxHeartbeats 400000 in
theorem trim_any (A : Option Addr) (c : Nat) (xs : List Nat) (w : World) (hs : Sl w .u16 A xs) (hl : xs.length ≤ c) (hc : c ≤ maxLen) :
    Calls Tryz.prog 116 #[.slice A xs.length c] w fun e w' => e = .returned (.slice A (trimL xs).length c) ∧ w = w' := by
  unfold maxLen at hc
  go_enter Tryz.func116, Tryz.ntmps116
  go_wp2
  go_loop [0] (fun s => ∃ n : Nat, keepL xs n ∧ s = .slice A n c) (fun s => lenOf s)
  case atStart => exact ⟨xs.length, keepL_start xs, rfl⟩
  case round =>
    obtain ⟨n, hn, rfl⟩ := hrel
    have hn1 := hn.1
    by_cases h0 : 0 < n
    · obtain ⟨ad, rfl, hb, hcell⟩ := hs (n - 1) (by omega)
      by_cases hz : nth xs (n - 1) = 0
      · have hk := keepL_step hn hz
        rw [hz] at hcell
        have Hz := hid hz; clear hz
        go_wp2
        go_round
        case rel => exact ⟨n - 1, hk, rfl⟩
        case measure => simp [lenOf]; omega
      · have hk := trimL_length hn (.inr hz)
        have Hk := hid hk; clear hk
        go_wp2
        go_ret
        exact ⟨ret_slice Hk.out.symm, rfl⟩
    · have hk := trimL_length hn (.inl (by omega))
      have Hk := hid hk; clear hk
      go_wp2
      go_ret
      exact ⟨ret_slice Hk.out.symm, rfl⟩

theorem trim_nm (A : Option Addr) (c n : Nat) (xs : List Nat) (w : World) (hs : Sl w .u16 A xs) (hx : Lim xs) (hn : xs.length = n) (hl : n ≤ c) (hc : c ≤ maxLen) :
    Calls Tryz.prog 116 #[.slice A n c] w fun e w' => ∃ v, e = .returned v ∧ Nm w v (val xs) ∧ w = w' := by
  subst hn
  refine (trim_any A c xs w hs hl hc).mono ?_
  rintro e w' ⟨rfl, rfl⟩
  refine ⟨_, rfl, ⟨A, c, by rw [trimL_dig hx], ?_, ?_, hc⟩, rfl⟩
  · obtain ⟨n, hn⟩ : ∃ n, trimL xs = xs.take n := trimL_is_take xs
    rw [← trimL_dig hx, hn]
    exact hs.take n
  · rw [← trimL_dig hx]
    have := trimL_length_le xs
    omega

set_option maxHeartbeats 400000 in
theorem direction_any (b : Bool) (w : World) :
    Calls Tryz.prog 104 #[.bool b] w fun e w' => e = .returned (.int .i64 (if b then 1 else -1)) ∧ w = w' := by
  cases b <;>
  · go_enter Tryz.func104, Tryz.ntmps104
    go_wp2
    go_ret
    exact ⟨rfl, rfl⟩

set_option maxHeartbeats 400000 in
theorem wordOf_any (A : Option Addr) (c : Nat) (xs : List Nat) (w : World) (hs : Sl w .u16 A xs) (h4 : xs.length ≤ 4) (hx : Lim xs) :
    Calls Tryz.prog 126 #[.slice A xs.length c] w fun e w' => e = .returned (.int .u64 (val xs : Nat)) ∧ w = w' := by
  go_enter Tryz.func126, Tryz.ntmps126
  go_wp2
  go_loop [3, 8] (fun s i => ∃ k : Nat, k ≤ xs.length ∧ i = .int .i64 k ∧ s = .int .u64 (val (xs.take k) : Nat)) (fun _ i => xs.length - (intOf i).toNat)
  case atStart => exact ⟨0, by omega, rfl, rfl⟩
  case round =>
    obtain ⟨k, hk, rfl, rfl⟩ := hrel
    by_cases hlt : k < xs.length
    · obtain ⟨ad, rfl, hb, hcell⟩ := hs k hlt
      go_wp2
      go_round
      case rel =>
        refine ⟨k + 1, hlt, by go_num, ?_⟩
        rw [or_word (by omega) (Nat.lt_of_lt_of_le (val_lt (lim_take hx k)) (by rw [List.length_take, Nat.min_eq_left hk]; exact Nat.le_refl _)) (lim_nth hx k), val_take_succ hlt]
      case measure => simp [intOf]; omega
    · have e : xs.take k = xs := List.take_of_length_le (by omega)
      rw [e]
      clear e
      go_wp2
      go_ret
      exact ⟨rfl, rfl⟩

set_option maxHeartbeats 400000 in
theorem isOne_any (A : Option Addr) (c : Nat) (xs : List Nat) (w : World) (hs : Sl w .u16 A xs)  :
    Calls Tryz.prog 106 #[.slice A xs.length c] w fun e w' => e = .returned (.bool (decide (xs = [1]))) ∧ w = w' := by
  by_cases h1 : xs.length = 1
  · obtain ⟨x, rfl⟩ : ∃ x, xs = [x] := List.length_eq_one_iff.1 h1
    obtain ⟨ad, rfl, hb, hcell⟩ := hs 0 (by simp)
    rw [nth_cons_zero, addr_zero] at hcell
    by_cases hx : x = 1
    · subst hx
      go_enter Tryz.func106, Tryz.ntmps106
      go_wp2
      go_ret
      exact ⟨rfl, rfl⟩
    · have hx' : ((x : Int) == 1) = false := by rw [beq_eq_false_iff_ne]; omega
      have hd : decide ([x] = [1]) = false := by simp; exact hx
      rw [hd]
      clear hd
      go_enter Tryz.func106, Tryz.ntmps106
      go_wp2
      go_ret
      exact ⟨rfl, rfl⟩
  · have hd : decide (xs = [1]) = false := by simp; intro e; subst e; simp at h1
    have hl1 : ((xs.length : Int) == 1) = false := by rw [beq_eq_false_iff_ne]; omega
    rw [hd]
    clear hd
    go_enter Tryz.func106, Tryz.ntmps106
    go_wp2
    go_ret
    exact ⟨rfl, rfl⟩

/-- The sign of a difference. -/
def sgn (a b : Nat) : Int := if a < b then -1 else if a = b then 0 else 1
theorem sgn_lt {a b : Nat} (h : a < b) : sgn a b = -1 := if_pos h
theorem sgn_gt {a b : Nat} (h : b < a) : sgn a b = 1 := by unfold sgn; rw [if_neg (by omega), if_neg (by omega)]
theorem sgn_eq (a : Nat) : sgn a a = 0 := by unfold sgn; rw [if_neg (by omega), if_pos rfl]

theorem drop_pred {l : List Nat} {k : Nat} (h0 : 0 < k) (hk : k ≤ l.length) : l.drop (k - 1) = nth l (k - 1) :: l.drop k := by
  obtain ⟨m, rfl⟩ : ∃ m, k = m + 1 := ⟨k - 1, by omega⟩
  rw [Nat.add_sub_cancel, List.drop_eq_getElem_cons (by omega), nth_eq (by omega)]
theorem cmp_round {a b : List Nat} {k : Nat} (h0 : 0 < k) (hk : k ≤ a.length) (hl : a.length = b.length) (hd : a.drop k = b.drop k) (he : nth a (k - 1) = nth b (k - 1)) : a.drop (k - 1) = b.drop (k - 1) := by
  rw [drop_pred h0 hk, drop_pred h0 (by omega), hd, he]
theorem cmp_less {a b k : Nat} (h0 : 0 < k) (hk : k ≤ (dig a).length) (hl : (dig a).length = (dig b).length) (hd : (dig a).drop k = (dig b).drop k) (he : nth (dig a) (k - 1) < nth (dig b) (k - 1)) : a < b := by
  have := val_lt_of_top (k := k - 1) (lim_dig a) hl (by omega) (by rw [show k - 1 + 1 = k by omega]; exact hd) he
  rwa [val_dig, val_dig] at this
theorem cmp_same {a b k : Nat} (h0 : ¬ 0 < k) (hd : (dig a).drop k = (dig b).drop k) : a = b := by
  rw [show k = 0 by omega, List.drop_zero, List.drop_zero] at hd
  exact dig_inj hd

set_option maxHeartbeats 1000000 in
theorem compareLimbs_any (A B : Option Addr) (c d a b : Nat) (w : World) (hs : Sl w .u16 A (dig a)) (hl : (dig a).length ≤ c) (hc : c ≤ maxLen)
    (hs2 : Sl w .u16 B (dig b)) :
    Calls Tryz.prog 75 #[.slice A (dig a).length c, .slice B (dig b).length d] w fun e w' => e = .returned (.int .i64 (sgn a b)) ∧ Qt w w' := by
  unfold maxLen at hc
  by_cases hne : (dig a).length = (dig b).length
  · have hne' : (((dig a).length : Int) != ((dig b).length : Int)) = false := by simp [hne]
    have Hne := hid hne; clear hne
    go_enter Tryz.func75, Tryz.ntmps75
    go_wp2
    go_loopw [5] (fun i wr => ∃ k : Nat, k ≤ (dig a).length ∧ i = .int .i64 ((k : Int) - 1) ∧ (dig a).drop k = (dig b).drop k ∧ Qt w wr) (fun i _ => (intOf i + 1).toNat)
    case atStart =>
      refine ⟨(dig a).length, Nat.le_refl _, by go_num, ?_, Qt.refl _⟩
      rw [List.drop_length, Hne.out, List.drop_length]
    case round =>
      obtain ⟨k, hk, rfl, hdr, hq⟩ := hrel
      have Hdr := hid hdr; clear hdr
      by_cases h0 : 0 < k
      · obtain ⟨ad, rfl, hb1, hcell⟩ := (hs.qt hq) (k - 1) (by omega)
        obtain ⟨bd, rfl, hb2, hcell2⟩ := (hs2.qt hq) (k - 1) (by have := Hne.out; omega)
        have hkb : k ≤ (dig b).length := by have := Hne.out; omega
        by_cases he : nth (dig a) (k - 1) = nth (dig b) (k - 1)
        · have he' : (((nth (dig a) (k - 1) : Nat) : Int) != ((nth (dig b) (k - 1) : Nat) : Int)) = false := by simp [he]
          have He := hid he; clear he
          go_wp2
          go_quiet (fail)
          go_wp2
          go_roundw
          case rel => exact ⟨k - 1, by omega, by go_num, cmp_round h0 hk Hne.out Hdr.out He.out, hq.drewN _⟩
          case measure => simp [intOf]; omega
        · have he' : (((nth (dig a) (k - 1) : Nat) : Int) != ((nth (dig b) (k - 1) : Nat) : Int)) = true := by simp; omega
          rcases Nat.lt_or_gt_of_ne he with hlt | hgt
          · have Hs := hid (sgn_lt (cmp_less h0 hk Hne.out Hdr.out hlt))
            have hgt' : decide (nth (dig b) (k - 1) < nth (dig a) (k - 1)) = false := by simp; omega
            clear he
            go_wp2
            go_quiet (fail)
            have hq1 := hq.drewN nq
            have hcell1 : (wr.drewN nq).cell? (ad.add (k - 1)) = _ := hcell
            have hcell3 : (wr.drewN nq).cell? (bd.add (k - 1)) = _ := hcell2
            clear hcell hcell2 hq
            generalize wr.drewN nq = w1 at *
            go_wp2
            go_quiet ((go_at_call 104; exact quiet_left (direction_any _ _)))
            all_goals go_wp2
            all_goals go_ret
            all_goals exact ⟨ret_int Hs.out.symm, hq1.drewN _⟩
          · have Hs := hid (sgn_gt (cmp_less h0 (by have := Hne.out; omega) Hne.out.symm Hdr.out.symm hgt))
            have hgt' : decide (nth (dig b) (k - 1) < nth (dig a) (k - 1)) = true := by simp; omega
            clear he
            go_wp2
            go_quiet (fail)
            have hq1 := hq.drewN nq
            have hcell1 : (wr.drewN nq).cell? (ad.add (k - 1)) = _ := hcell
            have hcell3 : (wr.drewN nq).cell? (bd.add (k - 1)) = _ := hcell2
            clear hcell hcell2 hq
            generalize wr.drewN nq = w1 at *
            go_wp2
            go_quiet ((go_at_call 104; exact quiet_left (direction_any _ _)))
            all_goals go_wp2
            all_goals go_ret
            all_goals exact ⟨ret_int Hs.out.symm, hq1.drewN _⟩
      · have Hs := hid (cmp_same h0 Hdr.out)
        go_wp2
        go_ret
        exact ⟨ret_int (by rw [Hs.out, sgn_eq]), hq⟩
  · have hne' : (((dig a).length : Int) != ((dig b).length : Int)) = true := by simp; omega
    rcases Nat.lt_or_gt_of_ne hne with hlt | hgt
    · have Hs := hid (sgn_lt (lt_of_length_lt hlt))
      have hgt' : decide ((dig b).length < (dig a).length) = false := by simp; omega
      clear hne
      go_enter Tryz.func75, Tryz.ntmps75
      go_wp2_with (go_at_call 104; refine (direction_any _ _).mono ?_; rintro e w' ⟨rfl, rfl⟩)
      all_goals go_ret
      all_goals exact ⟨ret_int Hs.out.symm, Qt.refl _⟩
    · have Hs := hid (sgn_gt (lt_of_length_lt hgt))
      have hgt' : decide ((dig b).length < (dig a).length) = true := by simp; omega
      clear hne
      go_enter Tryz.func75, Tryz.ntmps75
      go_wp2_with (go_at_call 104; refine (direction_any _ _).mono ?_; rintro e w' ⟨rfl, rfl⟩)
      all_goals go_ret
      all_goals exact ⟨ret_int Hs.out.symm, Qt.refl _⟩


theorem compareLimbs_nm {v u : Value} {a b : Nat} {w : World} (h : Nm w v a) (k : Nm w u b) :
    Calls Tryz.prog 75 #[v, u] w fun e w' => e = .returned (.int .i64 (sgn a b)) ∧ Qt w w' := by
  obtain ⟨A, c, rfl, h1, h2, h3⟩ := h
  obtain ⟨B, d, rfl, k1, k2, k3⟩ := k
  exact compareLimbs_any A B c d a b w h1 h2 h3 k1
theorem isOne_nm {v : Value} {a : Nat} {w : World} (h : Nm w v a) :
    Calls Tryz.prog 106 #[v] w fun e w' => e = .returned (.bool (decide (a = 1))) ∧ w = w' := by
  obtain ⟨A, c, rfl, h1, h2, h3⟩ := h
  have e : decide (a = 1) = decide (dig a = [1]) := by
    have e1 : dig 1 = [1] := by rw [dig_pos (by decide)]; simp [dig_zero]
    rw [← e1]
    exact decide_eq_decide.2 ⟨fun h => by rw [h], fun h => dig_inj h⟩
  rw [e]
  exact isOne_any A c (dig a) w h1
theorem wordOf_nm {v : Value} {a : Nat} {w : World} (h : Nm w v a) (ha : a < 65536 ^ 4) :
    Calls Tryz.prog 126 #[v] w fun e w' => e = .returned (.int .u64 (a : Nat)) ∧ w = w' := by
  obtain ⟨A, c, rfl, h1, h2, h3⟩ := h
  have := wordOf_any A c (dig a) w h1 (dig_length_le ha) (lim_dig a)
  rwa [val_dig] at this

end Go.Proofs.YtffipjofefemiaaGreatDoor

namespace Go.Proofs.YtffipjofefemiaaGreatDoor
open Go.RowKit Kb

theorem Tryz.info16 : (Tryz.prog.info? 92).map (fun i => (i.zero, i.size, i.bytes)) = some (some (.int .u16 0), 1, 2) := by kernel_rfl

set_option maxRecDepth 100000 in
set_option maxHeartbeats 1000000 in
theorem addLimbs_ge (A B : Option Addr) (c d a b : Nat) (w : World) (hs : Sl w .u16 A (dig a))
    (hs2 : Sl w .u16 B (dig b)) (hge : (dig b).length ≤ (dig a).length) (hla : (dig a).length ≤ 1000000000) :
    Calls Tryz.prog 98 #[.slice A (dig a).length c, .slice B (dig b).length d] w fun e w' => ∃ v, e = .returned v ∧ Nm w' v (a + b) ∧ Below w.heap.size w w' := by
  obtain ⟨i0, hi, hz0, hz1, hz2⟩ := info_parts Tryz.info16
  have hmk := fun w => run_make_rowOf (P := Tryz.prog) 22 92 i0 .u16 (((dig a).length : Int) + 1) ((dig a).length + 1) w Tryz.underlying22 hi hz0 hz1 (by omega) (by omega) (by omega)
  clear hi hz0 hz1 hz2
  go_enter Tryz.func98, Tryz.ntmps98
  go_wp2
  go_loopw [6, 22] (fun c i wr => ∃ (k cr : Nat) (o : List Nat), k ≤ (dig a).length ∧ c = .int .u32 cr ∧ i = .int .i64 k ∧ AddRel a b k o cr ∧ Row wr w.heap.size 92 .u16 (o ++ List.replicate ((dig a).length + 1 - k) 0) ∧ Below w.heap.size w wr) (fun _ i _ => (dig a).length - (intOf i).toNat)
  case atStart => exact ⟨0, 0, [], Nat.zero_le _, rfl, rfl, AddRel.start a b, Row.new _ _ _ _, (Below.refl _ _).alloc (Nat.le_refl _) _⟩
  case round =>
    obtain ⟨k, cr, o, hk, rfl, rfl, hr, hrow, hbel⟩ := hrel
    have hnx := Hid.out (hid hr.next)
    have Hnx := hid hr.next
    have hcr : cr ≤ 1 := hr.2.2.1
    clear hnx
    have hfr := hrow.frozen k
    by_cases hlt : k < (dig a).length
    · obtain ⟨ad, rfl, hb1, hcell⟩ := (hs.below hbel) k hlt
      have hx := lim_nth (lim_dig a) k
      have hxw := u32_of (s := nth (dig a) k) (by omega)
      have hold := hrow.cell (i := k) (by rw [length_pad hr.1 (by omega)]; omega)
      by_cases hlb : k < (dig b).length
      · obtain ⟨bd, rfl, hb2, hcell2⟩ := (hs2.below hbel) k hlb
        have hy := lim_nth (lim_dig b) k
        have hyw := u32_of (s := nth (dig b) k) (by omega)
        go_wp2
        go_roundw
        case rel =>
          exact ⟨k + 1, (cr + nth (dig a) k + nth (dig b) k) / 65536, _, hlt, val_int (by omega), by go_num, Hnx.out, row_pad_set hrow hr.1 (by omega) (by omega), hbel.setCell (p := ⟨w.heap.size, k, none⟩) (Nat.le_refl _) _⟩
        case measure => simp [intOf]; omega
      · go_wp2
        go_roundw
        case rel =>
          have h0 : nth (dig b) k = 0 := nth_out (by omega)
          exact ⟨k + 1, (cr + nth (dig a) k + nth (dig b) k) / 65536, _, hlt, val_int (by omega), by go_num, Hnx.out, row_pad_set hrow hr.1 (by omega) (by omega), hbel.setCell (p := ⟨w.heap.size, k, none⟩) (Nat.le_refl _) _⟩
        case measure => simp [intOf]; omega
    · obtain rfl : k = (dig a).length := by omega
      have hold := hrow.cell (i := (dig a).length) (by rw [length_pad hr.1 (by omega)]; omega)
      have hrow2 := hrow.set (dig a).length cr
      rw [set_pad hr.1 (by omega), Nat.sub_self, List.replicate_zero, List.append_nil] at hrow2
      have hln : (o ++ [cr]).length = (dig a).length + 1 := by rw [List.length_append, hr.1]; rfl
      have Hln := hid hln; clear hln
      have hlim : Lim (o ++ [cr]) := lim_append.2 ⟨hr.2.1, fun x hm => by rw [List.mem_singleton] at hm; subst hm; omega⟩
      have hv := hr.done (Nat.le_refl _) hge
      rw [trimL_dig hlim] at hv
      have Hv := hid (dig_inj hv); clear hv
      clear hmk
      have hbel2 := hbel.setCell (p := ⟨w.heap.size, (dig a).length, none⟩) (Nat.le_refl _) (.int .u16 (cr : Int))
      go_wp2_with fail
      refine (trim_nm _ _ _ (o ++ [cr]) _ hrow2.sl hlim Hln.out (Nat.le_refl _) (by unfold maxLen; omega)).mono ?_
      rintro e w' ⟨v, rfl, hnm, rfl⟩
      go_wp2
      go_ret
      rw [Hv.out] at hnm
      exact ⟨v, rfl, hnm, hbel2⟩

set_option maxRecDepth 100000 in
set_option maxHeartbeats 1000000 in
theorem addLimbs_lt (A B : Option Addr) (c d a b : Nat) (w : World) (hs : Sl w .u16 A (dig a))
    (hs2 : Sl w .u16 B (dig b)) (hgt : (dig b).length < (dig a).length) (hla : (dig a).length ≤ 1000000000) :
    Calls Tryz.prog 98 #[.slice B (dig b).length d, .slice A (dig a).length c] w fun e w' => ∃ v, e = .returned v ∧ Nm w' v (a + b) ∧ Below w.heap.size w w' := by
  have hge : (dig b).length ≤ (dig a).length := by omega
  obtain ⟨i0, hi, hz0, hz1, hz2⟩ := info_parts Tryz.info16
  have hmk := fun w => run_make_rowOf (P := Tryz.prog) 22 92 i0 .u16 (((dig a).length : Int) + 1) ((dig a).length + 1) w Tryz.underlying22 hi hz0 hz1 (by omega) (by omega) (by omega)
  clear hi hz0 hz1 hz2
  go_enter Tryz.func98, Tryz.ntmps98
  go_wp2
  go_loopw [6, 22] (fun c i wr => ∃ (k cr : Nat) (o : List Nat), k ≤ (dig a).length ∧ c = .int .u32 cr ∧ i = .int .i64 k ∧ AddRel a b k o cr ∧ Row wr w.heap.size 92 .u16 (o ++ List.replicate ((dig a).length + 1 - k) 0) ∧ Below w.heap.size w wr) (fun _ i _ => (dig a).length - (intOf i).toNat)
  case atStart => exact ⟨0, 0, [], Nat.zero_le _, rfl, rfl, AddRel.start a b, Row.new _ _ _ _, (Below.refl _ _).alloc (Nat.le_refl _) _⟩
  case round =>
    obtain ⟨k, cr, o, hk, rfl, rfl, hr, hrow, hbel⟩ := hrel
    have hnx := Hid.out (hid hr.next)
    have Hnx := hid hr.next
    have hcr : cr ≤ 1 := hr.2.2.1
    clear hnx
    have hfr := hrow.frozen k
    by_cases hlt : k < (dig a).length
    · obtain ⟨ad, rfl, hb1, hcell⟩ := (hs.below hbel) k hlt
      have hx := lim_nth (lim_dig a) k
      have hxw := u32_of (s := nth (dig a) k) (by omega)
      have hold := hrow.cell (i := k) (by rw [length_pad hr.1 (by omega)]; omega)
      by_cases hlb : k < (dig b).length
      · obtain ⟨bd, rfl, hb2, hcell2⟩ := (hs2.below hbel) k hlb
        have hy := lim_nth (lim_dig b) k
        have hyw := u32_of (s := nth (dig b) k) (by omega)
        go_wp2
        go_roundw
        case rel =>
          exact ⟨k + 1, (cr + nth (dig a) k + nth (dig b) k) / 65536, _, hlt, val_int (by omega), by go_num, Hnx.out, row_pad_set hrow hr.1 (by omega) (by omega), hbel.setCell (p := ⟨w.heap.size, k, none⟩) (Nat.le_refl _) _⟩
        case measure => simp [intOf]; omega
      · go_wp2
        go_roundw
        case rel =>
          have h0 : nth (dig b) k = 0 := nth_out (by omega)
          exact ⟨k + 1, (cr + nth (dig a) k + nth (dig b) k) / 65536, _, hlt, val_int (by omega), by go_num, Hnx.out, row_pad_set hrow hr.1 (by omega) (by omega), hbel.setCell (p := ⟨w.heap.size, k, none⟩) (Nat.le_refl _) _⟩
        case measure => simp [intOf]; omega
    · obtain rfl : k = (dig a).length := by omega
      have hold := hrow.cell (i := (dig a).length) (by rw [length_pad hr.1 (by omega)]; omega)
      have hrow2 := hrow.set (dig a).length cr
      rw [set_pad hr.1 (by omega), Nat.sub_self, List.replicate_zero, List.append_nil] at hrow2
      have hln : (o ++ [cr]).length = (dig a).length + 1 := by rw [List.length_append, hr.1]; rfl
      have Hln := hid hln; clear hln
      have hlim : Lim (o ++ [cr]) := lim_append.2 ⟨hr.2.1, fun x hm => by rw [List.mem_singleton] at hm; subst hm; omega⟩
      have hv := hr.done (Nat.le_refl _) hge
      rw [trimL_dig hlim] at hv
      have Hv := hid (dig_inj hv); clear hv
      clear hmk
      have hbel2 := hbel.setCell (p := ⟨w.heap.size, (dig a).length, none⟩) (Nat.le_refl _) (.int .u16 (cr : Int))
      go_wp2_with fail
      refine (trim_nm _ _ _ (o ++ [cr]) _ hrow2.sl hlim Hln.out (Nat.le_refl _) (by unfold maxLen; omega)).mono ?_
      rintro e w' ⟨v, rfl, hnm, rfl⟩
      go_wp2
      go_ret
      rw [Hv.out] at hnm
      exact ⟨v, rfl, hnm, hbel2⟩


theorem addLimbs_nm {v u : Value} {a b : Nat} {w : World} (h : Nm w v a) (k : Nm w u b) (ha : (dig a).length ≤ 1000000000) (hb : (dig b).length ≤ 1000000000) :
    Calls Tryz.prog 98 #[v, u] w fun e w' => ∃ v, e = .returned v ∧ Nm w' v (a + b) ∧ Below w.heap.size w w' := by
  obtain ⟨A, c, rfl, h1, h2, h3⟩ := h
  obtain ⟨B, d, rfl, k1, k2, k3⟩ := k
  rcases Nat.lt_or_ge (dig a).length (dig b).length with hlt | hge
  · rw [Nat.add_comm a b]
    exact addLimbs_lt B A d c b a w k1 h1 hlt hb
  · exact addLimbs_ge A B c d a b w h1 k1 hge ha

set_option maxRecDepth 100000 in
set_option maxHeartbeats 1000000 in
theorem subLimbs_any (A B : Option Addr) (c d a b : Nat) (w : World) (hs : Sl w .u16 A (dig a))
    (hs2 : Sl w .u16 B (dig b)) (hge : b ≤ a) (hla : (dig a).length ≤ 1000000000) :
    Calls Tryz.prog 100 #[.slice A (dig a).length c, .slice B (dig b).length d] w fun e w' => ∃ v, e = .returned v ∧ Nm w' v (a - b) ∧ Below w.heap.size w w' := by
  have hlb' := dig_length_mono hge
  obtain ⟨i0, hi, hz0, hz1, hz2⟩ := info_parts Tryz.info16
  have hmk := fun w => run_make_rowOf (P := Tryz.prog) 22 92 i0 .u16 ((dig a).length : Int) (dig a).length w Tryz.underlying22 hi hz0 hz1 rfl (by omega) (by omega)
  clear hi hz0 hz1 hz2
  go_enter Tryz.func100, Tryz.ntmps100
  go_wp2
  go_loopw [6, 15] (fun c i wr => ∃ (k br : Nat) (o : List Nat), k ≤ (dig a).length ∧ c = .int .u32 br ∧ i = .int .i64 k ∧ SubRel a b k o br ∧ Row wr w.heap.size 92 .u16 (o ++ List.replicate ((dig a).length - k) 0) ∧ Below w.heap.size w wr) (fun _ i _ => (dig a).length - (intOf i).toNat)
  case atStart => exact ⟨0, 0, [], Nat.zero_le _, rfl, rfl, SubRel.start a b, Row.new _ _ _ _, (Below.refl _ _).alloc (Nat.le_refl _) _⟩
  case round =>
    obtain ⟨k, br, o, hk, rfl, rfl, hr, hrow, hbel⟩ := hrel
    have hbr : br ≤ 1 := hr.2.2.1
    have hfr := hrow.frozen k
    by_cases hlt : k < (dig a).length
    · obtain ⟨ad, rfl, hb1, hcell⟩ := (hs.below hbel) k hlt
      have hx := lim_nth (lim_dig a) k
      have hxw := u32_of (s := nth (dig a) k) (by omega)
      have hold := hrow.cell (i := k) (by rw [length_pad hr.1 (by omega)]; omega)
      by_cases hlb : k < (dig b).length
      · obtain ⟨bd, rfl, hb2, hcell2⟩ := (hs2.below hbel) k hlb
        have hy := lim_nth (lim_dig b) k
        have hyw := u32_of (s := nth (dig b) k) (by omega)
        go_wp2
        go_roundw
        case rel =>
          obtain ⟨d, br', q1, q2, q3, q4, q5⟩ := sub_digit hx hy hbr rfl
          rw [q4, q5]
          exact ⟨k + 1, br', _, hlt, rfl, by go_num, hr.next q1 q2 q3, row_pad_put hrow hr.1 hlt rfl, hbel.setCell (p := ⟨w.heap.size, k, none⟩) (Nat.le_refl _) _⟩
        case measure => simp [intOf]; omega
      · go_wp2
        go_roundw
        case rel =>
          have h0 : nth (dig b) k = 0 := nth_out (by omega)
          obtain ⟨d, br', q1, q2, q3, q4, q5⟩ := sub_digit (y := nth (dig b) k) (S := (nth (dig a) k : Int) - br) hx (by omega) hbr (by omega)
          rw [q4, q5]
          exact ⟨k + 1, br', _, hlt, rfl, by go_num, hr.next q1 q2 q3, row_pad_put hrow hr.1 hlt rfl, hbel.setCell (p := ⟨w.heap.size, k, none⟩) (Nat.le_refl _) _⟩
        case measure => simp [intOf]; omega
    · obtain rfl : k = (dig a).length := by omega
      rw [Nat.sub_self, List.replicate_zero, List.append_nil] at hrow
      have Hln := hid hr.1
      have Hv := hid (hr.done (Nat.le_refl _) hlb' hge)
      have hlim := hr.2.1
      clear hmk
      go_wp2_with fail
      refine (trim_nm _ _ _ o _ hrow.sl hlim Hln.out (Nat.le_refl _) (by unfold maxLen; omega)).mono ?_
      rintro e w' ⟨v, rfl, hnm, rfl⟩
      go_wp2
      go_ret
      rw [Hv.out] at hnm
      exact ⟨v, rfl, hnm, hbel⟩

theorem subLimbs_nm {v u : Value} {a b : Nat} {w : World} (h : Nm w v a) (k : Nm w u b) (hge : b ≤ a) (ha : (dig a).length ≤ 1000000000) :
    Calls Tryz.prog 100 #[v, u] w fun e w' => ∃ v, e = .returned v ∧ Nm w' v (a - b) ∧ Below w.heap.size w w' := by
  obtain ⟨A, c, rfl, h1, h2, h3⟩ := h
  obtain ⟨B, d, rfl, k1, k2, k3⟩ := k
  exact subLimbs_any A B c d a b w h1 k1 hge ha

end Go.Proofs.YtffipjofefemiaaGreatDoor

namespace Go.Proofs.YtffipjofefemiaaGreatDoor
open Go.RowKit Kb

set_option maxRecDepth 100000 in
set_option maxHeartbeats 1000000 in
theorem limbsOf_any (a : Nat) (w : World) (ha : a < 18446744073709551616) :
    Calls Tryz.prog 99 #[.int .u64 a] w fun e w' => ∃ v, e = .returned v ∧ Nm w' v a ∧ Below w.heap.size w w' := by
  have hla : (dig a).length ≤ 4 := dig_length_le (by rw [show (65536 : Nat) ^ 4 = 18446744073709551616 from rfl]; exact ha)
  have Ha := hid ha; clear ha
  obtain ⟨i0, hi, hz0, hz1, hz2⟩ := info_parts Tryz.info16
  by_cases h0 : a = 0
  · subst h0
    rw [show ((0 : Nat) : Int) = 0 from rfl]
    go_enter Tryz.func99, Tryz.ntmps99
    go_wp2
    go_loop [0, 3] (fun x v => x = .int .u64 0 ∧ v = .slice none 0 0) (fun _ _ => 0)
    case atStart => exact ⟨rfl, rfl⟩
    case round =>
      obtain ⟨rfl, rfl⟩ := hrel
      go_wp2
      go_ret
      exact ⟨_, rfl, nm_nil w, Below.refl _ _⟩
  · have h0' : ((a : Int) != 0) = true := by simp; omega
    have hmk : ∀ w, (Instr.makeSlice 22 (.int .i64 0) (.int .i64 4)).run Tryz.prog w = .ok (.slice (some ⟨w.heap.size, 0, none⟩) 0 4) (w.alloc (.cells #[.int .u16 0, .int .u16 0, .int .u16 0, .int .u16 0] 92)) := fun _ => by kernel_rfl
    go_enter Tryz.func99, Tryz.ntmps99
    go_wp2
    go_loopw [0, 3] (fun x v wr => ∃ (r : Nat) (o : List Nat), dig a = o ++ dig r ∧ x = .int .u64 r ∧ v = .slice (some ⟨w.heap.size, 0, none⟩) o.length 4 ∧ wr.ownsRow w.heap.size 92 1 (.slice (some ⟨w.heap.size, 0, none⟩) o.length 4) o.length (vals .u16 o) ∧ Below w.heap.size w wr) (fun x _ _ => (intOf x).toNat)
    case atStart => exact ⟨a, [], rfl, rfl, rfl, World.ownsRow_made _ _ 4 (Nat.le_refl _) (by unfold maxLen; omega) rfl, (Below.refl _ _).alloc (Nat.le_refl _) _⟩
    case round =>
      obtain ⟨r, o, hd, rfl, rfl, hown, hbel⟩ := hrel
      have Hd := hid hd; clear hd
      by_cases hr : r = 0
      · have hr' : ((r : Int) != 0) = false := by simp; omega
        have Hd2 := hid (dig_rest Hd.out hr)
        clear hr
        go_wp2
        go_ret
        exact ⟨.slice (some ⟨w.heap.size, 0, none⟩) o.length 4, rfl, ⟨some ⟨w.heap.size, 0, none⟩, 4, by rw [Hd2.out], by rw [Hd2.out]; exact Sl.of_own hown, hla, by unfold maxLen; omega⟩, hbel⟩
      · have hr' : ((r : Int) != 0) = true := by simp; omega
        have hroom := room_of Hd.out hr hla
        have Hd2 := hid (dig_out Hd.out hr)
        go_wp2_with (at_builtin; refine wpList_append_fits _ rfl (.tmp 11) (.tmp 14) 22 rfl w.heap.size 92 i0 1 Tryz.underlying22 hi hz1 w.heap.size o.length 4 (vals .u16 o) rfl (hown.alloc _) ⟨wr.heap.size, 0, none⟩ 1 1 [.int .u16 (IntKind.u16.wrap (r : Int))] rfl rfl (cell_one_new _ _ _) (one_cell _ rfl) (by omega) ?_)
        intro w1 hown1 hgrow1
        have hb1 := (hbel.alloc hbel.size (.cells #[.int .u16 (IntKind.u16.wrap (r : Int))] 92)).grown hgrow1 (by have := hbel.size; simp; omega) (fun k hk => by injection hk with hk; omega)
        rw [vals_snoc .u16 o (r % 65536) _ (u16_of r)] at hown1
        have hlen : o.length + 1 = (o ++ [r % 65536]).length := by simp
        rw [hlen] at hown1
        have Hown := hid hown1
        have hrp : 0 < r := by omega
        clear hown1 hown hgrow1 hlen hr
        go_wp2
        go_roundw
        case rel => exact ⟨r / 65536, _, Hd2.out, by go_num, by simp, Hown.out, hb1⟩
        case measure => simp [intOf]; omega


/-- The state of a product: i rows are added. -/
def MulRel (a b i : Nat) (o : List Nat) : Prop :=
  o.length = (dig a).length + (dig b).length ∧ Lim o ∧ val o = val ((dig a).take i) * b ∧ ∀ j, i + (dig b).length ≤ j → nth o j = 0
/-- .. and j digits of the next one, with a carry. -/
def RowRel (a b i j : Nat) (o : List Nat) (cr : Nat) : Prop :=
  o.length = (dig a).length + (dig b).length ∧ Lim o ∧ cr < 65536 ∧ val o + 65536 ^ (i + j) * cr = val ((dig a).take i) * b + 65536 ^ i * (nth (dig a) i * val ((dig b).take j)) ∧ ∀ t, i + (dig b).length ≤ t → nth o t = 0
theorem MulRel.start (a b : Nat) : MulRel a b 0 (List.replicate ((dig a).length + (dig b).length) 0) :=
  ⟨List.length_replicate, lim_replicate _, by rw [val_replicate]; simp [val], fun j _ => nth_replicate _ _⟩
theorem MulRel.row {a b i : Nat} {o : List Nat} (h : MulRel a b i o) : RowRel a b i 0 o 0 := by
  obtain ⟨h1, h2, h3, h4⟩ := h
  exact ⟨h1, h2, by omega, by rw [h3]; simp [val], h4⟩
theorem RowRel.sum_lt {a b i j cr : Nat} {o : List Nat} (h : RowRel a b i j o cr) : cr + nth (dig a) i * nth (dig b) j + nth o (i + j) < 4294967296 := by
  have hx := lim_nth (lim_dig a) i
  have hy := lim_nth (lim_dig b) j
  have hz := lim_nth h.2.1 (i + j)
  have hc := h.2.2.1
  have : nth (dig a) i * nth (dig b) j ≤ 65535 * 65535 := Nat.mul_le_mul (by omega) (by omega)
  omega
theorem RowRel.next {a b i j cr : Nat} {o : List Nat} (h : RowRel a b i j o cr) (hi : i < (dig a).length) (hj : j < (dig b).length) :
    RowRel a b i (j + 1) (o.set (i + j) ((cr + nth (dig a) i * nth (dig b) j + nth o (i + j)) % 65536)) ((cr + nth (dig a) i * nth (dig b) j + nth o (i + j)) / 65536) := by
  have hs := h.sum_lt
  obtain ⟨h1, h2, h3, h4, h5⟩ := h
  refine ⟨by rw [List.length_set, h1], lim_set h2 (by omega), by omega, ?_, fun t ht => ?_⟩
  · rw [val_take_succ']; exact mul_step (by omega) h4
  · rw [nth_set (by omega), if_neg (by omega)]; exact h5 t ht
theorem RowRel.done {a b i cr : Nat} {o : List Nat} (h : RowRel a b i (dig b).length o cr) (hi : i < (dig a).length) : MulRel a b (i + 1) (o.set (i + (dig b).length) cr) := by
  obtain ⟨h1, h2, h3, h4, h5⟩ := h
  refine ⟨by rw [List.length_set, h1], lim_set h2 h3, ?_, fun t ht => ?_⟩
  · have e := val_set (v := cr) (show i + (dig b).length < o.length by omega)
    rw [h5 _ (Nat.le_refl _), Nat.mul_zero, Nat.add_zero] at e
    rw [e, h4, val_take_ge (Nat.le_refl _), val_dig, val_take_succ', Nat.add_mul, Nat.mul_assoc]
  · rw [nth_set (by omega), if_neg (by omega)]; exact h5 t (by omega)
theorem MulRel.done {a b : Nat} {o : List Nat} (h : MulRel a b (dig a).length o) : val o = a * b := by
  rw [h.2.2.1, val_take_ge (Nat.le_refl _), val_dig]

set_option maxRecDepth 100000 in
set_option maxHeartbeats 2000000 in
theorem mulLimbs_long (A B : Option Addr) (c d a b : Nat) (w : World) (hs : Sl w .u16 A (dig a))
    (hs2 : Sl w .u16 B (dig b)) (hbig : 2 < (dig a).length ∨ 2 < (dig b).length) (hla : (dig a).length ≤ 500000000) (hlb : (dig b).length ≤ 500000000) :
    Calls Tryz.prog 107 #[.slice A (dig a).length c, .slice B (dig b).length d] w fun e w' => ∃ v, e = .returned v ∧ Nm w' v (a * b) ∧ Below w.heap.size w w' := by
  have hg : decide ((dig a).length ≤ 2) = true → decide ((dig b).length ≤ 2) = false := by simp; omega
  obtain ⟨i0, hi, hz0, hz1, hz2⟩ := info_parts Tryz.info16
  have hmk := fun w => run_make_rowOf (P := Tryz.prog) 22 92 i0 .u16 (((dig a).length : Int) + ((dig b).length : Int)) ((dig a).length + (dig b).length) w Tryz.underlying22 hi hz0 hz1 (by omega) (by omega) (by omega)
  clear hi hz0 hz1 hz2
  go_enter Tryz.func107, Tryz.ntmps107
  go_wp2
  all_goals
    go_loopw [34] (fun iv wr => ∃ (i : Nat) (o : List Nat), i ≤ (dig a).length ∧ iv = .int .i64 i ∧ MulRel a b i o ∧ Row wr w.heap.size 92 .u16 o ∧ Below w.heap.size w wr) (fun iv _ => (dig a).length - (intOf iv).toNat)
    case atStart => exact ⟨0, _, Nat.zero_le _, rfl, MulRel.start a b, Row.new _ _ _ _, (Below.refl _ _).alloc (Nat.le_refl _) _⟩
    case round =>
      obtain ⟨i, o, hi, rfl, hr, hrow, hbel⟩ := hrel
      by_cases hlt : i < (dig a).length
      · obtain ⟨ad, rfl, hb1, hcell⟩ := (hs.below hbel) i hlt
        have hx := lim_nth (lim_dig a) i
        have hxw := u32_of (s := nth (dig a) i) (by omega)
        go_wp2
        go_quiet (fail)
        have hs2' := hs2.below (hbel.drewN' nq)
        have hrow' : Row (wr.drewN nq) w.heap.size 92 .u16 o := hrow
        have hbel' := hbel.drewN' nq
        have Hr := hid hr.row
        clear hrow hbel hcell hb1 hr hmk
        generalize wr.drewN nq = w0 at *
        go_wp2
        go_loopw [8, 47] (fun cv jv wi => ∃ (j cr : Nat) (o : List Nat), j ≤ (dig b).length ∧ cv = .int .u32 cr ∧ jv = .int .i64 j ∧ RowRel a b i j o cr ∧ Row wi w.heap.size 92 .u16 o ∧ Below w.heap.size w wi) (fun _ jv _ => (dig b).length - (intOf jv).toNat)
        case atStart => exact ⟨0, 0, o, Nat.zero_le _, rfl, rfl, Hr.out, hrow', hbel'⟩
        case round =>
          obtain ⟨j, cr, o', hj, rfl, rfl, hq, hrw, hbl⟩ := hrel
          have hcr := hq.2.2.1
          have hol := hq.1
          by_cases hjt : j < (dig b).length
          · obtain ⟨bd, rfl, hb2, hcell2⟩ := (hs2.below hbl) j hjt
            have hy := lim_nth (lim_dig b) j
            have hyw := u32_of (s := nth (dig b) j) (by omega)
            have hz := lim_nth hq.2.1 (i + j)
            have hzw := u32_of (s := nth o' (i + j)) (by omega)
            have hold := hrw.cell (i := i + j) (by omega)
            have hfr := hrw.frozen (i + j)
            have hm0 : nth (dig a) i * nth (dig b) j ≤ 65535 * 65535 := Nat.mul_le_mul (by omega) (by omega)
            have hm1 : (0 : Int) ≤ (nth (dig a) i : Int) * (nth (dig b) j : Int) := by rw [← Int.natCast_mul]; omega
            have hm2 : (nth (dig a) i : Int) * (nth (dig b) j : Int) ≤ 4294836225 := by rw [← Int.natCast_mul]; omega
            have Hol := hid hol
            clear hol hm0
            go_wp2
            go_roundw
            case rel =>
              have e : ((cr : Int) + ((nth (dig a) i : Int) * (nth (dig b) j : Int) + (nth o' (i + j) : Int))) = ((cr + nth (dig a) i * nth (dig b) j + nth o' (i + j) : Nat) : Int) := by push_cast; omega
              rw [e, u16_of]
              exact ⟨j + 1, (cr + nth (dig a) i * nth (dig b) j + nth o' (i + j)) / 65536, _, hjt, val_int rfl, by go_num, hq.next hlt hjt, hrw.set (i + j) _, hbl.setCell (p := ⟨w.heap.size, i + j, none⟩) (Nat.le_refl _) _⟩
            case measure => simp [intOf]; omega
          · obtain rfl : j = (dig b).length := by omega
            have hold := hrw.cell (i := i + (dig b).length) (by omega)
            have hfr := hrw.frozen (i + (dig b).length)
            have Hol := hid hol
            clear hol
            go_wp2
            go_roundw
            case rel => exact ⟨i + 1, _, by omega, by go_num, hq.done hlt, hrw.set (i + (dig b).length) cr, hbl.setCell (p := ⟨w.heap.size, i + (dig b).length, none⟩) (Nat.le_refl _) _⟩
            case measure => simp [intOf]; omega
      · obtain rfl : i = (dig a).length := by omega
        have Hln := hid hr.1
        have Hv := hid hr.done
        have hlim := hr.2.1
        clear hmk
        go_wp2_with fail
        refine (trim_nm _ _ _ o _ hrow.sl hlim Hln.out (Nat.le_refl _) (by unfold maxLen; omega)).mono ?_
        rintro e w' ⟨v, rfl, hnm, rfl⟩
        go_wp2
        go_ret
        rw [Hv.out] at hnm
        exact ⟨v, rfl, hnm, hbel⟩

set_option maxRecDepth 100000 in
set_option maxHeartbeats 1000000 in
theorem mulLimbs_short (A B : Option Addr) (c d a b : Nat) (w : World) (h1 : Nm w (.slice A (dig a).length c) a) (h2 : Nm w (.slice B (dig b).length d) b)
    (hla : (dig a).length ≤ 2) (hlb : (dig b).length ≤ 2) :
    Calls Tryz.prog 107 #[.slice A (dig a).length c, .slice B (dig b).length d] w fun e w' => ∃ v, e = .returned v ∧ Nm w' v (a * b) ∧ Below w.heap.size w w' := by
  have ha := lt_of_dig_length hla
  have hb := lt_of_dig_length hlb
  rw [show (65536 : Nat) ^ 2 = 4294967296 from rfl] at ha hb
  have hm0 : a * b ≤ 4294967295 * 4294967295 := Nat.mul_le_mul (by omega) (by omega)
  have hm1 : (0 : Int) ≤ (a : Int) * (b : Int) := by rw [← Int.natCast_mul]; omega
  have hm2 : (a : Int) * (b : Int) ≤ 18446744065119617025 := by rw [← Int.natCast_mul]; omega
  have hm3 : a * b < 18446744073709551616 := by omega
  have Hm3 := hid hm3
  have Hw1 := hid (wordOf_nm h1 (by rw [show (65536 : Nat) ^ 4 = 18446744073709551616 from rfl]; omega))
  have Hw2 := hid (wordOf_nm h2 (by rw [show (65536 : Nat) ^ 4 = 18446744073709551616 from rfl]; omega))
  clear hm0 hm3 ha hb h1 h2
  go_enter Tryz.func107, Tryz.ntmps107
  go_wp2_with fail
  refine Hw1.out.mono ?_
  rintro e w' ⟨rfl, rfl⟩
  go_wp2_with fail
  refine Hw2.out.mono ?_
  rintro e w' ⟨rfl, rfl⟩
  go_wp2_with fail
  rw [← Int.natCast_mul]
  refine (limbsOf_any _ _ Hm3.out).mono ?_
  rintro e w' ⟨v, rfl, hnm, hbel⟩
  go_wp2
  go_ret
  exact ⟨v, rfl, hnm, hbel⟩

theorem mulLimbs_nm {v u : Value} {a b : Nat} {w : World} (h : Nm w v a) (k : Nm w u b) (ha : (dig a).length ≤ 500000000) (hb : (dig b).length ≤ 500000000) :
    Calls Tryz.prog 107 #[v, u] w fun e w' => ∃ v, e = .returned v ∧ Nm w' v (a * b) ∧ Below w.heap.size w w' := by
  have h' := h
  have k' := k
  obtain ⟨A, c, rfl, h1, h2, h3⟩ := h
  obtain ⟨B, d, rfl, k1, k2, k3⟩ := k
  by_cases hs : (dig a).length ≤ 2 ∧ (dig b).length ≤ 2
  · exact mulLimbs_short A B c d a b w h' k' hs.1 hs.2
  · exact mulLimbs_long A B c d a b w h1 k1 (by omega) ha hb

end Go.Proofs.YtffipjofefemiaaGreatDoor

namespace Go.Proofs.YtffipjofefemiaaGreatDoor
open Go.RowKit Kb

set_option maxRecDepth 100000 in
set_option maxHeartbeats 1000000 in
theorem divideBy_any (g c b : Nat) (xs : List Nat) (w : World) (hp : Pre w g 92 .u16 xs) (hx : Lim xs) (hb : 0 < b) (hb2 : b < 65536) (hl : xs.length ≤ 1000000000) :
    Calls Tryz.prog 127 #[.slice (some ⟨g, 0, none⟩) xs.length c, .int .u16 b] w fun e w' =>
      e = .returned (.int .u16 (val xs % b : Nat)) ∧ ∃ o, o.length = xs.length ∧ Lim o ∧ val o = val xs / b ∧ Pre w' g 92 .u16 o ∧ w.grownBy w' (some g) := by
  have hbw := u32_of (s := b) (by omega)
  have hb0 : ((b : Int) == 0) = false := by rw [beq_eq_false_iff_ne]; omega
  go_enter Tryz.func127, Tryz.ntmps127
  go_wp2
  go_loopw [5, 6] (fun rv iv wr => ∃ (k r : Nat) (o : List Nat), k ≤ xs.length ∧ rv = .int .u32 r ∧ iv = .int .i64 ((k : Int) - 1) ∧ DivRel xs b k o r ∧ Pre wr g 92 .u16 o ∧ w.grownBy wr (some g)) (fun _ iv _ => (intOf iv + 1).toNat)
  case atStart => exact ⟨xs.length, 0, xs, Nat.le_refl _, rfl, by go_num, DivRel.start hx hb, hp, World.grownBy.refl _ _⟩
  case round =>
    obtain ⟨k, r, o, hk, rfl, rfl, hr, hrow, hgr⟩ := hrel
    have hrb := hr.2.2.1
    by_cases h0 : 0 < k
    · obtain ⟨m, rfl⟩ : ∃ m, k = m + 1 := ⟨k - 1, by omega⟩
      rw [show ((m + 1 : Nat) : Int) - 1 = (m : Int) by omega]
      have hol := hid hr.1
      have hcell := hrow.cell (i := m) (by have := hr.1; omega)
      have hfr := hrow.frozen m
      have hxm := lim_nth hr.2.1 m
      have hxw := u32_of (s := nth o m) (by omega)
      have Hn := hid (hr.next (by omega))
      have hor := or_shl16 (r := r) (x := nth o m) (by omega) hxm rfl rfl
      go_wp2
      go_roundw
      case rel =>
        have e : ((r : Int) * 65536 + (nth o m : Int)) = ((r * 65536 + nth o m : Nat) : Int) := by omega
        rw [e, ← Int.natCast_ediv, ← Int.natCast_emod, u16_of, Nat.mod_eq_of_lt Hn.out.2]
        exact ⟨m, _, _, by omega, rfl, rfl, Hn.out.1, hrow.set (by have := hol.out; omega) _, gb_set hgr m _⟩
      case measure => simp [intOf]
    · obtain rfl : k = 0 := by omega
      have Hd := hid hr.done
      have hrl := hr.1
      have hrl2 := hr.2.1
      go_wp2
      go_ret
      exact ⟨ret_int (by have := Hd.out.2; omega), o, hrl, hrl2, Hd.out.1, hrow, hgr⟩


set_option maxRecDepth 100000 in
set_option maxHeartbeats 1000000 in
theorem clone_any (A : Option Addr) (c : Nat) (xs : List Nat) (w : World) (hs : Sl w .u16 A xs) (hx : xs ≠ []) (hl : xs.length ≤ 1000000000) :
    Calls Tryz.prog 115 #[.slice A xs.length c] w fun e w' => ∃ g c', e = .returned (.slice (some ⟨g, 0, none⟩) xs.length c') ∧ w.heap.size ≤ g ∧ xs.length ≤ c' ∧ c' ≤ maxLen ∧ Pre w' g 92 .u16 xs ∧ Below w.heap.size w w' := by
  obtain ⟨i0, hi, hz0, hz1, hz2⟩ := info_parts Tryz.info16
  have hpos : 0 < xs.length := List.length_pos_iff.2 hx
  obtain ⟨ad, rfl, hb, hcell0⟩ := hs 0 hpos
  clear hcell0
  have hnil := fun w => Lib.run_eql_slice_nil (P := Tryz.prog) w 22 92 (some ad) xs.length c 0 0 Tryz.underlying22
  simp only [Option.isNone_some] at hnil
  go_enter Tryz.func115, Tryz.ntmps115
  go_wp2_with (at_builtin; refine wpList_append_own _ rfl (.tmp 5) (.tmp 6) 22 rfl w.heap.size 92 i0 (.int .u16 0) 1 2 Tryz.underlying22 hi hz0 hz1 hz2 rfl (by decide) (.slice (some ⟨w.heap.size, 0, none⟩) 0 0) 0 [] rfl (World.ownsRow_made _ _ 0 (Nat.le_refl _) (by unfold maxLen; omega) rfl) ad xs.length c (vals .u16 xs) rfl (by rw [vals_length]; omega) ?c1 ?c2 (by unfold maxLen; omega) (by omega) (by simp) ?_)
  case c1 => exact (hs.below ((Below.refl _ _).alloc (Nat.le_refl _) _)).cells
  case c2 => exact vals_one _ _
  intro v' w1 hown hgrow _
  have hbel := ((Below.refl w.heap.size w).alloc (Nat.le_refl _) (.cells #[] 92)).grown hgrow (by simp) (fun k hk => by simp [Value.ownBlock] at hk; omega)
  obtain ⟨g, c', hv, h1, h2, h3⟩ := own_form hown hpos
  have Hv := hid hv
  clear hv hgrow hnil
  go_wp2
  go_ret
  rw [Hv.out] at hown ⊢
  exact ⟨g, c', rfl, h1, h2, h3, Pre.of_own hown, hbel⟩

end Go.Proofs.YtffipjofefemiaaGreatDoor

namespace Go.Proofs.YtffipjofefemiaaGreatDoor
open Go.RowKit Kb

/-- The state of a shift: k digits are written. -/
def UpRel (xs : List Nat) (s k : Nat) (o : List Nat) (cr : Nat) : Prop :=
  o.length = k ∧ Lim o ∧ cr < 2 ^ s ∧ val o + 65536 ^ k * cr = 2 ^ s * val (xs.take k)
theorem UpRel.start (xs : List Nat) (s : Nat) : UpRel xs s 0 [] 0 := ⟨rfl, lim_nil, Nat.pow_pos (by decide), by simp [val]⟩
theorem UpRel.next {xs o : List Nat} {s k cr : Nat} (h : UpRel xs s k o cr) (hx : Lim xs) :
    UpRel xs s (k + 1) (o ++ [(cr + 2 ^ s * nth xs k) % 65536]) ((cr + 2 ^ s * nth xs k) / 65536) := by
  obtain ⟨h1, h2, h3, h4⟩ := h
  have hk := lim_nth hx k
  refine ⟨by simp [h1], lim_append.2 ⟨h2, fun x hm => by rw [List.mem_singleton] at hm; subst hm; omega⟩, ?_, ?_⟩
  · apply Nat.div_lt_of_lt_mul
    have : 2 ^ s * nth xs k ≤ 2 ^ s * 65535 := Nat.mul_le_mul_left _ (by omega)
    omega
  · have e := add_step (x := 2 ^ s * nth xs k) (y := 0) (va := 2 ^ s * val (xs.take k)) (vb := 0) h1 (by rw [h4]; omega)
    rw [Nat.add_zero] at e
    rw [e, val_take_succ', Nat.mul_add, Nat.mul_left_comm]
    omega

set_option maxRecDepth 100000 in
set_option maxHeartbeats 1000000 in
theorem shiftedUp_any (A : Option Addr) (c s : Nat) (xs : List Nat) (w : World) (hs : Sl w .u16 A xs) (hx : Lim xs) (hs16 : s < 16) (hl : xs.length ≤ 1000000000) :
    Calls Tryz.prog 149 #[.slice A xs.length c, .int .i64 s] w fun e w' => ∃ o, e = .returned (.slice (some ⟨w.heap.size, 0, none⟩) (xs.length + 1) (xs.length + 1)) ∧ o.length = xs.length + 1 ∧ Lim o ∧ val o = 2 ^ s * val xs ∧ Row w' w.heap.size 92 .u16 o ∧ Below w.heap.size w w' := by
  obtain ⟨i0, hi, hz0, hz1, hz2⟩ := info_parts Tryz.info16
  have hmk := fun w => run_make_rowOf (P := Tryz.prog) 22 92 i0 .u16 ((xs.length : Int) + 1) (xs.length + 1) w Tryz.underlying22 hi hz0 hz1 (by omega) (by omega) (by omega)
  clear hi hz0 hz1 hz2
  have hp16 : 2 ^ s ≤ 32768 := by
    have : (2 : Nat) ^ s ≤ 2 ^ 15 := Nat.pow_le_pow_right (by decide) (by omega)
    omega
  go_enter Tryz.func149, Tryz.ntmps149
  go_wp2
  go_loopw [6, 15] (fun cv iv wr => ∃ (k cr : Nat) (o : List Nat), k ≤ xs.length ∧ cv = .int .u32 cr ∧ iv = .int .i64 k ∧ UpRel xs s k o cr ∧ Row wr w.heap.size 92 .u16 (o ++ List.replicate (xs.length + 1 - k) 0) ∧ Below w.heap.size w wr) (fun _ iv _ => xs.length - (intOf iv).toNat)
  case atStart => exact ⟨0, 0, [], Nat.zero_le _, rfl, rfl, UpRel.start xs s, Row.new _ _ _ _, (Below.refl _ _).alloc (Nat.le_refl _) _⟩
  case round =>
    obtain ⟨k, cr, o, hk, rfl, rfl, hr, hrow, hbel⟩ := hrel
    have Hn := hid (hr.next hx)
    have Hcr := hid hr.2.2.1
    have hcr2 : cr < 32768 := Nat.lt_of_lt_of_le hr.2.2.1 hp16
    have hfr := hrow.frozen k
    have hold := hrow.cell (i := k) (by rw [length_pad hr.1 (by omega)]; omega)
    by_cases hlt : k < xs.length
    · obtain ⟨ad, rfl, hb1, hcell⟩ := (hs.below hbel) k hlt
      have hxk := lim_nth hx k
      have hxw := u32_of (s := nth xs k) (by omega)
      clear hp16
      go_wp2
      go_roundw
      case rel =>
        rw [shl_or Hcr.out hxk hs16]
        exact ⟨k + 1, (cr + 2 ^ s * nth xs k) / 65536, _, hlt, val_int (by rw [Int.natCast_ediv]; rfl), by go_num, Hn.out, row_pad_set hrow hr.1 (by omega) rfl, hbel.setCell (p := ⟨w.heap.size, k, none⟩) (Nat.le_refl _) _⟩
      case measure => simp [intOf]; omega
    · obtain rfl : k = xs.length := by omega
      clear hp16
      have hrow2 := hrow.set xs.length cr
      rw [set_pad hr.1 (by omega), Nat.sub_self, List.replicate_zero, List.append_nil] at hrow2
      have Hr := hid hr
      clear hr hmk
      go_wp2
      go_ret
      refine ⟨o ++ [cr], rfl, by rw [List.length_append, Hr.out.1]; rfl, lim_append.2 ⟨Hr.out.2.1, fun x hm => by rw [List.mem_singleton] at hm; subst hm; omega⟩, ?_, hrow2, hbel.setCell (p := ⟨w.heap.size, xs.length, none⟩) (Nat.le_refl _) _⟩
      rw [val_snoc, Hr.out.1, Hr.out.2.2.2, List.take_of_length_le (Nat.le_refl _)]

/-- Digits of a division by a power of two: those below k are shifted. -/
def DownRel (xs : List Nat) (s k : Nat) (o : List Nat) : Prop :=
  o.length = xs.length ∧ Lim o ∧ o.drop k = xs.drop k ∧ ∀ i, i < k → nth o i = nth xs i / 2 ^ s + (nth xs (i + 1) % 2 ^ s) * 2 ^ (16 - s)

theorem DownRel.cur {xs o : List Nat} {s k i : Nat} (h : DownRel xs s k o) (hi : k ≤ i) : nth o i = nth xs i := by
  have e : nth (o.drop k) (i - k) = nth (xs.drop k) (i - k) := by rw [h.2.2.1]
  rw [nth_drop, nth_drop, show k + (i - k) = i by omega] at e
  exact e
theorem DownRel.next {xs o : List Nat} {s k d : Nat} (h : DownRel xs s k o) (hk : k < xs.length) (hd : d < 65536) (he : d = nth xs k / 2 ^ s + (nth xs (k + 1) % 2 ^ s) * 2 ^ (16 - s)) :
    DownRel xs s (k + 1) (o.set k d) := by
  obtain ⟨h1, h2, h3, h4⟩ := h
  refine ⟨by rw [List.length_set, h1], lim_set h2 hd, ?_, fun i hi => ?_⟩
  · rw [drop_set_lt (by omega)]
    have := congrArg (List.drop 1) h3
    rwa [List.drop_drop, List.drop_drop] at this
  · rw [nth_set (by omega)]
    by_cases e : i = k
    · rw [if_pos e, he, e]
    · rw [if_neg e]; exact h4 i (by omega)
theorem set_set_same {l : List Nat} {k a b : Nat} : (l.set k a).set k b = l.set k b := by simp

set_option maxRecDepth 100000 in
set_option maxHeartbeats 2000000 in
theorem shiftDown_any (g c s : Nat) (xs : List Nat) (w : World) (hp : Pre w g 92 .u16 xs) (hx : Lim xs) (hs16 : s < 16) (hl : xs.length ≤ 1000000000) :
    Calls Tryz.prog 151 #[.slice (some ⟨g, 0, none⟩) xs.length c, .int .i64 s] w fun e w' => e = .returned (.tuple #[]) ∧ ∃ o, DownRel xs s xs.length o ∧ Pre w' g 92 .u16 o ∧ w.grownBy w' (some g) := by
  go_enter Tryz.func151, Tryz.ntmps151
  go_wp2
  go_loopw [7] (fun iv wr => ∃ (k : Nat) (o : List Nat), k ≤ xs.length ∧ iv = .int .i64 k ∧ DownRel xs s k o ∧ Pre wr g 92 .u16 o ∧ w.grownBy wr (some g)) (fun iv _ => xs.length - (intOf iv).toNat)
  case atStart => exact ⟨0, xs, Nat.zero_le _, rfl, ⟨rfl, hx, rfl, fun i hi => by omega⟩, hp, World.grownBy.refl _ _⟩
  case round =>
    obtain ⟨k, o, hk, rfl, hr, hrow, hgr⟩ := hrel
    have hol := hid hr.1
    by_cases hlt : k < xs.length
    · have hcell := hrow.cell (i := k) (by have := hol.out; omega)
      have hfr := hrow.frozen k
      by_cases hlt2 : k + 1 < xs.length
      · have hcell2 := hrow.cell (i := k + 1) (by have := hol.out; omega)
        have e1 : (nth o k : Int) / 2 ^ s = ((nth o k / 2 ^ s : Nat) : Int) := by rw [pow_int, Int.natCast_ediv]
        have hrow1 := hrow.set (i := k) (by have := hol.out; omega) (nth o k / 2 ^ s)
        have hg1 := gb_set hgr k (.int .u16 ((nth o k / 2 ^ s : Nat) : Int))
        rw [← e1] at hrow1 hg1
        have E1 := hid e1
        clear e1
        go_wp2_with fail
        clear hcell hcell2 hfr hgr
        generalize wr.setCell ⟨g, k, none⟩ (.int .u16 ((nth o k : Int) / 2 ^ s)) = w1 at *
        have hc1 := hrow1.cell (i := k) (by rw [List.length_set]; have := hol.out; omega)
        have hc2 := hrow1.cell (i := k + 1) (by rw [List.length_set]; have := hol.out; omega)
        rw [nth_set (by have := hol.out; omega), if_pos rfl] at hc1
        rw [nth_set (by have := hol.out; omega), if_neg (by omega)] at hc2
        have hf1 := hrow1.frozen k
        go_region
        all_goals go_wp2
        go_roundw
        case rel =>
          have hb := down_or (a := nth o k) (z := nth o (k + 1)) (s := s) (by rw [hr.cur (Nat.le_refl _)]; exact lim_nth hx _) hs16
          rw [hb]
          have hw := hrow1.set (i := k) (by rw [List.length_set]; have := hol.out; omega) (nth o k / 2 ^ s + (nth o (k + 1) % 2 ^ s) * 2 ^ (16 - s))
          rw [set_set_same] at hw
          refine ⟨k + 1, _, hlt, by go_num, hr.next hlt ?_ (by rw [hr.cur (Nat.le_refl _), hr.cur (Nat.le_succ _)]), hw, gb_drewN (gb_set hg1 k _) 1⟩
          exact down_lt (by rw [hr.cur (Nat.le_refl _)]; exact lim_nth hx _) hs16
        case measure => simp [intOf]; omega
      · have Hh := hid hrow
        go_wp2
        go_roundw
        case rel =>
          have e1 : (nth o k : Int) / 2 ^ s = ((nth o k / 2 ^ s : Nat) : Int) := by rw [pow_int, Int.natCast_ediv]
          rw [e1]
          have h0 : nth xs (k + 1) = 0 := nth_out (by omega)
          refine ⟨k + 1, _, hlt, by go_num, hr.next (d := nth o k / 2 ^ s) hlt ?_ (by rw [hr.cur (Nat.le_refl _), h0]; simp), hrow.set (by have := hol.out; omega) _, gb_set hgr k _⟩
          exact Nat.lt_of_le_of_lt (Nat.div_le_self _ _) (by rw [hr.cur (Nat.le_refl _)]; exact lim_nth hx _)
        case measure => simp [intOf]; omega
    · obtain rfl : k = xs.length := by omega
      go_wp2
      go_end0
      exact ⟨rfl, o, hr, hrow, hgr⟩

end Go.Proofs.YtffipjofefemiaaGreatDoor

namespace Go.Proofs.YtffipjofefemiaaGreatDoor
open Go.RowKit Kb

theorem nth_mid {L X R : List Nat} {j k : Nat} (hL : L.length = j) (hk : k < X.length) : nth (L ++ (X ++ R)) (j + k) = nth X k := by
  rw [nth_append, if_neg (by omega), nth_append, hL, show j + k - j = k by omega, if_pos hk]
theorem set_mid {L X R : List Nat} {j k d : Nat} (hL : L.length = j) (hk : k < X.length) : (L ++ (X ++ R)).set (j + k) d = L ++ (X.set k d ++ R) := by
  rw [List.set_append_right _ _ (by omega), hL, show j + k - j = k by omega, List.set_append_left _ _ hk]

/-- The state of a product that is taken away: k digits are done. -/
def TakeRel (X V : List Nat) (q k : Nat) (Y : List Nat) (c br : Nat) : Prop :=
  Y.length = X.length ∧ Lim Y ∧ c < 65536 ∧ br ≤ 1 ∧ val Y + q * val (V.take k) = val X + 65536 ^ k * (c + br)
theorem TakeRel.start {X : List Nat} (V : List Nat) (q : Nat) (hX : Lim X) : TakeRel X V q 0 X 0 0 := ⟨rfl, hX, by omega, by omega, by simp [val]⟩
theorem TakeRel.next {X V Y : List Nat} {q k c br d br' : Nat} (h : TakeRel X V q k Y c br) (hk : k < X.length) (hq : q < 65536) (hV : Lim V) (hd : d < 65536) (hb : br' ≤ 1)
    (he : d + (c + q * nth V k) % 65536 + br = nth Y k + 65536 * br') : TakeRel X V q (k + 1) (Y.set k d) ((c + q * nth V k) / 65536) br' := by
  obtain ⟨h1, h2, h3, h4, h5⟩ := h
  have hy := lim_nth hV k
  have hm : q * nth V k ≤ 65535 * 65535 := Nat.mul_le_mul (by omega) (by omega)
  refine ⟨by rw [List.length_set, h1], lim_set h2 hd, by omega, hb, ?_⟩
  have e := val_set (l := Y) (i := k) (v := d) (by omega)
  have e2 : 65536 ^ k * nth Y k + 65536 ^ k * (65536 * ((c + q * nth V k) / 65536 + br')) = 65536 ^ k * d + 65536 ^ k * c + 65536 ^ k * (q * nth V k) + 65536 ^ k * br := by
    rw [← Nat.mul_add, ← Nat.mul_add, ← Nat.mul_add, ← Nat.mul_add]
    congr 1
    omega
  have e3 : q * (val (V.take k) + 65536 ^ k * nth V k) = q * val (V.take k) + 65536 ^ k * (q * nth V k) := by rw [Nat.mul_add, Nat.mul_left_comm]
  have e4 : 65536 ^ (k + 1) * ((c + q * nth V k) / 65536 + br') = 65536 ^ k * (65536 * ((c + q * nth V k) / 65536 + br')) := by rw [Nat.pow_succ, Nat.mul_assoc]
  have h6 : val Y + q * val (V.take k) = val X + 65536 ^ k * c + 65536 ^ k * br := by rw [h5, Nat.mul_add]; omega
  rw [val_take_succ', e3, e4]
  omega
/-- .. with the last digit, which the carry and the borrow go into. -/
theorem TakeRel.last {X V Y : List Nat} {q n c br d neg : Nat} (h : TakeRel X V q n Y c br) (hn : X.length = n + 1) (hV : V.length = n) (hd : d < 65536) (he : d + c + br = nth Y n + 65536 * neg) :
    (Y.set n d).length = X.length ∧ Lim (Y.set n d) ∧ val (Y.set n d) + q * val V = val X + 65536 ^ (n + 1) * neg := by
  obtain ⟨h1, h2, h3, h4, h5⟩ := h
  refine ⟨by rw [List.length_set, h1], lim_set h2 hd, ?_⟩
  have e := val_set (l := Y) (i := n) (v := d) (by omega)
  rw [List.take_of_length_le (by omega)] at h5
  have e2 : 65536 ^ n * nth Y n + 65536 ^ n * (65536 * neg) = 65536 ^ n * d + 65536 ^ n * c + 65536 ^ n * br := by
    rw [← Nat.mul_add, ← Nat.mul_add, ← Nat.mul_add, he]
  have e4 : 65536 ^ (n + 1) * neg = 65536 ^ n * (65536 * neg) := by rw [Nat.pow_succ, Nat.mul_assoc]
  have h6 : val Y + q * val V = val X + 65536 ^ n * c + 65536 ^ n * br := by rw [h5, Nat.mul_add]; omega
  rw [e4]
  omega

set_option maxRecDepth 100000 in
set_option maxHeartbeats 2000000 in
theorem takeProduct_any (g gv j n cu cv q : Nat) (L X R V : List Nat) (w : World) (hp : Pre w g 92 .u16 (L ++ (X ++ R))) (hv : Pre w gv 92 .u16 V) (hne : gv ≠ g)
    (hL : L.length = j) (hX : X.length = n + 1) (hV : V.length = n) (hlX : Lim X) (hlV : Lim V) (hq : q < 65536) (hbig : j + n ≤ 1000000000) (hcu : n + 1 ≤ cu) (hcu2 : cu ≤ 2000000000) :
    Calls Tryz.prog 166 #[.slice (some ⟨g, j, none⟩) (n + 1) cu, .slice (some ⟨gv, 0, none⟩) n cv, .int .u32 q] w fun e w' =>
      ∃ (Y : List Nat) (neg : Nat), e = .returned (.bool (decide (neg = 1))) ∧ neg ≤ 1 ∧ Y.length = n + 1 ∧ Lim Y ∧ val Y + q * val V = val X + 65536 ^ (n + 1) * neg ∧ Pre w' g 92 .u16 (L ++ (Y ++ R)) ∧ w.grownBy w' (some g) := by
  go_enter Tryz.func166, Tryz.ntmps166
  go_wp2
  go_quiet (fail)
  have hp' : Pre (w.drewN nq) g 92 .u16 (L ++ (X ++ R)) := hp
  have hv' : Pre (w.drewN nq) gv 92 .u16 V := hv
  have hg' : w.grownBy (w.drewN nq) (some g) := gb_drewN (World.grownBy.refl _ _) nq
  clear hp hv
  generalize w.drewN nq = w0 at *
  go_wp2
  go_loopw [7, 8, 20] (fun cv bv iv wr => ∃ (k c br : Nat) (Y : List Nat), k ≤ n ∧ cv = .int .u32 c ∧ bv = .int .u32 br ∧ iv = .int .i64 k ∧ TakeRel X V q k Y c br ∧ Pre wr g 92 .u16 (L ++ (Y ++ R)) ∧ Pre wr gv 92 .u16 V ∧ w.grownBy wr (some g)) (fun _ _ iv _ => n - (intOf iv).toNat)
  case atStart => exact ⟨0, 0, 0, X, Nat.zero_le _, rfl, rfl, rfl, TakeRel.start V q hlX, hp', hv', hg'⟩
  case round =>
    obtain ⟨k, c, br, Y, hk, rfl, rfl, rfl, hr, hrow, hvv, hgr⟩ := hrel
    have hYl := hid hr.1
    have hc := hr.2.2.1
    have hbr := hr.2.2.2.1
    have hcell := hrow.cell (i := j + k) (by simp; have := hYl.out; omega)
    rw [nth_mid hL (by have := hYl.out; omega)] at hcell
    have hfr := hrow.frozen (j + k)
    have hy := lim_nth hr.2.1 k
    have hyw := u32_of (s := nth Y k) (by omega)
    by_cases hlt : k < n
    · have hcell2 := hvv.cell (i := k) (by omega)
      have hx := lim_nth hlV k
      have hxw := u32_of (s := nth V k) (by omega)
      have hm0 : q * nth V k ≤ 65535 * 65535 := Nat.mul_le_mul (by omega) (by omega)
      have hm1 : (0 : Int) ≤ (q : Int) * (nth V k : Int) := by rw [← Int.natCast_mul]; omega
      have hm2 : (q : Int) * (nth V k : Int) ≤ 4294836225 := by rw [← Int.natCast_mul]; omega
      have HX := hid hX
      have HV := hid hV
      have HL := hid hL
      clear hm0 hX hV hL
      go_wp2
      go_roundw
      case rel =>
        have ht : (c : Int) + (q : Int) * (nth V k : Int) = ((c + q * nth V k : Nat) : Int) := by push_cast; rfl
        rw [ht, and_mask (by rw [← Int.natCast_mul] at hm2; omega)]
        obtain ⟨d, br', q1, q2, q3, q4, q5⟩ := sub_digit (x := nth Y k) (y := (c + q * nth V k) % 65536) (br := br) hy (by omega) hbr rfl
        have e5 : (nth Y k : Int) - (((c + q * nth V k) % 65536 : Nat) : Int) - (br : Int) = (nth Y k : Int) - (br : Int) - (((c + q * nth V k) % 65536 : Nat) : Int) := by omega
        rw [e5, q4, q5]
        have hw := hrow.set (i := j + k) (by simp; have := hYl.out; have := HX.out; have := HL.out; omega) d
        rw [set_mid HL.out (by have := hYl.out; have := HX.out; omega)] at hw
        exact ⟨k + 1, (c + q * nth V k) / 65536, br', _, hlt, val_int (by rw [Int.natCast_ediv]; rfl), rfl, by go_num, hr.next (by have := HX.out; omega) hq hlV q1 q2 q3, hw, hvv.grown (gb_set (World.grownBy.refl _ _) (j + k) _) (by simpa using hne), gb_set hgr (j + k) _⟩
      case measure => simp [intOf]; omega
    · obtain rfl : k = n := by omega
      have HX := hid hX
      have HV := hid hV
      have HL := hid hL
      clear hX hV hL
      go_wp2
      go_ret
      obtain ⟨d, br', q1, q2, q3, q4, q5⟩ := sub_digit (x := nth Y k) (y := c) (br := br) hy hc hbr rfl
      have e5 : (nth Y k : Int) - (c : Int) - (br : Int) = (nth Y k : Int) - (br : Int) - (c : Int) := by omega
      rw [e5, q4, q5]
      obtain ⟨l1, l2, l3⟩ := hr.last (d := d) (neg := br') HX.out HV.out q1 q3
      have hw := hrow.set (i := j + k) (by simp; have := hYl.out; have := HX.out; have := HL.out; omega) d
      rw [set_mid HL.out (by have := hYl.out; have := HX.out; omega)] at hw
      refine ⟨_, br', ?_, q2, l1.trans HX.out, l2, l3, hw, gb_set hgr (j + k) _⟩
      have : ((br' : Int) == 1) = decide (br' = 1) := by rw [Bool.eq_iff_iff]; simp; omega
      simp only [this]
      rfl

/-- The state of a sum that is put back: k digits are done. -/
def PutRel (X V : List Nat) (k : Nat) (Y : List Nat) (c : Nat) : Prop :=
  Y.length = X.length ∧ Lim Y ∧ c ≤ 1 ∧ val Y + 65536 ^ k * c = val X + val (V.take k)
theorem PutRel.start {X : List Nat} (V : List Nat) (hX : Lim X) : PutRel X V 0 X 0 := ⟨rfl, hX, by omega, by simp [val]⟩
theorem PutRel.next {X V Y : List Nat} {k c : Nat} (h : PutRel X V k Y c) (hk : k < X.length) (hV : Lim V) :
    PutRel X V (k + 1) (Y.set k ((c + nth Y k + nth V k) % 65536)) ((c + nth Y k + nth V k) / 65536) := by
  obtain ⟨h1, h2, h3, h4⟩ := h
  have hy := lim_nth hV k
  have hz := lim_nth h2 k
  refine ⟨by rw [List.length_set, h1], lim_set h2 (by omega), by omega, ?_⟩
  have e := val_set (l := Y) (i := k) (v := (c + nth Y k + nth V k) % 65536) (by omega)
  have e2 : 65536 ^ k * ((c + nth Y k + nth V k) % 65536) + 65536 ^ k * (65536 * ((c + nth Y k + nth V k) / 65536)) = 65536 ^ k * c + 65536 ^ k * nth Y k + 65536 ^ k * nth V k := by
    rw [← Nat.mul_add, ← Nat.mul_add, ← Nat.mul_add]
    congr 1
    omega
  have e4 : 65536 ^ (k + 1) * ((c + nth Y k + nth V k) / 65536) = 65536 ^ k * (65536 * ((c + nth Y k + nth V k) / 65536)) := by rw [Nat.pow_succ, Nat.mul_assoc]
  rw [val_take_succ', e4]
  omega
theorem PutRel.last {X V Y : List Nat} {n c : Nat} (h : PutRel X V n Y c) (hn : X.length = n + 1) (hV : V.length = n) :
    (Y.set n ((nth Y n + c) % 65536)).length = X.length ∧ Lim (Y.set n ((nth Y n + c) % 65536)) ∧ val (Y.set n ((nth Y n + c) % 65536)) + 65536 ^ (n + 1) * ((nth Y n + c) / 65536) = val X + val V := by
  obtain ⟨h1, h2, h3, h4⟩ := h
  refine ⟨by rw [List.length_set, h1], lim_set h2 (by omega), ?_⟩
  have e := val_set (l := Y) (i := n) (v := (nth Y n + c) % 65536) (by omega)
  rw [List.take_of_length_le (by omega)] at h4
  have e2 : 65536 ^ n * ((nth Y n + c) % 65536) + 65536 ^ n * (65536 * ((nth Y n + c) / 65536)) = 65536 ^ n * nth Y n + 65536 ^ n * c := by
    rw [← Nat.mul_add, ← Nat.mul_add]
    congr 1
    omega
  have e4 : 65536 ^ (n + 1) * ((nth Y n + c) / 65536) = 65536 ^ n * (65536 * ((nth Y n + c) / 65536)) := by rw [Nat.pow_succ, Nat.mul_assoc]
  rw [e4]
  omega

set_option maxRecDepth 100000 in
set_option maxHeartbeats 2000000 in
theorem putBack_any (g gv j n cu cv : Nat) (L X R V : List Nat) (w : World) (hp : Pre w g 92 .u16 (L ++ (X ++ R))) (hv : Pre w gv 92 .u16 V) (hne : gv ≠ g)
    (hL : L.length = j) (hX : X.length = n + 1) (hV : V.length = n) (hlX : Lim X) (hlV : Lim V) (hbig : j + n ≤ 1000000000) :
    Calls Tryz.prog 167 #[.slice (some ⟨g, j, none⟩) (n + 1) cu, .slice (some ⟨gv, 0, none⟩) n cv] w fun e w' =>
      e = .returned (.tuple #[]) ∧ ∃ (Y : List Nat) (ov : Nat), ov ≤ 1 ∧ Y.length = n + 1 ∧ Lim Y ∧ val Y + 65536 ^ (n + 1) * ov = val X + val V ∧ Pre w' g 92 .u16 (L ++ (Y ++ R)) ∧ w.grownBy w' (some g) := by
  go_enter Tryz.func167, Tryz.ntmps167
  go_wp2
  go_loopw [4, 9] (fun cv iv wr => ∃ (k c : Nat) (Y : List Nat), k ≤ n ∧ cv = .int .u32 c ∧ iv = .int .i64 k ∧ PutRel X V k Y c ∧ Pre wr g 92 .u16 (L ++ (Y ++ R)) ∧ Pre wr gv 92 .u16 V ∧ w.grownBy wr (some g)) (fun _ iv _ => n - (intOf iv).toNat)
  case atStart => exact ⟨0, 0, X, Nat.zero_le _, rfl, rfl, PutRel.start V hlX, hp, hv, World.grownBy.refl _ _⟩
  case round =>
    obtain ⟨k, c, Y, hk, rfl, rfl, hr, hrow, hvv, hgr⟩ := hrel
    have hYl := hid hr.1
    have hc := hr.2.2.1
    have hcell := hrow.cell (i := j + k) (by simp; have := hYl.out; omega)
    rw [nth_mid hL (by have := hYl.out; omega)] at hcell
    have hfr := hrow.frozen (j + k)
    have hy := lim_nth hr.2.1 k
    have hyw := u32_of (s := nth Y k) (by omega)
    have HX := hid hX
    have HV := hid hV
    have HL := hid hL
    by_cases hlt : k < n
    · have hcell2 := hvv.cell (i := k) (by omega)
      have hx := lim_nth hlV k
      have hxw := u32_of (s := nth V k) (by omega)
      clear hX hV hL
      go_wp2
      go_roundw
      case rel =>
        have ht : (c : Int) + ((nth Y k : Int) + (nth V k : Int)) = ((c + nth Y k + nth V k : Nat) : Int) := by push_cast; omega
        rw [ht, u16_of]
        have hw := hrow.set (i := j + k) (by simp; have := hYl.out; have := HX.out; have := HL.out; omega) ((c + nth Y k + nth V k) % 65536)
        rw [set_mid HL.out (by have := hYl.out; have := HX.out; omega)] at hw
        exact ⟨k + 1, (c + nth Y k + nth V k) / 65536, _, hlt, val_int (by rw [Int.natCast_ediv]; rfl), by go_num, hr.next (by have := HX.out; omega) hlV, hw, hvv.grown (gb_set (World.grownBy.refl _ _) (j + k) _) (by simpa using hne), gb_set hgr (j + k) _⟩
      case measure => simp [intOf]; omega
    · obtain rfl : k = n := by omega
      clear hX hV hL
      go_wp2
      go_end0
      have ht : (nth Y k : Int) + (c : Int) = ((nth Y k + c : Nat) : Int) := by push_cast; rfl
      rw [ht, u16_of]
      obtain ⟨l1, l2, l3⟩ := hr.last HX.out HV.out
      have hw := hrow.set (i := j + k) (by simp; have := hYl.out; have := HX.out; have := HL.out; omega) ((nth Y k + c) % 65536)
      rw [set_mid HL.out (by have := hYl.out; have := HX.out; omega)] at hw
      exact ⟨rfl, _, _, by omega, l1.trans HX.out, l2, l3, hw, gb_set hgr (j + k) _⟩

theorem three_digits (P a b c : Nat) : ((a * 65536 + b) * 65536 + c) * P = 65536 * (65536 * (P * a)) + 65536 * (P * b) + P * c := by
  rw [Nat.mul_comm _ P, Nat.mul_add, Nat.mul_comm (a * 65536 + b) 65536, Nat.mul_left_comm P 65536, Nat.mul_add P, Nat.mul_comm a 65536, Nat.mul_left_comm P 65536 a, Nat.mul_add]
theorem two_digits (P a b : Nat) : (a * 65536 + b) * P = 65536 * (P * a) + P * b := by
  rw [Nat.mul_comm _ P, Nat.mul_add, Nat.mul_comm a 65536, Nat.mul_left_comm P 65536 a]
theorem val_top3 {X : List Nat} {m : Nat} (h : X.length = m + 3) : val X = ((nth X (m + 2) * 65536 + nth X (m + 1)) * 65536 + nth X m) * 65536 ^ m + val (X.take m) := by
  have e : val X = val (X.take (m + 3)) := by rw [List.take_of_length_le (by omega)]
  have p1 : 65536 ^ (m + 1) * nth X (m + 1) = 65536 * (65536 ^ m * nth X (m + 1)) := by rw [Nat.pow_succ, Nat.mul_comm (65536 ^ m), Nat.mul_assoc]
  have p2 : 65536 ^ (m + 2) * nth X (m + 2) = 65536 * (65536 * (65536 ^ m * nth X (m + 2))) := by rw [Nat.pow_succ, Nat.pow_succ, Nat.mul_comm _ 65536, Nat.mul_assoc, Nat.mul_comm (65536 ^ m), Nat.mul_assoc]
  rw [e, val_take_succ', val_take_succ', val_take_succ', p1, p2, three_digits]
  omega
theorem val_top2 {V : List Nat} {m : Nat} (h : V.length = m + 2) : val V = (nth V (m + 1) * 65536 + nth V m) * 65536 ^ m + val (V.take m) := by
  have e : val V = val (V.take (m + 2)) := by rw [List.take_of_length_le (by omega)]
  have p1 : 65536 ^ (m + 1) * nth V (m + 1) = 65536 * (65536 ^ m * nth V (m + 1)) := by rw [Nat.pow_succ, Nat.mul_comm (65536 ^ m), Nat.mul_assoc]
  rw [e, val_take_succ', val_take_succ', p1, two_digits]
  omega

/-- What a guess of a digit must keep: it is not too small, and the rest is that of the two top digits. -/
def Guess (q top v1 g r : Nat) : Prop := g * v1 + r = top ∧ q ≤ g
/-- What the facts about the window are, in numbers: the top digits, a quotient q. -/
structure Top (X V : List Nat) (m q : Nat) : Prop where
  hX : X.length = m + 3
  hV : V.length = m + 2
  lX : Lim X
  lV : Lim V
  big : 32768 ≤ nth V (m + 1)
  lt : val X < 65536 * val V
  hq : q = val X / val V
theorem Top.q_lt {X V : List Nat} {m q : Nat} (t : Top X V m q) : q < 65536 := by
  have := t.lt
  rw [t.hq]
  exact Nat.div_lt_of_lt_mul (by rw [Nat.mul_comm]; exact this)
theorem Top.v_pos {X V : List Nat} {m q : Nat} (t : Top X V m q) : 0 < val V := by
  have := t.lt
  omega
theorem Top.q_le {X V : List Nat} {m q : Nat} (t : Top X V m q) : q * (nth V (m + 1) * 65536 + nth V m) ≤ (nth X (m + 2) * 65536 + nth X (m + 1)) * 65536 + nth X m := by
  have h1 : val (X.take m) < 65536 ^ m := by
    have := val_lt (lim_take t.lX m)
    rwa [List.length_take, Nat.min_eq_left (by have := t.hX; omega)] at this
  have h2 : q * val V ≤ val X := by rw [t.hq]; exact Nat.div_mul_le_self _ _
  rw [val_top3 t.hX, val_top2 t.hV] at h2
  exact guess_ge h1 h2
theorem Top.x_le {X V : List Nat} {m q : Nat} (t : Top X V m q) : nth X (m + 2) ≤ nth V (m + 1) := by
  have h1 : val (V.take m) < 65536 ^ m := by
    have := val_lt (lim_take t.lV m)
    rwa [List.length_take, Nat.min_eq_left (by have := t.hV; omega)] at this
  have hlt := t.lt
  rw [val_top3 t.hX, val_top2 t.hV, three_digits, two_digits] at hlt
  rcases Nat.lt_or_ge (nth V (m + 1)) (nth X (m + 2)) with h | h
  · exfalso
    have h3 : 65536 ^ m * (nth V (m + 1) + 1) ≤ 65536 ^ m * nth X (m + 2) := Nat.mul_le_mul_left _ h
    have h4 : 65536 ^ m * nth V m ≤ 65536 ^ m * 65535 := Nat.mul_le_mul_left _ (by have := lim_nth t.lV m; omega)
    rw [Nat.mul_add] at h3
    omega
  · exact h
theorem Top.fin {X V : List Nat} {m q g : Nat} (t : Top X V m q) (hg : g ≤ 65535) (h : g * (nth V (m + 1) * 65536 + nth V m) ≤ (nth X (m + 2) * 65536 + nth X (m + 1)) * 65536 + nth X m) : g ≤ q + 1 := by
  have h1 : val (V.take m) < 65536 ^ m := by
    have := val_lt (lim_take t.lV m)
    rwa [List.length_take, Nat.min_eq_left (by have := t.hV; omega)] at this
  have h2 : val X < (q + 1) * val V := by
    rw [t.hq, Nat.add_mul, Nat.one_mul]
    have := Nat.div_add_mod (val X) (val V)
    have := Nat.mod_lt (val X) t.v_pos
    rw [Nat.mul_comm (val X / val V)]
    omega
  rw [val_top3 t.hX, val_top2 t.hV] at h2
  exact guess_le h1 h2 h (by have := t.big; omega)
/-- The test of the guess with three digits says yes: the guess is too great. -/
theorem Top.down {X V : List Nat} {m q g r : Nat} (t : Top X V m q) (h : Guess q (nth X (m + 2) * 65536 + nth X (m + 1)) (nth V (m + 1)) g r) (hy : 65535 < g ∨ r * 65536 + nth X m < g * nth V m) : q + 1 ≤ g := by
  rcases hy with hy | hy
  · have := t.q_lt; omega
  · have h1 := t.q_le
    have h2 : g * (nth V (m + 1) * 65536 + nth V m) = (g * nth V (m + 1)) * 65536 + g * nth V m := by rw [Nat.mul_add, Nat.mul_assoc]
    rcases Nat.lt_or_ge q g with h3 | h3
    · exact h3
    · exfalso
      have h4 : g * (nth V (m + 1) * 65536 + nth V m) ≤ q * (nth V (m + 1) * 65536 + nth V m) := Nat.mul_le_mul_right _ h3
      have := h.1
      omega
/-- It says no: the guess is right or too great by one. -/
theorem Top.stop {X V : List Nat} {m q g r : Nat} (t : Top X V m q) (h : Guess q (nth X (m + 2) * 65536 + nth X (m + 1)) (nth V (m + 1)) g r) (h1 : g ≤ 65535) (h2 : g * nth V m ≤ r * 65536 + nth X m) : g ≤ q + 1 := by
  refine t.fin h1 ?_
  have h3 : g * (nth V (m + 1) * 65536 + nth V m) = (g * nth V (m + 1)) * 65536 + g * nth V m := by rw [Nat.mul_add, Nat.mul_assoc]
  have := h.1
  omega
theorem Top.step {X V : List Nat} {m q g r : Nat} (_t : Top X V m q) (h : Guess q (nth X (m + 2) * 65536 + nth X (m + 1)) (nth V (m + 1)) (g + 1) r) (hy : q ≤ g) : Guess q (nth X (m + 2) * 65536 + nth X (m + 1)) (nth V (m + 1)) g (r + nth V (m + 1)) := by
  have := h.1
  rw [Nat.add_mul, Nat.one_mul] at this
  exact ⟨by omega, hy⟩
/-- The rest has more than one digit: no more can be taken. -/
theorem Top.over {X V : List Nat} {m q g r : Nat} (t : Top X V m q) (h : Guess q (nth X (m + 2) * 65536 + nth X (m + 1)) (nth V (m + 1)) g r) (hr : 65535 < r) : g ≤ 65535 ∧ g ≤ q + 1 := by
  have h1 : g ≤ 65535 := by
    rcases Nat.lt_or_ge 65535 g with h2 | h2
    · exfalso
      have h3 : 65536 * nth V (m + 1) ≤ g * nth V (m + 1) := Nat.mul_le_mul_right _ h2
      have := h.1
      have := t.x_le
      have := lim_nth t.lX (m + 1)
      omega
    · exact h2
  refine ⟨h1, t.stop h h1 ?_⟩
  have h2 : g * nth V m ≤ 65535 * 65535 := Nat.mul_le_mul h1 (by have := lim_nth t.lV m; omega)
  omega
theorem Top.start {X V : List Nat} {m q : Nat} (t : Top X V m q) : Guess q (nth X (m + 2) * 65536 + nth X (m + 1)) (nth V (m + 1)) ((nth X (m + 2) * 65536 + nth X (m + 1)) / nth V (m + 1)) ((nth X (m + 2) * 65536 + nth X (m + 1)) % nth V (m + 1)) ∧ (nth X (m + 2) * 65536 + nth X (m + 1)) / nth V (m + 1) ≤ 65537 := by
  have hb := t.big
  refine ⟨⟨by rw [Nat.mul_comm]; exact Nat.div_add_mod _ _, ?_⟩, ?_⟩
  · have h1 := t.q_le
    rw [Nat.le_div_iff_mul_le (by omega)]
    have h2 : q * (nth V (m + 1) * 65536 + nth V m) = (q * nth V (m + 1)) * 65536 + q * nth V m := by rw [Nat.mul_add, Nat.mul_assoc]
    have := lim_nth t.lX m
    omega
  · have h1 := t.x_le
    have := lim_nth t.lX (m + 1)
    have h2 : (nth X (m + 2) * 65536 + nth X (m + 1)) / nth V (m + 1) < 65538 := by
      apply Nat.div_lt_of_lt_mul
      omega
    omega
/-- The product of the guess is taken away: what a borrow tells. -/
theorem Top.taken {X V Y : List Nat} {m q g neg : Nat} (t : Top X V m q) (h1 : q ≤ g) (h2 : g ≤ q + 1) (hn : neg ≤ 1) (hY : Y.length = m + 3) (lY : Lim Y) (h : val Y + g * val V = val X + 65536 ^ (m + 3) * neg) :
    (neg = 0 ∧ g = q ∧ val Y = val X % val V) ∨ (neg = 1 ∧ g = q + 1 ∧ val Y + val V = val X % val V + 65536 ^ (m + 3)) := by
  have h3 := val_lt lY
  rw [hY] at h3
  have h4 := Nat.div_add_mod (val X) (val V)
  have h5 := Nat.mod_lt (val X) t.v_pos
  rw [← t.hq, Nat.mul_comm] at h4
  rcases Nat.lt_or_ge q g with h6 | h6
  · have e : g = q + 1 := by omega
    right
    rw [e, Nat.add_mul, Nat.one_mul] at h
    have e2 : neg = 1 := by
      rcases Nat.lt_or_ge neg 1 with h7 | h7
      · have : neg = 0 := by omega
        subst this
        rw [Nat.mul_zero] at h
        omega
      · omega
    subst e2
    rw [Nat.mul_one] at h
    exact ⟨rfl, e, by omega⟩
  · have e : g = q := by omega
    left
    rw [e] at h
    have e2 : neg = 0 := by
      rcases Nat.lt_or_ge neg 1 with h7 | h7
      · omega
      · have : neg = 1 := by omega
        subst this
        rw [Nat.mul_one] at h
        omega
    subst e2
    rw [Nat.mul_zero] at h
    exact ⟨rfl, e, by omega⟩
theorem Top.back {X V Y : List Nat} {m q ov W : Nat} (_t : Top X V m q) (ho : ov ≤ 1) (hY : Y.length = m + 3) (lY : Lim Y) (hW : W + val V = val X % val V + 65536 ^ (m + 3)) (h : val Y + 65536 ^ (m + 3) * ov = W + val V) : val Y = val X % val V := by
  have h3 := val_lt lY
  rw [hY] at h3
  rcases Nat.lt_or_ge ov 1 with h7 | h7
  · have : ov = 0 := by omega
    subst this
    rw [Nat.mul_zero] at h
    omega
  · have : ov = 1 := by omega
    subst this
    rw [Nat.mul_one] at h
    omega

end Go.Proofs.YtffipjofefemiaaGreatDoor

namespace Go.Proofs.YtffipjofefemiaaGreatDoor
open Go.RowKit Kb

theorem div_u32 {T v : Nat} (h : T / v ≤ 65537) : ((T : Int) / (v : Int)) % 4294967296 = ((T / v : Nat) : Int) := by
  rw [← Int.natCast_ediv]
  generalize T / v = G at *
  omega

set_option maxRecDepth 100000 in
set_option maxHeartbeats 4000000 in
theorem digit_any (g gv j m cu cv q : Nat) (L X R V : List Nat) (w : World) (hp : Pre w g 92 .u16 (L ++ (X ++ R))) (hv : Pre w gv 92 .u16 V) (hne : gv ≠ g)
    (hL : L.length = j) (t : Top X V m q) (hbig : j + m ≤ 900000000) (hcu : m + 3 ≤ cu) (hcu2 : cu ≤ 2000000000) :
    Calls Tryz.prog 150 #[.slice (some ⟨g, j, none⟩) (m + 3) cu, .slice (some ⟨gv, 0, none⟩) (m + 2) cv] w fun e w' =>
      e = .returned (.int .u16 (q : Nat)) ∧ ∃ (Y : List Nat), Y.length = m + 3 ∧ Lim Y ∧ val Y = val X % val V ∧ Pre w' g 92 .u16 (L ++ (Y ++ R)) ∧ w.grownBy w' (some g) := by
  have hx2 := lim_nth t.lX (m + 2)
  have hx1 := lim_nth t.lX (m + 1)
  have hx0 := lim_nth t.lX m
  have hv1 := lim_nth t.lV (m + 1)
  have hv0 := lim_nth t.lV m
  have hb := t.big
  have hst := t.start
  have HX := hid t.hX
  have HV := hid t.hV
  have HL := hid hL
  clear hL
  have c2 := hp.cell (i := j + (m + 2)) (by simp; have := HX.out; have := HL.out; omega)
  have c1 := hp.cell (i := j + (m + 1)) (by simp; have := HX.out; have := HL.out; omega)
  have c0 := hp.cell (i := j + m) (by simp; have := HX.out; have := HL.out; omega)
  rw [nth_mid HL.out (by have := HX.out; omega)] at c2 c1 c0
  have d1 := hv.cell (i := m + 1) (by have := HV.out; omega)
  have d0 := hv.cell (i := m) (by have := HV.out; omega)
  have hor := or_shl16 (r := nth X (m + 2)) (x := nth X (m + 1)) hx2 hx1 rfl rfl
  obtain ⟨T, hT⟩ : ∃ T, T = nth X (m + 2) * 65536 + nth X (m + 1) := ⟨_, rfl⟩
  rw [← hT] at hor hst
  have hTl : T < 4294967296 := by omega
  have HT := hid hT
  have Hst := hid hst.1
  have hg0 := hst.2
  have hr0 : T % nth V (m + 1) < nth V (m + 1) := Nat.mod_lt _ (by omega)
  have hv1w := u32_of (s := nth V (m + 1)) (by omega)
  have hv0w := u32_of (s := nth V m) (by omega)
  have hx0w := u32_of (s := nth X m) (by omega)
  have hvz : ((nth V (m + 1) : Int) == 0) = false := by rw [beq_eq_false_iff_ne]; omega
  clear hT hst
  go_enter Tryz.func150, Tryz.ntmps150
  go_wp2
  go_quiet (fail)
  have hq0 : Qt w (w.drewN nq) := ⟨nq, rfl⟩
  have d1' : (w.drewN nq).cell? ⟨gv, m + 1, none⟩ = _ := d1
  clear c2 c1 c0 d1 d0 hor
  generalize w.drewN nq = w0 at *
  go_wp2
  go_quiet (fail)
  have hq1 := hq0.drewN nq
  clear hq0 d1'
  generalize w0.drewN nq = w1 at *
  go_wp2
  go_loopw [7, 8] (fun gv' rv wr => ∃ (gs r : Nat), gs ≤ 65537 ∧ r ≤ 65535 ∧ gv' = .int .u32 gs ∧ rv = .int .u32 r ∧ Guess q T (nth V (m + 1)) gs r ∧ Qt w wr) (fun gv' _ _ => (intOf gv').toNat)
  case atStart => exact ⟨T / nth V (m + 1), T % nth V (m + 1), hg0, by omega, val_int (div_u32 hg0), val_int (by rw [← Int.natCast_emod]), Hst.out, hq1⟩
  case round =>
    obtain ⟨gs, r, hgs, hrl, rfl, rfl, hG, hqr⟩ := hrel
    have HG := hid hG
    clear hG hq1 Hst hg0 hr0
    have c0 := (hp.below (hqr.below _) hp.lt).cell (i := j + m) (by simp; have := HX.out; have := HL.out; omega)
    rw [nth_mid HL.out (by have := HX.out; omega)] at c0
    have d1 := (hv.below (hqr.below _) hv.lt).cell (i := m + 1) (by have := HV.out; omega)
    have d0 := (hv.below (hqr.below _) hv.lt).cell (i := m) (by have := HV.out; omega)
    by_cases hA : 65535 < gs
    · have hgd : decide ((65535 : Int) < (gs : Int)) = true := by simp; omega
      have Hdown := hid (t.down (by rw [← HT.out]; exact HG.out) (.inl hA))
      go_wp2
      go_quiet (fail)
      have hqt := hqr.drewN nq
      have d1' : (wr.drewN nq).cell? ⟨gv, m + 1, none⟩ = _ := d1
      clear c0 d1 d0 hqr
      generalize wr.drewN nq = w4 at *
      clear hgd
      obtain ⟨p, rfl⟩ : ∃ p, gs = p + 1 := ⟨gs - 1, by omega⟩
      have Hdn := hid (t.step (by rw [← HT.out]; exact HG.out) (by have := Hdown.out; omega))
      by_cases hov : 65535 < r + nth V (m + 1)
      · have hfin := t.over Hdn.out hov
        have hp1 : p ≤ 65535 := hfin.1
        have Hf := hid (show q ≤ p ∧ p ≤ q + 1 from ⟨Hdn.out.2, hfin.2⟩)
        clear hfin
        go_wp2_with fail
        refine (takeProduct_any g gv j (m + 2) cu cv p L X R V _ (hp.below (hqt.below _) hp.lt) (hv.below (hqt.below _) hv.lt) hne HL.out HX.out HV.out t.lX t.lV (by omega) (by omega) (by omega) hcu2).mono ?_
        rintro e w2 ⟨Y, neg, rfl, hn, hYl, hYlim, hYv, hpY, hgr⟩
        have hgrw := gb_trans (gb_of_below (r := some g) (hqt.below w.heap.size)) hgr
        have hvY := (hv.below (hqt.below _) hv.lt).grown hgr (by simpa using hne)
        rcases t.taken Hf.out.1 Hf.out.2 hn hYl hYlim hYv with ⟨hn0, hpq, hval⟩ | ⟨hn1, hpq, hval⟩
        · have hd : decide (neg = 1) = false := by simp; omega
          have Hpq := hid hpq
          have HYl := hid hYl
          have Hval := hid hval
          clear hn0 hpq hYl hval hYv
          rw [hd]
          go_wp2
          go_ret
          exact ⟨ret_int (by have := Hpq.out; omega), Y, HYl.out, hYlim, Hval.out, hpY, hgrw⟩
        · have hd : decide (neg = 1) = true := by simp; omega
          have Hpq := hid hpq
          have HYl := hid hYl
          have Hval := hid hval
          have hp0 : 1 ≤ p := by omega
          clear hn1 hpq hYl hval hYv
          rw [hd]
          go_wp2_with fail
          refine (putBack_any g gv j (m + 2) cu cv L Y R V _ hpY hvY hne HL.out HYl.out HV.out hYlim t.lV (by omega)).mono ?_
          rintro e w3 ⟨rfl, Z, ov, ho, hZl, hZlim, hZv, hpZ, hgr2⟩
          have Hz := hid (t.back ho hZl hZlim Hval.out hZv)
          have HZl := hid hZl
          clear hZl hZv
          go_wp2
          go_ret
          exact ⟨ret_int (by have := Hpq.out; omega), Z, HZl.out, hZlim, Hz.out, hpZ, gb_trans hgrw hgr2⟩
      · go_wp2
        go_roundw
        case rel => exact ⟨p, r + nth V (m + 1), by omega, by omega, by go_num, by go_num, by rw [HT.out]; exact Hdn.out, hqt⟩
        case measure => simp [intOf]
    · have hgd : decide ((65535 : Int) < (gs : Int)) = false := by simp; omega
      have hm0 : gs * nth V m ≤ 65535 * 65535 := Nat.mul_le_mul (by omega) (by omega)
      have hm1 : (0 : Int) ≤ (gs : Int) * (nth V m : Int) := by rw [← Int.natCast_mul]; omega
      have hm2 : (gs : Int) * (nth V m : Int) ≤ 4294836225 := by rw [← Int.natCast_mul]; omega
      have hor := or_shl16 (r := r) (x := nth X m) (by omega) hx0 rfl rfl
      by_cases hB : r * 65536 + nth X m < gs * nth V m
      · have hBi : (r : Int) * 65536 + (nth X m : Int) < (gs : Int) * (nth V m : Int) := by rw [← Int.natCast_mul]; omega
        have hgp : 0 < gs := by
          rcases Nat.eq_zero_or_pos gs with h | h
          · subst h; rw [Nat.zero_mul] at hB; omega
          · exact h
        have Hdown := hid (t.down (by rw [← HT.out]; exact HG.out) (.inr hB))
        clear hm0 hB
        go_wp2
        go_quiet (fail)
        have hqt := hqr.drewN nq
        have d1' : (wr.drewN nq).cell? ⟨gv, m + 1, none⟩ = _ := d1
        clear c0 d1 d0 hqr hor hBi hm1 hm2 hgd
        generalize wr.drewN nq = w4 at *
        obtain ⟨p, rfl⟩ : ∃ p, gs = p + 1 := ⟨gs - 1, by omega⟩
        have Hdn := hid (t.step (by rw [← HT.out]; exact HG.out) (by have := Hdown.out; omega))
        by_cases hov : 65535 < r + nth V (m + 1)
        · have hfin := t.over Hdn.out hov
          have hp1 : p ≤ 65535 := hfin.1
          have Hf := hid (show q ≤ p ∧ p ≤ q + 1 from ⟨Hdn.out.2, hfin.2⟩)
          clear hfin
          go_wp2_with fail
          refine (takeProduct_any g gv j (m + 2) cu cv p L X R V _ (hp.below (hqt.below _) hp.lt) (hv.below (hqt.below _) hv.lt) hne HL.out HX.out HV.out t.lX t.lV (by omega) (by omega) (by omega) hcu2).mono ?_
          rintro e w2 ⟨Y, neg, rfl, hn, hYl, hYlim, hYv, hpY, hgr⟩
          have hgrw := gb_trans (gb_of_below (r := some g) (hqt.below w.heap.size)) hgr
          have hvY := (hv.below (hqt.below _) hv.lt).grown hgr (by simpa using hne)
          rcases t.taken Hf.out.1 Hf.out.2 hn hYl hYlim hYv with ⟨hn0, hpq, hval⟩ | ⟨hn1, hpq, hval⟩
          · have hd : decide (neg = 1) = false := by simp; omega
            have Hpq := hid hpq
            have HYl := hid hYl
            have Hval := hid hval
            clear hn0 hpq hYl hval hYv
            rw [hd]
            go_wp2
            go_ret
            exact ⟨ret_int (by have := Hpq.out; omega), Y, HYl.out, hYlim, Hval.out, hpY, hgrw⟩
          · have hd : decide (neg = 1) = true := by simp; omega
            have Hpq := hid hpq
            have HYl := hid hYl
            have Hval := hid hval
            have hp0 : 1 ≤ p := by omega
            clear hn1 hpq hYl hval hYv
            rw [hd]
            go_wp2_with fail
            refine (putBack_any g gv j (m + 2) cu cv L Y R V _ hpY hvY hne HL.out HYl.out HV.out hYlim t.lV (by omega)).mono ?_
            rintro e w3 ⟨rfl, Z, ov, ho, hZl, hZlim, hZv, hpZ, hgr2⟩
            have Hz := hid (t.back ho hZl hZlim Hval.out hZv)
            have HZl := hid hZl
            clear hZl hZv
            go_wp2
            go_ret
            exact ⟨ret_int (by have := Hpq.out; omega), Z, HZl.out, hZlim, Hz.out, hpZ, gb_trans hgrw hgr2⟩
        · go_wp2
          go_roundw
          case rel => exact ⟨p, r + nth V (m + 1), by omega, by omega, by go_num, by go_num, by rw [HT.out]; exact Hdn.out, hqt⟩
          case measure => simp [intOf]
      · have hBi : decide ((r : Int) * 65536 + (nth X m : Int) < (gs : Int) * (nth V m : Int)) = false := by rw [← Int.natCast_mul]; simp only [decide_eq_false_iff_not]; omega
        have hgl : gs ≤ 65535 := by omega
        have Hf := hid (show q ≤ gs ∧ gs ≤ q + 1 from ⟨HG.out.2, t.stop (by rw [← HT.out]; exact HG.out) hgl (by omega)⟩)
        clear hm0 hB
        go_wp2
        go_quiet (fail)
        have hqt := hqr.drewN nq
        clear c0 d1 d0 hqr hor hBi hm1 hm2 hgd
        generalize wr.drewN nq = w4 at *
        go_wp2_with fail
        refine (takeProduct_any g gv j (m + 2) cu cv gs L X R V _ (hp.below (hqt.below _) hp.lt) (hv.below (hqt.below _) hv.lt) hne HL.out HX.out HV.out t.lX t.lV (by omega) (by omega) (by omega) hcu2).mono ?_
        rintro e w2 ⟨Y, neg, rfl, hn, hYl, hYlim, hYv, hpY, hgr⟩
        have hgrw := gb_trans (gb_of_below (r := some g) (hqt.below w.heap.size)) hgr
        have hvY := (hv.below (hqt.below _) hv.lt).grown hgr (by simpa using hne)
        rcases t.taken Hf.out.1 Hf.out.2 hn hYl hYlim hYv with ⟨hn0, hpq, hval⟩ | ⟨hn1, hpq, hval⟩
        · have hd : decide (neg = 1) = false := by simp; omega
          have Hpq := hid hpq
          have HYl := hid hYl
          have Hval := hid hval
          clear hn0 hpq hYl hval hYv
          rw [hd]
          go_wp2
          go_ret
          exact ⟨ret_int (by have := Hpq.out; omega), Y, HYl.out, hYlim, Hval.out, hpY, hgrw⟩
        · have hd : decide (neg = 1) = true := by simp; omega
          have Hpq := hid hpq
          have HYl := hid hYl
          have Hval := hid hval
          have hp0 : 1 ≤ gs := by omega
          clear hn1 hpq hYl hval hYv
          rw [hd]
          go_wp2_with fail
          refine (putBack_any g gv j (m + 2) cu cv L Y R V _ hpY hvY hne HL.out HYl.out HV.out hYlim t.lV (by omega)).mono ?_
          rintro e w3 ⟨rfl, Z, ov, ho, hZl, hZlim, hZv, hpZ, hgr2⟩
          have Hz := hid (t.back ho hZl hZlim Hval.out hZv)
          have HZl := hid hZl
          clear hZl hZv
          go_wp2
          go_ret
          exact ⟨ret_int (by have := Hpq.out; omega), Z, HZl.out, hZlim, Hz.out, hpZ, gb_trans hgrw hgr2⟩

end Go.Proofs.YtffipjofefemiaaGreatDoor
