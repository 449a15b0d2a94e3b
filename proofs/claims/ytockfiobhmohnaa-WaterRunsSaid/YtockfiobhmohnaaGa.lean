/- Numbers as lists of limbs below 65536, the lowest first: values, digits, sums, differences, products and quotients digit by digit. Plain arithmetic, for all lists. Shifts, masks and disjunctions of machine words as sums and quotients. For all words within the bounds. Words for memory: slices that read as limbs, rows that a call has made. For any worlds. The mathematics of basins: volumes below levels, levels of volumes. No program is run in this text. Words for basins and marks in memory; names; the small tests of numbers, of the program and of the reference. What the claims of basins and marks begin with: an argument that is a basin, or a list of pairs of numbers, is opened. Names: IsName of the program and of the reference. For all texts. The error of a basin: sizeError, CheckBasin, of the program and of the reference. For all basins. The volume below a level: volume, capacity, of the program; Below, Capacity, Floor, of the reference. For all basins that are right. The volume below a level by the reference: Below, Capacity, Floor; capacity and isLevelOf of the program. For all basins that are right. The level of a volume: LevelOf of the reference, levelOf of the program. For all basins that are right. Volume and Level, of the program and of the reference. For all basins, levels and volumes. What awake() runs: the basin of the first example, its volume and its level. -/
import Derived.WalkKit
import Derived.WalkSpells
import Derived.WalkLawsBesides
import Derived.Test.YtockfiobhmohnaaChecked
import Derived.Deep.Draws
import Derived.WalkSmall
import Derived.Deep.QuietTactic
import Derived.BigQuiet
import Derived.Test.YtockfiobhmohnaaRows
import Derived.ProofKit
import Derived.OpenShut
import Derived.Carry
import Derived.ChangeMaps5
import Derived.Lib.SmallJoins
import Derived.Deep.SlicePairs
import Derived.IntWalk
import Derived.Deep.DeepCutAuto
import Derived.Deep.RegionHeld3
import Derived.Deep.RegionWith
namespace Kb

/-- The value of limbs, the lowest first. -/
def val : List Nat → Nat
  | [] => 0
  | x :: l => x + 65536 * val l

def Lim (l : List Nat) : Prop := ∀ x, x ∈ l → x < 65536

/-- The i-th limb; 0 beyond the end. Closed to simp. -/
def nth (l : List Nat) (i : Nat) : Nat := l.getD i 0

theorem lim_nil : Lim [] := fun _ h => by cases h
theorem lim_cons {x : Nat} {l : List Nat} : Lim (x :: l) ↔ x < 65536 ∧ Lim l := by
  unfold Lim; simp
theorem lim_append {a b : List Nat} : Lim (a ++ b) ↔ Lim a ∧ Lim b := by
  unfold Lim; simp only [List.mem_append]
  exact ⟨fun h => ⟨fun x hx => h x (.inl hx), fun x hx => h x (.inr hx)⟩, fun h x hx => hx.elim (h.1 x) (h.2 x)⟩
theorem lim_nth {l : List Nat} (h : Lim l) (i : Nat) : nth l i < 65536 := by
  unfold nth
  rw [List.getD_eq_getElem?_getD]
  by_cases hi : i < l.length
  · rw [List.getElem?_eq_getElem hi]; exact h _ (List.getElem_mem hi)
  · rw [List.getElem?_eq_none (by omega)]; decide
theorem lim_take {l : List Nat} (h : Lim l) (k : Nat) : Lim (l.take k) := fun x hx => h x (List.mem_of_mem_take hx)
theorem lim_drop {l : List Nat} (h : Lim l) (k : Nat) : Lim (l.drop k) := fun x hx => h x (List.mem_of_mem_drop hx)

theorem nth_out {l : List Nat} {i : Nat} (h : l.length ≤ i) : nth l i = 0 := by
  unfold nth; rw [List.getD_eq_getElem?_getD, List.getElem?_eq_none h]; rfl
theorem nth_eq {l : List Nat} {i : Nat} (h : i < l.length) : nth l i = l[i] := by
  unfold nth; rw [List.getD_eq_getElem?_getD, List.getElem?_eq_getElem h]; rfl
theorem nth_append {a b : List Nat} {i : Nat} : nth (a ++ b) i = if i < a.length then nth a i else nth b (i - a.length) := by
  unfold nth
  simp only [List.getD_eq_getElem?_getD, List.getElem?_append]
  split <;> rfl
theorem nth_take {l : List Nat} {k i : Nat} (h : i < k) : nth (l.take k) i = nth l i := by
  unfold nth; simp only [List.getD_eq_getElem?_getD, List.getElem?_take, if_pos h]
theorem nth_drop {l : List Nat} {k i : Nat} : nth (l.drop k) i = nth l (k + i) := by
  unfold nth; simp only [List.getD_eq_getElem?_getD, List.getElem?_drop]
theorem nth_cons_zero {x : Nat} {l : List Nat} : nth (x :: l) 0 = x := rfl
theorem nth_cons_succ {x : Nat} {l : List Nat} {i : Nat} : nth (x :: l) (i + 1) = nth l i := by
  unfold nth; simp
theorem take_succ_nth {l : List Nat} {k : Nat} (h : k < l.length) : l.take (k + 1) = l.take k ++ [nth l k] := by
  rw [List.take_succ_eq_append_getElem h, nth_eq h]
theorem list_ext {a b : List Nat} (hl : a.length = b.length) (h : ∀ i, i < a.length → nth a i = nth b i) : a = b := by
  apply List.ext_getElem hl
  intro i h1 h2
  have := h i h1
  rw [nth_eq h1, nth_eq h2] at this
  exact this

theorem val_append (a b : List Nat) : val (a ++ b) = val a + 65536 ^ a.length * val b := by
  induction a with
  | nil => simp [val]
  | cons x a ih =>
    simp only [List.cons_append, val, ih, List.length_cons, Nat.pow_succ]
    rw [Nat.mul_add, Nat.mul_comm (65536 ^ a.length) 65536, Nat.mul_assoc]
    omega
theorem val_snoc (a : List Nat) (x : Nat) : val (a ++ [x]) = val a + 65536 ^ a.length * x := by
  rw [val_append]; simp [val]
theorem val_lt {l : List Nat} (h : Lim l) : val l < 65536 ^ l.length := by
  induction l with
  | nil => simp [val]
  | cons x l ih =>
    have hx := (lim_cons.1 h)
    have := ih hx.2
    simp only [val, List.length_cons, Nat.pow_succ]
    omega
theorem val_replicate (n : Nat) : val (List.replicate n 0) = 0 := by
  induction n with
  | zero => rfl
  | succ n ih => simp [List.replicate_succ, val, ih]
theorem val_take_succ {l : List Nat} {k : Nat} (h : k < l.length) : val (l.take (k + 1)) = val (l.take k) + 65536 ^ k * nth l k := by
  rw [take_succ_nth h, val_snoc, List.length_take, Nat.min_eq_left (by omega)]
theorem val_split {l : List Nat} (k : Nat) (h : k ≤ l.length) : val l = val (l.take k) + 65536 ^ k * val (l.drop k) := by
  have e := val_append (l.take k) (l.drop k)
  rw [List.take_append_drop, List.length_take, Nat.min_eq_left h] at e
  exact e
theorem val_drop_nth {l : List Nat} {k : Nat} (h : k < l.length) : val (l.drop k) = nth l k + 65536 * val (l.drop (k + 1)) := by
  rw [List.drop_eq_getElem_cons h, nth_eq h]; rfl

/-- The limbs of a number: no 0 at the end. -/
def dig (n : Nat) : List Nat := if h : n = 0 then [] else (n % 65536) :: dig (n / 65536)
termination_by n
decreasing_by omega

theorem dig_zero : dig 0 = [] := by unfold dig; simp
theorem dig_pos {n : Nat} (h : n ≠ 0) : dig n = (n % 65536) :: dig (n / 65536) := by rw [dig]; simp [h]
theorem val_dig (n : Nat) : val (dig n) = n := by
  induction n using Nat.strongRecOn with
  | ind n ih =>
    by_cases h : n = 0
    · subst h; rw [dig_zero]; rfl
    · rw [dig_pos h]; simp only [val]; rw [ih (n / 65536) (by omega)]; omega
theorem lim_dig (n : Nat) : Lim (dig n) := by
  induction n using Nat.strongRecOn with
  | ind n ih =>
    by_cases h : n = 0
    · subst h; rw [dig_zero]; exact lim_nil
    · rw [dig_pos h]; exact lim_cons.2 ⟨by omega, ih (n / 65536) (by omega)⟩
theorem dig_nil_iff {n : Nat} : dig n = [] ↔ n = 0 := by
  constructor
  · intro h; have := val_dig n; rw [h] at this; exact this.symm
  · intro h; subst h; exact dig_zero
theorem dig_cons {x n : Nat} (hx : x < 65536) (h : x ≠ 0 ∨ n ≠ 0) : dig (x + 65536 * n) = x :: dig n := by
  rw [dig_pos (by omega)]
  rw [show (x + 65536 * n) % 65536 = x by omega, show (x + 65536 * n) / 65536 = n by omega]
theorem dig_inj {a b : Nat} (h : dig a = dig b) : a = b := by rw [← val_dig a, ← val_dig b, h]

/-- The list without the zeros at its end. -/
def trimL : List Nat → List Nat
  | [] => []
  | x :: l => if trimL l = [] ∧ x = 0 then [] else x :: trimL l

theorem trimL_dig {l : List Nat} (h : Lim l) : trimL l = dig (val l) := by
  induction l with
  | nil => simp [trimL, val, dig_zero]
  | cons x l ih =>
    have hx := lim_cons.1 h
    have e := ih hx.2
    simp only [trimL, val, e]
    by_cases h0 : dig (val l) = [] ∧ x = 0
    · rw [if_pos h0]
      have := dig_nil_iff.1 h0.1
      rw [this, h0.2]; exact dig_zero.symm
    · rw [if_neg h0]
      rw [dig_cons hx.1]
      by_cases hx0 : x = 0
      · right; intro hv; exact h0 ⟨dig_nil_iff.2 hv, hx0⟩
      · left; exact hx0
theorem dig_snoc {l : List Nat} {x : Nat} (h : Lim (l ++ [x])) (hx : x ≠ 0) : dig (val (l ++ [x])) = l ++ [x] := by
  induction l with
  | nil =>
    have h1 := lim_cons.1 h
    simp only [List.nil_append, val, Nat.mul_zero, Nat.add_zero]
    have := dig_cons (n := 0) h1.1 (.inl hx)
    simpa [dig_zero] using this
  | cons y l ih =>
    have h1 := lim_cons.1 h
    simp only [List.cons_append, val]
    rw [dig_cons h1.1, ih h1.2]
    right
    intro hv
    have e := ih h1.2
    rw [hv, dig_zero] at e
    simp at e
/-- Zeros at the end do not count. -/
theorem dig_snoc_zero (l : List Nat) : val (l ++ [0]) = val l := by rw [val_snoc]; simp
/-- A list without a zero at its end is that of its value. -/
theorem dig_of_last {l : List Nat} (h : Lim l) (hl : l = [] ∨ nth l (l.length - 1) ≠ 0) : dig (val l) = l := by
  rcases hl with rfl | hl
  · simp [val, dig_zero]
  · by_cases hn : l = []
    · subst hn; simp [val, dig_zero]
    · have e : l = l.take (l.length - 1) ++ [nth l (l.length - 1)] := by
        have hp : 0 < l.length := List.length_pos_iff.2 hn
        have := take_succ_nth (l := l) (k := l.length - 1) (by omega)
        rw [show l.length - 1 + 1 = l.length by omega, List.take_length] at this
        exact this
      rw [e] at h ⊢
      exact dig_snoc h hl
theorem dig_length_le {n k : Nat} (h : n < 65536 ^ k) : (dig n).length ≤ k := by
  induction k generalizing n with
  | zero => simp at h; subst h; simp [dig_zero]
  | succ k ih =>
    by_cases h0 : n = 0
    · subst h0; simp [dig_zero]
    · rw [dig_pos h0, List.length_cons]
      have : n / 65536 < 65536 ^ k := by
        rw [Nat.pow_succ] at h
        exact Nat.div_lt_of_lt_mul (by rw [Nat.mul_comm]; exact h)
      have := ih this
      omega
theorem lt_of_dig_length {n k : Nat} (h : (dig n).length ≤ k) : n < 65536 ^ k := by
  have h1 := val_lt (lim_dig n)
  rw [val_dig] at h1
  exact Nat.lt_of_lt_of_le h1 (Nat.pow_le_pow_right (by decide) h)
theorem dig_last {n : Nat} (h : n ≠ 0) : nth (dig n) ((dig n).length - 1) ≠ 0 := by
  induction n using Nat.strongRecOn with
  | ind n ih =>
    rw [dig_pos h]
    by_cases h1 : n / 65536 = 0
    · rw [h1, dig_zero]; show n % 65536 ≠ 0; omega
    · have := ih (n / 65536) (by omega) h1
      have hl : (dig (n / 65536)).length ≠ 0 := by
        intro e; exact h1 (dig_nil_iff.1 (List.eq_nil_of_length_eq_zero e))
      rw [List.length_cons, show (dig (n / 65536)).length + 1 - 1 = ((dig (n / 65536)).length - 1) + 1 by omega, nth_cons_succ]
      exact this
theorem pow_le_of_dig {n : Nat} (h : n ≠ 0) : 65536 ^ ((dig n).length - 1) ≤ n := by
  rcases Nat.lt_or_ge n (65536 ^ ((dig n).length - 1)) with h1 | h1
  · exfalso
    have h2 := dig_length_le h1
    have : (dig n).length ≠ 0 := fun e => h (dig_nil_iff.1 (List.eq_nil_of_length_eq_zero e))
    omega
  · exact h1
/-- More limbs, greater number. -/
theorem lt_of_length_lt {a b : Nat} (h : (dig a).length < (dig b).length) : a < b := by
  have h1 := lt_of_dig_length (n := a) (Nat.le_refl _)
  have hb : b ≠ 0 := by intro e; subst e; rw [dig_zero] at h; simp at h
  have h2 := pow_le_of_dig hb
  have h3 : 65536 ^ (dig a).length ≤ 65536 ^ ((dig b).length - 1) := Nat.pow_le_pow_right (by decide) (by omega)
  omega
theorem dig_length_mono {a b : Nat} (h : a ≤ b) : (dig a).length ≤ (dig b).length := by
  rcases Nat.lt_or_ge (dig b).length (dig a).length with h1 | h1
  · exact absurd (lt_of_length_lt h1) (by omega)
  · exact h1
/-- Two lists of one length, compared from the top. -/
theorem val_lt_of_top {a b : List Nat} {k : Nat} (ha : Lim a) (hl : a.length = b.length) (hk : k < a.length) (hd : a.drop (k + 1) = b.drop (k + 1)) (h : nth a k < nth b k) : val a < val b := by
  have e1 := val_split (l := a) (k + 1) (by omega)
  have e2 := val_split (l := b) (k + 1) (by omega)
  rw [hd] at e1
  have t1 := val_take_succ (l := a) hk
  have t2 := val_take_succ (l := b) (k := k) (by omega)
  have l1 := val_lt (lim_take ha k)
  rw [List.length_take, Nat.min_eq_left (by omega)] at l1
  have : 65536 ^ k * (nth a k + 1) ≤ 65536 ^ k * nth b k := Nat.mul_le_mul_left _ h
  rw [Nat.mul_add, Nat.mul_one] at this
  omega

theorem length_set' (l : List Nat) (i v : Nat) : (l.set i v).length = l.length := List.length_set
theorem nth_set {l : List Nat} {i j v : Nat} (hi : i < l.length) : nth (l.set i v) j = if j = i then v else nth l j := by
  unfold nth
  simp only [List.getD_eq_getElem?_getD, List.getElem?_set]
  by_cases h : i = j
  · subst h; simp [hi]
  · rw [if_neg h, if_neg (fun e => h e.symm)]
theorem nth_replicate (n i : Nat) : nth (List.replicate n 0) i = 0 := by
  unfold nth; simp only [List.getD_eq_getElem?_getD, List.getElem?_replicate]; split <;> rfl
theorem lim_replicate (n : Nat) : Lim (List.replicate n 0) := fun x hx => by
  rw [List.mem_replicate] at hx; omega
theorem lim_set {l : List Nat} (h : Lim l) {i v : Nat} (hv : v < 65536) : Lim (l.set i v) := by
  intro x hx
  rcases List.mem_or_eq_of_mem_set hx with h1 | h1
  · exact h x h1
  · omega
theorem val_set {l : List Nat} {i v : Nat} (hi : i < l.length) : val (l.set i v) + 65536 ^ i * nth l i = val l + 65536 ^ i * v := by
  induction l generalizing i with
  | nil => simp at hi
  | cons x l ih =>
    cases i with
    | zero => simp only [List.set_cons_zero, val, Nat.pow_zero, nth_cons_zero]; omega
    | succ i =>
      simp only [List.set_cons_succ, val, nth_cons_succ, Nat.pow_succ]
      have := ih (i := i) (by simpa using hi)
      rw [Nat.mul_comm (65536 ^ i) 65536, Nat.mul_assoc, Nat.mul_assoc]
      omega
theorem take_set_ge {l : List Nat} {i v k : Nat} (h : k ≤ i) : (l.set i v).take k = l.take k := by
  rw [List.take_set_of_le h]
theorem drop_set_lt {l : List Nat} {i v k : Nat} (h : i < k) : (l.set i v).drop k = l.drop k := by
  rw [List.drop_set_of_lt h]
theorem take_set_succ {l : List Nat} {i v : Nat} (hi : i < l.length) : (l.set i v).take (i + 1) = l.take i ++ [v] := by
  rw [take_succ_nth (by rw [List.length_set]; exact hi), take_set_ge (Nat.le_refl _), nth_set hi, if_pos rfl]
theorem drop_set_self {l : List Nat} {i v : Nat} (hi : i < l.length) : (l.set i v).drop i = v :: l.drop (i + 1) := by
  have h2 : i < (l.set i v).length := by rw [List.length_set]; exact hi
  rw [List.drop_eq_getElem_cons h2]
  congr 1
  · rw [← nth_eq h2, nth_set hi, if_pos rfl]
  · exact drop_set_lt (by omega)

/-- One digit of a sum: o the digits that are written, P the weight of the next one. -/
theorem add_step {o : List Nat} {k va vb x y c : Nat} (hl : o.length = k) (h : val o + 65536 ^ k * c = va + vb) :
    val (o ++ [(c + x + y) % 65536]) + 65536 ^ (k + 1) * ((c + x + y) / 65536) = (va + 65536 ^ k * x) + (vb + 65536 ^ k * y) := by
  rw [val_snoc, hl, Nat.pow_succ, Nat.mul_assoc]
  have e : 65536 ^ k * ((c + x + y) % 65536) + 65536 ^ k * (65536 * ((c + x + y) / 65536)) = 65536 ^ k * (c + x + y) := by
    rw [← Nat.mul_add]; congr 1; omega
  rw [Nat.mul_add, Nat.mul_add] at e
  omega

/-- One digit of a difference: d the digit, b the next borrow. -/
theorem sub_step {o : List Nat} {k va vb x y b d b' : Nat} (hl : o.length = k) (h : val o + vb = va + 65536 ^ k * b) (hd : d + y + b = x + 65536 * b') :
    val (o ++ [d]) + (vb + 65536 ^ k * y) = (va + 65536 ^ k * x) + 65536 ^ (k + 1) * b' := by
  rw [val_snoc, hl, Nat.pow_succ, Nat.mul_assoc]
  have e : 65536 ^ k * d + 65536 ^ k * y + 65536 ^ k * b = 65536 ^ k * x + 65536 ^ k * (65536 * b') := by
    rw [← Nat.mul_add, ← Nat.mul_add, ← Nat.mul_add, hd]
  omega

/-- One step of the inner loop of a product, by the whole value of the row. -/
theorem mul_step {o : List Nat} {i j x y c v0 vb : Nat} (hi : i + j < o.length) (h : val o + 65536 ^ (i + j) * c = v0 + 65536 ^ i * (x * vb)) :
    val (o.set (i + j) ((c + x * y + nth o (i + j)) % 65536)) + 65536 ^ (i + (j + 1)) * ((c + x * y + nth o (i + j)) / 65536) = v0 + 65536 ^ i * (x * (vb + 65536 ^ j * y)) := by
  have e := val_set (v := (c + x * y + nth o (i + j)) % 65536) hi
  generalize hs : c + x * y + nth o (i + j) = s at *
  have e2 : 65536 ^ (i + j) * (s % 65536) + 65536 ^ (i + (j + 1)) * (s / 65536) = 65536 ^ (i + j) * s := by
    rw [show i + (j + 1) = (i + j) + 1 by omega, Nat.pow_succ, Nat.mul_assoc, ← Nat.mul_add]; congr 1; omega
  have e3 : 65536 ^ (i + j) * s = 65536 ^ (i + j) * c + 65536 ^ (i + j) * (x * y) + 65536 ^ (i + j) * nth o (i + j) := by
    rw [← hs, Nat.mul_add, Nat.mul_add]
  have e4 : 65536 ^ i * (x * (vb + 65536 ^ j * y)) = 65536 ^ i * (x * vb) + 65536 ^ (i + j) * (x * y) := by
    rw [Nat.mul_add, Nat.mul_add, Nat.pow_add]
    congr 1
    rw [Nat.mul_left_comm x, Nat.mul_assoc]
  rw [e4]
  omega

/-- Division by one digit, from the top: q the digits that are written, r the rest. -/
theorem divby_step {k va x by_ r : Nat} {q : List Nat} (h : va = val q * by_ + r) (hb : 0 < by_) :
    x + 65536 * va = val (((r * 65536 + x) / by_) :: q) * by_ + (r * 65536 + x) % by_ ∧ (r * 65536 + x) % by_ < by_ ∧ k = k := by
  have e := Nat.div_add_mod (r * 65536 + x) by_
  refine ⟨?_, Nat.mod_lt _ hb, rfl⟩
  simp only [val]
  rw [Nat.add_mul, Nat.mul_comm ((r * 65536 + x) / by_) by_]
  have : 65536 * val q * by_ = 65536 * (val q * by_) := by rw [Nat.mul_assoc]
  omega
theorem div_digit_lt {r x b : Nat} (hr : r < b) (hx : x < 65536) : (r * 65536 + x) / b < 65536 := by
  apply Nat.div_lt_of_lt_mul
  have : (r + 1) * 65536 ≤ b * 65536 := Nat.mul_le_mul_right _ hr
  omega

/-- The guess of a digit of a quotient (Knuth's D): it is never too small. -/
theorem guess_ge {V2 vl P U3 ul q : Nat} (hul : ul < P) (hq : q * (V2 * P + vl) ≤ U3 * P + ul) : q * V2 ≤ U3 := by
  rcases Nat.lt_or_ge U3 (q * V2) with h | h
  · exfalso
    have h1 : (U3 + 1) * P ≤ q * V2 * P := Nat.mul_le_mul_right _ h
    have h2 : q * V2 * P ≤ q * (V2 * P + vl) := by rw [Nat.mul_assoc]; exact Nat.mul_le_mul_left _ (by omega)
    rw [Nat.add_mul, Nat.one_mul] at h1
    omega
  · exact h
/-- .. and too great by one at most. -/
theorem guess_le {V2 vl P U3 ul q g : Nat} (hvl : vl < P) (hq : U3 * P + ul < (q + 1) * (V2 * P + vl)) (hg : g * V2 ≤ U3) (hV : g ≤ V2) : g ≤ q + 1 := by
  rcases Nat.lt_or_ge (q + 1) g with h | h
  · exfalso
    have h1 : g * V2 * P ≤ U3 * P := Nat.mul_le_mul_right _ hg
    have h2 : (q + 1) * (V2 * P + vl) ≤ (g - 1) * (V2 * P + vl) := Nat.mul_le_mul_right _ (by omega)
    have h3 : (g - 1) * (V2 * P + vl) ≤ (g - 1) * ((V2 + 1) * P) := Nat.mul_le_mul_left _ (by rw [Nat.add_mul]; omega)
    have h4 : (g - 1) * ((V2 + 1) * P) = ((g - 1) * (V2 + 1)) * P := by rw [Nat.mul_assoc]
    have h5 : g * V2 * P < ((g - 1) * (V2 + 1)) * P := by omega
    have h6 : g * V2 < (g - 1) * (V2 + 1) := Nat.lt_of_mul_lt_mul_right h5
    obtain ⟨m, rfl⟩ : ∃ m, g = m + 1 := ⟨g - 1, by omega⟩
    rw [Nat.add_sub_cancel, Nat.add_mul, Nat.mul_add] at h6
    omega
  · exact h
/-- How much of a list stays when zeros at its end are left out. -/
def keepL (xs : List Nat) (n : Nat) : Prop := n ≤ xs.length ∧ ∀ i, n ≤ i → i < xs.length → nth xs i = 0
theorem keepL_start (xs : List Nat) : keepL xs xs.length := ⟨Nat.le_refl _, fun i h1 h2 => by omega⟩
theorem keepL_step {xs : List Nat} {n : Nat} (h : keepL xs n) (hz : nth xs (n - 1) = 0) : keepL xs (n - 1) :=
  ⟨by have := h.1; omega, fun i h1 h2 => by
    by_cases e : i = n - 1
    · rw [e]; exact hz
    · exact h.2 i (by omega) h2⟩
theorem trimL_take {xs : List Nat} {n : Nat} (h : keepL xs n) (hl : ∀ m, n = m + 1 → nth xs m ≠ 0) : trimL xs = xs.take n := by
  induction xs generalizing n with
  | nil => simp [trimL]
  | cons x xs ih =>
    cases n with
    | zero =>
      have h2 := ih (n := 0) ⟨by omega, fun i _ h2 => by have := h.2 (i + 1) (by omega) (by simpa using h2); simpa [nth_cons_succ] using this⟩ (fun m e => by omega)
      have hx := h.2 0 (by omega) (by simp)
      rw [nth_cons_zero] at hx
      simp only [trimL, h2, hx]
      simp
    | succ n =>
      have hk : keepL xs n := ⟨by have := h.1; simpa using this, fun i h1 h2 => by have := h.2 (i + 1) (by omega) (by simpa using h2); simpa [nth_cons_succ] using this⟩
      have h2 := ih hk (fun m e => by
        have := hl (m + 1) (by omega)
        rwa [nth_cons_succ] at this)
      simp only [trimL, h2, List.take_succ_cons]
      cases n with
      | zero =>
        have h3 := hl 0 rfl
        rw [nth_cons_zero] at h3
        simp [h3]
      | succ m =>
        rw [if_neg]
        rintro ⟨h3, -⟩
        have h4 := congrArg List.length h3
        have := hk.1
        rw [List.length_take, List.length_nil, Nat.min_eq_left this] at h4
        omega
theorem trimL_length {xs : List Nat} {n : Nat} (h : keepL xs n) (hl : n = 0 ∨ nth xs (n - 1) ≠ 0) : (trimL xs).length = n := by
  rw [trimL_take h (fun m e => by subst e; exact hl.elim (fun h => by omega) (fun h => h)), List.length_take, Nat.min_eq_left h.1]

/-- Digits that are written from below into a row of zeros. -/
theorem set_pad {o : List Nat} {n k d : Nat} (hl : o.length = k) (hk : k < n) : (o ++ List.replicate (n - k) 0).set k d = (o ++ [d]) ++ List.replicate (n - (k + 1)) 0 := by
  obtain ⟨m, hm⟩ : ∃ m, n - k = m + 1 := ⟨n - k - 1, by omega⟩
  rw [hm, List.replicate_succ, List.set_append_right _ _ (by omega), hl, Nat.sub_self, List.set_cons_zero, show n - (k + 1) = m by omega]
  simp
theorem length_pad {o : List Nat} {n k : Nat} (hl : o.length = k) (hk : k ≤ n) : (o ++ List.replicate (n - k) 0).length = n := by
  simp; omega

/-- The state of a sum: k digits are written. -/
def AddRel (a b k : Nat) (o : List Nat) (cr : Nat) : Prop :=
  o.length = k ∧ Lim o ∧ cr ≤ 1 ∧ val o + 65536 ^ k * cr = val ((dig a).take k) + val ((dig b).take k)
theorem AddRel.start (a b : Nat) : AddRel a b 0 [] 0 := ⟨rfl, lim_nil, by omega, by simp [val]⟩
theorem val_take_ge {l : List Nat} {k : Nat} (h : l.length ≤ k) : val (l.take k) = val l := by rw [List.take_of_length_le h]
theorem val_take_succ' (l : List Nat) (k : Nat) : val (l.take (k + 1)) = val (l.take k) + 65536 ^ k * nth l k := by
  by_cases h : k < l.length
  · exact val_take_succ h
  · rw [val_take_ge (by omega), val_take_ge (by omega), nth_out (by omega)]; simp
theorem AddRel.next {a b k cr : Nat} {o : List Nat} (h : AddRel a b k o cr) :
    AddRel a b (k + 1) (o ++ [(cr + nth (dig a) k + nth (dig b) k) % 65536]) ((cr + nth (dig a) k + nth (dig b) k) / 65536) := by
  obtain ⟨h1, h2, h3, h4⟩ := h
  have hx := lim_nth (lim_dig a) k
  have hy := lim_nth (lim_dig b) k
  refine ⟨by simp [h1], lim_append.2 ⟨h2, fun x hm => ?_⟩, by omega, ?_⟩
  · rw [List.mem_singleton] at hm; subst hm; omega
  · rw [add_step h1 h4, val_take_succ', val_take_succ']
theorem AddRel.done {a b n cr : Nat} {o : List Nat} (h : AddRel a b n o cr) (ha : (dig a).length ≤ n) (hb : (dig b).length ≤ n) : trimL (o ++ [cr]) = dig (a + b) := by
  obtain ⟨h1, h2, h3, h4⟩ := h
  rw [trimL_dig (lim_append.2 ⟨h2, fun x hm => by rw [List.mem_singleton] at hm; subst hm; omega⟩)]
  rw [val_snoc, h1, h4, val_take_ge ha, val_take_ge hb, val_dig, val_dig]

theorem trimL_is_take (l : List Nat) : ∃ n, trimL l = l.take n := by
  induction l with
  | nil => exact ⟨0, rfl⟩
  | cons x l ih =>
    obtain ⟨n, hn⟩ := ih
    simp only [trimL]
    by_cases h : trimL l = [] ∧ x = 0
    · exact ⟨0, by rw [if_pos h]; rfl⟩
    · exact ⟨n + 1, by rw [if_neg h, hn]; rfl⟩
theorem trimL_length_le (l : List Nat) : (trimL l).length ≤ l.length := by
  obtain ⟨n, hn⟩ := trimL_is_take l
  rw [hn, List.length_take]
  omega

/-- The state of a difference: k digits are written. -/
def SubRel (a b k : Nat) (o : List Nat) (br : Nat) : Prop :=
  o.length = k ∧ Lim o ∧ br ≤ 1 ∧ val o + val ((dig b).take k) = val ((dig a).take k) + 65536 ^ k * br
theorem SubRel.start (a b : Nat) : SubRel a b 0 [] 0 := ⟨rfl, lim_nil, by omega, by simp [val]⟩
theorem SubRel.next {a b k br d br' : Nat} {o : List Nat} (h : SubRel a b k o br) (hd : d < 65536) (hb : br' ≤ 1) (he : d + nth (dig b) k + br = nth (dig a) k + 65536 * br') :
    SubRel a b (k + 1) (o ++ [d]) br' := by
  obtain ⟨h1, h2, h3, h4⟩ := h
  refine ⟨by simp [h1], lim_append.2 ⟨h2, fun x hm => ?_⟩, hb, ?_⟩
  · rw [List.mem_singleton] at hm; subst hm; exact hd
  · rw [val_take_succ', val_take_succ']; exact sub_step h1 h4 he
theorem SubRel.done {a b n br : Nat} {o : List Nat} (h : SubRel a b n o br) (ha : (dig a).length ≤ n) (hb : (dig b).length ≤ n) (hge : b ≤ a) : val o = a - b := by
  obtain ⟨h1, h2, h3, h4⟩ := h
  have h5 := val_lt h2
  rw [h1] at h5
  rw [val_take_ge ha, val_take_ge hb, val_dig, val_dig] at h4
  have h6 : br = 0 := by
    rcases Nat.eq_zero_or_pos br with h | h
    · exact h
    · have : br = 1 := by omega
      subst this
      rw [Nat.mul_one] at h4
      omega
  subst h6
  rw [Nat.mul_zero] at h4
  omega

/-- One digit taken from a number. -/
theorem dig_out {a r : Nat} {o : List Nat} (h : dig a = o ++ dig r) (hr : r ≠ 0) : dig a = (o ++ [r % 65536]) ++ dig (r / 65536) := by
  rw [h, dig_pos hr]; simp
theorem dig_rest {a r : Nat} {o : List Nat} (h : dig a = o ++ dig r) (hr : r = 0) : dig a = o := by
  rw [h, hr, dig_zero]; simp
theorem room_of {a r n : Nat} {o : List Nat} (h : dig a = o ++ dig r) (hr : r ≠ 0) (hn : (dig a).length ≤ n) : o.length + 1 ≤ n := by
  rw [h, dig_pos hr] at hn
  simp at hn
  omega

/-- The state of a division by one digit b: the digits from k on are divided, r is the rest. -/
def DivRel (xs : List Nat) (b k : Nat) (o : List Nat) (r : Nat) : Prop :=
  o.length = xs.length ∧ Lim o ∧ r < b ∧ o.take k = xs.take k ∧ val (xs.drop k) = val (o.drop k) * b + r
theorem DivRel.start {xs : List Nat} {b : Nat} (hx : Lim xs) (hb : 0 < b) : DivRel xs b xs.length xs 0 :=
  ⟨rfl, hx, hb, rfl, by rw [List.drop_length]; simp [val]⟩
theorem nth_of_take {a b : List Nat} {k i : Nat} (h : a.take k = b.take k) (hi : i < k) : nth a i = nth b i := by
  rw [← nth_take (l := a) hi, h, nth_take hi]
theorem DivRel.next {xs o : List Nat} {b k r : Nat} (h : DivRel xs b (k + 1) o r) (hk : k < xs.length) :
    DivRel xs b k (o.set k ((r * 65536 + nth o k) / b)) ((r * 65536 + nth o k) % b) ∧ (r * 65536 + nth o k) / b < 65536 := by
  obtain ⟨h1, h2, h3, h4, h5⟩ := h
  have hx := lim_nth h2 k
  have hq := div_digit_lt h3 hx
  refine ⟨⟨by rw [List.length_set, h1], lim_set h2 hq, Nat.mod_lt _ (by omega), ?_, ?_⟩, hq⟩
  · rw [take_set_ge (Nat.le_refl _)]
    have := congrArg (List.take k) h4
    rwa [List.take_take, List.take_take, Nat.min_eq_left (by omega)] at this
  · rw [drop_set_self (by omega), val_drop_nth hk, ← nth_of_take h4 (by omega)]
    exact (divby_step (k := 0) h5 (by omega)).1
theorem DivRel.done {xs o : List Nat} {b r : Nat} (h : DivRel xs b 0 o r) : val o = val xs / b ∧ r = val xs % b := by
  obtain ⟨h1, h2, h3, h4, h5⟩ := h
  rw [List.drop_zero, List.drop_zero] at h5
  rw [h5]
  have hb : 0 < b := by omega
  constructor
  · rw [Nat.mul_comm, Nat.mul_add_div hb, Nat.div_eq_of_lt h3]; omega
  · rw [Nat.mul_comm, Nat.mul_add_mod, Nat.mod_eq_of_lt h3]
end Kb

namespace Kb
open Go

theorem or_nat {i v x : Nat} (hv : v < 2 ^ i) : v ||| (2 ^ i * x) = v + 2 ^ i * x := by
  rw [Nat.or_comm, ← Nat.two_pow_add_eq_or_of_lt hv, Nat.add_comm]
theorem pow16 (k : Nat) : (65536 : Nat) ^ k = 2 ^ (16 * k) := by
  rw [Nat.pow_mul]
theorem pow16_int (k : Nat) : (2 : Int) ^ (16 * k) = ((65536 ^ k : Nat) : Int) := by
  rw [pow16]; simp
theorem pow_lt_64 {k : Nat} (hk : k ≤ 4) : 65536 ^ k ≤ 18446744073709551616 := by
  match k, hk with
  | 0, _ => decide
  | 1, _ => decide
  | 2, _ => decide
  | 3, _ => decide
  | 4, _ => decide
theorem or_word {k v x : Nat} (hk : k < 4) (hv : v < 65536 ^ k) (hx : x < 65536) :
    bits .or .u64 (v : Int) (IntKind.u64.wrap (IntKind.u64.wrap (x : Int) * 2 ^ (16 * k))) = ((v + 65536 ^ k * x : Nat) : Int) := by
  have h1 : 65536 ^ (k + 1) ≤ 18446744073709551616 := pow_lt_64 hk
  have h2 : 65536 ^ k * x < 65536 ^ (k + 1) := by
    rw [Nat.pow_succ]; exact Nat.mul_lt_mul_of_pos_left hx (Nat.pow_pos (by decide))
  have e1 : IntKind.u64.wrap (x : Int) = (x : Int) := by rw [IntKind.wrap_u64]; omega
  have e2 : IntKind.u64.wrap (IntKind.u64.wrap (x : Int) * 2 ^ (16 * k)) = ((65536 ^ k * x : Nat) : Int) := by
    rw [e1, pow16_int, IntKind.wrap_u64, Int.mul_comm, ← Int.natCast_mul]
    omega
  have h3 : 65536 ^ k ≤ 18446744073709551616 := pow_lt_64 (by omega)
  rw [e2, u64_or_nat _ _ (by omega) (by omega)]
  rw [pow16] at hv ⊢
  rw [or_nat hv]

theorem u16_of (s : Nat) : IntKind.u16.wrap (s : Int) = ((s % 65536 : Nat) : Int) := by rw [IntKind.wrap_u16]; omega
theorem u32_of {s : Nat} (h : s < 4294967296) : IntKind.u32.wrap (s : Int) = (s : Int) := by rw [IntKind.wrap_u32']; omega
theorem u64_of {s : Nat} (h : s < 18446744073709551616) : IntKind.u64.wrap (s : Int) = (s : Int) := by rw [IntKind.wrap_u64]; omega

theorem sub_digit {x y br : Nat} {S : Int} (hx : x < 65536) (hy : y < 65536) (hbr : br ≤ 1) (hS : S = (x : Int) - br - y) :
    ∃ d br' : Nat, d < 65536 ∧ br' ≤ 1 ∧ d + y + br = x + 65536 * br' ∧ S % 4294967296 / 2147483648 = (br' : Int) ∧ IntKind.u16.wrap (S % 4294967296) = (d : Int) := by
  subst hS
  by_cases h : y + br ≤ x
  · exact ⟨x - y - br, 0, by omega, by omega, by omega, by omega, by rw [IntKind.wrap_u16]; omega⟩
  · exact ⟨x + 65536 - y - br, 1, by omega, by omega, by omega, by omega, by rw [IntKind.wrap_u16]; omega⟩

theorem or_shl16 {r x : Nat} (hr : r < 65536) (hx : x < 65536) {R X : Int} (hR : R = (r : Int) * 65536) (hX : X = (x : Int)) : bits .or .u32 R X = ((r * 65536 + x : Nat) : Int) := by
  subst hR; subst hX
  rw [show (r : Int) * 65536 = ((65536 * r : Nat) : Int) by omega, u32_or_nat _ _ (by omega) (by omega)]
  have := or_nat (i := 16) (v := x) (x := r) (by omega)
  rw [show (2 : Nat) ^ 16 = 65536 from rfl] at this
  rw [Nat.or_comm, this]
  omega

theorem pow_int (s : Nat) : (2 : Int) ^ s = ((2 ^ s : Nat) : Int) := by simp
theorem shl_lt {x s : Nat} (hx : x < 65536) (hs : s < 16) : 2 ^ s * x < 4294967296 := by
  have h1 : (2 : Nat) ^ s ≤ 2 ^ 15 := Nat.pow_le_pow_right (by decide) (by omega)
  have h2 : 2 ^ s * x ≤ 2 ^ 15 * 65535 := Nat.mul_le_mul h1 (by omega)
  omega
theorem shl_or {cr x s : Nat} (hcr : cr < 2 ^ s) (hx : x < 65536) (hs : s < 16) : bits .or .u32 (cr : Int) ((x : Int) * 2 ^ s % 4294967296) = ((cr + 2 ^ s * x : Nat) : Int) := by
  have h1 := shl_lt hx hs
  have h0 : (2 : Nat) ^ s ≤ 2 ^ 15 := Nat.pow_le_pow_right (by decide) (by omega)
  have e : (x : Int) * 2 ^ s % 4294967296 = ((2 ^ s * x : Nat) : Int) := by
    rw [pow_int, Int.mul_comm, ← Int.natCast_mul]
    omega
  rw [e, u32_or_nat _ _ (by omega) (by omega), or_nat hcr]

theorem pow_split {s : Nat} (hs : s < 16) : 2 ^ s * 2 ^ (16 - s) = 65536 := by
  rw [← Nat.pow_add, show s + (16 - s) = 16 by omega]
theorem down_or {a z s : Nat} (ha : a < 65536) (hs : s < 16) :
    bits .or .u16 ((a : Int) / 2 ^ s) (IntKind.u16.wrap ((z : Int) * 2 ^ (16 - s))) = ((a / 2 ^ s + (z % 2 ^ s) * 2 ^ (16 - s) : Nat) : Int) := by
  have hp := pow_split hs
  have h1 : a / 2 ^ s < 2 ^ (16 - s) := by
    apply Nat.div_lt_of_lt_mul
    rw [hp]; exact ha
  have h2 : z * 2 ^ (16 - s) % 65536 = (z % 2 ^ s) * 2 ^ (16 - s) := by
    rw [← hp]; exact Nat.mul_mod_mul_right _ _ _
  have hps : 0 < 2 ^ (16 - s) := Nat.pow_pos (by decide)
  have h3 : (z % 2 ^ s) * 2 ^ (16 - s) < 65536 := by
    rw [← hp]; exact Nat.mul_lt_mul_of_pos_right (Nat.mod_lt _ (Nat.pow_pos (by decide))) hps
  have h4 : a / 2 ^ s < 65536 := Nat.lt_of_le_of_lt (Nat.div_le_self _ _) ha
  rw [pow_int s, pow_int (16 - s), ← Int.natCast_mul, ← Int.natCast_ediv, u16_of, h2, u16_or_nat _ _ h4 h3]
  rw [Nat.mul_comm (z % 2 ^ s), or_nat h1]
/-- Digits that a shift leaves, joined: the quotient. -/
theorem down_val {xs o : List Nat} {s : Nat} (hs : s < 16) (hl : o.length = xs.length) (h : ∀ i, i < xs.length → nth o i = nth xs i / 2 ^ s + (nth xs (i + 1) % 2 ^ s) * 2 ^ (16 - s)) : val o = val xs / 2 ^ s := by
  have hp := pow_split hs
  have hpos : 0 < 2 ^ s := Nat.pow_pos (by decide)
  have key : ∀ m k, xs.length = m + k → 2 ^ s * val (o.drop k) + nth xs k % 2 ^ s = val (xs.drop k) := by
    intro m
    induction m with
    | zero =>
      intro k hk
      rw [List.drop_of_length_le (by omega), List.drop_of_length_le (by omega), nth_out (by omega)]
      simp [val]
    | succ m ih =>
      intro k hk
      have e := ih (k + 1) (by omega)
      rw [val_drop_nth (l := o) (by omega), val_drop_nth (l := xs) (by omega), h k (by omega), ← e]
      have e1 : 2 ^ s * (nth xs (k + 1) % 2 ^ s * 2 ^ (16 - s)) = 65536 * (nth xs (k + 1) % 2 ^ s) := by
        rw [Nat.mul_comm (nth xs (k + 1) % 2 ^ s), ← Nat.mul_assoc, hp]
      have e2 : 2 ^ s * (65536 * val (o.drop (k + 1))) = 65536 * (2 ^ s * val (o.drop (k + 1))) := Nat.mul_left_comm _ _ _
      have e3 := Nat.div_add_mod (nth xs k) (2 ^ s)
      rw [Nat.mul_add, Nat.mul_add, e1, e2]
      omega
  have e := key xs.length 0 (by omega)
  rw [List.drop_zero, List.drop_zero] at e
  rw [← e, Nat.mul_add_div hpos, Nat.div_eq_of_lt (Nat.mod_lt _ hpos)]
  omega

theorem down_lt {a z s : Nat} (ha : a < 65536) (hs : s < 16) : a / 2 ^ s + (z % 2 ^ s) * 2 ^ (16 - s) < 65536 := by
  have hp := pow_split hs
  have h1 : a / 2 ^ s < 2 ^ (16 - s) := by
    apply Nat.div_lt_of_lt_mul
    rw [hp]; exact ha
  have h2 : z % 2 ^ s + 1 ≤ 2 ^ s := Nat.mod_lt _ (Nat.pow_pos (by decide))
  have h3 : (z % 2 ^ s + 1) * 2 ^ (16 - s) ≤ 2 ^ s * 2 ^ (16 - s) := Nat.mul_le_mul_right _ h2
  rw [Nat.add_mul, Nat.one_mul, hp] at h3
  omega

theorem and_mask {t : Nat} (ht : t < 4294967296) : bits .and .u32 (t : Int) 65535 = ((t % 65536 : Nat) : Int) := by
  have e := u32_and_nat t 65535 ht (by decide)
  have e2 : t &&& 65535 = t % 65536 := by
    have := Nat.and_two_pow_sub_one_eq_mod t 16
    rw [show (2 : Nat) ^ 16 - 1 = 65535 from rfl, show (2 : Nat) ^ 16 = 65536 from rfl] at this
    exact this
  rw [e2] at e
  exact e
end Kb

namespace Go.Proofs.Ytockfiobhmohnaa
open Go.RowKit Kb

theorem hid {p : Prop} (h : p) : Hid p := h
theorem block_of_add (a : Addr) (n : Nat) : (a.add n).block = a.block := by unfold Addr.add; split <;> rfl
theorem addr_zero (a : Addr) : a.add 0 = a := by unfold Addr.add; simp
theorem add_of_add (a : Addr) (i j : Nat) : (a.add i).add j = a.add (i + j) := by
  unfold Addr.add
  by_cases hi : i = 0 <;> by_cases hj : j = 0 <;> simp [hi, hj, Nat.add_assoc]

/-- The slice at A reads as the numbers xs of kind k. -/
def Sl (w : World) (k : IntKind) (A : Option Addr) (xs : List Nat) : Prop :=
  ∀ i, i < xs.length → ∃ ad, A = some ad ∧ ad.block < w.heap.size ∧ w.cell? (ad.add i) = some (.int k (nth xs i))

section
variable {w w' : World} {k : IntKind} {A : Option Addr} {xs : List Nat}
theorem Sl.nil (w : World) (k : IntKind) (A : Option Addr) : Sl w k A [] := fun i h => by simp at h
theorem Sl.keep (h : Sl w k A xs) (hz : w.heap.size ≤ w'.heap.size) (hk : ∀ p : Addr, p.block < w.heap.size → w'.cell? p = w.cell? p) : Sl w' k A xs := fun i hi => by
  obtain ⟨ad, e, hb, hc⟩ := h i hi
  exact ⟨ad, e, by omega, (hk _ (by rw [block_of_add]; exact hb)).trans hc⟩
theorem Sl.below (h : Sl w k A xs) (hb : Below w.heap.size w w') : Sl w' k A xs := h.keep hb.size fun _ hp => hb.cell hp
theorem Sl.take (h : Sl w k A xs) (n : Nat) : Sl w k A (xs.take n) := fun i hi => by
  rw [List.length_take] at hi
  obtain ⟨ad, e, hb, hc⟩ := h i (by omega)
  exact ⟨ad, e, hb, by rw [hc, nth_take (by omega)]⟩
theorem Sl.drop (h : Sl w k A xs) (n : Nat) : Sl w k (A.map (·.add n)) (xs.drop n) := fun i hi => by
  rw [List.length_drop] at hi
  obtain ⟨ad, e, hb, hc⟩ := h (n + i) (by omega)
  subst e
  exact ⟨ad.add n, rfl, by rw [block_of_add]; exact hb, by rw [add_of_add, hc, nth_drop]⟩
end

/-- Nothing but draws. -/
def Qt (w w' : World) : Prop := ∃ n, w.drewN n = w'
theorem Qt.refl (w : World) : Qt w w := ⟨0, rfl⟩
theorem Qt.drewN {w w' : World} (h : Qt w w') (n : Nat) : Qt w (w'.drewN n) := by
  obtain ⟨m, rfl⟩ := h; exact ⟨m + n, (World.drewN_drewN ..).symm⟩
theorem Qt.drew {w w' : World} (h : Qt w w') : Qt w w'.drew := by
  obtain ⟨m, rfl⟩ := h; exact ⟨m + 1, rfl⟩
theorem Qt.trans {a b c : World} (h : Qt a b) (k : Qt b c) : Qt a c := by
  obtain ⟨m, rfl⟩ := k; exact h.drewN m
theorem Qt.below {w w' : World} (h : Qt w w') (B : Nat) : Below B w w' := by
  obtain ⟨m, rfl⟩ := h; exact below_drewN (Below.refl _ _) m
theorem Sl.qt {w w' : World} {k : IntKind} {A : Option Addr} {xs : List Nat} (h : Sl w k A xs) (hq : Qt w w') : Sl w' k A xs := h.below (hq.below _)
theorem quiet_left {P : Program} {f : FuncId} {args : Array Value} {w : World} {n : Nat} {v : Value}
    (h : Calls P f args (w.drewN n) fun e w' => e = .returned v ∧ w.drewN n = w') : Calls P f args (w.drewN n) fun e w'' => e = .returned v ∧ ∃ m, w'' = w.drewN m :=
  h.mono fun _ _ ⟨he, hm⟩ => ⟨he, n, hm.symm⟩
theorem quiet_qt {P : Program} {f : FuncId} {args : Array Value} {w : World} {n : Nat} {v : Value}
    (h : Calls P f args (w.drewN n) fun e w' => e = .returned v ∧ Qt (w.drewN n) w') : Calls P f args (w.drewN n) fun e w'' => e = .returned v ∧ ∃ m, w'' = w.drewN m :=
  h.mono fun _ _ ⟨he, m, hm⟩ => ⟨he, n + m, by rw [← hm, World.drewN_drewN]⟩

/-- The slice v is the number a: its limbs, no 0 at the end. -/
def Nm (w : World) (v : Value) (a : Nat) : Prop :=
  ∃ A c, v = .slice A (dig a).length c ∧ Sl w .u16 A (dig a) ∧ (dig a).length ≤ c ∧ c ≤ maxLen
theorem Nm.below {w w' : World} {v : Value} {a : Nat} (h : Nm w v a) (hb : Below w.heap.size w w') : Nm w' v a := by
  obtain ⟨A, c, e, h1, h2, h3⟩ := h
  exact ⟨A, c, e, h1.below hb, h2, h3⟩
theorem Nm.qt {w w' : World} {v : Value} {a : Nat} (h : Nm w v a) (hq : Qt w w') : Nm w' v a := h.below (hq.below _)
theorem nm_nil (w : World) : Nm w (.slice none 0 0) 0 := ⟨none, 0, by rw [dig_zero]; rfl, by rw [dig_zero]; exact Sl.nil _ _ _, by rw [dig_zero]; exact Nat.le_refl _, by unfold maxLen; omega⟩
theorem Nm.len {w : World} {v : Value} {a : Nat} (h : Nm w v a) : (dig a).length ≤ 9223372036854775807 := by
  obtain ⟨A, c, _, _, h2, h3⟩ := h
  unfold maxLen at h3
  omega

/-- The cells of a row of numbers. -/
def rowOf (k : IntKind) (xs : List Nat) : Array Value := (xs.map fun (x : Nat) => Value.int k (x : Int)).toArray
/-- Numbers as values of kind k. -/
def vals (k : IntKind) (xs : List Nat) : List Value := xs.map fun (x : Nat) => Value.int k (x : Int)
theorem vals_snoc (k : IntKind) (xs : List Nat) (x : Nat) (X : Int) (h : X = (x : Int)) : vals k xs ++ [Value.int k X] = vals k (xs ++ [x]) := by subst h; simp [vals]
theorem vals_length (k : IntKind) (xs : List Nat) : (vals k xs).length = xs.length := by simp [vals]
/-- What the call owns reads. -/
theorem Sl.of_own {w : World} {base n cap : Nat} {e : TypeId} {k : IntKind} {A : Option Addr} {xs : List Nat} (h : w.ownsRow base e 1 (.slice A n cap) n (vals k xs)) : Sl w k A xs := fun i hi => by
  have hl := h.1
  rw [vals_length] at hl
  rcases h.2 with ⟨_, h2⟩ | ⟨g, c, cur, hv, _, hg, _⟩
  · omega
  · injection hv with h1
    subst h1
    exact ⟨_, rfl, (Array.getElem?_eq_some_iff.1 hg).1, h.cells (g := g) rfl i _ (by simp [vals, hi, nth_eq hi])⟩
theorem Sl.cells {w : World} {k : IntKind} {ad : Addr} {xs : List Nat} (h : Sl w k (some ad) xs) : ∀ j u, (vals k xs)[j]? = some u → w.cell? (ad.add j) = some u := fun j u hu => by
  have hj : j < xs.length := by
    rcases Nat.lt_or_ge j xs.length with h1 | h1
    · exact h1
    · rw [List.getElem?_eq_none (by rw [vals_length]; exact h1)] at hu; cases hu
  obtain ⟨ad', e, _, hc⟩ := h j hj
  injection e with e
  subst e
  rw [hc, ← hu]
  simp [vals, hj, nth_eq hj]
theorem vals_one (k : IntKind) (xs : List Nat) : ∀ u ∈ vals k xs, u.oneCell' = true := fun u hu => by
  obtain ⟨_, _, rfl⟩ := List.mem_map.1 hu
  rfl
/-- What is owned and not empty lies in a block of its own. -/
theorem own_form {w : World} {base n : Nat} {e : TypeId} {k : IntKind} {v : Value} {xs : List Nat} (h : w.ownsRow base e 1 v n (vals k xs)) (hn : 0 < n) :
    ∃ g c, v = .slice (some ⟨g, 0, none⟩) n c ∧ base ≤ g ∧ n ≤ c ∧ c ≤ maxLen := by
  rcases h.2 with ⟨_, h2⟩ | ⟨g, c, cur, hv, hb, _, h3, h4, _⟩
  · omega
  · exact ⟨g, c, hv, hb, h3, h4⟩
theorem one_cell (v : Value) (h : v.oneCell' = true) : ∀ u ∈ [v], u.oneCell' = true := fun u hu => by
  rw [List.mem_singleton] at hu; rw [hu]; exact h

theorem _root_.Go.RowKit.Below.drewN' {B : Nat} {a w : World} (h : Below B a w) (n : Nat) : Below B a (w.drewN n) := below_drewN h n
/-- Block g is the row of the numbers xs, nothing else. -/
def Row (w : World) (g : Nat) (t : TypeId) (k : IntKind) (xs : List Nat) : Prop :=
  w.heap[g]? = some (.cells (rowOf k xs) t (0, 0))
theorem Row.new (w : World) (t : TypeId) (k : IntKind) (xs : List Nat) : Row (w.alloc (.cells (rowOf k xs) t)) w.heap.size t k xs := heap_alloc_new w _

section
variable {w w' : World} {g : Nat} {t : TypeId} {k : IntKind} {xs : List Nat}
theorem Row.lt (h : Row w g t k xs) : g < w.heap.size := by
  rcases Nat.lt_or_ge g w.heap.size with hlt | hge
  · exact hlt
  · unfold Row at h; rw [Array.getElem?_eq_none hge] at h; cases h
theorem Row.cell (h : Row w g t k xs) {i : Nat} (hi : i < xs.length) : w.cell? ⟨g, i, none⟩ = some (.int k (nth xs i)) := by
  rw [cell_of_row w g i _ t (0, 0) h]
  simp [rowOf, hi, nth_eq hi]
theorem Row.frozen (h : Row w g t k xs) (i : Nat) : w.frozen? ⟨g, i, none⟩ = false := by
  unfold Row at h
  simp [World.frozen?, h]
theorem Row.set (h : Row w g t k xs) (i v : Nat) : Row (w.setCell ⟨g, i, none⟩ (.int k (v : Int))) g t k (xs.set i v) := by
  unfold Row at h ⊢
  simp only [World.setCell, Array.getElem?_modify, h]
  simp [rowOf, List.map_set]
theorem Row.far (h : Row w g t k xs) {p : Addr} (hp : g ≠ p.block) (u : Value) : Row (w.setCell p u) g t k xs := (Below.heap_setCell w p u g hp).trans h
theorem Row.alloc (h : Row w g t k xs) (o : Obj) : Row (w.alloc o) g t k xs := (Below.heap_alloc w o g h.lt).trans h
theorem Row.below {B : Nat} (h : Row w g t k xs) (hb : Below B w w') (hg : g < B) : Row w' g t k xs := (hb.block g hg).trans h
theorem Row.grown {r : Option Nat} (h : Row w g t k xs) (hb : w.grownBy w' r) (hg : some g ≠ r) : Row w' g t k xs := (hb.block g h.lt hg).trans h
theorem Row.sl (h : Row w g t k xs) : Sl w k (some ⟨g, 0, none⟩) xs := fun i hi =>
  ⟨_, rfl, h.lt, by rw [Addr.add_lit, Nat.zero_add]; exact h.cell hi⟩
theorem madeCells_int (k : IntKind) (n : Nat) : madeCells #[Value.int k 0] (n * 1) = rowOf k (List.replicate n 0) := by
  unfold rowOf
  apply Array.ext
  · simp [madeCells]
  · intro i h1 h2
    simp [madeCells, Nat.mod_one]
/-- 'make([]T, n)' of an integer type: a new row of zeros. -/
theorem run_make_rowOf {P : Program} (T e : TypeId) (i : TypeInfo) (k : IntKind) (L : Int) (n : Nat) (w : World) (ht : P.underlying T = some (.slice e)) (hi : P.info? e = some i) (hz : i.zero = some (.int k 0)) (hs : i.size = 1)
    (hL : L = (n : Int)) (hn : n ≤ 2000000000) (hb : i.bytes ≤ 8) :
    (Instr.makeSlice T (.int .i64 L) (.int .i64 L)).run P w = .ok (.slice (some ⟨w.heap.size, 0, none⟩) n n) (w.alloc (.cells (rowOf k (List.replicate n 0)) e)) := by
  subst hL
  have h1 : i.bytes * n ≤ 8 * n := Nat.mul_le_mul_right _ hb
  rw [run_make (P := P) w T e i (.int k 0) ht hi hz .i64 .i64 n n (Int.natCast_nonneg n) (Int.le_refl _) (by rw [← Int.natCast_mul]; omega) (by omega)]
  rw [hs, Int.toNat_natCast, show (Value.int k 0).cells = #[Value.int k 0] from rfl, madeCells_int]
end
theorem row_pad_set {wr : World} {g k n s : Nat} {T : TypeId} {o : List Nat} {S : Int} (hrow : Row wr g T .u16 (o ++ List.replicate (n - k) 0)) (hl : o.length = k) (hk : k < n) (hS : S = (s : Nat)) :
    Row (wr.setCell ⟨g, k, none⟩ (.int .u16 (IntKind.u16.wrap S))) g T .u16 ((o ++ [s % 65536]) ++ List.replicate (n - (k + 1)) 0) := by
  subst hS
  rw [u16_of, ← set_pad hl hk]
  exact hrow.set k _
theorem row_pad_put {wr : World} {g k n s : Nat} {T : TypeId} {o : List Nat} {S : Int} (hrow : Row wr g T .u16 (o ++ List.replicate (n - k) 0)) (hl : o.length = k) (hk : k < n) (hS : S = (s : Nat)) :
    Row (wr.setCell ⟨g, k, none⟩ (.int .u16 S)) g T .u16 ((o ++ [s]) ++ List.replicate (n - (k + 1)) 0) := by
  subst hS
  rw [← set_pad hl hk]
  exact hrow.set k _
theorem val_int {k : IntKind} {a b : Int} (h : a = b) : Value.int k a = Value.int k b := by rw [h]
/-- Block g begins with the numbers xs. -/
def Pre (w : World) (g : Nat) (t : TypeId) (k : IntKind) (xs : List Nat) : Prop :=
  ∃ cur : Array Value, w.heap[g]? = some (.cells cur t (0, 0)) ∧ xs.length ≤ cur.size ∧ ∀ i, i < xs.length → cur[i]? = some (.int k (nth xs i : Nat))
section
variable {w w' : World} {g : Nat} {t : TypeId} {k : IntKind} {xs : List Nat}
theorem Row.pre (h : Row w g t k xs) : Pre w g t k xs := ⟨rowOf k xs, h, by simp [rowOf], fun i hi => by simp [rowOf, hi, nth_eq hi]⟩
theorem Pre.lt (h : Pre w g t k xs) : g < w.heap.size := by
  obtain ⟨cur, h, _⟩ := h
  exact (Array.getElem?_eq_some_iff.1 h).1
theorem Pre.cell (h : Pre w g t k xs) {i : Nat} (hi : i < xs.length) : w.cell? ⟨g, i, none⟩ = some (.int k (nth xs i)) := by
  obtain ⟨cur, h1, h2, h3⟩ := h
  rw [cell_of_row w g i _ t (0, 0) h1]
  exact h3 i hi
theorem Pre.frozen (h : Pre w g t k xs) (i : Nat) : w.frozen? ⟨g, i, none⟩ = false := by
  obtain ⟨cur, h1, h2, h3⟩ := h
  simp [World.frozen?, h1]
theorem Pre.set (h : Pre w g t k xs) {i : Nat} (hi : i < xs.length) (v : Nat) : Pre (w.setCell ⟨g, i, none⟩ (.int k (v : Int))) g t k (xs.set i v) := by
  obtain ⟨cur, h1, h2, h3⟩ := h
  refine ⟨cur.setIfInBounds i (.int k (v : Int)), ?_, by simpa using h2, fun j hj => ?_⟩
  · simp only [World.setCell, Array.getElem?_modify, h1]
    simp
  · rw [List.length_set] at hj
    rw [nth_set hi, Array.getElem?_setIfInBounds]
    by_cases e : i = j
    · subst e
      rw [if_pos rfl, if_pos rfl, if_pos (by omega)]
    · rw [if_neg e, if_neg (fun x => e x.symm)]
      exact h3 j hj
theorem Pre.below {B : Nat} (h : Pre w g t k xs) (hb : Below B w w') (hg : g < B) : Pre w' g t k xs := by
  obtain ⟨cur, h1, h2, h3⟩ := h
  exact ⟨cur, (hb.block g hg).trans h1, h2, h3⟩
theorem Pre.grown {r : Option Nat} (h : Pre w g t k xs) (hb : w.grownBy w' r) (hg : some g ≠ r) : Pre w' g t k xs := by
  have hl := h.lt
  obtain ⟨cur, h1, h2, h3⟩ := h
  exact ⟨cur, (hb.block g hl hg).trans h1, h2, h3⟩
theorem Pre.take (h : Pre w g t k xs) (n : Nat) : Pre w g t k (xs.take n) := by
  obtain ⟨cur, h1, h2, h3⟩ := h
  refine ⟨cur, h1, by rw [List.length_take]; omega, fun i hi => ?_⟩
  rw [List.length_take] at hi
  rw [nth_take (by omega)]
  exact h3 i (by omega)
theorem Pre.sl (h : Pre w g t k xs) : Sl w k (some ⟨g, 0, none⟩) xs := fun i hi =>
  ⟨_, rfl, h.lt, by rw [Addr.add_lit, Nat.zero_add]; exact h.cell hi⟩
theorem Pre.of_own {base n c : Nat} (h : w.ownsRow base t 1 (.slice (some ⟨g, 0, none⟩) n c) n (vals k xs)) : Pre w g t k xs := by
  have hl := h.1
  rw [vals_length] at hl
  rcases h.2 with ⟨e, _⟩ | ⟨g', cap, cur, e, _, hh, hnc, _, hs, ht⟩
  · cases e
  · injection e with e1 e2 e3
    injection e1 with e1
    injection e1 with e1
    subst e1; subst e3
    refine ⟨cur, hh, by omega, fun i hi => ?_⟩
    have h4 : (vals k xs)[i]? = some (.int k (nth xs i : Nat)) := by simp [vals, hi, nth_eq hi]
    rw [← ht, List.getElem?_take, if_pos (by omega)] at h4
    simpa using h4
theorem Sl.grown {A : Option Addr} {r : Option Nat} (h : Sl w k A xs) (hb : w.grownBy w' r) (hne : ∀ ad, A = some ad → xs ≠ [] → some ad.block ≠ r) : Sl w' k A xs := fun i hi => by
  obtain ⟨ad, e, hl, hc⟩ := h i hi
  have hx : xs ≠ [] := by intro e; subst e; simp at hi
  refine ⟨ad, e, Nat.lt_of_lt_of_le hl hb.size, ?_⟩
  rw [← hc]
  exact World.cell?_of_block (by rw [block_of_add]; exact hb.block _ hl (hne ad e hx))
end
theorem gb_set {w w' : World} {g : Nat} (h : w.grownBy w' (some g)) (i : Nat) (v : Value) : w.grownBy (w'.setCell ⟨g, i, none⟩ v) (some g) :=
  ⟨h.os, h.tape, h.output, by have := h.size; simpa [World.setCell] using this, fun k hk hne => by
    rw [Below.heap_setCell _ _ _ _ (fun e => hne (by rw [e]))]
    exact h.block k hk hne⟩
theorem gb_drewN {w w' : World} {r : Option Nat} (h : w.grownBy w' r) (n : Nat) : w.grownBy (w'.drewN n) r := ⟨h.os, h.tape, h.output, h.size, h.block⟩
theorem gb_trans {a b c : World} {r : Option Nat} (h : a.grownBy b r) (k : b.grownBy c r) : a.grownBy c r :=
  ⟨k.os.trans h.os, k.tape.trans h.tape, k.output.trans h.output, Nat.le_trans h.size k.size, fun i hi hne => (k.block i (Nat.lt_of_lt_of_le hi h.size) hne).trans (h.block i hi hne)⟩
theorem gb_of_below {a b : World} {r : Option Nat} (h : Below a.heap.size a b) : a.grownBy b r := ⟨h.os, h.tape, h.output, h.size, fun i hi _ => h.block i hi⟩
theorem bthen {B : Nat} {w w1 w2 : World} (h1 : Below B w w1) (h2 : Below w1.heap.size w1 w2) (hB : B ≤ w.heap.size) : Below B w w2 := h1.trans (h2.mono (Nat.le_trans hB h1.size))
section
variable {w w2 : World} {C : Array Value} {T : TypeId}
theorem box_heap (hb : Below (w.alloc (.cells C T)).heap.size (w.alloc (.cells C T)) w2) : w2.heap[w.heap.size]? = some (.cells C T (0, 0)) := (hb.block _ (by simp)).trans (heap_alloc_new w _)
theorem box_cell (hb : Below (w.alloc (.cells C T)).heap.size (w.alloc (.cells C T)) w2) (i : Nat) : w2.cell? ⟨w.heap.size, i, none⟩ = C[i]? := cell_of_row w2 _ i _ T (0, 0) (box_heap hb)
theorem box_frozen (hb : Below (w.alloc (.cells C T)).heap.size (w.alloc (.cells C T)) w2) (i : Nat) : w2.frozen? ⟨w.heap.size, i, none⟩ = false := by
  have := box_heap hb
  simp [World.frozen?, this]
theorem box_size (hb : Below (w.alloc (.cells C T)).heap.size (w.alloc (.cells C T)) w2) : w.heap.size < w2.heap.size := by
  have := hb.size
  simp at this
  omega
end
theorem ret_slice {A : Option Addr} {m n c : Nat} (h : m = n) : Ending.returned (.slice A m c) = .returned (.slice A n c) := by rw [h]
theorem ret_int {k : IntKind} {a b : Int} (h : a = b) : Ending.returned (.int k a) = .returned (.int k b) := by rw [h]
def lenOf : Value → Nat | .slice _ n _ => n | _ => 0

end Go.Proofs.Ytockfiobhmohnaa

namespace Go.Proofs.Wb

/-- The height to which part i of the areas reaches, if the water stands at lv. -/
def wtop (F : Nat → Int) (n : Nat) (lv : Int) (i : Nat) : Int := if i + 1 < n then min lv (F (i + 1)) else lv
def wterm (F S : Nat → Int) (n : Nat) (lv : Int) (i : Nat) : Int := if F i < wtop F n lv i then S i * (wtop F n lv i - F i) else 0
/-- The volume in the first parts. -/
def wsum (F S : Nat → Int) (n : Nat) (lv : Int) : Nat → Int
  | 0 => 0
  | k + 1 => wsum F S n lv k + wterm F S n lv k
def wbelow (F S : Nat → Int) (n : Nat) (lv : Int) : Int := wsum F S n lv n

/-- A basin that is right, but for its name. -/
structure Bas (F S : Nat → Int) (n : Nat) (rim : Int) : Prop where
  pos : 0 < n
  most : n ≤ 20
  f : ∀ i, i < n → -1000000 ≤ F i ∧ F i ≤ 1000000
  s : ∀ i, i < n → 1 ≤ S i ∧ S i ≤ 1000000
  up : ∀ i, i + 1 < n → F i < F (i + 1)
  rl : F (n - 1) < rim
  rm : rim ≤ 1000000

section
variable {F S : Nat → Int} {n : Nat} {rim : Int}

theorem wtop_mono {a b : Int} (h : a ≤ b) (i : Nat) : wtop F n a i ≤ wtop F n b i := by
  unfold wtop; split <;> omega
theorem wterm_nonneg {a : Int} {i : Nat} (hs : 1 ≤ S i) : 0 ≤ wterm F S n a i := by
  unfold wterm
  split
  · exact Int.mul_nonneg (by omega) (by omega)
  · omega
theorem wterm_mono {a b : Int} (h : a ≤ b) {i : Nat} (hs : 1 ≤ S i) : wterm F S n a i ≤ wterm F S n b i := by
  have ht := wtop_mono (F := F) (n := n) h i
  unfold wterm
  split
  · rw [if_pos (by omega)]
    exact Int.mul_le_mul_of_nonneg_left (by omega) (by omega)
  · have := wterm_nonneg (F := F) (n := n) (a := b) hs
    unfold wterm at this; exact this
theorem wterm_le {a : Int} {i : Nat} (B : Bas F S n rim) (hi : i < n) (ha : a ≤ 1000000) : wterm F S n a i ≤ 2000000000000 := by
  have h1 := B.f i hi
  have h2 := B.s i hi
  have ht : wtop F n a i ≤ 1000000 := by unfold wtop; split <;> omega
  unfold wterm
  split
  · have h3 : wtop F n a i - F i ≤ 2000000 := by omega
    calc S i * (wtop F n a i - F i) ≤ S i * 2000000 := Int.mul_le_mul_of_nonneg_left h3 (by omega)
      _ ≤ 1000000 * 2000000 := Int.mul_le_mul_of_nonneg_right h2.2 (by omega)
      _ = 2000000000000 := by decide
  · omega
theorem wsum_range (B : Bas F S n rim) {a : Int} (ha : a ≤ 1000000) : ∀ k, k ≤ n → 0 ≤ wsum F S n a k ∧ wsum F S n a k ≤ k * 2000000000000
  | 0, _ => by simp [wsum]
  | k + 1, hk => by
    have ih := wsum_range B ha k (by omega)
    have h1 := wterm_le B (a := a) (i := k) (by omega) ha
    have h2 := wterm_nonneg (F := F) (n := n) (a := a) (B.s k (by omega)).1
    simp only [wsum]
    omega
theorem wsum_mono (B : Bas F S n rim) {a b : Int} (h : a ≤ b) : ∀ k, k ≤ n → wsum F S n a k ≤ wsum F S n b k
  | 0, _ => by simp [wsum]
  | k + 1, hk => by
    have ih := wsum_mono B h k (by omega)
    have h1 := wterm_mono (F := F) (n := n) h (B.s k (by omega)).1
    simp only [wsum]
    omega
theorem below_mono (B : Bas F S n rim) {a b : Int} (h : a ≤ b) : wbelow F S n a ≤ wbelow F S n b := wsum_mono B h n (Nat.le_refl _)
/-- Above the floor the volume grows with each millimetre. -/
theorem wsum_lt (B : Bas F S n rim) {a : Int} : ∀ k, k ≤ n → (k = n ∨ a < F k) → F 0 ≤ a → wsum F S n a k + 1 ≤ wsum F S n (a + 1) k
  | 0, _, h, h0 => by have := B.pos; omega
  | k + 1, hk, h, h0 => by
    by_cases hka : F k ≤ a
    · have h1 := wsum_mono B (a := a) (b := a + 1) (by omega) k (by omega)
      have h2 := B.s k (by omega)
      simp only [wsum]
      have t1 : wtop F n (a + 1) k = a + 1 := by
        unfold wtop; split <;> omega
      have t2 : wtop F n a k = a := by
        unfold wtop; split <;> omega
      have h3 : wterm F S n (a + 1) k = S k * (a + 1 - F k) := by unfold wterm; rw [t1, if_pos (by omega)]
      have h4 : wterm F S n a k = S k * (a - F k) := by
        unfold wterm; rw [t2]; split
        · rfl
        · rw [show a - F k = 0 by omega, Int.mul_zero]
      rw [h3, h4, show a + 1 - F k = (a - F k) + 1 by omega, Int.mul_add]
      omega
    · have ih := wsum_lt B (a := a) k (by omega) (.inr (by omega)) h0
      have h1 := wterm_mono (F := F) (n := n) (show a ≤ a + 1 by omega) (B.s k (by omega)).1
      simp only [wsum]
      omega
theorem below_succ (B : Bas F S n rim) {a : Int} (h0 : F 0 ≤ a) : wbelow F S n a + 1 ≤ wbelow F S n (a + 1) := wsum_lt B n (Nat.le_refl _) (.inl rfl) h0
theorem below_lt (B : Bas F S n rim) {a b : Int} (h0 : F 0 ≤ a) (h : a < b) : wbelow F S n a < wbelow F S n b := by
  have h1 := below_succ B h0
  have h2 := below_mono B (a := a + 1) (b := b) (by omega)
  omega
theorem F_mono (B : Bas F S n rim) : ∀ j i, i ≤ j → j < n → F i ≤ F j
  | 0, i, h, _ => by have : i = 0 := by omega
                     subst this; exact Int.le_refl _
  | j + 1, i, h, hj => by
    by_cases e : i = j + 1
    · subst e; exact Int.le_refl _
    · have h1 := F_mono B j i (by omega) (by omega)
      have h2 := B.up j hj
      omega
theorem below_floor (B : Bas F S n rim) {a : Int} (h : a ≤ F 0) : wbelow F S n a = 0 := by
  suffices H : ∀ k, k ≤ n → wsum F S n a k = 0 from H n (Nat.le_refl _)
  intro k
  induction k with
  | zero => intro _; rfl
  | succ k ih =>
    intro hk
    simp only [wsum]
    rw [ih (by omega)]
    have h1 := F_mono B k 0 (by omega) (by omega)
    have h2 : wtop F n a k ≤ a := by unfold wtop; split <;> omega
    unfold wterm
    rw [if_neg (by omega)]; omega
theorem floor_rim (B : Bas F S n rim) : F 0 < rim := by
  have h := F_mono B (n - 1) 0 (by omega) (by have := B.pos; omega)
  have := B.rl; omega
theorem below_nonneg (B : Bas F S n rim) {a : Int} (ha : a ≤ 1000000) : 0 ≤ wbelow F S n a ∧ wbelow F S n a ≤ 40000000000000 := by
  have h := wsum_range B ha n (Nat.le_refl _)
  have := B.most
  unfold wbelow
  omega

/-- l is the level of v litres. -/
structure Lev (F S : Nat → Int) (n : Nat) (rim v l : Int) : Prop where
  lo : F 0 ≤ l
  hi : l ≤ rim
  at_ : wbelow F S n l ≤ v
  next : l < rim → v < wbelow F S n (l + 1)
theorem Lev.same (B : Bas F S n rim) {v l l' : Int} (h : Lev F S n rim v l) (k : Lev F S n rim v l') : l = l' := by
  rcases Int.lt_trichotomy l l' with e | e | e
  · have h1 := h.next (by have := k.hi; omega)
    have h2 := below_mono B (a := l + 1) (b := l') (by omega)
    have := k.at_; omega
  · exact e
  · have h1 := k.next (by have := h.hi; omega)
    have h2 := below_mono B (a := l' + 1) (b := l) (by omega)
    have := h.at_; omega
theorem Lev.of_below (B : Bas F S n rim) {l : Int} (h0 : F 0 ≤ l) (h1 : l ≤ rim) : Lev F S n rim (wbelow F S n l) l :=
  ⟨h0, h1, Int.le_refl _, fun _ => by have := below_succ B h0; omega⟩
/-- One step of the search by halves: middle is low or high. -/
theorem Lev.step {v lo hi : Int} (h0 : F 0 ≤ lo) (hr : hi ≤ rim) (h1 : wbelow F S n lo ≤ v) (h2 : hi < rim → v < wbelow F S n (hi + 1)) (e : lo = hi) : Lev F S n rim v lo := by
  subst e; exact ⟨h0, hr, h1, h2⟩
end
end Go.Proofs.Wb

namespace Go.Proofs.Ytockfiobhmohnaa
open Go.RowKit Kb Wb

theorem alo {W : World} {o : Obj} : Below W.heap.size W (W.alloc o) := (Below.refl _ _).alloc (Nat.le_refl _) o
section
variable {W : World}
theorem dr0 : Below W.heap.size W W.drew := (Below.refl _ _).drew
end
theorem ret_bool {a b : Bool} (h : a = b) : Ending.returned (.bool a) = .returned (.bool b) := by rw [h]
theorem add_at (ad : Addr) (j : Nat) : ad.add (j + 1) = ⟨ad.block, ad.off + (j + 1), none⟩ := by unfold Addr.add; rw [if_neg (by omega)]
theorem in_add {ad : Addr} {j B : Nat} (h : ad.block < B) : (ad.add j).block < B := by rw [block_of_add]; exact h
/-- A block that stands. -/
def Bk (W : World) (g : Nat) (o : Obj) : Prop := W.heap[g]? = some o
theorem Bk.below {W W' : World} {g N : Nat} {o : Obj} (h : Bk W g o) (hb : Below N W W') (hN : g < N) : Bk W' g o := (hb.block _ hN).trans h
theorem Bk.step {W W' : World} {g : Nat} {o : Obj} (h : Bk W g o) (hb : Below W.heap.size W W') : Bk W' g o := h.below hb (Array.getElem?_eq_some_iff.1 h).1
theorem Bk.lt {W : World} {g : Nat} {o : Obj} (h : Bk W g o) : g < W.heap.size := (Array.getElem?_eq_some_iff.1 h).1
theorem Bk.of_alloc (w : World) (o : Obj) {g : Nat} (hg : w.heap.size = g) : Bk (w.alloc o) g o := by subst hg; exact heap_alloc_new w o
theorem Bk.alloc {W : World} {g : Nat} {o : Obj} (h : Bk W g o) (o' : Obj) : Bk (W.alloc o') g o := (Below.heap_alloc _ _ _ h.lt).trans h
theorem Bk.c3 {W : World} {g : Nat} {a b c : Value} {T : TypeId} (h : Bk W g (.cells #[a, b, c] T (0, 0))) :
    W.cell? ⟨g, 0, none⟩ = some a ∧ W.cell? ⟨g, 1, none⟩ = some b ∧ W.cell? ⟨g, 2, none⟩ = some c := by
  have hh := fun i => cell_of_row W g i _ T (0, 0) h
  exact ⟨(hh 0).trans rfl, (hh 1).trans rfl, (hh 2).trans rfl⟩

theorem Bk.c2 {W : World} {g : Nat} {a b : Value} {T : TypeId} (h : Bk W g (.cells #[a, b] T (0, 0))) :
    W.cell? ⟨g, 0, none⟩ = some a ∧ W.cell? ⟨g, 1, none⟩ = some b := by
  have hh := fun i => cell_of_row W g i _ T (0, 0) h
  exact ⟨(hh 0).trans rfl, (hh 1).trans rfl⟩

/-- A number of an int. -/
def I64 (x : Int) : Prop := -9223372036854775808 ≤ x ∧ x ≤ 9223372036854775807
/-- The slice at A reads as n pairs of integers, in a block below B0. -/
structure Pa (w : World) (B0 : Nat) (A : Option Addr) (n : Nat) (F S : Nat → Int) : Prop where
  at_ : ∀ i, i < n → ∃ ad, A = some ad ∧ ad.block < B0 ∧ w.cell? (ad.add (i * 2)) = some (.int .i64 (F i)) ∧ w.cell? ⟨(ad.add (i * 2)).block, (ad.add (i * 2)).off + 1, none⟩ = some (.int .i64 (S i)) ∧ I64 (F i) ∧ I64 (S i)
  le : B0 ≤ w.heap.size
theorem Pa.below {w w' : World} {B0 n : Nat} {A : Option Addr} {F S : Nat → Int} (h : Pa w B0 A n F S) (hb : Below w.heap.size w w') : Pa w' B0 A n F S :=
  ⟨fun i hi => by
    obtain ⟨ad, e, h1, h2, h3, h4, h5⟩ := h.at_ i hi
    have l := Nat.lt_of_lt_of_le h1 h.le
    exact ⟨ad, e, h1, (hb.cell (p := ad.add (i * 2)) (in_add l)).trans h2, (hb.cell (p := ⟨(ad.add (i * 2)).block, (ad.add (i * 2)).off + 1, none⟩) (in_add l)).trans h3, h4, h5⟩, Nat.le_trans h.le hb.size⟩

/-- Whether a number is within two. -/
def inB (n a b : Int) : Bool := decide (a ≤ n ∧ n ≤ b)
theorem inB_t {n a b : Int} (h : a ≤ n ∧ n ≤ b) : inB n a b = true := decide_eq_true h
theorem inB_f {n a b : Int} (h : ¬ (a ≤ n ∧ n ≤ b)) : inB n a b = false := decide_eq_false h
theorem inB_iff {n a b : Int} : inB n a b = true ↔ a ≤ n ∧ n ≤ b := by unfold inB; exact decide_eq_true_iff

theorem Within_any (n a b : Int) (w : World) :
    Calls Try.prog 49 #[.int .i64 n, .int .i64 a, .int .i64 b] w fun e w' => e = .returned (.bool (inB n a b)) ∧ w = w' := by
  by_cases h1 : a ≤ n <;> by_cases h2 : n ≤ b
  all_goals
    have hp : inB n a b = decide (a ≤ n ∧ n ≤ b) := rfl
    simp only [h1, h2, and_self, and_true, and_false, decide_true, decide_false] at hp
    rw [hp]
    clear hp
    go_enter Try.func49, Try.ntmps49
    go_wp2
    go_ret
    exact ⟨rfl, rfl⟩
theorem inside_any (n a b : Int) (w : World) :
    Calls Try.prog 52 #[.int .i64 n, .int .i64 a, .int .i64 b] w fun e w' => e = .returned (.bool (inB n a b)) ∧ w = w' := by
  by_cases h1 : a ≤ n <;> by_cases h2 : n ≤ b
  all_goals
    have hp : inB n a b = decide (a ≤ n ∧ n ≤ b) := rfl
    simp only [h1, h2, and_self, and_true, and_false, decide_true, decide_false] at hp
    rw [hp]
    clear hp
    go_enter Try.func52, Try.ntmps52
    go_wp2
    go_ret
    exact ⟨rfl, rfl⟩
theorem isLevel_any (n : Int) (w : World) :
    Calls Try.prog 51 #[.int .i64 n] w fun e w' => e = .returned (.bool (inB n (-1000000) 1000000)) ∧ w = w' := by
  go_enter Try.func51, Try.ntmps51
  go_wp2_with ((with_reducible refine (Within_any _ _ _ _).mono ?_); rintro e w' ⟨rfl, rfl⟩)
  go_ret
  exact ⟨rfl, rfl⟩

end Go.Proofs.Ytockfiobhmohnaa

namespace Go.Proofs.Ytockfiobhmohnaa
open Go.ChangeShapes Go.WideShapes Go.ChangeAt Go.RowKit Go.Joins Kb

theorem own : ownKnob Try.prog.godebug = none := by kernel_rfl
theorem laidOut : laidOutB Try.prog = true := by kernel_rfl
theorem cells_int : Try.prog.cellsOf 3 = 1 := by kernel_rfl
section
variable {H : Type} {enc : TypeId × Value → H} {W : World}
/-- A list of pairs of numbers that came in. -/
theorem pairs_of {t e : TypeId} {f0 f1 : Field} (ht : Try.prog.underlying t = some (.slice e)) (he : Try.prog.underlying e = some (.struct #[f0, f1])) (ce : Try.prog.cellsOf e = 2) (o0 : f0.offset = 0) (o1 : f1.offset = 1) (t0 : f0.type = 3) (t1 : f1.type = 3)
    {fuel : Nat} {cs : List Value} {y : DataW H × List MemPlace} (h : DataW.trod enc Try.prog W 0 (fun _ => true) true fuel t cs = some y) :
    ∃ A n c F S, cs = [.slice A n c] ∧ Pa W W.heap.size A n F S ∧ n ≤ c ∧ c ≤ maxLen := by
  rcases Go.Deep.open_slice_pairs ht he ce o0 o1 (by rw [t0]; exact cells_int) (by rw [t1]; exact cells_int) h with ⟨rfl, _⟩ | ⟨a, len, cap, m, n, V0, V1, D0, D1, P0, P1, rfl, _, hl, hm, hmm, _, hi⟩
  · exact ⟨none, 0, 0, fun _ => 0, fun _ => 0, rfl, ⟨fun i hi => absurd hi (Nat.not_lt_zero _), Nat.le_refl _⟩, Nat.le_refl _, Nat.zero_le _⟩
  · have hmc : m = cap := by simpa using hmm
    have key : ∀ i, ∃ z : Int × Int, i < len → W.cell? (a.add (i * 2)) = some (.int .i64 z.1) ∧ W.cell? (a.add (i * 2 + 1)) = some (.int .i64 z.2) ∧ I64 z.1 ∧ I64 z.2 := fun i => by
      by_cases hil : i < len
      · obtain ⟨c0, c1, h0, h1⟩ := hi i (by omega)
        rw [t0] at h0
        rw [t1] at h1
        obtain ⟨k0, e0, _, w0⟩ := DataW.trod_int Try.underlying3 h0
        obtain ⟨k1, e1, _, w1⟩ := DataW.trod_int Try.underlying3 h1
        simp only [List.cons.injEq, and_true] at e0 e1
        rw [e0] at c0
        rw [e1] at c1
        exact ⟨(k0, k1), fun _ => ⟨c0, c1, bounds_i64 w0, bounds_i64 w1⟩⟩
      · exact ⟨(0, 0), fun hh => absurd hh hil⟩
    refine ⟨some a, len, cap, fun i => (Classical.choose (key i)).1, fun i => (Classical.choose (key i)).2, rfl, ⟨fun i hil => ?_, Nat.le_refl _⟩, hl, hm⟩
    obtain ⟨c0, c1, b0, b1⟩ := Classical.choose_spec (key i) hil
    have hb := World.block_lt_of_cell? W _ c0
    rw [block_of_add] at hb
    exact ⟨a, rfl, hb, c0, by rw [← add_at (a.add (i * 2)) 0, add_of_add]; exact c1, b0, b1⟩
end

end Go.Proofs.Ytockfiobhmohnaa

namespace Go.Proofs.Ytockfiobhmohnaa
open Go.RowKit Kb Wb

/-- A string's bytes. -/
abbrev bl (s : ByteArray) : List UInt8 := s.data.toList
theorem bl_len (s : ByteArray) : (bl s).length = s.size := Array.length_toList
theorem idx_run (s : ByteArray) (k : Nat) (b : UInt8) (h : (bl s)[k]? = some b) (z : Int) (hz : z = (k : Nat)) : ∀ W, (Instr.index 9 (.string s) (.int .i64 z)).run Try.prog W = .ok (.int .u8 ((b.toNat : Nat) : Int)) W := by
  intro W
  subst hz
  have hk : k < s.size := by rw [← bl_len]; exact (List.getElem?_eq_some_iff.1 h).1
  have hb : s[k]'hk = b := by
    obtain ⟨h1, h2⟩ := List.getElem?_eq_some_iff.1 h
    rw [← h2]
    simp [bl, ByteArray.getElem_eq_getElem_data]
  rw [run_index_string W _ _ _ _ Try.underlying9, dif_pos ⟨by omega, by omega⟩]
  simp only [Int.toNat_natCast, hb]
theorem bl_get {s : ByteArray} {k : Nat} (h : k < s.size) : ∃ b, (bl s)[k]? = some b := ⟨(bl s)[k]'(by rw [bl_len]; exact h), List.getElem?_eq_getElem _⟩
theorem take_snoc {l : List UInt8} {i : Nat} {b : UInt8} (h : l[i]? = some b) : l.take (i + 1) = l.take i ++ [b] := by
  rw [List.take_add_one, h]; rfl

def letB (c : Int) : Bool := decide (97 ≤ c ∧ c ≤ 122 ∨ 65 ≤ c ∧ c ≤ 90)
def digB (c : Int) : Bool := decide (48 ≤ c ∧ c ≤ 57)
theorem letB_t {c : Int} (h : 97 ≤ c ∧ c ≤ 122 ∨ 65 ≤ c ∧ c ≤ 90) : letB c = true := decide_eq_true h
theorem letB_f {c : Int} (h : ¬ (97 ≤ c ∧ c ≤ 122 ∨ 65 ≤ c ∧ c ≤ 90)) : letB c = false := decide_eq_false h
theorem digB_t {c : Int} (h : 48 ≤ c ∧ c ≤ 57) : digB c = true := decide_eq_true h
theorem digB_f {c : Int} (h : ¬ (48 ≤ c ∧ c ≤ 57)) : digB c = false := decide_eq_false h
theorem isDigit_any (c : Int) (w : World) :
    Calls Try.prog 93 #[.int .u8 c] w fun e w' => e = .returned (.bool (digB c)) ∧ w = w' := by
  by_cases h1 : 48 ≤ c <;> by_cases h2 : c ≤ 57
  all_goals
    have hp : digB c = decide (48 ≤ c ∧ c ≤ 57) := rfl
    simp only [h1, h2, and_self, and_true, and_false, decide_true, decide_false] at hp
    rw [hp]
    clear hp
    go_enter Try.func93, Try.ntmps93
    go_wp2
    go_ret
    exact ⟨rfl, rfl⟩
theorem isLetter_any (c : Int) (w : World) :
    Calls Try.prog 92 #[.int .u8 c] w fun e w' => e = .returned (.bool (letB c)) ∧ w = w' := by
  by_cases h1 : 97 ≤ c <;> by_cases h2 : c ≤ 122 <;> by_cases h3 : 65 ≤ c <;> by_cases h4 : c ≤ 90
  all_goals first | (exfalso; omega) | skip
  all_goals
    have hp : letB c = decide (97 ≤ c ∧ c ≤ 122 ∨ 65 ≤ c ∧ c ≤ 90) := rfl
    simp only [h1, h2, h3, h4, and_self, and_true, and_false, decide_true, decide_false, or_true, or_false, or_self] at hp
    rw [hp]
    clear hp
    go_enter Try.func92, Try.ntmps92
    go_wp2
    go_ret
    exact ⟨rfl, rfl⟩

/-- A letter of a name that may stand at place i. -/
def okAt (i : Nat) (b : UInt8) : Prop := letB (b.toNat : Int) = true ∨ (0 < i ∧ (digB (b.toNat : Int) = true ∨ (b.toNat : Int) = 45))
/-- A name. -/
def IsNm (l : List UInt8) : Prop := 1 ≤ l.length ∧ l.length ≤ 12 ∧ ∀ i b, l[i]? = some b → okAt i b
noncomputable def nameB (s : ByteArray) : Bool := @decide (IsNm (bl s)) (Classical.propDecidable _)
theorem nameB_t {s : ByteArray} (h : IsNm (bl s)) : nameB s = true := @decide_eq_true _ (Classical.propDecidable _) h
theorem nameB_f {s : ByteArray} (h : ¬ IsNm (bl s)) : nameB s = false := @decide_eq_false _ (Classical.propDecidable _) h
theorem nameB_size {s : ByteArray} (h : nameB s = true) : 1 ≤ s.size ∧ s.size ≤ 12 := by
  have := @of_decide_eq_true _ (Classical.propDecidable _) h
  rw [IsNm, bl_len] at this
  exact ⟨this.1, this.2.1⟩

set_option maxRecDepth 100000 in
set_option maxHeartbeats 2000000 in
theorem IsName_any (s : ByteArray) (w : World) (hs : s.size ≤ 1000000000) :
    Calls Try.prog 77 #[.string s] w fun e w' => e = .returned (.bool (nameB s)) ∧ w = w' := by
  by_cases hr : inB (s.size : Int) 1 12 = true
  · have hr' := inB_iff.1 hr
    obtain ⟨b0, hb0⟩ := bl_get (s := s) (k := 0) (by omega)
    have hi0 := idx_run s 0 b0 hb0 0 rfl
    by_cases hl : letB (b0.toNat : Int) = true
    · obtain ⟨p, hp⟩ : ∃ p, nameB s = p := ⟨_, rfl⟩
      rw [hp]
      have Hp := hid hp
      have Hl := hid hl
      clear hp
      have Hr := hid hr'
      have Hb0 := hid hb0
      clear hb0 hr'
      go_enter Try.func77, Try.ntmps77
      go_wp2_with (first | ((with_reducible refine (Within_any _ _ _ _).mono ?_); rintro e w' ⟨rfl, rfl⟩) | ((with_reducible refine (isLetter_any _ _).mono ?_); rintro e w' ⟨rfl, rfl⟩))
      clear hr hl hi0
      go_loop [16] (fun iv => ∃ i : Nat, i ≤ s.size ∧ iv = .int .i64 i ∧ Hid (∀ j b, j < i → (bl s)[j]? = some b → okAt j b)) (fun iv => s.size - (intOf iv).toNat)
      case atStart => exact ⟨0, Nat.zero_le _, rfl, hid (fun j b hj => absurd hj (Nat.not_lt_zero _))⟩
      case round =>
        obtain ⟨i, hi, rfl, HN⟩ := hrel
        by_cases hlt : i < s.size
        · obtain ⟨b, hb⟩ := bl_get hlt
          have hib := idx_run s i b hb i rfl
          have nx : okAt i b → Hid (∀ j b, j < i + 1 → (bl s)[j]? = some b → okAt j b) := fun ho => hid fun j c hj hc => by
            by_cases e : j = i
            · subst e; rw [hb] at hc; injection hc with hc; subst hc; exact ho
            · exact HN.out j c (by omega) hc
          have h0 : i = 0 → letB (b.toNat : Int) = true := fun e => by
            subst e
            have := Hb0.out
            rw [hb] at this
            injection this with this
            subst this
            exact Hl.out
          by_cases h1 : letB (b.toNat : Int) = true
          · have NX := nx (.inl h1)
            clear nx hb h0
            go_wp2_with (first | ((with_reducible refine (isLetter_any _ _).mono ?_); rintro e w' ⟨rfl, rfl⟩) | ((with_reducible refine (isDigit_any _ _).mono ?_); rintro e w' ⟨rfl, rfl⟩))
            go_round
            case rel => exact ⟨i + 1, by omega, by go_num, NX⟩
            case measure => simp [intOf]; omega
          · have hpos : 0 < i := by
              rcases Nat.eq_zero_or_pos i with e | e
              · exact absurd (h0 e) h1
              · exact e
            have h1' := Bool.eq_false_iff.2 h1
            by_cases h2 : digB (b.toNat : Int) = true
            · have NX := nx (.inr ⟨hpos, .inl h2⟩)
              clear nx hb h0 h1
              go_wp2_with (first | ((with_reducible refine (isLetter_any _ _).mono ?_); rintro e w' ⟨rfl, rfl⟩) | ((with_reducible refine (isDigit_any _ _).mono ?_); rintro e w' ⟨rfl, rfl⟩))
              go_round
              case rel => exact ⟨i + 1, by omega, by go_num, NX⟩
              case measure => simp [intOf]; omega
            · have h2' := Bool.eq_false_iff.2 h2
              by_cases h3 : (b.toNat : Int) = 45
              · have NX := nx (.inr ⟨hpos, .inr h3⟩)
                have h3' : ((b.toNat : Int) == 45) = true := by rw [beq_iff_eq]; exact h3
                clear nx hb h0 h1 h2
                go_wp2_with (first | ((with_reducible refine (isLetter_any _ _).mono ?_); rintro e w' ⟨rfl, rfl⟩) | ((with_reducible refine (isDigit_any _ _).mono ?_); rintro e w' ⟨rfl, rfl⟩))
                go_round
                case rel => exact ⟨i + 1, by omega, by go_num, NX⟩
                case measure => simp [intOf]; omega
              · have hf : nameB s = false := nameB_f fun hn => by
                  rcases hn.2.2 i b hb with h | ⟨_, h | h⟩
                  · exact h1 h
                  · exact h2 h
                  · exact h3 h
                have hp := Hp.out
                rw [hf] at hp
                subst hp
                have h3' : ((b.toNat : Int) == 45) = false := by rw [beq_eq_false_iff_ne]; exact h3
                clear nx hb h0 h1 h2 hf
                go_wp2_with (first | ((with_reducible refine (isLetter_any _ _).mono ?_); rintro e w' ⟨rfl, rfl⟩) | ((with_reducible refine (isDigit_any _ _).mono ?_); rintro e w' ⟨rfl, rfl⟩))
                go_ret
                exact ⟨rfl, rfl⟩
        · obtain rfl : i = s.size := by omega
          have ht : nameB s = true := nameB_t ⟨by have := Hr.out; rw [bl_len]; omega, by have := Hr.out; rw [bl_len]; omega, fun j b hb => HN.out j b (by have := (List.getElem?_eq_some_iff.1 hb).1; rw [bl_len] at this; exact this) hb⟩
          have hp := Hp.out
          rw [ht] at hp
          subst hp
          clear ht
          go_wp2
          go_ret
          exact ⟨rfl, rfl⟩
    · have hf : nameB s = false := nameB_f fun hn => by
        rcases hn.2.2 0 b0 hb0 with h | ⟨h, _⟩
        · exact hl h
        · omega
      rw [hf]
      have hl' := Bool.eq_false_iff.2 hl
      clear hl hf hr' hb0
      go_enter Try.func77, Try.ntmps77
      go_wp2_with (first | ((with_reducible refine (Within_any _ _ _ _).mono ?_); rintro e w' ⟨rfl, rfl⟩) | ((with_reducible refine (isLetter_any _ _).mono ?_); rintro e w' ⟨rfl, rfl⟩))
      go_ret
      exact ⟨rfl, rfl⟩
  · have hf : nameB s = false := nameB_f fun hn => hr (inB_t (by rw [IsNm, bl_len] at hn; exact ⟨by have := hn.1; omega, by have := hn.2.1; omega⟩))
    rw [hf]
    have hr' := Bool.eq_false_iff.2 hr
    clear hr hf
    go_enter Try.func77, Try.ntmps77
    go_wp2_with (first | ((with_reducible refine (Within_any _ _ _ _).mono ?_); rintro e w' ⟨rfl, rfl⟩) | ((with_reducible refine (isLetter_any _ _).mono ?_); rintro e w' ⟨rfl, rfl⟩))
    go_ret
    exact ⟨rfl, rfl⟩

set_option maxRecDepth 100000 in
set_option maxHeartbeats 4000000 in
theorem rIsName_any (s : ByteArray) (w : World) (hs : s.size ≤ 1000000000) :
    Calls Try.prog 65 #[.string s] w fun e w' => e = .returned (.bool (nameB s)) ∧ w = w' := by
  by_cases h0 : s.size < 1
  · have hf : nameB s = false := nameB_f fun hn => by rw [IsNm, bl_len] at hn; omega
    rw [hf]
    clear hf
    go_enter Try.func65, Try.ntmps65
    go_wp2
    go_ret
    exact ⟨rfl, rfl⟩
  · by_cases h12 : 12 < s.size
    · have hf : nameB s = false := nameB_f fun hn => by rw [IsNm, bl_len] at hn; omega
      rw [hf]
      clear hf
      go_enter Try.func65, Try.ntmps65
      go_wp2
      go_ret
      exact ⟨rfl, rfl⟩
    · obtain ⟨p, hp⟩ : ∃ p, nameB s = p := ⟨_, rfl⟩
      rw [hp]
      have Hp := hid hp
      clear hp
      go_enter Try.func65, Try.ntmps65
      go_wp2
      go_loop [3, 4, 5] (fun iv _ _ => ∃ i : Nat, i ≤ s.size ∧ iv = .int .i64 i ∧ Hid (∀ j b, j < i → (bl s)[j]? = some b → okAt j b)) (fun iv _ _ => s.size - (intOf iv).toNat)
      case atStart => exact ⟨0, Nat.zero_le _, rfl, hid (fun j b hj => absurd hj (Nat.not_lt_zero _))⟩
      case round =>
        obtain ⟨i, hi, rfl, HN⟩ := hrel
        by_cases hlt : i < s.size
        · obtain ⟨b, hb⟩ := bl_get hlt
          have hib := idx_run s i b hb i rfl
          have nx : okAt i b → Hid (∀ j b, j < i + 1 → (bl s)[j]? = some b → okAt j b) := fun ho => hid fun j c hj hc => by
            by_cases e : j = i
            · subst e; rw [hb] at hc; injection hc with hc; subst hc; exact ho
            · exact HN.out j c (by omega) hc
          have bad : ¬ okAt i b → p = false := fun ho => by
            rw [← Hp.out]
            exact nameB_f fun hn => ho (hn.2.2 i b hb)
          have ltf : ¬ (97 ≤ (b.toNat : Int) ∧ (b.toNat : Int) ≤ 122 ∨ 65 ≤ (b.toNat : Int) ∧ (b.toNat : Int) ≤ 90) → ¬ letB (b.toNat : Int) = true := fun h e => by rw [letB_f h] at e; cases e
          have dgf : ¬ (48 ≤ (b.toNat : Int) ∧ (b.toNat : Int) ≤ 57) → ¬ digB (b.toNat : Int) = true := fun h e => by rw [digB_f h] at e; cases e
          clear hb
          by_cases k1 : 97 ≤ (b.toNat : Int)
          · by_cases k2 : (b.toNat : Int) ≤ 122
            · have NX := nx (.inl (letB_t (.inl ⟨k1, k2⟩)))
              clear nx bad ltf dgf
              go_wp2
              go_round
              case rel => exact ⟨i + 1, by omega, by go_num, NX⟩
              case measure => simp [intOf]; omega
            · have hf := bad fun ho => by
                rcases ho with h | ⟨_, h | h⟩
                · exact ltf (by omega) h
                · exact dgf (by omega) h
                · omega
              subst hf
              clear nx bad ltf dgf
              have hne : ((b.toNat : Int) == 45) = false := by rw [beq_eq_false_iff_ne]; omega
              have d1 : decide ((b.toNat : Int) ≤ 90) = false := decide_eq_false (by omega)
              have d3 : ((b.toNat : Int) != 45) = true := by rw [bne_iff_ne]; omega
              have d4 : decide ((b.toNat : Int) ≤ 57) = false := decide_eq_false (by omega)
              have d5 : decide ((b.toNat : Int) < 48) = false := decide_eq_false (by omega)
              have d6 : decide (57 < (b.toNat : Int)) = true := decide_eq_true (by omega)
              have d2 : decide ((b.toNat : Int) ≤ 122) = false := decide_eq_false (by omega)
              by_cases e0 : i = 0
              · have e1 : ((i : Int) == 0) = true := by rw [beq_iff_eq]; omega
                have E0 := hid e0
                clear e0
                go_wp2
                go_ret
                exact ⟨rfl, rfl⟩
              · have e1 : ((i : Int) == 0) = false := by rw [beq_eq_false_iff_ne]; omega
                go_wp2
                go_ret
                exact ⟨rfl, rfl⟩
          · by_cases k3 : 65 ≤ (b.toNat : Int)
            · by_cases k4 : (b.toNat : Int) ≤ 90
              · have NX := nx (.inl (letB_t (.inr ⟨k3, k4⟩)))
                clear nx bad ltf dgf
                go_wp2
                go_round
                case rel => exact ⟨i + 1, by omega, by go_num, NX⟩
                case measure => simp [intOf]; omega
              · have hf := bad fun ho => by
                  rcases ho with h | ⟨_, h | h⟩
                  · exact ltf (by omega) h
                  · exact dgf (by omega) h
                  · omega
                subst hf
                clear nx bad ltf dgf
                have hne : ((b.toNat : Int) == 45) = false := by rw [beq_eq_false_iff_ne]; omega
                have d1 : decide ((b.toNat : Int) ≤ 90) = false := decide_eq_false (by omega)
                have d3 : ((b.toNat : Int) != 45) = true := by rw [bne_iff_ne]; omega
                have d4 : decide ((b.toNat : Int) ≤ 57) = false := decide_eq_false (by omega)
                have d5 : decide ((b.toNat : Int) < 48) = false := decide_eq_false (by omega)
                have d6 : decide (57 < (b.toNat : Int)) = true := decide_eq_true (by omega)
                by_cases e0 : i = 0
                · have e1 : ((i : Int) == 0) = true := by rw [beq_iff_eq]; omega
                  have E0 := hid e0
                  clear e0
                  go_wp2
                  go_ret
                  exact ⟨rfl, rfl⟩
                · have e1 : ((i : Int) == 0) = false := by rw [beq_eq_false_iff_ne]; omega
                  go_wp2
                  go_ret
                  exact ⟨rfl, rfl⟩
            · by_cases e0 : i = 0
              · have hf := bad fun ho => by
                  rcases ho with h | ⟨h, _⟩
                  · exact ltf (by omega) h
                  · omega
                subst hf
                have e1 : ((i : Int) == 0) = true := by rw [beq_iff_eq]; omega
                have E0 := hid e0
                clear e0
                clear nx bad ltf dgf
                go_wp2
                go_ret
                exact ⟨rfl, rfl⟩
              · have e1 : ((i : Int) == 0) = false := by rw [beq_eq_false_iff_ne]; omega
                by_cases k5 : (b.toNat : Int) = 45
                · have NX := nx (.inr ⟨by omega, .inr k5⟩)
                  have hne : ((b.toNat : Int) == 45) = true := by rw [beq_iff_eq]; exact k5
                  clear nx bad ltf dgf
                  have K5 := hid k5
                  clear k5
                  go_wp2
                  go_round
                  case rel => exact ⟨i + 1, by omega, by go_num, NX⟩
                  case measure => simp [intOf]; omega
                · have hne : ((b.toNat : Int) == 45) = false := by rw [beq_eq_false_iff_ne]; omega
                  by_cases k6 : (b.toNat : Int) < 48
                  · have hf := bad fun ho => by
                      rcases ho with h | ⟨_, h | h⟩
                      · exact ltf (by omega) h
                      · exact dgf (by omega) h
                      · exact k5 h
                    subst hf
                    clear nx bad ltf dgf
                    go_wp2
                    go_ret
                    exact ⟨rfl, rfl⟩
                  · by_cases k7 : 57 < (b.toNat : Int)
                    · have hf := bad fun ho => by
                        rcases ho with h | ⟨_, h | h⟩
                        · exact ltf (by omega) h
                        · exact dgf (by omega) h
                        · exact k5 h
                      subst hf
                      clear nx bad ltf dgf
                      go_wp2
                      go_ret
                      exact ⟨rfl, rfl⟩
                    · have NX := nx (.inr ⟨by omega, .inl (digB_t ⟨by omega, by omega⟩)⟩)
                      clear nx bad ltf dgf
                      go_wp2
                      go_round
                      case rel => exact ⟨i + 1, by omega, by go_num, NX⟩
                      case measure => simp [intOf]; omega
        · obtain rfl : i = s.size := by omega
          have ht : nameB s = true := nameB_t ⟨by rw [bl_len]; omega, by rw [bl_len]; omega, fun j b hb => HN.out j b (by have := (List.getElem?_eq_some_iff.1 hb).1; rw [bl_len] at this; exact this) hb⟩
          have hp := Hp.out
          rw [ht] at hp
          subst hp
          clear ht
          go_wp2
          go_ret
          exact ⟨rfl, rfl⟩

end Go.Proofs.Ytockfiobhmohnaa

namespace Go.Proofs.Ytockfiobhmohnaa
open Go.RowKit Kb Wb

/-- Area i is within the limits. -/
def Rg (F S : Nat → Int) (i : Nat) : Prop := (-1000000 ≤ F i ∧ F i ≤ 1000000) ∧ (1 ≤ S i ∧ S i ≤ 1000000)
/-- Area i is right behind the one before it. -/
def Ga (F S : Nat → Int) (i : Nat) : Prop := Rg F S i ∧ (0 < i → F (i - 1) < F i)
/-- r is the error of a basin but for its name. -/
def Sz (n : Nat) (F S : Nat → Int) (rim r : Int) : Prop :=
  (¬ (1 ≤ n ∧ n ≤ 20) ∧ r = 2) ∨ ((1 ≤ n ∧ n ≤ 20) ∧
    ((∃ i, i < n ∧ (∀ j, j < i → Ga F S j) ∧ ((¬ Rg F S i ∧ r = 2) ∨ (Rg F S i ∧ 0 < i ∧ F i ≤ F (i - 1) ∧ r = 10))) ∨
     ((∀ j, j < n → Ga F S j) ∧ ((¬ (F (n - 1) < rim ∧ rim ≤ 1000000) ∧ r = 2) ∨ ((F (n - 1) < rim ∧ rim ≤ 1000000) ∧ r = 0)))))
theorem Sz.same {n : Nat} {F S : Nat → Int} {rim r q : Int} (h : Sz n F S rim r) (k : Sz n F S rim q) : r = q := by
  rcases h with ⟨a, rfl⟩ | ⟨a, h⟩ <;> rcases k with ⟨b, rfl⟩ | ⟨b, k⟩
  · rfl
  · exact absurd b a
  · exact absurd a b
  · rcases h with ⟨i, hi, hg, h⟩ | ⟨hg, h⟩ <;> rcases k with ⟨j, hj, kg, k⟩ | ⟨kg, k⟩
    · have hni : ¬ Ga F S i := fun g => by
        rcases h with ⟨h, _⟩ | ⟨_, h0, h, _⟩
        · exact h g.1
        · have := g.2 h0; omega
      have hnj : ¬ Ga F S j := fun g => by
        rcases k with ⟨h, _⟩ | ⟨_, h0, h, _⟩
        · exact h g.1
        · have := g.2 h0; omega
      have e : i = j := by
        rcases Nat.lt_trichotomy i j with l | l | l
        · exact absurd (kg i l) hni
        · exact l
        · exact absurd (hg j l) hnj
      subst e
      rcases h with ⟨h, rfl⟩ | ⟨h, _, _, rfl⟩ <;> rcases k with ⟨k, rfl⟩ | ⟨k, _, _, rfl⟩
      · rfl
      · exact absurd k h
      · exact absurd h k
      · rfl
    · exfalso
      have g := kg i hi
      rcases h with ⟨h, _⟩ | ⟨_, h0, h, _⟩
      · exact h g.1
      · have := g.2 h0; omega
    · exfalso
      have g := hg j hj
      rcases k with ⟨h, _⟩ | ⟨_, h0, h, _⟩
      · exact h g.1
      · have := g.2 h0; omega
    · rcases h with ⟨h, rfl⟩ | ⟨h, rfl⟩ <;> rcases k with ⟨k, rfl⟩ | ⟨k, rfl⟩
      · rfl
      · exact absurd k h
      · exact absurd h k
      · rfl
theorem Sz.bas {n : Nat} {F S : Nat → Int} {rim : Int} (h : Sz n F S rim 0) : Bas F S n rim := by
  rcases h with ⟨_, h⟩ | ⟨a, h⟩
  · cases h
  · rcases h with ⟨i, hi, hg, ⟨_, h⟩ | ⟨_, _, _, h⟩⟩ | ⟨hg, ⟨_, h⟩ | ⟨h, _⟩⟩
    · cases h
    · cases h
    · cases h
    · exact ⟨by omega, by omega, fun i hi => (hg i hi).1.1, fun i hi => (hg i hi).1.2, fun i hi => (hg (i + 1) hi).2 (Nat.succ_pos _), h.1, h.2⟩
theorem Sz.of_bas {n : Nat} {F S : Nat → Int} {rim r : Int} (h : Sz n F S rim r) (B : Bas F S n rim) : r = 0 := by
  refine h.same (.inr ⟨⟨B.pos, B.most⟩, .inr ⟨fun j hj => ⟨⟨B.f j hj, B.s j hj⟩, fun h0 => ?_⟩, .inr ⟨⟨B.rl, B.rm⟩, rfl⟩⟩⟩)
  have := B.up (j - 1) (by omega)
  rwa [Nat.sub_add_cancel h0] at this

set_option maxRecDepth 100000 in
set_option maxHeartbeats 8000000 in
theorem sizeError_any {w : World} {B0 n c : Nat} {A : Option Addr} {F S : Nat → Int} {rim : Int} (s : ByteArray) (h : Pa w B0 A n F S) (hn : n ≤ maxLen) :
    Calls Try.prog 78 #[.agg #[.string s, .slice A n c, .int .i64 rim]] w fun e w' => ∃ r : Int, e = .returned (.int .i64 r) ∧ Hid (Sz n F S rim r) ∧ Below w.heap.size w w' := by
  unfold maxLen at hn
  have hb0 := alo (W := w) (o := (.cells #[.string s, .slice A n c, .int .i64 rim] 53))
  have j1 := Bk.of_alloc w (.cells #[.string s, .slice A n c, .int .i64 rim] 53) rfl
  have h0 := h.below hb0
  obtain ⟨g, hg⟩ : ∃ g, w.heap.size = g := ⟨_, rfl⟩
  clear h
  by_cases h20 : inB (n : Int) 1 20 = true
  · have h20' := inB_iff.1 h20
    go_enter Try.func78, Try.ntmps78
    go_wp2_with (((with_reducible refine (Within_any _ _ _ _).mono ?_); rintro e w' ⟨rfl, rfl⟩))
    rw [hg] at j1
    generalize w.alloc (.cells #[.string s, .slice A n c, .int .i64 rim] 53) = W0 at *
    have HB0 := hid hb0
    have Hg := hid hg
    clear hb0 hg h20
    go_loopw [14] (fun iv wr => ∃ (i : Nat), i ≤ n ∧ iv = .int .i64 i ∧ Hid (∀ j, j < i → Ga F S j) ∧ Below W0.heap.size W0 wr) (fun iv _ => n - (intOf iv).toNat)
    case atStart => exact ⟨0, Nat.zero_le _, rfl, hid (fun j hj => absurd hj (Nat.not_lt_zero _)), Below.refl _ _⟩
    case round =>
      obtain ⟨i, hi, rfl, HN, hbel⟩ := hrel
      have hw := h0.below hbel
      have j2 := j1.step hbel
      have Hbel := hid hbel
      have hBE := hid (bthen HB0.out hbel (Nat.le_refl _))
      clear hbel
      obtain ⟨x0, x1, x2⟩ := j2.c3
      by_cases hlt : i < n
      · obtain ⟨ad, hA, hl, q0, q1, qf, qs⟩ := hw.at_ i hlt
        subst hA
        have hl2 := Nat.lt_of_lt_of_le hl hw.le
        have j3 := j2.alloc (.cells #[.int .i64 (F i), .int .i64 (S i)] 96)
        obtain ⟨gb, hgb⟩ : ∃ gb, wr.heap.size = gb := ⟨_, rfl⟩
        have jb := Bk.of_alloc wr (.cells #[.int .i64 (F i), .int .i64 (S i)] 96) hgb
        have ha := alo (W := wr) (o := (.cells #[.int .i64 (F i), .int .i64 (S i)] 96))
        have hwa := hw.below ha
        have Hba := hid (Hbel.out.trans (ha.mono Hbel.out.size))
        have HBa := hid (bthen hBE.out ha (Nat.le_refl _))
        clear hw ha j2
        by_cases hF : inB (F i) (-1000000) 1000000 = true
        · have hF' := inB_iff.1 hF
          by_cases hS : inB (S i) 1 1000000 = true
          · have hS' := inB_iff.1 hS
            have HR := hid (show Rg F S i from ⟨hF', hS'⟩)
            go_wp2_with fail
            generalize wr.alloc (.cells #[.int .i64 (F i), .int .i64 (S i)] 96) = wa at *
            clear x0 x1 x2 q0 q1
            obtain ⟨x0, x1, x2⟩ := j3.c3
            obtain ⟨b0, b1⟩ := jb.c2
            refine (isLevel_any _ _).mono ?_
            rintro e w' ⟨rfl, rfl⟩
            by_cases hp : 0 < i
            · obtain ⟨ad', hA', hl', p0, p1, pf, ps⟩ := hwa.at_ (i - 1) (by omega)
              injection hA' with hA'
              subst hA'
              have hip : (decide ((0 : Int) < (i : Int))) = true := decide_eq_true (by omega)
              have hip2 : (decide (0 < i)) = true := decide_eq_true hp
              have hi1 : (1 : Int) ≤ (i : Int) := by omega
              by_cases ho : F (i - 1) < F i
              · have hod : decide (F i ≤ F (i - 1)) = false := decide_eq_false (by omega)
                have HG := hid (show Ga F S i from ⟨HR.out, fun _ => ho⟩)
                go_wp2_with (((with_reducible refine (Within_any _ _ _ _).mono ?_); rintro e w' ⟨rfl, rfl⟩))
                have w1 : IntKind.i64.wrap ((i : Int) - 1) = (i : Int) - 1 := IntWalk.i64_in _ (by omega)
                have w2 : ((i : Int) - 1).toNat = i - 1 := by omega
                have w3 : (0 : Int) ≤ (i : Int) - 1 := by omega
                have w4 : (i : Int) - 1 < (n : Int) := by omega
                go_quiet (fail)
                clear w1 w2 w3 w4
                go_wp2
                go_roundw
                case rel => exact ⟨i + 1, by omega, by go_num, hid (fun j hj => by rcases Nat.lt_or_ge j i with h | h; exact HN.out j h; have : j = i := (by omega); subst this; exact HG.out), Hba.out.drewN' _⟩
                case measure => simp [intOf]; omega
              · have hod : decide (F i ≤ F (i - 1)) = true := decide_eq_true (by omega)
                have HE := hid (show Sz n F S rim 10 from .inr ⟨by omega, .inl ⟨i, hlt, HN.out, .inr ⟨HR.out, hp, by omega, rfl⟩⟩⟩)
                go_wp2_with (((with_reducible refine (Within_any _ _ _ _).mono ?_); rintro e w' ⟨rfl, rfl⟩))
                have w1 : IntKind.i64.wrap ((i : Int) - 1) = (i : Int) - 1 := IntWalk.i64_in _ (by omega)
                have w2 : ((i : Int) - 1).toNat = i - 1 := by omega
                have w3 : (0 : Int) ≤ (i : Int) - 1 := by omega
                have w4 : (i : Int) - 1 < (n : Int) := by omega
                go_quiet (fail)
                clear w1 w2 w3 w4
                go_wp2
                go_ret
                exact ⟨10, rfl, HE, HBa.out.drewN' _⟩
            · have hip : (decide ((0 : Int) < (i : Int))) = false := decide_eq_false (by omega)
              have hip2 : (decide (0 < i)) = false := decide_eq_false hp
              have HG := hid (show Ga F S i from ⟨HR.out, fun h => absurd h hp⟩)
              go_wp2_with (((with_reducible refine (Within_any _ _ _ _).mono ?_); rintro e w' ⟨rfl, rfl⟩))
              go_quiet (fail)
              go_wp2
              go_roundw
              case rel => exact ⟨i + 1, by omega, by go_num, hid (fun j hj => by rcases Nat.lt_or_ge j i with h | h; exact HN.out j h; have : j = i := (by omega); subst this; exact HG.out), Hba.out.drewN' _⟩
              case measure => simp [intOf]; omega
          · have hS0 := Bool.eq_false_iff.2 hS
            have HE := hid (show Sz n F S rim 2 from .inr ⟨by omega, .inl ⟨i, hlt, HN.out, .inl ⟨fun hg => hS (inB_t hg.2), rfl⟩⟩⟩)
            clear hS
            go_wp2_with (first | ((with_reducible refine (Within_any _ _ _ _).mono ?_); rintro e w' ⟨rfl, rfl⟩) | ((with_reducible refine (isLevel_any _ _).mono ?_); rintro e w' ⟨rfl, rfl⟩))
            go_ret
            exact ⟨2, rfl, HE, HBa.out⟩
        · have hF0 := Bool.eq_false_iff.2 hF
          have HE := hid (show Sz n F S rim 2 from .inr ⟨by omega, .inl ⟨i, hlt, HN.out, .inl ⟨fun hg => hF (inB_t hg.1), rfl⟩⟩⟩)
          clear hF
          go_wp2_with (first | ((with_reducible refine (Within_any _ _ _ _).mono ?_); rintro e w' ⟨rfl, rfl⟩) | ((with_reducible refine (isLevel_any _ _).mono ?_); rintro e w' ⟨rfl, rfl⟩))
          go_ret
          exact ⟨2, rfl, HE, HBa.out⟩
      · obtain rfl : i = n := by omega
        obtain ⟨ad, hA, hl, q0, q1, qf, qs⟩ := hw.at_ (i - 1) (by omega)
        subst hA
        have hb := (HN.out (i - 1) (by omega)).1.1
        by_cases hm : inB rim (F (i - 1) + 1) 1000000 = true
        · have hm' := inB_iff.1 hm
          have HE := hid (show Sz i F S rim 0 from .inr ⟨by omega, .inr ⟨HN.out, .inr ⟨⟨by omega, by omega⟩, rfl⟩⟩⟩)
          go_wp2_with (((with_reducible refine (Within_any _ _ _ _).mono ?_); rintro e w' ⟨rfl, rfl⟩))
          go_ret
          exact ⟨0, rfl, HE, hBE.out⟩
        · have HE := hid (show Sz i F S rim 2 from .inr ⟨by omega, .inr ⟨HN.out, .inl ⟨fun hx => hm (inB_t ⟨by omega, by omega⟩), rfl⟩⟩⟩)
          have hm0 := Bool.eq_false_iff.2 hm
          clear hm
          go_wp2_with (((with_reducible refine (Within_any _ _ _ _).mono ?_); rintro e w' ⟨rfl, rfl⟩))
          go_ret
          exact ⟨2, rfl, HE, hBE.out⟩
  · have h20' := Bool.eq_false_iff.2 h20
    have HE := hid (show Sz n F S rim 2 from .inl ⟨fun hx => h20 (inB_t ⟨by omega, by omega⟩), rfl⟩)
    clear h20
    go_enter Try.func78, Try.ntmps78
    go_wp2_with (((with_reducible refine (Within_any _ _ _ _).mono ?_); rintro e w' ⟨rfl, rfl⟩))
    go_ret
    exact ⟨2, rfl, HE, hb0⟩

/-- r is the error of a basin whose name is right or not. -/
def Cb (nm : Bool) (n : Nat) (F S : Nat → Int) (rim r : Int) : Prop := (nm = false ∧ r = 4) ∨ (nm = true ∧ Sz n F S rim r)
theorem Cb.same {nm : Bool} {n : Nat} {F S : Nat → Int} {rim r q : Int} (h : Cb nm n F S rim r) (k : Cb nm n F S rim q) : r = q := by
  rcases h with ⟨a, h⟩ | ⟨a, h⟩ <;> rcases k with ⟨b, k⟩ | ⟨b, k⟩
  · omega
  · rw [a] at b; cases b
  · rw [a] at b; cases b
  · exact h.same k
theorem Cb.bas {nm : Bool} {n : Nat} {F S : Nat → Int} {rim : Int} (h : Cb nm n F S rim 0) : Bas F S n rim := by
  rcases h with ⟨_, h⟩ | ⟨_, h⟩
  · cases h
  · exact h.bas

set_option maxRecDepth 100000 in
set_option maxHeartbeats 8000000 in
theorem CheckBasin_any {w : World} {B0 n c : Nat} {A : Option Addr} {F S : Nat → Int} {rim : Int} {s : ByteArray} (h : Pa w B0 A n F S) (hn : n ≤ maxLen) (hs : s.size ≤ 1000000000) :
    Calls Try.prog 55 #[.agg #[.string s, .slice A n c, .int .i64 rim]] w fun e w' => ∃ r : Int, e = .returned (.int .i64 r) ∧ Hid (Cb (nameB s) n F S rim r) ∧ Below w.heap.size w w' := by
  have hb0 := alo (W := w) (o := (.cells #[.string s, .slice A n c, .int .i64 rim] 53))
  have j1 := Bk.of_alloc w (.cells #[.string s, .slice A n c, .int .i64 rim] 53) rfl
  have h0 := h.below hb0
  obtain ⟨g, hg⟩ : ∃ g, w.heap.size = g := ⟨_, rfl⟩
  clear h
  have hn' := hid hn
  clear hn
  by_cases hm : nameB s = true
  · go_enter Try.func55, Try.ntmps55
    go_wp2_with (((with_reducible refine (IsName_any _ _ hs).mono ?_); rintro e w' ⟨rfl, rfl⟩))
    have HM := hid hm
    clear hm
    refine (sizeError_any s h0 hn'.out).mono ?_
    rintro e w2 ⟨r, rfl, hz, hb⟩
    have HE := hid (show Cb (nameB s) n F S rim r from .inr ⟨HM.out, hz.out⟩)
    have HB := hid (bthen hb0 hb (Nat.le_refl _))
    clear hb hb0 h0 j1 hz
    go_wp2
    go_ret
    exact ⟨r, rfl, HE, HB.out⟩
  · have hm' := Bool.eq_false_iff.2 hm
    have HE := hid (show Cb (nameB s) n F S rim 4 from .inl ⟨hm', rfl⟩)
    clear hm
    go_enter Try.func55, Try.ntmps55
    go_wp2_with (((with_reducible refine (IsName_any _ _ hs).mono ?_); rintro e w' ⟨rfl, rfl⟩))
    go_ret
    exact ⟨4, rfl, HE, hb0⟩

set_option maxRecDepth 100000 in
set_option maxHeartbeats 8000000 in
theorem rCheckBasin_any {w : World} {B0 n c : Nat} {A : Option Addr} {F S : Nat → Int} {rim : Int} {s : ByteArray} (h : Pa w B0 A n F S) (hn : n ≤ maxLen) (hs : s.size ≤ 1000000000) :
    Calls Try.prog 66 #[.agg #[.string s, .slice A n c, .int .i64 rim]] w fun e w' => ∃ r : Int, e = .returned (.int .i64 r) ∧ Hid (Cb (nameB s) n F S rim r) ∧ Below w.heap.size w w' := by
  unfold maxLen at hn
  have hb0 := alo (W := w) (o := (.cells #[.string s, .slice A n c, .int .i64 rim] 53))
  have j1 := Bk.of_alloc w (.cells #[.string s, .slice A n c, .int .i64 rim] 53) rfl
  have h0 := h.below hb0
  obtain ⟨g, hg⟩ : ∃ g, w.heap.size = g := ⟨_, rfl⟩
  clear h
  by_cases hm : nameB s = true
  · have hsz : ∀ r, Sz n F S rim r → Hid (Cb (nameB s) n F S rim r) := fun r hz => hid (.inr ⟨hm, hz⟩)
    by_cases hn0 : n = 0
    · have HE := hsz 2 (.inl ⟨by omega, rfl⟩)
      have hq : ((n : Int) == 0) = true := by rw [beq_iff_eq]; omega
      clear hsz
      have hn0' := hid hn0
      clear hn0
      go_enter Try.func66, Try.ntmps66
      go_wp2_with (((with_reducible refine (rIsName_any _ _ hs).mono ?_); rintro e w' ⟨rfl, rfl⟩))
      go_ret
      exact ⟨2, rfl, HE, hb0⟩
    · have hq : ((n : Int) == 0) = false := by rw [beq_eq_false_iff_ne]; omega
      by_cases h20 : 20 < n
      · have HE := hsz 2 (.inl ⟨by omega, rfl⟩)
        have hd : decide ((20 : Int) < (n : Int)) = true := decide_eq_true (by omega)
        clear hsz
        go_enter Try.func66, Try.ntmps66
        go_wp2_with (((with_reducible refine (rIsName_any _ _ hs).mono ?_); rintro e w' ⟨rfl, rfl⟩))
        go_ret
        exact ⟨2, rfl, HE, hb0⟩
      · have hd : decide ((20 : Int) < (n : Int)) = false := decide_eq_false (by omega)
        have Hsz := hid hsz
        clear hsz
        go_enter Try.func66, Try.ntmps66
        go_wp2_with (((with_reducible refine (rIsName_any _ _ hs).mono ?_); rintro e w' ⟨rfl, rfl⟩))
        rw [hg] at j1
        generalize w.alloc (.cells #[.string s, .slice A n c, .int .i64 rim] 53) = W0 at *
        have HB0 := hid hb0
        have Hg := hid hg
        clear hb0 hg hq hd hm
        go_loopw [3, 4] (fun iv _ wr => ∃ (i : Nat), i ≤ n ∧ iv = .int .i64 i ∧ Hid (∀ j, j < i → Ga F S j) ∧ Below W0.heap.size W0 wr) (fun iv _ _ => n - (intOf iv).toNat)
        case atStart => exact ⟨0, Nat.zero_le _, rfl, hid (fun j hj => absurd hj (Nat.not_lt_zero _)), Below.refl _ _⟩
        case round =>
          obtain ⟨i, hi, rfl, HN, hbel⟩ := hrel
          have hw := h0.below hbel
          have j2 := j1.step hbel
          have Hbel := hid hbel
          have hBE := hid (bthen HB0.out hbel (Nat.le_refl _))
          clear hbel
          obtain ⟨x0, x1, x2⟩ := j2.c3
          by_cases hlt : i < n
          · obtain ⟨ad, hA, hl, q0, q1, qf, qs⟩ := hw.at_ i hlt
            subst hA
            have hl2 := Nat.lt_of_lt_of_le hl hw.le
            have j3 := j2.alloc (.cells #[.int .i64 (F i), .int .i64 (S i)] 96)
            obtain ⟨gb, hgb⟩ : ∃ gb, wr.heap.size = gb := ⟨_, rfl⟩
            have jb := Bk.of_alloc wr (.cells #[.int .i64 (F i), .int .i64 (S i)] 96) hgb
            have ha := alo (W := wr) (o := (.cells #[.int .i64 (F i), .int .i64 (S i)] 96))
            have hwa := hw.below ha
            have Hba := hid (Hbel.out.trans (ha.mono Hbel.out.size))
            have HBa := hid (bthen hBE.out ha (Nat.le_refl _))
            clear hw ha j2
            by_cases hF : inB (F i) (-1000000) 1000000 = true
            · have hF' := inB_iff.1 hF
              by_cases hS : inB (S i) 1 1000000 = true
              · have hS' := inB_iff.1 hS
                have HR := hid (show Rg F S i from ⟨hF', hS'⟩)
                go_wp2_with fail
                generalize wr.alloc (.cells #[.int .i64 (F i), .int .i64 (S i)] 96) = wa at *
                clear x0 x1 x2 q0 q1
                obtain ⟨x0, x1, x2⟩ := j3.c3
                obtain ⟨b0, b1⟩ := jb.c2
                refine (inside_any _ _ _ _).mono ?_
                rintro e w' ⟨rfl, rfl⟩
                by_cases hp : 0 < i
                · obtain ⟨ad', hA', hl', p0, p1, pf, ps⟩ := hwa.at_ (i - 1) (by omega)
                  injection hA' with hA'
                  subst hA'
                  have hip : (decide ((0 : Int) < (i : Int))) = true := decide_eq_true (by omega)
                  have hip2 : (decide (0 < i)) = true := decide_eq_true hp
                  have hi1 : (1 : Int) ≤ (i : Int) := by omega
                  by_cases ho : F (i - 1) < F i
                  · have hod : decide (F i ≤ F (i - 1)) = false := decide_eq_false (by omega)
                    have HG := hid (show Ga F S i from ⟨HR.out, fun _ => ho⟩)
                    go_wp2_with (((with_reducible refine (inside_any _ _ _ _).mono ?_); rintro e w' ⟨rfl, rfl⟩))
                    have w1 : IntKind.i64.wrap ((i : Int) - 1) = (i : Int) - 1 := IntWalk.i64_in _ (by omega)
                    have w2 : ((i : Int) - 1).toNat = i - 1 := by omega
                    have w3 : (0 : Int) ≤ (i : Int) - 1 := by omega
                    have w4 : (i : Int) - 1 < (n : Int) := by omega
                    go_quiet (fail)
                    clear w1 w2 w3 w4
                    go_wp2
                    go_roundw
                    case rel => exact ⟨i + 1, by omega, by go_num, hid (fun j hj => by rcases Nat.lt_or_ge j i with h | h; exact HN.out j h; have : j = i := (by omega); subst this; exact HG.out), Hba.out.drewN' _⟩
                    case measure => simp [intOf]; omega
                  · have hod : decide (F i ≤ F (i - 1)) = true := decide_eq_true (by omega)
                    have HE := Hsz.out 10 (.inr ⟨by omega, .inl ⟨i, hlt, HN.out, .inr ⟨HR.out, hp, by omega, rfl⟩⟩⟩)
                    go_wp2_with (((with_reducible refine (inside_any _ _ _ _).mono ?_); rintro e w' ⟨rfl, rfl⟩))
                    have w1 : IntKind.i64.wrap ((i : Int) - 1) = (i : Int) - 1 := IntWalk.i64_in _ (by omega)
                    have w2 : ((i : Int) - 1).toNat = i - 1 := by omega
                    have w3 : (0 : Int) ≤ (i : Int) - 1 := by omega
                    have w4 : (i : Int) - 1 < (n : Int) := by omega
                    go_quiet (fail)
                    clear w1 w2 w3 w4
                    go_wp2
                    go_ret
                    exact ⟨10, rfl, HE, HBa.out.drewN' _⟩
                · have hip : (decide ((0 : Int) < (i : Int))) = false := decide_eq_false (by omega)
                  have hip2 : (decide (0 < i)) = false := decide_eq_false hp
                  have HG := hid (show Ga F S i from ⟨HR.out, fun h => absurd h hp⟩)
                  go_wp2_with (((with_reducible refine (inside_any _ _ _ _).mono ?_); rintro e w' ⟨rfl, rfl⟩))
                  go_quiet (fail)
                  go_wp2
                  go_roundw
                  case rel => exact ⟨i + 1, by omega, by go_num, hid (fun j hj => by rcases Nat.lt_or_ge j i with h | h; exact HN.out j h; have : j = i := (by omega); subst this; exact HG.out), Hba.out.drewN' _⟩
                  case measure => simp [intOf]; omega
              · have hS0 := Bool.eq_false_iff.2 hS
                have HE := Hsz.out 2 (.inr ⟨by omega, .inl ⟨i, hlt, HN.out, .inl ⟨fun hg => hS (inB_t hg.2), rfl⟩⟩⟩)
                clear hS
                go_wp2_with (((with_reducible refine (inside_any _ _ _ _).mono ?_); rintro e w' ⟨rfl, rfl⟩))
                go_ret
                exact ⟨2, rfl, HE, HBa.out⟩
            · have hF0 := Bool.eq_false_iff.2 hF
              have HE := Hsz.out 2 (.inr ⟨by omega, .inl ⟨i, hlt, HN.out, .inl ⟨fun hg => hF (inB_t hg.1), rfl⟩⟩⟩)
              clear hF
              go_wp2_with (((with_reducible refine (inside_any _ _ _ _).mono ?_); rintro e w' ⟨rfl, rfl⟩))
              go_ret
              exact ⟨2, rfl, HE, HBa.out⟩
          · obtain rfl : i = n := by omega
            obtain ⟨ad, hA, hl, q0, q1, qf, qs⟩ := hw.at_ (i - 1) (by omega)
            subst hA
            have hb := (HN.out (i - 1) (by omega)).1.1
            have w1 : IntKind.i64.wrap ((i : Int) - 1) = (i : Int) - 1 := IntWalk.i64_in _ (by omega)
            have w2 : ((i : Int) - 1).toNat = i - 1 := by omega
            have w3 : (0 : Int) ≤ (i : Int) - 1 := by omega
            have w5 : (1 : Int) ≤ (i : Int) := by omega
            have w4 : (i : Int) - 1 < (i : Int) := by omega
            have ok1 := hid (fun (h1 : F (i - 1) < rim) (h2 : rim ≤ 1000000) => Hsz.out 0 (.inr ⟨by omega, .inr ⟨HN.out, .inr ⟨⟨h1, h2⟩, rfl⟩⟩⟩))
            have ok2 := hid (fun (h1 : ¬ (F (i - 1) < rim ∧ rim ≤ 1000000)) => Hsz.out 2 (.inr ⟨by omega, .inr ⟨HN.out, .inl ⟨h1, rfl⟩⟩⟩))
            by_cases hm1 : F (i - 1) < rim
            · have d1 : decide (rim ≤ F (i - 1)) = false := decide_eq_false (by omega)
              by_cases hm2 : rim ≤ 1000000
              · have HE := ok1.out hm1 hm2
                have d2 : decide (1000000 < rim) = false := decide_eq_false (by omega)
                go_wp2
                go_quiet (fail)
                go_wp2
                go_ret
                exact ⟨0, rfl, HE, hBE.out.drewN' _⟩
              · have HE := ok2.out (fun hx => hm2 hx.2)
                have d2 : decide (1000000 < rim) = true := decide_eq_true (by omega)
                go_wp2
                go_quiet (fail)
                go_wp2
                go_ret
                exact ⟨2, rfl, HE, hBE.out.drewN' _⟩
            · have HE := ok2.out (fun hx => hm1 hx.1)
              have d1 : decide (rim ≤ F (i - 1)) = true := decide_eq_true (by omega)
              go_wp2
              go_quiet (fail)
              go_wp2
              go_ret
              exact ⟨2, rfl, HE, hBE.out.drewN' _⟩
  · have hm' := Bool.eq_false_iff.2 hm
    have HE := hid (show Cb (nameB s) n F S rim 4 from .inl ⟨hm', rfl⟩)
    clear hm
    go_enter Try.func66, Try.ntmps66
    go_wp2_with (((with_reducible refine (rIsName_any _ _ hs).mono ?_); rintro e w' ⟨rfl, rfl⟩))
    go_ret
    exact ⟨4, rfl, HE, hb0⟩

end Go.Proofs.Ytockfiobhmohnaa

namespace Go.Proofs.Wb
section
variable {F S : Nat → Int} {n : Nat} {rim : Int}
/-- Above the level there is nothing. -/
theorem wterm_above (B : Bas F S n rim) {a : Int} {i j : Nat} (h : a ≤ F i) (hij : i ≤ j) (hj : j < n) : wterm F S n a j = 0 := by
  have h1 := F_mono B j i hij hj
  have h2 : wtop F n a j ≤ a := by unfold wtop; split <;> omega
  unfold wterm
  rw [if_neg (by omega)]
theorem wsum_above (B : Bas F S n rim) {a : Int} {i : Nat} (h : a ≤ F i) : ∀ k, i ≤ k → k ≤ n → wsum F S n a k = wsum F S n a i
  | 0, hi, _ => by have : i = 0 := by omega
                   subst this; rfl
  | k + 1, hi, hk => by
    by_cases e : i = k + 1
    · subst e; rfl
    · have ih := wsum_above B h k (by omega) (by omega)
      have h1 := wterm_above B h (j := k) (by omega) (by omega)
      simp only [wsum]; omega
theorem below_above (B : Bas F S n rim) {a : Int} {i : Nat} (h : a ≤ F i) (hi : i ≤ n) : wbelow F S n a = wsum F S n a i := wsum_above B h n hi (Nat.le_refl _)
theorem wsum_step {a t : Int} {i : Nat} (ht : wtop F n a i = t) (h : F i < t) : wsum F S n a (i + 1) = wsum F S n a i + S i * (t - F i) := by
  simp only [wsum, wterm]; rw [ht, if_pos h]
theorem wsum_stay {a t : Int} {i : Nat} (ht : wtop F n a i = t) (h : ¬ F i < t) : wsum F S n a (i + 1) = wsum F S n a i := by
  simp only [wsum, wterm]; rw [ht, if_neg h]; omega
theorem prod_le (B : Bas F S n rim) {t : Int} {i : Nat} (hi : i < n) (h : F i < t) (ht : t ≤ 1000000) : 0 ≤ S i * (t - F i) ∧ S i * (t - F i) ≤ 2000000000000 := by
  have h1 := B.f i hi
  have h2 := B.s i hi
  refine ⟨Int.mul_nonneg (by omega) (by omega), ?_⟩
  calc S i * (t - F i) ≤ S i * 2000000 := Int.mul_le_mul_of_nonneg_left (by omega) (by omega)
    _ ≤ 1000000 * 2000000 := Int.mul_le_mul_of_nonneg_right h2.2 (by omega)
    _ = 2000000000000 := by decide
theorem prod_le' (B : Bas F S n rim) {t : Int} {i : Nat} (hi : i < n) (h : F i < t) (ht : t ≤ 1000000) : 0 ≤ (t - F i) * S i ∧ (t - F i) * S i ≤ 2000000000000 := by
  rw [Int.mul_comm]; exact prod_le B hi h ht
end
end Go.Proofs.Wb
namespace Go.Proofs.Ytockfiobhmohnaa
open Go.RowKit Kb Wb

set_option maxRecDepth 100000 in
set_option maxHeartbeats 8000000 in
theorem volume_any {w : World} {B0 n c : Nat} {A : Option Addr} {F S : Nat → Int} {rim lv : Int} (s : ByteArray) (h : Pa w B0 A n F S) (B : Bas F S n rim) (h1 : -1000000 ≤ lv) (h2 : lv ≤ 1000000) :
    Calls Try.prog 57 #[.agg #[.string s, .slice A n c, .int .i64 rim], .int .i64 lv] w fun e w' => e = .returned (.int .i64 (wbelow F S n lv)) ∧ Below w.heap.size w w' := by
  have hn := B.most
  have hb0 := alo (W := w) (o := (.cells #[.string s, .slice A n c, .int .i64 rim] 53))
  have j1 := Bk.of_alloc w (.cells #[.string s, .slice A n c, .int .i64 rim] 53) rfl
  have h0 := h.below hb0
  obtain ⟨g, hg⟩ : ∃ g, w.heap.size = g := ⟨_, rfl⟩
  clear h
  go_enter Try.func57, Try.ntmps57
  go_wp2_with fail
  rw [hg] at j1
  generalize w.alloc (.cells #[.string s, .slice A n c, .int .i64 rim] 53) = W0 at *
  have HB0 := hid hb0
  have Hg := hid hg
  clear hb0 hg
  go_loopw [5, 12] (fun sv iv wr => ∃ (i : Nat), i ≤ n ∧ iv = .int .i64 i ∧ sv = .int .i64 (wsum F S n lv i) ∧ Below W0.heap.size W0 wr) (fun _ iv _ => n - (intOf iv).toNat)
  case atStart => exact ⟨0, Nat.zero_le _, rfl, rfl, Below.refl _ _⟩
  case round =>
    obtain ⟨i, hi, rfl, rfl, hbel⟩ := hrel
    have hw := h0.below hbel
    have j2 := j1.step hbel
    have Hbel := hid hbel
    have hBE := hid (bthen HB0.out hbel (Nat.le_refl _))
    have hsr := wsum_range B h2 i hi
    clear hbel
    obtain ⟨x0, x1, x2⟩ := j2.c3
    obtain ⟨V, hV⟩ : ∃ V, wsum F S n lv i = V := ⟨_, rfl⟩
    rw [hV] at hsr ⊢
    by_cases hlt : i < n
    · obtain ⟨ad, hA, hl, q0, q1, qf, qs⟩ := hw.at_ i hlt
      subst hA
      have hl2 := Nat.lt_of_lt_of_le hl hw.le
      have hf := B.f i hlt
      have hs := B.s i hlt
      have j3 := j2.alloc (.cells #[.int .i64 (F i), .int .i64 (S i)] 96)
      obtain ⟨gb, hgb⟩ : ∃ gb, wr.heap.size = gb := ⟨_, rfl⟩
      have jb := Bk.of_alloc wr (.cells #[.int .i64 (F i), .int .i64 (S i)] 96) hgb
      have ha := alo (W := wr) (o := (.cells #[.int .i64 (F i), .int .i64 (S i)] 96))
      have hwa := hw.below ha
      have Hba := hid (Hbel.out.trans (ha.mono Hbel.out.size))
      have HBa := hid (bthen hBE.out ha (Nat.le_refl _))
      have HV := hid hV
      clear hV hw ha j2
      have brk := hid (fun (hx : lv ≤ F i) => (below_above B hx hi).trans HV.out)
      go_upto_region 5 with (fail)
      generalize wr.alloc (.cells #[.int .i64 (F i), .int .i64 (S i)] 96) = wa at *
      have Hgb := hid hgb
      clear x0 x1 x2 q0 q1 hgb
      obtain ⟨x0, x1, x2⟩ := j3.c3
      obtain ⟨b0, b1⟩ := jb.c2
      by_cases hx : i + 1 < n
      · obtain ⟨ad', hA', hl', p0, p1, pf, ps⟩ := hwa.at_ (i + 1) (by omega)
        injection hA' with hA'
        subst hA'
        have hf2 := B.f (i + 1) hx
        have hup := B.up i hx
        have hd : decide ((i : Int) + 1 < (n : Int)) = true := decide_eq_true (by omega)
        by_cases hm : lv ≤ F (i + 1)
        · have ht : wtop F n lv i = lv := by unfold wtop; rw [if_pos hx]; omega
          by_cases hc : lv ≤ F i
          · have HE := hid (brk.out hc)
            clear ht
            go_wp2
            go_ret
            exact ⟨ret_int HE.out.symm, HBa.out⟩
          · have hp := prod_le' B hlt (t := lv) (by omega) h2
            have hst := hid (wsum_step (S := S) ht (by omega))
            clear ht
            go_wp2
            go_roundw
            case rel => exact ⟨i + 1, by omega, by go_num, by rw [hst.out, HV.out, Int.mul_comm (S i)], Hba.out⟩
            case measure => simp [intOf]; omega
        · have ht : wtop F n lv i = F (i + 1) := by unfold wtop; rw [if_pos hx]; omega
          have hp := prod_le' B hlt (t := F (i + 1)) hup hf2.2
          have hst := hid (wsum_step (S := S) ht hup)
          have hm2 : F (i + 1) < lv := by omega
          clear ht hm
          go_wp2
          go_roundw
          case rel => exact ⟨i + 1, by omega, by go_num, by rw [hst.out, HV.out, Int.mul_comm (S i)], Hba.out⟩
          case measure => simp [intOf]; omega
      · have ht : wtop F n lv i = lv := by unfold wtop; rw [if_neg hx]
        have hd : decide ((i : Int) + 1 < (n : Int)) = false := decide_eq_false (by omega)
        by_cases hc : lv ≤ F i
        · have HE := hid (brk.out hc)
          clear ht
          go_wp2
          go_ret
          exact ⟨ret_int HE.out.symm, HBa.out⟩
        · have hp := prod_le' B hlt (t := lv) (by omega) h2
          have hst := hid (wsum_step (S := S) ht (by omega))
          clear ht
          go_wp2
          go_roundw
          case rel => exact ⟨i + 1, by omega, by go_num, by rw [hst.out, HV.out, Int.mul_comm (S i)], Hba.out⟩
          case measure => simp [intOf]; omega
    · obtain rfl : i = n := by omega
      have HV := hid hV
      clear hV
      go_wp2
      go_ret
      exact ⟨ret_int HV.out.symm, hBE.out⟩

end Go.Proofs.Ytockfiobhmohnaa

namespace Go.Proofs.Ytockfiobhmohnaa
open Go.RowKit Kb Wb

set_option maxRecDepth 100000 in
set_option maxHeartbeats 8000000 in
theorem rBelow_any {w : World} {B0 n c : Nat} {A : Option Addr} {F S : Nat → Int} {rim lv : Int} (s : ByteArray) (h : Pa w B0 A n F S) (B : Bas F S n rim) (h1 : -1000000 ≤ lv) (h2 : lv ≤ 1000000) :
    Calls Try.prog 45 #[.agg #[.string s, .slice A n c, .int .i64 rim], .int .i64 lv] w fun e w' => e = .returned (.int .i64 (wbelow F S n lv)) ∧ Below w.heap.size w w' := by
  have hn := B.most
  have hb0 := alo (W := w) (o := (.cells #[.string s, .slice A n c, .int .i64 rim] 53))
  have j1 := Bk.of_alloc w (.cells #[.string s, .slice A n c, .int .i64 rim] 53) rfl
  have h0 := h.below hb0
  obtain ⟨g, hg⟩ : ∃ g, w.heap.size = g := ⟨_, rfl⟩
  clear h
  go_enter Try.func45, Try.ntmps45
  go_wp2_with fail
  rw [hg] at j1
  generalize w.alloc (.cells #[.string s, .slice A n c, .int .i64 rim] 53) = W0 at *
  have HB0 := hid hb0
  have Hg := hid hg
  clear hb0 hg
  go_loopw [5, 6, 7] (fun sv iv _ wr => ∃ (i : Nat), i ≤ n ∧ iv = .int .i64 i ∧ sv = .int .i64 (wsum F S n lv i) ∧ Below W0.heap.size W0 wr) (fun _ iv _ _ => n - (intOf iv).toNat)
  case atStart => exact ⟨0, Nat.zero_le _, rfl, rfl, Below.refl _ _⟩
  case round =>
    obtain ⟨i, hi, rfl, rfl, hbel⟩ := hrel
    have hw := h0.below hbel
    have j2 := j1.step hbel
    have Hbel := hid hbel
    have hBE := hid (bthen HB0.out hbel (Nat.le_refl _))
    have hsr := wsum_range B h2 i hi
    clear hbel
    obtain ⟨x0, x1, x2⟩ := j2.c3
    obtain ⟨V, hV⟩ : ∃ V, wsum F S n lv i = V := ⟨_, rfl⟩
    rw [hV] at hsr ⊢
    have HV := hid hV
    clear hV
    by_cases hlt : i < n
    · obtain ⟨ad, hA, hl, q0, q1, qf, qs⟩ := hw.at_ i hlt
      subst hA
      have hl2 := Nat.lt_of_lt_of_le hl hw.le
      have hf := B.f i hlt
      have hs := B.s i hlt
      by_cases hx : i + 1 < n
      · obtain ⟨ad', hA', hl', p0, p1, pf, ps⟩ := hw.at_ (i + 1) (by omega)
        injection hA' with hA'
        subst hA'
        have hf2 := B.f (i + 1) hx
        have hup := B.up i hx
        have hd : decide ((i : Int) + 1 < (n : Int)) = true := decide_eq_true (by omega)
        by_cases hm : lv ≤ F (i + 1)
        · have ht : wtop F n lv i = lv := by unfold wtop; rw [if_pos hx]; omega
          by_cases hc : F i < lv
          · have hp := prod_le B hlt (t := lv) (by omega) h2
            have hst := hid (wsum_step (S := S) ht (by omega))
            clear ht
            go_wp2
            have w1 : IntKind.i64.wrap (lv - F i) = lv - F i := IntWalk.i64_in _ (by omega)
            have w2 : IntKind.i64.wrap (S i * (lv - F i)) = S i * (lv - F i) := IntWalk.i64_in _ (by omega)
            have w3 : IntKind.i64.wrap (V + S i * (lv - F i)) = V + S i * (lv - F i) := IntWalk.i64_in _ (by omega)
            go_quiet (fail)
            clear w1 w2 w3
            go_wp2
            go_roundw
            case rel => exact ⟨i + 1, by omega, by go_num, by rw [hst.out, HV.out], Hbel.out.drewN' _⟩
            case measure => simp [intOf]; omega
          · have hst := hid (wsum_stay (S := S) ht hc)
            clear ht
            go_wp2
            go_roundw
            case rel => exact ⟨i + 1, by omega, by go_num, by rw [hst.out, HV.out], Hbel.out⟩
            case measure => simp [intOf]; omega
        · have ht : wtop F n lv i = F (i + 1) := by unfold wtop; rw [if_pos hx]; omega
          have hp := prod_le B hlt (t := F (i + 1)) hup hf2.2
          have hst := hid (wsum_step (S := S) ht hup)
          have hm2 : F (i + 1) < lv := by omega
          clear ht hm
          go_wp2
          have w1 : IntKind.i64.wrap (F (i + 1) - F i) = F (i + 1) - F i := IntWalk.i64_in _ (by omega)
          have w2 : IntKind.i64.wrap (S i * (F (i + 1) - F i)) = S i * (F (i + 1) - F i) := IntWalk.i64_in _ (by omega)
          have w3 : IntKind.i64.wrap (V + S i * (F (i + 1) - F i)) = V + S i * (F (i + 1) - F i) := IntWalk.i64_in _ (by omega)
          go_quiet (fail)
          clear w1 w2 w3
          go_wp2
          go_roundw
          case rel => exact ⟨i + 1, by omega, by go_num, by rw [hst.out, HV.out], Hbel.out.drewN' _⟩
          case measure => simp [intOf]; omega
      · have ht : wtop F n lv i = lv := by unfold wtop; rw [if_neg hx]
        have hd : decide ((i : Int) + 1 < (n : Int)) = false := decide_eq_false (by omega)
        by_cases hc : F i < lv
        · have hp := prod_le B hlt (t := lv) (by omega) h2
          have hst := hid (wsum_step (S := S) ht (by omega))
          clear ht
          go_wp2
          have w1 : IntKind.i64.wrap (lv - F i) = lv - F i := IntWalk.i64_in _ (by omega)
          have w2 : IntKind.i64.wrap (S i * (lv - F i)) = S i * (lv - F i) := IntWalk.i64_in _ (by omega)
          have w3 : IntKind.i64.wrap (V + S i * (lv - F i)) = V + S i * (lv - F i) := IntWalk.i64_in _ (by omega)
          go_quiet (fail)
          clear w1 w2 w3
          go_wp2
          go_roundw
          case rel => exact ⟨i + 1, by omega, by go_num, by rw [hst.out, HV.out], Hbel.out.drewN' _⟩
          case measure => simp [intOf]; omega
        · have hst := hid (wsum_stay (S := S) ht hc)
          clear ht
          go_wp2
          go_roundw
          case rel => exact ⟨i + 1, by omega, by go_num, by rw [hst.out, HV.out], Hbel.out⟩
          case measure => simp [intOf]; omega
    · obtain rfl : i = n := by omega
      go_wp2
      go_ret
      exact ⟨ret_int HV.out.symm, hBE.out⟩

set_option maxRecDepth 100000 in
theorem capacity_any {w : World} {B0 n c : Nat} {A : Option Addr} {F S : Nat → Int} {rim : Int} (s : ByteArray) (h : Pa w B0 A n F S) (B : Bas F S n rim) :
    Calls Try.prog 58 #[.agg #[.string s, .slice A n c, .int .i64 rim]] w fun e w' => e = .returned (.int .i64 (wbelow F S n rim)) ∧ Below w.heap.size w w' := by
  have hr := B.rm
  have hr0 := floor_rim B
  have hf0 := B.f 0 B.pos
  have hb0 := alo (W := w) (o := (.cells #[.string s, .slice A n c, .int .i64 rim] 53))
  have h0 := h.below hb0
  go_enter Try.func58, Try.ntmps58
  go_wp2_with fail
  refine (volume_any s h0 B (by omega) hr).mono ?_
  rintro e w2 ⟨rfl, hb⟩
  have HB := hid (bthen hb0 hb (Nat.le_refl _))
  clear hb hb0 h0
  go_wp2
  go_ret
  exact ⟨rfl, HB.out⟩
set_option maxRecDepth 100000 in
theorem rCapacity_any {w : World} {B0 n c : Nat} {A : Option Addr} {F S : Nat → Int} {rim : Int} (s : ByteArray) (h : Pa w B0 A n F S) (B : Bas F S n rim) :
    Calls Try.prog 17 #[.agg #[.string s, .slice A n c, .int .i64 rim]] w fun e w' => e = .returned (.int .i64 (wbelow F S n rim)) ∧ Below w.heap.size w w' := by
  have hr := B.rm
  have hr0 := floor_rim B
  have hf0 := B.f 0 B.pos
  have hb0 := alo (W := w) (o := (.cells #[.string s, .slice A n c, .int .i64 rim] 53))
  have h0 := h.below hb0
  go_enter Try.func17, Try.ntmps17
  go_wp2_with fail
  refine (rBelow_any s h0 B (by omega) hr).mono ?_
  rintro e w2 ⟨rfl, hb⟩
  have HB := hid (bthen hb0 hb (Nat.le_refl _))
  clear hb hb0 h0
  go_wp2
  go_ret
  exact ⟨rfl, HB.out⟩
set_option maxRecDepth 100000 in
theorem rFloor_any {w : World} {B0 n c : Nat} {A : Option Addr} {F S : Nat → Int} {rim : Int} (s : ByteArray) (h : Pa w B0 A n F S) (hn : 0 < n) :
    Calls Try.prog 87 #[.agg #[.string s, .slice A n c, .int .i64 rim]] w fun e w' => e = .returned (.int .i64 (F 0)) ∧ Below w.heap.size w w' := by
  have hb0 := alo (W := w) (o := (.cells #[.string s, .slice A n c, .int .i64 rim] 53))
  have j1 := Bk.of_alloc w (.cells #[.string s, .slice A n c, .int .i64 rim] 53) rfl
  have h0 := h.below hb0
  obtain ⟨ad, hA, hl, q0, q1, qf, qs⟩ := h0.at_ 0 hn
  subst hA
  rw [Nat.zero_mul, addr_zero] at q0
  go_enter Try.func87, Try.ntmps87
  go_wp2_with fail
  go_ret
  exact ⟨rfl, hb0⟩
set_option maxRecDepth 100000 in
theorem isLevelOf_any {w : World} {B0 n c : Nat} {A : Option Addr} {F S : Nat → Int} {rim : Int} (s : ByteArray) (lv : Int) (h : Pa w B0 A n F S) (hn : 0 < n) :
    Calls Try.prog 56 #[.agg #[.string s, .slice A n c, .int .i64 rim], .int .i64 lv] w fun e w' => e = .returned (.bool (inB lv (F 0) rim)) ∧ Below w.heap.size w w' := by
  have hb0 := alo (W := w) (o := (.cells #[.string s, .slice A n c, .int .i64 rim] 53))
  have j1 := Bk.of_alloc w (.cells #[.string s, .slice A n c, .int .i64 rim] 53) rfl
  have h0 := h.below hb0
  obtain ⟨ad, hA, hl, q0, q1, qf, qs⟩ := h0.at_ 0 hn
  subst hA
  rw [Nat.zero_mul, addr_zero] at q0
  go_enter Try.func56, Try.ntmps56
  go_wp2_with fail
  obtain ⟨x0, x1, x2⟩ := j1.c3
  generalize w.alloc (.cells #[.string s, .slice (some ad) n c, .int .i64 rim] 53) = W0 at *
  have HB := hid hb0
  clear hb0
  go_quiet ((exact Calls.quiet_of_same ((Within_any _ _ _ _).mono fun _ _ ⟨ha, hb⟩ => ⟨ha, hb.symm⟩)))
  go_wp2
  go_ret
  exact ⟨rfl, HB.out.drewN' _⟩

end Go.Proofs.Ytockfiobhmohnaa

namespace Go.Proofs.Wb
section
variable {F S : Nat → Int} {n : Nat} {rim : Int}
theorem wsum_low (B : Bas F S n rim) {a b : Int} {i : Nat} (hi : i < n) (ha : F i ≤ a) (hb : F i ≤ b) : ∀ k, k ≤ i → wsum F S n a k = wsum F S n b k
  | 0, _ => rfl
  | k + 1, hk => by
    have ih := wsum_low B hi ha hb k (by omega)
    have h1 := F_mono B i (k + 1) (by omega) hi
    have t1 : wtop F n a k = F (k + 1) := by unfold wtop; rw [if_pos (by omega)]; omega
    have t2 : wtop F n b k = F (k + 1) := by unfold wtop; rw [if_pos (by omega)]; omega
    simp only [wsum, wterm, t1, t2, ih]
/-- The volume within one part. -/
theorem below_in (B : Bas F S n rim) {lv : Int} {i : Nat} (hi : i < n) (h1 : F i ≤ lv) (h2 : i + 1 < n → lv ≤ F (i + 1)) : wbelow F S n lv = wbelow F S n (F i) + S i * (lv - F i) := by
  have e1 : wbelow F S n (F i) = wsum F S n (F i) i := below_above B (Int.le_refl _) (by omega)
  have e2 : wbelow F S n lv = wsum F S n lv (i + 1) := by
    by_cases hx : i + 1 < n
    · exact below_above B (h2 hx) (by omega)
    · have : i + 1 = n := by omega
      unfold wbelow; rw [this]
  have ht : wtop F n lv i = lv := by
    unfold wtop
    split
    · have := h2 (by assumption); omega
    · rfl
  rw [e1, e2, wsum_low B hi (Int.le_refl (F i)) h1 i (Nat.le_refl _)]
  by_cases hc : F i < lv
  · exact wsum_step ht hc
  · rw [wsum_stay ht hc, show lv - F i = 0 by omega, Int.mul_zero]; omega
theorem div_mul_le {r s : Int} (hs : 1 ≤ s) : s * (r / s) ≤ r ∧ r < s * (r / s + 1) := by
  have h1 := Int.mul_ediv_add_emod r s
  have h2 := Int.emod_nonneg r (b := s) (by omega)
  have h3 := Int.emod_lt_of_pos r (b := s) (by omega)
  rw [Int.mul_add]
  omega
/-- The level within one part. -/
theorem Lev.of_part (B : Bas F S n rim) {v r : Int} {i : Nat} (hi : i < n) (hr : v - wbelow F S n (F i) = r) (h0 : 0 ≤ r) (hx : i + 1 < n → r < (F (i + 1) - F i) * S i) (hv : v ≤ wbelow F S n rim) : Lev F S n rim v (F i + r / S i) := by
  have hs := B.s i hi
  have hf := F_mono B i 0 (by omega) hi
  have hq := div_mul_le (r := r) hs.1
  have hq0 : 0 ≤ r / S i := Int.ediv_nonneg h0 (by omega)
  have hrim : F i < rim := by have := F_mono B (n - 1) i (by omega) (by omega); have := B.rl; omega
  obtain ⟨q, hqe⟩ : ∃ q, r / S i = q := ⟨_, rfl⟩
  rw [hqe] at hq hq0 ⊢
  have up : i + 1 < n → F i + q < F (i + 1) := fun h => by
    have h1 := hx h
    have h2 : S i * q < S i * (F (i + 1) - F i) := by rw [Int.mul_comm (S i) (F (i + 1) - F i)]; omega
    have := Int.lt_of_mul_lt_mul_left h2 (by omega)
    omega
  have hir : F i + q ≤ rim := by
    by_cases h : i + 1 < n
    · have h1 := up h
      have h2 := F_mono B (n - 1) (i + 1) (by omega) (by omega)
      have := B.rl
      omega
    · have h1 := below_in B hi (lv := rim) (by omega) (fun hh => absurd hh h)
      have h2 : S i * q ≤ S i * (rim - F i) := by omega
      have := Int.le_of_mul_le_mul_left h2 (by omega)
      omega
  have b1 := below_in B hi (lv := F i + q) (by omega) (fun h => by have := up h; omega)
  have b2 := below_in B hi (lv := F i + q + 1) (by omega) (fun h => by have := up h; omega)
  rw [show F i + q - F i = q by omega] at b1
  rw [show F i + q + 1 - F i = q + 1 by omega] at b2
  exact ⟨by omega, hir, by omega, fun _ => by omega⟩
theorem below_next (B : Bas F S n rim) {i : Nat} (hi : i + 1 < n) : wbelow F S n (F (i + 1)) = wbelow F S n (F i) + S i * (F (i + 1) - F i) :=
  below_in B (by omega) (by have := B.up i hi; omega) (fun _ => Int.le_refl _)
theorem Lev.exists (B : Bas F S n rim) {v : Int} (h0 : 0 ≤ v) (hv : v ≤ wbelow F S n rim) : ∃ l, Lev F S n rim v l := by
  suffices H : ∀ k i, i + k + 1 = n → 0 ≤ v - wbelow F S n (F i) → ∃ l, Lev F S n rim v l from H (n - 1) 0 (by have := B.pos; omega) (by rw [below_floor B (Int.le_refl _)]; omega)
  intro k
  induction k with
  | zero => intro i hi h; exact ⟨_, Lev.of_part B (i := i) (by omega) rfl h (fun hh => by omega) hv⟩
  | succ k ih =>
    intro i hi h
    by_cases hx : v - wbelow F S n (F i) < (F (i + 1) - F i) * S i
    · exact ⟨_, Lev.of_part B (i := i) (by omega) rfl h (fun _ => hx) hv⟩
    · refine ih (i + 1) (by omega) ?_
      rw [below_next B (by omega), Int.mul_comm (S i)]
      omega
end
end Go.Proofs.Wb
namespace Go.Proofs.Ytockfiobhmohnaa
open Go.RowKit Kb Wb

/-- A basin in a box. -/
structure Bx (w : World) (g : Nat) (s : ByteArray) (A : Option Addr) (n c : Nat) (rim : Int) (B0 : Nat) (F S : Nat → Int) : Prop where
  b : Bk w g (.cells #[.string s, .slice A n c, .int .i64 rim] 53)
  a : Pa w B0 A n F S
section
variable {w w' : World} {g : Nat} {s : ByteArray} {A : Option Addr} {n c : Nat} {rim : Int} {B0 : Nat} {F S : Nat → Int}
theorem Bx.below (h : Bx w g s A n c rim B0 F S) (hb : Below w.heap.size w w') : Bx w' g s A n c rim B0 F S := ⟨h.b.step hb, h.a.below hb⟩
theorem Bx.drewN (h : Bx w g s A n c rim B0 F S) (k : Nat) : Bx (w.drewN k) g s A n c rim B0 F S := h.below (below_drewN (Below.refl _ _) k)
theorem Bx.cells (h : Bx w g s A n c rim B0 F S) : w.cell? ⟨g, 0, none⟩ = some (.string s) ∧ w.cell? ⟨g, 1, none⟩ = some (.slice A n c) ∧ w.cell? ⟨g, 2, none⟩ = some (.int .i64 rim) := h.b.c3
theorem Bx.new (s : ByteArray) (c : Nat) (rim : Int) (h : Pa w B0 A n F S) (hg : w.heap.size = g) : Bx (w.alloc (.cells #[.string s, .slice A n c, .int .i64 rim] 53)) g s A n c rim B0 F S := ⟨Bk.of_alloc w _ hg, h.below alo⟩
end

set_option maxRecDepth 100000 in
set_option maxHeartbeats 8000000 in
theorem rLevelOf_any {w : World} {B0 n c : Nat} {A : Option Addr} {F S : Nat → Int} {rim v l : Int} (s : ByteArray) (h : Pa w B0 A n F S) (B : Bas F S n rim) (h0 : 0 ≤ v) (hL : Lev F S n rim v l) :
    Calls Try.prog 72 #[.agg #[.string s, .slice A n c, .int .i64 rim], .int .i64 v] w fun e w' => e = .returned (.int .i64 l) ∧ Below w.heap.size w w' := by
  have hr := B.rm
  have hr0 := floor_rim B
  have hf0 := B.f 0 B.pos
  have hn := B.pos
  have hb0 := alo (W := w) (o := (.cells #[.string s, .slice A n c, .int .i64 rim] 53))
  obtain ⟨g, hg⟩ : ∃ g, w.heap.size = g := ⟨_, rfl⟩
  have K := Bx.new s c rim h hg
  go_enter Try.func72, Try.ntmps72
  go_wp2_with fail
  generalize w.alloc (.cells #[.string s, .slice A n c, .int .i64 rim] 53) = W0 at *
  have HB0 := hid hb0
  have Hg := hid hg
  have Hh := hid h
  clear hb0 hg h
  have K0 : Bx W0.drew g s A n c rim B0 F S := K.below dr0
  go_region_held3 (fun w' => w'.cell? ⟨g, 0, none⟩ = some (.string s) ∧ w'.cell? ⟨g, 1, none⟩ = some (.slice A n c) ∧ w'.cell? ⟨g, 2, none⟩ = some (.int .i64 rim)) (first | with_reducible exact Bx.cells K0 | with_reducible exact Bx.cells K1) (first
    | (go_at_call 87; with_reducible refine (rFloor_any s K0.a hn).mono ?_; rintro e w1 ⟨rfl, hb1⟩; have K1 := K0.below hb1))
  have HB1 := hid (bthen HB0.out.drew hb1 (Nat.le_refl _))
  clear hb1 K0 K
  go_wp2_with fail
  go_loopw [5, 6, 7] (fun lv hv _ wr => ∃ (lo hi : Int), lv = .int .i64 lo ∧ hv = .int .i64 hi ∧ Hid (F 0 ≤ lo ∧ lo ≤ hi ∧ hi ≤ rim ∧ wbelow F S n lo ≤ v ∧ (hi < rim → v < wbelow F S n (hi + 1))) ∧ Below w1.heap.size w1 wr) (fun lv hv _ _ => (intOf hv - intOf lv).toNat)
  case atStart => exact ⟨F 0, rim, rfl, rfl, hid ⟨by omega, by omega, by omega, by rw [below_floor B (Int.le_refl _)]; exact h0, fun h => by omega⟩, Below.refl _ _⟩
  case round =>
    obtain ⟨lo, hi, rfl, rfl, HI, hbel⟩ := hrel
    have K2 := K1.below hbel
    have Hbel := hid hbel
    have hBE := hid (bthen HB1.out hbel (Nat.le_refl _))
    have i1 := HI.out.1
    have i2 := HI.out.2.1
    have i3 := HI.out.2.2.1
    clear hbel
    obtain ⟨x0, x1, x2⟩ := K2.cells
    by_cases hlt : lo < hi
    · obtain ⟨M, hM⟩ : ∃ M, lo + (hi - lo + 1) / 2 = M := ⟨_, rfl⟩
      have m1 : lo < M := by omega
      have m2 : M ≤ hi := by omega
      have hv1 := hid (below_mono B (a := F 0) (b := M) (by omega))
      have HM := hid hM
      by_cases hle : wbelow F S n M ≤ v
      · have HI2 := hid (show F 0 ≤ M ∧ M ≤ hi ∧ hi ≤ rim ∧ wbelow F S n M ≤ v ∧ (hi < rim → v < wbelow F S n (hi + 1)) from ⟨by omega, by omega, by omega, hle, HI.out.2.2.2.2⟩)
        go_wp2_with fail
        refine (rBelow_any s K2.a B (by omega) (by omega)).mono ?_
        rintro e w2 ⟨rfl, hb2⟩
        have HB2 := hid (Hbel.out.trans (hb2.mono Hbel.out.size))
        clear hb2 hM x0 x1 x2 hv1
        go_wp2
        go_roundw
        case rel => exact ⟨M, hi, rfl, rfl, HI2, HB2.out⟩
        case measure => simp [intOf]; omega
      · have hle2 : v < wbelow F S n M := by omega
        have HI2 := hid (show F 0 ≤ lo ∧ lo ≤ M - 1 ∧ M - 1 ≤ rim ∧ wbelow F S n lo ≤ v ∧ (M - 1 < rim → v < wbelow F S n (M - 1 + 1)) from ⟨by omega, by omega, by omega, HI.out.2.2.2.1, fun _ => by rw [Int.sub_add_cancel]; exact hle2⟩)
        clear hle
        go_wp2_with fail
        refine (rBelow_any s K2.a B (by omega) (by omega)).mono ?_
        rintro e w2 ⟨rfl, hb2⟩
        have HB2 := hid (Hbel.out.trans (hb2.mono Hbel.out.size))
        clear hb2 hM x0 x1 x2 hv1
        go_wp2
        go_roundw
        case rel => exact ⟨lo, M - 1, rfl, rfl, HI2, HB2.out⟩
        case measure => simp [intOf]; omega
    · have e : lo = hi := by omega
      have HE := hid (show lo = l from (Lev.step HI.out.1 HI.out.2.2.1 HI.out.2.2.2.1 HI.out.2.2.2.2 e).same B hL)
      clear e
      go_wp2
      go_ret
      exact ⟨ret_int HE.out, hBE.out⟩

set_option maxRecDepth 100000 in
set_option maxHeartbeats 8000000 in
theorem levelOf_any {w : World} {B0 n c : Nat} {A : Option Addr} {F S : Nat → Int} {rim v l : Int} (s : ByteArray) (h : Pa w B0 A n F S) (B : Bas F S n rim) (hc : n ≤ c) (hcm : c ≤ maxLen) (h0 : 0 ≤ v) (hv : v ≤ wbelow F S n rim) (hL : Lev F S n rim v l) :
    Calls Try.prog 54 #[.agg #[.string s, .slice A n c, .int .i64 rim], .int .i64 v] w fun e w' => e = .returned (.int .i64 l) ∧ Below w.heap.size w w' := by
  have hcm2 : c ≤ 9223372036854775807 := by unfold maxLen at hcm; omega
  have hr := B.rm
  have hr0 := floor_rim B
  have hn := B.pos
  have hm := B.most
  have hvb := (below_nonneg B hr).2
  have hb0 := alo (W := w) (o := (.cells #[.string s, .slice A n c, .int .i64 rim] 53))
  obtain ⟨g, hg⟩ : ∃ g, w.heap.size = g := ⟨_, rfl⟩
  have K := Bx.new s c rim h hg
  obtain ⟨ad, hA, -, -, -, -, -⟩ := h.at_ 0 hn
  subst hA
  have n1 : (1 : Int) ≤ (n : Int) := by omega
  have n2 : ((n : Int) - 1).toNat = n - 1 := by omega
  go_enter Try.func54, Try.ntmps54
  go_wp2_with fail
  generalize w.alloc (.cells #[.string s, .slice (some ad) n c, .int .i64 rim] 53) = W0 at *
  have HB0 := hid hb0
  have Hg := hid hg
  have Hh := hid h
  clear hb0 hg h
  go_loopw [1, 18] (fun lv iv wr => ∃ (i : Nat) (r : Int), i + 1 ≤ n ∧ iv = .int .i64 i ∧ lv = .int .i64 r ∧ Hid (v - wbelow F S n (F i) = r) ∧ 0 ≤ r ∧ r ≤ 40000000000000 ∧ Below W0.heap.size W0 wr) (fun _ iv _ => n - (intOf iv).toNat)
  case atStart => exact ⟨0, v, hn, rfl, rfl, hid (by rw [below_floor B (Int.le_refl _)]; omega), h0, by omega, Below.refl _ _⟩
  case round =>
    obtain ⟨i, r, hi, rfl, rfl, HR, hr1, hr2, hbel⟩ := hrel
    have K2 := K.below hbel
    have Hbel := hid hbel
    have hBE := hid (bthen HB0.out hbel (Nat.le_refl _))
    clear hbel
    obtain ⟨x0, x1, x2⟩ := K2.cells
    obtain ⟨ad', hA, hl, q0, q1, qf, qs⟩ := K2.a.at_ i hi
    injection hA with hA
    subst hA
    have hf := B.f i hi
    have hs := B.s i hi
    by_cases hlt : i < n - 1
    · have hl2 := Nat.lt_of_lt_of_le hl K2.a.le
      have hf2 := B.f (i + 1) (by omega)
      have hup := B.up i (by omega)
      obtain ⟨gb, hgb⟩ : ∃ gb, wr.heap.size = gb := ⟨_, rfl⟩
      have jb := Bk.of_alloc wr (.cells #[.int .i64 (F i), .int .i64 (S i)] 96) hgb
      have ha := alo (W := wr) (o := (.cells #[.int .i64 (F i), .int .i64 (S i)] 96))
      have K3 := K2.below ha
      have Hba := hid (Hbel.out.trans (ha.mono Hbel.out.size))
      have HBa := hid (bthen hBE.out ha (Nat.le_refl _))
      clear ha K2
      have hp := prod_le' B (i := i) (by omega) (t := F (i + 1)) hup hf2.2
      have hnx := hid (below_next B (i := i) (by omega))
      go_upto_region 5 with (fail)
      generalize wr.alloc (.cells #[.int .i64 (F i), .int .i64 (S i)] 96) = wa at *
      have Hgb := hid hgb
      clear x0 x1 x2 q0 q1 hgb
      obtain ⟨x0, x1, x2⟩ := K3.cells
      obtain ⟨b0, b1⟩ := jb.c2
      obtain ⟨ad', hA', hl', p0, p1, pf, ps⟩ := K3.a.at_ (i + 1) (by omega)
      injection hA' with hA'
      subst hA'
      obtain ⟨P, hP⟩ : ∃ P, (F (i + 1) - F i) * S i = P := ⟨_, rfl⟩
      rw [hP] at hp
      have w1 : IntKind.i64.wrap ((i : Int) + 1) = (i : Int) + 1 := IntWalk.i64_in _ (by omega)
      have w2 : ((i : Int) + 1).toNat = i + 1 := by omega
      have w3 : (0 : Int) ≤ (i : Int) + 1 := by omega
      have w4 : (i : Int) + 1 < (n : Int) := by omega
      have w5 : IntKind.i64.wrap (F (i + 1) - F i) = F (i + 1) - F i := IntWalk.i64_in _ (by omega)
      have w6 : IntKind.i64.wrap ((F (i + 1) - F i) * S i) = P := by rw [hP]; exact IntWalk.i64_in _ (by omega)
      have HP := hid hP
      clear hP
      go_quiet (fail)
      clear w1 w2 w3 w4 w5 w6
      by_cases hrp : r < P
      · have HE := hid (show F i + r / S i = l from (Lev.of_part B (i := i) (by omega) HR.out hr1 (fun _ => by rw [HP.out]; exact hrp) hv).same B hL)
        have hdv := div_mul_le (r := r) hs.1
        have hdv0 : 0 ≤ r / S i := Int.ediv_nonneg hr1 (by omega)
        have hdv1 : r / S i ≤ r := Int.ediv_le_self _ hr1
        have hF0 : I64 (F i + r / S i) := ⟨by omega, by omega⟩
        go_wp2
        have y1 : r.tdiv (S i) = r / S i := Int.tdiv_eq_ediv_of_nonneg hr1
        have y2 : IntKind.i64.wrap (r / S i) = r / S i := IntWalk.i64_in _ (by omega)
        have y3 : IntKind.i64.wrap (F i + r / S i) = F i + r / S i := IntWalk.i64_in _ (by omega)
        have y4 : ¬ S i = 0 := by omega
        have y5 : (S i == 0) = false := by rw [beq_eq_false_iff_ne]; omega
        go_quiet (fail)
        clear y1 y2 y3 y4 y5
        go_wp2
        go_ret
        exact ⟨ret_int HE.out, (HBa.out.drewN' _).drewN' _⟩
      · have HR2 := hid (show v - wbelow F S n (F (i + 1)) = r - P by rw [hnx.out, Int.mul_comm (S i), HP.out]; have := HR.out; omega)
        go_wp2
        go_roundw
        case rel => exact ⟨i + 1, r - P, by omega, by go_num, rfl, HR2, by omega, by omega, Hba.out.drewN' _⟩
        case measure => simp [intOf]; omega
    · obtain rfl : i = n - 1 := by omega
      have HE := hid (show F (n - 1) + r / S (n - 1) = l from (Lev.of_part B (i := n - 1) (by omega) HR.out hr1 (fun h => by omega) hv).same B hL)
      have hdv := div_mul_le (r := r) hs.1
      have hdv0 : 0 ≤ r / S (n - 1) := Int.ediv_nonneg hr1 (by omega)
      have hdv1 : r / S (n - 1) ≤ r := Int.ediv_le_self _ hr1
      go_wp2
      have w1 : IntKind.i64.wrap ((n : Int) - 1) = (n : Int) - 1 := IntWalk.i64_in _ (by omega)
      have w3 : (0 : Int) ≤ (n : Int) - 1 := by omega
      have w4 : (n : Int) - 1 < (n : Int) := by omega
      have y1 : r.tdiv (S (n - 1)) = r / S (n - 1) := Int.tdiv_eq_ediv_of_nonneg hr1
      have y2 : IntKind.i64.wrap (r / S (n - 1)) = r / S (n - 1) := IntWalk.i64_in _ (by omega)
      have y3 : IntKind.i64.wrap (F (n - 1) + r / S (n - 1)) = F (n - 1) + r / S (n - 1) := IntWalk.i64_in _ (by omega)
      have y4 : ¬ S (n - 1) = 0 := by omega
      have y5 : (S (n - 1) == 0) = false := by rw [beq_eq_false_iff_ne]; omega
      go_quiet (fail)
      clear w1 w3 w4 y1 y2 y3 y4 y5
      go_wp2
      go_ret
      exact ⟨ret_int HE.out, hBE.out.drewN' _⟩

end Go.Proofs.Ytockfiobhmohnaa

namespace Go.Proofs.Ytockfiobhmohnaa
open Go.RowKit Kb Wb

/-- What Volume tells. -/
def Vo (nm : Bool) (n : Nat) (F S : Nat → Int) (rim lv r e : Int) : Prop := ∃ q, Cb nm n F S rim q ∧ ((q ≠ 0 ∧ r = 0 ∧ e = q) ∨ (q = 0 ∧ ((¬ (F 0 ≤ lv ∧ lv ≤ rim) ∧ r = 0 ∧ e = 2) ∨ ((F 0 ≤ lv ∧ lv ≤ rim) ∧ r = wbelow F S n lv ∧ e = 0))))
/-- What Level tells. -/
def Lo (nm : Bool) (n : Nat) (F S : Nat → Int) (rim v r e : Int) : Prop := ∃ q, Cb nm n F S rim q ∧ ((q ≠ 0 ∧ r = 0 ∧ e = q) ∨ (q = 0 ∧ ((¬ (0 ≤ v ∧ v ≤ wbelow F S n rim) ∧ r = 0 ∧ e = 2) ∨ ((0 ≤ v ∧ v ≤ wbelow F S n rim) ∧ Lev F S n rim v r ∧ e = 0))))
theorem Vo.same {nm : Bool} {n : Nat} {F S : Nat → Int} {rim lv r e r' e' : Int} (h : Vo nm n F S rim lv r e) (k : Vo nm n F S rim lv r' e') : r = r' ∧ e = e' := by
  obtain ⟨q, hq, h⟩ := h
  obtain ⟨p, hp, k⟩ := k
  have := hq.same hp
  subst this
  rcases h with ⟨h0, h1, h2⟩ | ⟨h0, ⟨h1, h2, h3⟩ | ⟨h1, h2, h3⟩⟩ <;> rcases k with ⟨k0, k1, k2⟩ | ⟨k0, ⟨k1, k2, k3⟩ | ⟨k1, k2, k3⟩⟩ <;> first | exact absurd k0 h0 | exact absurd h0 k0 | exact absurd k1 h1 | exact absurd h1 k1 | exact ⟨by omega, by omega⟩
theorem Lo.same {nm : Bool} {n : Nat} {F S : Nat → Int} {rim lv r e r' e' : Int} (h : Lo nm n F S rim lv r e) (k : Lo nm n F S rim lv r' e') : r = r' ∧ e = e' := by
  obtain ⟨q, hq, h⟩ := h
  obtain ⟨p, hp, k⟩ := k
  have := hq.same hp
  subst this
  rcases h with ⟨h0, h1, h2⟩ | ⟨h0, ⟨h1, h2, h3⟩ | ⟨h1, h2, h3⟩⟩ <;> rcases k with ⟨k0, k1, k2⟩ | ⟨k0, ⟨k1, k2, k3⟩ | ⟨k1, k2, k3⟩⟩ <;> first | exact absurd k0 h0 | exact absurd h0 k0 | exact absurd k1 h1 | exact absurd h1 k1 | exact ⟨by omega, by omega⟩ | (subst h0; exact ⟨h2.same hq.bas k2, by omega⟩)


set_option maxRecDepth 100000 in
set_option maxHeartbeats 8000000 in
theorem Volume_any {w : World} {B0 n c : Nat} {A : Option Addr} {F S : Nat → Int} {rim : Int} {s : ByteArray} (lv : Int) (h : Pa w B0 A n F S) (hn : n ≤ maxLen) (hs : s.size ≤ 1000000000) :
    Calls Try.prog 30 #[.agg #[.string s, .slice A n c, .int .i64 rim], .int .i64 lv] w fun e w' => ∃ r x : Int, e = .returned (.tuple #[.int .i64 r, .int .i64 x]) ∧ Hid (Vo (nameB s) n F S rim lv r x) ∧ Below w.heap.size w w' := by
  have hb0 := alo (W := w) (o := (.cells #[.string s, .slice A n c, .int .i64 rim] 53))
  obtain ⟨g, hg⟩ : ∃ g, w.heap.size = g := ⟨_, rfl⟩
  have K := Bx.new s c rim h hg
  have hn' := hid hn
  clear hn
  go_enter Try.func30, Try.ntmps30
  go_wp2_with fail
  generalize w.alloc (.cells #[.string s, .slice A n c, .int .i64 rim] 53) = W0 at *
  have HB0 := hid hb0
  have Hg := hid hg
  have Hh := hid h
  clear hb0 hg h
  refine (CheckBasin_any K.a hn'.out hs).mono ?_
  rintro e w2 ⟨q, rfl, hz, hb⟩
  have K2 := K.below hb
  have HB := hid (bthen HB0.out hb (Nat.le_refl _))
  clear hb K
  obtain ⟨x0, x1, x2⟩ := K2.cells
  by_cases hq : q = 0
  · subst hq
    have HZ : Hid (Cb (nameB s) n F S rim 0) := hz
    have B := hz.out.bas
    have hpos := B.pos
    have hrm := B.rm
    have hf0 := (B.f 0 hpos).1
    by_cases hl : inB lv (F 0) rim = true
    · have hl' := inB_iff.1 hl
      have HE := hid (show Vo (nameB s) n F S rim lv (wbelow F S n lv) 0 from ⟨0, HZ.out, .inr ⟨rfl, .inr ⟨hl', rfl, rfl⟩⟩⟩)
      go_wp2_with fail
      refine (isLevelOf_any s lv K2.a hpos).mono ?_
      rintro e w3 ⟨rfl, hb3⟩
      have K3 := K2.below hb3
      have HB3 := hid (bthen HB.out hb3 (Nat.le_refl _))
      clear hb3 x0 x1 x2 K2
      obtain ⟨x0, x1, x2⟩ := K3.cells
      go_wp2_with fail
      refine (volume_any s K3.a B (by omega) (by omega)).mono ?_
      rintro e w4 ⟨rfl, hb4⟩
      have HB4 := hid (bthen HB3.out hb4 (Nat.le_refl _))
      clear hb4 x0 x1 x2 K3
      go_wp2
      go_ret2
      exact ⟨_, _, rfl, HE, HB4.out⟩
    · have HE := hid (show Vo (nameB s) n F S rim lv 0 2 from ⟨0, HZ.out, .inr ⟨rfl, .inl ⟨fun hx => hl (inB_t hx), rfl, rfl⟩⟩⟩)
      have hl0 := Bool.eq_false_iff.2 hl
      clear hl
      go_wp2_with fail
      refine (isLevelOf_any s lv K2.a hpos).mono ?_
      rintro e w3 ⟨rfl, hb3⟩
      have K3 := K2.below hb3
      have HB3 := hid (bthen HB.out hb3 (Nat.le_refl _))
      clear hb3 x0 x1 x2 K2
      obtain ⟨x0, x1, x2⟩ := K3.cells
      go_wp2
      go_ret2
      exact ⟨_, _, rfl, HE, HB3.out⟩
  · have HE := hid (show Vo (nameB s) n F S rim lv 0 q from ⟨q, hz.out, .inl ⟨hq, rfl, rfl⟩⟩)
    have hq1 : (q != 0) = true := by rw [bne_iff_ne]; exact hq
    clear hq hz
    go_wp2
    go_ret2
    exact ⟨_, _, rfl, HE, HB.out⟩

set_option maxRecDepth 100000 in
set_option maxHeartbeats 8000000 in
theorem Level_any {w : World} {B0 n c : Nat} {A : Option Addr} {F S : Nat → Int} {rim : Int} {s : ByteArray} (v : Int) (h : Pa w B0 A n F S) (hc : n ≤ c) (hcm : c ≤ maxLen) (hs : s.size ≤ 1000000000) :
    Calls Try.prog 32 #[.agg #[.string s, .slice A n c, .int .i64 rim], .int .i64 v] w fun e w' => ∃ r x : Int, e = .returned (.tuple #[.int .i64 r, .int .i64 x]) ∧ Hid (Lo (nameB s) n F S rim v r x) ∧ Below w.heap.size w w' := by
  have hb0 := alo (W := w) (o := (.cells #[.string s, .slice A n c, .int .i64 rim] 53))
  obtain ⟨g, hg⟩ : ∃ g, w.heap.size = g := ⟨_, rfl⟩
  have K := Bx.new s c rim h hg
  have hc' := hid hc
  have hcm' := hid hcm
  clear hc hcm
  go_enter Try.func32, Try.ntmps32
  go_wp2_with fail
  generalize w.alloc (.cells #[.string s, .slice A n c, .int .i64 rim] 53) = W0 at *
  have HB0 := hid hb0
  have Hg := hid hg
  have Hh := hid h
  clear hb0 hg h
  refine (CheckBasin_any K.a (Nat.le_trans hc'.out hcm'.out) hs).mono ?_
  rintro e w2 ⟨q, rfl, hz, hb⟩
  have K2 := K.below hb
  have HB := hid (bthen HB0.out hb (Nat.le_refl _))
  clear hb K
  obtain ⟨x0, x1, x2⟩ := K2.cells
  by_cases hq : q = 0
  · subst hq
    have HZ : Hid (Cb (nameB s) n F S rim 0) := hz
    have B := hz.out.bas
    go_wp2_with fail
    refine (capacity_any s K2.a B).mono ?_
    rintro e w3 ⟨rfl, hb3⟩
    have K3 := K2.below hb3
    have HB3 := hid (bthen HB.out hb3 (Nat.le_refl _))
    clear hb3 x0 x1 x2 K2
    obtain ⟨x0, x1, x2⟩ := K3.cells
    by_cases hl : inB v 0 (wbelow F S n rim) = true
    · have hl' := inB_iff.1 hl
      obtain ⟨l, hL⟩ := Lev.exists B hl'.1 hl'.2
      have HE := hid (show Lo (nameB s) n F S rim v l 0 from ⟨0, HZ.out, .inr ⟨rfl, .inr ⟨hl', hL, rfl⟩⟩⟩)
      go_wp2_with (((with_reducible refine (Within_any _ _ _ _).mono ?_); rintro e w' ⟨rfl, rfl⟩))
      refine (levelOf_any s K3.a B hc'.out hcm'.out hl'.1 hl'.2 hL).mono ?_
      rintro e w4 ⟨rfl, hb4⟩
      have HB4 := hid (bthen HB3.out hb4 (Nat.le_refl _))
      clear hb4 x0 x1 x2 K3
      go_wp2
      go_ret2
      exact ⟨_, _, rfl, HE, HB4.out⟩
    · have HE := hid (show Lo (nameB s) n F S rim v 0 2 from ⟨0, HZ.out, .inr ⟨rfl, .inl ⟨fun hx => hl (inB_t hx), rfl, rfl⟩⟩⟩)
      have hl0 := Bool.eq_false_iff.2 hl
      clear hl
      go_wp2_with (((with_reducible refine (Within_any _ _ _ _).mono ?_); rintro e w' ⟨rfl, rfl⟩))
      go_ret2
      exact ⟨_, _, rfl, HE, HB3.out⟩
  · have HE := hid (show Lo (nameB s) n F S rim v 0 q from ⟨q, hz.out, .inl ⟨hq, rfl, rfl⟩⟩)
    have hq1 : (q != 0) = true := by rw [bne_iff_ne]; exact hq
    clear hq hz
    go_wp2
    go_ret2
    exact ⟨_, _, rfl, HE, HB.out⟩

end Go.Proofs.Ytockfiobhmohnaa

namespace Go.Proofs.Ytockfiobhmohnaa
open Go.RowKit Kb Wb

def tubF (i : Nat) : Int := if i = 0 then 0 else 1000
def tubS (i : Nat) : Int := if i = 0 then 100 else 200
theorem tub_up : ∀ i, i + 1 < 2 → tubF i < tubF (i + 1) := fun i h => by
  have : i = 0 := by omega
  subst this
  decide
theorem tub_bas : Bas tubF tubS 2 3000 := ⟨by decide, by decide, by decide, by decide, tub_up, by decide, by decide⟩
theorem tub_name : nameB ⟨#[65]⟩ = true := nameB_t ⟨by decide, by decide, fun i b h => by
  match i with
  | 0 => injection h with h; subst h; exact .inl (letB_t (by decide))
  | i + 1 => cases h⟩
theorem tub_cb {q : Int} (h : Cb (nameB ⟨#[65]⟩) 2 tubF tubS 3000 q) : q = 0 := by
  rcases h with ⟨h, _⟩ | ⟨_, h⟩
  · rw [tub_name] at h; cases h
  · exact h.of_bas tub_bas
theorem tub_vo {r x : Int} (h : Vo (nameB ⟨#[65]⟩) 2 tubF tubS 3000 1500 r x) : r = 200000 ∧ x = 0 := by
  obtain ⟨q, hq, h⟩ := h
  have := tub_cb hq
  rcases h with ⟨h0, _⟩ | ⟨_, ⟨h1, _⟩ | ⟨_, h2, h3⟩⟩
  · exact absurd this h0
  · exact absurd (by decide) h1
  · exact ⟨by rw [h2]; decide, h3⟩
theorem tub_lo {r x : Int} (h : Lo (nameB ⟨#[65]⟩) 2 tubF tubS 3000 100199 r x) : r = 1000 ∧ x = 0 := by
  obtain ⟨q, hq, h⟩ := h
  have := tub_cb hq
  rcases h with ⟨h0, _⟩ | ⟨_, ⟨h1, _⟩ | ⟨_, h2, h3⟩⟩
  · exact absurd this h0
  · exact absurd (by decide) h1
  · exact ⟨h2.same tub_bas ⟨by decide, by decide, by decide, by decide⟩, h3⟩

set_option maxRecDepth 100000 in
set_option maxHeartbeats 8000000 in
theorem tub_any (w : World) :
    Calls Try.prog 31 #[] w fun e w' => ∃ A, e = .returned (.agg #[.string ⟨#[65]⟩, .slice A 2 2, .int .i64 3000]) ∧ Pa w' w'.heap.size A 2 tubF tubS ∧ Below w.heap.size w w' := by
  have hb := ((Below.refl w.heap.size w).alloc (Nat.le_refl _) (.cells #[.string ⟨#[65]⟩, .slice (some ⟨w.heap.size + 1, 0, none⟩) 2 2, .int .i64 3000] 53)).alloc (by simp) (.cells #[.int .i64 0, .int .i64 100, .int .i64 1000, .int .i64 200] 96)
  have j1 := (Bk.of_alloc w (.cells #[.string ⟨#[65]⟩, .slice (some ⟨w.heap.size + 1, 0, none⟩) 2 2, .int .i64 3000] 53) rfl).alloc (.cells #[.int .i64 0, .int .i64 100, .int .i64 1000, .int .i64 200] 96)
  have j2 : Bk _ (w.heap.size + 1) _ := Bk.of_alloc (w.alloc (.cells #[.string ⟨#[65]⟩, .slice (some ⟨w.heap.size + 1, 0, none⟩) 2 2, .int .i64 3000] 53)) (.cells #[.int .i64 0, .int .i64 100, .int .i64 1000, .int .i64 200] 96) (by simp)
  obtain ⟨g, hg⟩ : ∃ g, w.heap.size = g := ⟨_, rfl⟩
  have hb' : Below w.heap.size w ((w.alloc (.cells #[.string ⟨#[65]⟩, .slice (some ⟨g + 1, 0, none⟩) 2 2, .int .i64 3000] 53)).alloc (.cells #[.int .i64 0, .int .i64 100, .int .i64 1000, .int .i64 200] 96)) := by rw [← hg]; exact hb
  clear hb
  rw [hg] at j1 j2
  go_enter Try.func31, Try.ntmps31
  go_wp2_with fail
  generalize (w.alloc (.cells #[.string ⟨#[65]⟩, .slice (some ⟨g + 1, 0, none⟩) 2 2, .int .i64 3000] 53)).alloc (.cells #[.int .i64 0, .int .i64 100, .int .i64 1000, .int .i64 200] 96) = W at *
  obtain ⟨x0, x1, x2⟩ := j1.c3
  have hP : Pa W W.heap.size (some ⟨g + 1, 0, none⟩) 2 tubF tubS := ⟨fun i hi => by
    have hh := fun k => cell_of_row W (g + 1) k _ 96 (0, 0) j2
    match i, hi with
    | 0, _ => exact ⟨_, rfl, j2.lt, (hh 0).trans rfl, (hh 1).trans rfl, ⟨by decide, by decide⟩, ⟨by decide, by decide⟩⟩
    | 1, _ => exact ⟨_, rfl, j2.lt, (hh 2).trans rfl, (hh 3).trans rfl, ⟨by decide, by decide⟩, ⟨by decide, by decide⟩⟩, Nat.le_refl _⟩
  exact bodyPost_ret (v := .agg #[.string ⟨#[65]⟩, .slice (some ⟨g + 1, 0, none⟩) 2 2, .int .i64 3000]) (by simp [results, Try.results31, go_sem, x0, x1, x2]) rfl ⟨_, rfl, hP, hb'⟩

set_option maxRecDepth 100000 in
set_option maxHeartbeats 8000000 in
theorem awake_any (w : World) :
    Calls Try.prog 7 #[] w fun e w' => e = .returned (.bool true) ∧ Below w.heap.size w w' := by
  go_enter Try.func7, Try.ntmps7
  go_wp2_with fail
  refine (tub_any _).mono ?_
  rintro e w1 ⟨A1, rfl, hP1, hb1⟩
  go_wp2_with fail
  refine (Volume_any (s := ⟨#[65]⟩) 1500 hP1 (by decide) (by decide)).mono ?_
  rintro e w2 ⟨r, x, rfl, hE, hb2⟩
  obtain ⟨rfl, rfl⟩ := tub_vo hE.out
  have HB2 := hid (bthen hb1 hb2 (Nat.le_refl _))
  clear hE hb1 hb2 hP1
  go_wp2_with fail
  refine (tub_any _).mono ?_
  rintro e w3 ⟨A3, rfl, hP3, hb3⟩
  have HB3 := hid (bthen HB2.out hb3 (Nat.le_refl _))
  clear hb3
  go_wp2_with fail
  refine (Level_any (s := ⟨#[65]⟩) 100199 hP3 (Nat.le_refl _) (by decide) (by decide)).mono ?_
  rintro e w4 ⟨r, x, rfl, hE, hb4⟩
  obtain ⟨rfl, rfl⟩ := tub_lo hE.out
  have HB4 := hid (bthen HB3.out hb4 (Nat.le_refl _))
  clear hE hb4 hP3
  go_wp2
  go_ret
  exact ⟨rfl, HB4.out⟩

end Go.Proofs.Ytockfiobhmohnaa

