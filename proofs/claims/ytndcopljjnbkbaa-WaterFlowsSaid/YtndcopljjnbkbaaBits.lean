/- Shifts, masks and disjunctions of machine words as sums and quotients. For all words within the bounds. -/
import Derived.WalkKit
import Derived.WalkSpells
import Derived.WalkLawsBesides
import Derived.Test.YtndcopljjnbkbaaNum
namespace Kb
open Go

theorem or_nat {i v x : Nat} (hv : v < 2 ^ i) : v ||| (2 ^ i * x) = v + 2 ^ i * x := by
  rw [Nat.or_comm, ← Nat.two_pow_add_eq_or_of_lt hv, Nat.add_comm]
theorem pow16 (k : Nat) : (65536 : Nat) ^ k = 2 ^ (16 * k) := by
  rw [Nat.pow_mul]
theorem pow16_int (k : Nat) : (2 : Int) ^ (16 * k) = ((65536 ^ k : Nat) : Int) := by
  rw [pow16]; simp
theorem pow_lt_64 {k : Nat} (hk : k ≤ 4) : 65536 ^ k ≤ 18446744073709551616 := by
  match k, hk with
  | 0, _ => decide
  | 1, _ => decide
  | 2, _ => decide
  | 3, _ => decide
  | 4, _ => decide
theorem or_word {k v x : Nat} (hk : k < 4) (hv : v < 65536 ^ k) (hx : x < 65536) :
    bits .or .u64 (v : Int) (IntKind.u64.wrap (IntKind.u64.wrap (x : Int) * 2 ^ (16 * k))) = ((v + 65536 ^ k * x : Nat) : Int) := by
  have h1 : 65536 ^ (k + 1) ≤ 18446744073709551616 := pow_lt_64 hk
  have h2 : 65536 ^ k * x < 65536 ^ (k + 1) := by
    rw [Nat.pow_succ]; exact Nat.mul_lt_mul_of_pos_left hx (Nat.pow_pos (by decide))
  have e1 : IntKind.u64.wrap (x : Int) = (x : Int) := by rw [IntKind.wrap_u64]; omega
  have e2 : IntKind.u64.wrap (IntKind.u64.wrap (x : Int) * 2 ^ (16 * k)) = ((65536 ^ k * x : Nat) : Int) := by
    rw [e1, pow16_int, IntKind.wrap_u64, Int.mul_comm, ← Int.natCast_mul]
    omega
  have h3 : 65536 ^ k ≤ 18446744073709551616 := pow_lt_64 (by omega)
  rw [e2, u64_or_nat _ _ (by omega) (by omega)]
  rw [pow16] at hv ⊢
  rw [or_nat hv]

theorem u16_of (s : Nat) : IntKind.u16.wrap (s : Int) = ((s % 65536 : Nat) : Int) := by rw [IntKind.wrap_u16]; omega
theorem u32_of {s : Nat} (h : s < 4294967296) : IntKind.u32.wrap (s : Int) = (s : Int) := by rw [IntKind.wrap_u32']; omega
theorem u64_of {s : Nat} (h : s < 18446744073709551616) : IntKind.u64.wrap (s : Int) = (s : Int) := by rw [IntKind.wrap_u64]; omega

theorem sub_digit {x y br : Nat} {S : Int} (hx : x < 65536) (hy : y < 65536) (hbr : br ≤ 1) (hS : S = (x : Int) - br - y) :
    ∃ d br' : Nat, d < 65536 ∧ br' ≤ 1 ∧ d + y + br = x + 65536 * br' ∧ S % 4294967296 / 2147483648 = (br' : Int) ∧ IntKind.u16.wrap (S % 4294967296) = (d : Int) := by
  subst hS
  by_cases h : y + br ≤ x
  · exact ⟨x - y - br, 0, by omega, by omega, by omega, by omega, by rw [IntKind.wrap_u16]; omega⟩
  · exact ⟨x + 65536 - y - br, 1, by omega, by omega, by omega, by omega, by rw [IntKind.wrap_u16]; omega⟩

theorem or_shl16 {r x : Nat} (hr : r < 65536) (hx : x < 65536) {R X : Int} (hR : R = (r : Int) * 65536) (hX : X = (x : Int)) : bits .or .u32 R X = ((r * 65536 + x : Nat) : Int) := by
  subst hR; subst hX
  rw [show (r : Int) * 65536 = ((65536 * r : Nat) : Int) by omega, u32_or_nat _ _ (by omega) (by omega)]
  have := or_nat (i := 16) (v := x) (x := r) (by omega)
  rw [show (2 : Nat) ^ 16 = 65536 from rfl] at this
  rw [Nat.or_comm, this]
  omega

theorem pow_int (s : Nat) : (2 : Int) ^ s = ((2 ^ s : Nat) : Int) := by simp
theorem shl_lt {x s : Nat} (hx : x < 65536) (hs : s < 16) : 2 ^ s * x < 4294967296 := by
  have h1 : (2 : Nat) ^ s ≤ 2 ^ 15 := Nat.pow_le_pow_right (by decide) (by omega)
  have h2 : 2 ^ s * x ≤ 2 ^ 15 * 65535 := Nat.mul_le_mul h1 (by omega)
  omega
theorem shl_or {cr x s : Nat} (hcr : cr < 2 ^ s) (hx : x < 65536) (hs : s < 16) : bits .or .u32 (cr : Int) ((x : Int) * 2 ^ s % 4294967296) = ((cr + 2 ^ s * x : Nat) : Int) := by
  have h1 := shl_lt hx hs
  have h0 : (2 : Nat) ^ s ≤ 2 ^ 15 := Nat.pow_le_pow_right (by decide) (by omega)
  have e : (x : Int) * 2 ^ s % 4294967296 = ((2 ^ s * x : Nat) : Int) := by
    rw [pow_int, Int.mul_comm, ← Int.natCast_mul]
    omega
  rw [e, u32_or_nat _ _ (by omega) (by omega), or_nat hcr]

theorem pow_split {s : Nat} (hs : s < 16) : 2 ^ s * 2 ^ (16 - s) = 65536 := by
  rw [← Nat.pow_add, show s + (16 - s) = 16 by omega]
theorem down_or {a z s : Nat} (ha : a < 65536) (hs : s < 16) :
    bits .or .u16 ((a : Int) / 2 ^ s) (IntKind.u16.wrap ((z : Int) * 2 ^ (16 - s))) = ((a / 2 ^ s + (z % 2 ^ s) * 2 ^ (16 - s) : Nat) : Int) := by
  have hp := pow_split hs
  have h1 : a / 2 ^ s < 2 ^ (16 - s) := by
    apply Nat.div_lt_of_lt_mul
    rw [hp]; exact ha
  have h2 : z * 2 ^ (16 - s) % 65536 = (z % 2 ^ s) * 2 ^ (16 - s) := by
    rw [← hp]; exact Nat.mul_mod_mul_right _ _ _
  have hps : 0 < 2 ^ (16 - s) := Nat.pow_pos (by decide)
  have h3 : (z % 2 ^ s) * 2 ^ (16 - s) < 65536 := by
    rw [← hp]; exact Nat.mul_lt_mul_of_pos_right (Nat.mod_lt _ (Nat.pow_pos (by decide))) hps
  have h4 : a / 2 ^ s < 65536 := Nat.lt_of_le_of_lt (Nat.div_le_self _ _) ha
  rw [pow_int s, pow_int (16 - s), ← Int.natCast_mul, ← Int.natCast_ediv, u16_of, h2, u16_or_nat _ _ h4 h3]
  rw [Nat.mul_comm (z % 2 ^ s), or_nat h1]
/-- Digits that a shift leaves, joined: the quotient. -/
theorem down_val {xs o : List Nat} {s : Nat} (hs : s < 16) (hl : o.length = xs.length) (h : ∀ i, i < xs.length → nth o i = nth xs i / 2 ^ s + (nth xs (i + 1) % 2 ^ s) * 2 ^ (16 - s)) : val o = val xs / 2 ^ s := by
  have hp := pow_split hs
  have hpos : 0 < 2 ^ s := Nat.pow_pos (by decide)
  have key : ∀ m k, xs.length = m + k → 2 ^ s * val (o.drop k) + nth xs k % 2 ^ s = val (xs.drop k) := by
    intro m
    induction m with
    | zero =>
      intro k hk
      rw [List.drop_of_length_le (by omega), List.drop_of_length_le (by omega), nth_out (by omega)]
      simp [val]
    | succ m ih =>
      intro k hk
      have e := ih (k + 1) (by omega)
      rw [val_drop_nth (l := o) (by omega), val_drop_nth (l := xs) (by omega), h k (by omega), ← e]
      have e1 : 2 ^ s * (nth xs (k + 1) % 2 ^ s * 2 ^ (16 - s)) = 65536 * (nth xs (k + 1) % 2 ^ s) := by
        rw [Nat.mul_comm (nth xs (k + 1) % 2 ^ s), ← Nat.mul_assoc, hp]
      have e2 : 2 ^ s * (65536 * val (o.drop (k + 1))) = 65536 * (2 ^ s * val (o.drop (k + 1))) := Nat.mul_left_comm _ _ _
      have e3 := Nat.div_add_mod (nth xs k) (2 ^ s)
      rw [Nat.mul_add, Nat.mul_add, e1, e2]
      omega
  have e := key xs.length 0 (by omega)
  rw [List.drop_zero, List.drop_zero] at e
  rw [← e, Nat.mul_add_div hpos, Nat.div_eq_of_lt (Nat.mod_lt _ hpos)]
  omega

theorem down_lt {a z s : Nat} (ha : a < 65536) (hs : s < 16) : a / 2 ^ s + (z % 2 ^ s) * 2 ^ (16 - s) < 65536 := by
  have hp := pow_split hs
  have h1 : a / 2 ^ s < 2 ^ (16 - s) := by
    apply Nat.div_lt_of_lt_mul
    rw [hp]; exact ha
  have h2 : z % 2 ^ s + 1 ≤ 2 ^ s := Nat.mod_lt _ (Nat.pow_pos (by decide))
  have h3 : (z % 2 ^ s + 1) * 2 ^ (16 - s) ≤ 2 ^ s * 2 ^ (16 - s) := Nat.mul_le_mul_right _ h2
  rw [Nat.add_mul, Nat.one_mul, hp] at h3
  omega

theorem and_mask {t : Nat} (ht : t < 4294967296) : bits .and .u32 (t : Int) 65535 = ((t % 65536 : Nat) : Int) := by
  have e := u32_and_nat t 65535 ht (by decide)
  have e2 : t &&& 65535 = t % 65536 := by
    have := Nat.and_two_pow_sub_one_eq_mod t 16
    rw [show (2 : Nat) ^ 16 - 1 = 65535 from rfl, show (2 : Nat) ^ 16 = 65536 from rfl] at this
    exact this
  rw [e2] at e
  exact e
end Kb
