/- The mathematics of Format: groups of four digits, the least first. No program is run in this text. -/
import Derived.Test.YtgdclneolgmggaaGreatDoorApg
namespace Go.Proofs.YtgdclneolgmggaaGreatDoor
open Go.RowKit Kb Go.Lib

/-- The value of groups of four digits. -/
def v4 : List Nat → Nat
  | [] => 0
  | x :: l => x + 10000 * v4 l

theorem v4_snoc (gs : List Nat) (x : Nat) : v4 (gs ++ [x]) = v4 gs + x * 10000 ^ gs.length := by
  induction gs with
  | nil => show x + 10000 * 0 = 0 + x * 1; omega
  | cons y gs ih =>
    show y + 10000 * v4 (gs ++ [x]) = y + 10000 * v4 gs + x * 10000 ^ (gs.length + 1)
    rw [ih, Nat.pow_succ, Nat.mul_add, ← Nat.mul_assoc x, Nat.mul_comm (x * 10000 ^ gs.length) 10000]
    omega

theorem v4_drop {gs : List Nat} {i : Nat} (h : i < gs.length) : v4 (gs.drop i) = nth gs i + 10000 * v4 (gs.drop (i + 1)) := by
  rw [List.drop_eq_getElem_cons h, nth_eq h]; rfl

/-- Behind some rounds of Format's first loop. -/
def FmRel (a m : Nat) (gs : List Nat) : Prop :=
  a = m * 10000 ^ gs.length + v4 gs ∧ (∀ x ∈ gs, x < 10000) ∧ (m = 0 → ∃ gs' x, gs = gs' ++ [x] ∧ 0 < x)

theorem FmRel.start {a : Nat} (h : a ≠ 0) : FmRel a a [] := ⟨by show a = a * 1 + 0; omega, fun x hx => by simp at hx, fun e => absurd e h⟩

theorem FmRel.next {a m : Nat} {gs : List Nat} (h : FmRel a m gs) (hm : 0 < m) : FmRel a (m / 10000) (gs ++ [m % 10000]) := by
  obtain ⟨h1, h2, h3⟩ := h
  refine ⟨?_, fun x hx => ?_, fun e => ⟨gs, m % 10000, rfl, by omega⟩⟩
  · rw [v4_snoc, List.length_append, List.length_singleton, Nat.pow_succ, h1]
    have e : m = 10000 * (m / 10000) + m % 10000 := (Nat.div_add_mod _ _).symm
    generalize m / 10000 = q at *
    generalize m % 10000 = r at *
    subst e
    rw [Nat.add_mul, ← Nat.mul_assoc q, Nat.mul_comm (q * 10000 ^ gs.length) 10000, Nat.mul_assoc]
    omega
  · rcases List.mem_append.1 hx with hx | hx
    · exact h2 x hx
    · rw [List.mem_singleton] at hx; subst hx; exact Nat.mod_lt _ (by decide)

theorem FmRel.len_any {a m k : Nat} {gs : List Nat} (h : FmRel a m gs) (ha : a < 65536 ^ k) : gs.length ≤ 2 * k := by
  obtain ⟨h1, h2, h3⟩ := h
  rcases Nat.eq_zero_or_pos gs.length with e | e
  · omega
  · have hle : 10000 ^ (gs.length - 1) ≤ a := by
      rcases Nat.eq_zero_or_pos m with e0 | e0
      · obtain ⟨gs', x, rfl, hx⟩ := h3 e0
        rw [v4_snoc] at h1
        rw [List.length_append, List.length_singleton, Nat.add_sub_cancel]
        have := Nat.le_mul_of_pos_left (10000 ^ gs'.length) hx
        omega
      · have h4 : 10000 ^ (gs.length - 1) ≤ 10000 ^ gs.length := Nat.pow_le_pow_right (by decide) (by omega)
        have := Nat.le_mul_of_pos_left (10000 ^ gs.length) e0
        omega
    have h5 : 65536 ^ k ≤ (10000 ^ 2) ^ k := Nat.pow_le_pow_left (by decide) k
    rw [← Nat.pow_mul] at h5
    have h6 : 10000 ^ (gs.length - 1) < 10000 ^ (2 * k) := Nat.lt_of_le_of_lt hle (Nat.lt_of_lt_of_le ha h5)
    have := (Nat.pow_lt_pow_iff_right (a := 10000) (by decide)).1 h6
    omega
theorem FmRel.len {a m : Nat} {gs : List Nat} (h : FmRel a m gs) (ha : a < 65536 ^ 1000) : gs.length ≤ 2000 := h.len_any ha

/-- The text behind some rounds of Format's second loop. -/
theorem dec_round {gs : List Nat} {i : Nat} (h : i < gs.length) (h0 : 0 < v4 (gs.drop (i + 1))) (hg : nth gs i < 10000) :
    decDigits (v4 (gs.drop i)) = decDigits (v4 (gs.drop (i + 1))) ++ four (nth gs i) ∧ 0 < v4 (gs.drop i) := by
  rw [v4_drop h]
  refine ⟨?_, by omega⟩
  rw [show nth gs i + 10000 * v4 (gs.drop (i + 1)) = v4 (gs.drop (i + 1)) * 10000 + nth gs i by omega, dec_group h0 hg]
  rfl

theorem v4_last (gs : List Nat) (x : Nat) : v4 ((gs ++ [x]).drop gs.length) = x := by
  rw [List.drop_append_length]; show x + 10000 * 0 = x; omega

/-- The sign's text. -/
def sg (p : Bool) : List UInt8 := if p then [45] else []

theorem itoa_sg {p : Bool} {a : Nat} (h : a ≠ 0) : itoa (toZ p a) = sg p ++ decDigits a := by
  cases p with
  | false => rw [show toZ false a = (a : Int) from by unfold toZ; rw [if_neg (by decide)], itoa_pos (by omega)]; rfl
  | true => rw [show toZ true a = -(a : Int) from by unfold toZ; rw [if_pos rfl], itoa_neg (by omega), show (-(a : Int)).natAbs = a by omega]; rfl

theorem itoa_zero (p : Bool) : itoa (toZ p 0) = [48] := by
  rw [show toZ p 0 = 0 from by cases p <;> rfl, itoa_pos (by omega)]
  exact dec_zero

theorem madeCells_size (v : Value) (n : Nat) : (madeCells #[v] n).size = n := by simp [madeCells]

theorem run_make_cap {P : Program} (T e : TypeId) (i : TypeInfo) (k : IntKind) (L : Int) (n : Nat) (w : World) (ht : P.underlying T = some (.slice e)) (hi : P.info? e = some i) (hz : i.zero = some (.int k 0)) (hs : i.size = 1)
    (hL : L = (n : Int)) (hn : n ≤ 2000000000) (hb : i.bytes ≤ 8) :
    (Instr.makeSlice T (.int .i64 0) (.int .i64 L)).run P w = .ok (.slice (some ⟨w.heap.size, 0, none⟩) 0 n) (w.alloc (.cells (madeCells #[.int k 0] n) e)) := by
  subst hL
  have h1 : i.bytes * n ≤ 8 * n := Nat.mul_le_mul_right _ hb
  rw [run_make (P := P) w T e i (.int k 0) ht hi hz .i64 .i64 0 n (Int.le_refl _) (Int.natCast_nonneg n) (by rw [← Int.natCast_mul]; omega) (by omega)]
  rw [hs, Int.toNat_natCast, Nat.mul_one]
  rfl

end Go.Proofs.YtgdclneolgmggaaGreatDoor
