/- Numbers as lists of words below 2^64, the lowest first; the contracts of trimWords, lessWords, zeroBits. For all slices that read as words. -/
import Derived.Test.YtlfeendebbidhaaDoorTz
namespace Kb

/-- The value of words. -/
def vw : List Nat → Nat
  | [] => 0
  | x :: l => x + 18446744073709551616 * vw l
def LimW (l : List Nat) : Prop := ∀ x, x ∈ l → x < 18446744073709551616
theorem limW_nth {l : List Nat} (h : LimW l) (i : Nat) : nth l i < 18446744073709551616 := by
  unfold nth
  rw [List.getD_eq_getElem?_getD]
  by_cases hi : i < l.length
  · rw [List.getElem?_eq_getElem hi]; exact h _ (List.getElem_mem hi)
  · rw [List.getElem?_eq_none (by omega)]; decide
theorem limW_take {l : List Nat} (h : LimW l) (k : Nat) : LimW (l.take k) := fun x hx => h x (List.mem_of_mem_take hx)
theorem limW_drop {l : List Nat} (h : LimW l) (k : Nat) : LimW (l.drop k) := fun x hx => h x (List.mem_of_mem_drop hx)
theorem limW_cons {x : Nat} {l : List Nat} : LimW (x :: l) ↔ x < 18446744073709551616 ∧ LimW l := by
  unfold LimW; simp
theorem limW_append {a b : List Nat} : LimW (a ++ b) ↔ LimW a ∧ LimW b := by
  unfold LimW; simp only [List.mem_append]
  exact ⟨fun h => ⟨fun x hx => h x (.inl hx), fun x hx => h x (.inr hx)⟩, fun h x hx => hx.elim (h.1 x) (h.2 x)⟩
theorem limW_set {l : List Nat} (h : LimW l) {i v : Nat} (hv : v < 18446744073709551616) : LimW (l.set i v) := by
  intro x hx
  rcases List.mem_or_eq_of_mem_set hx with h1 | h1
  · exact h x h1
  · omega
theorem vw_append (a b : List Nat) : vw (a ++ b) = vw a + 18446744073709551616 ^ a.length * vw b := by
  induction a with
  | nil => simp [vw]
  | cons x a ih =>
    simp only [List.cons_append, vw, ih, List.length_cons, Nat.pow_succ]
    rw [Nat.mul_add, Nat.mul_comm (18446744073709551616 ^ a.length) 18446744073709551616, Nat.mul_assoc]
    omega
theorem vw_lt {l : List Nat} (h : LimW l) : vw l < 18446744073709551616 ^ l.length := by
  induction l with
  | nil => simp [vw]
  | cons x l ih =>
    have hx := (limW_cons.1 h)
    have := ih hx.2
    simp only [vw, List.length_cons, Nat.pow_succ]
    omega
theorem vw_split {l : List Nat} (k : Nat) (h : k ≤ l.length) : vw l = vw (l.take k) + 18446744073709551616 ^ k * vw (l.drop k) := by
  have e := vw_append (l.take k) (l.drop k)
  rw [List.take_append_drop, List.length_take, Nat.min_eq_left h] at e
  exact e
theorem vw_take_succ (l : List Nat) (k : Nat) : vw (l.take (k + 1)) = vw (l.take k) + 18446744073709551616 ^ k * nth l k := by
  by_cases h : k < l.length
  · rw [take_succ_nth h, vw_append, List.length_take, Nat.min_eq_left (by omega)]; simp [vw]
  · rw [List.take_of_length_le (by omega), List.take_of_length_le (by omega), nth_out (by omega)]; simp
theorem vw_drop_nth {l : List Nat} {k : Nat} (h : k < l.length) : vw (l.drop k) = nth l k + 18446744073709551616 * vw (l.drop (k + 1)) := by
  rw [List.drop_eq_getElem_cons h, nth_eq h]; rfl
theorem vw_zeros {l : List Nat} (h : ∀ i, i < l.length → nth l i = 0) : vw l = 0 := by
  induction l with
  | nil => rfl
  | cons x l ih =>
    have h0 := h 0 (by simp)
    rw [nth_cons_zero] at h0
    simp only [vw, h0, ih (fun i hi => by have := h (i + 1) (by simpa using hi); rwa [nth_cons_succ] at this)]
theorem vw_keep {l : List Nat} {n : Nat} (h : keepL l n) : vw (l.take n) = vw l := by
  have e := vw_split n h.1
  have e2 : vw (l.drop n) = 0 := vw_zeros fun i hi => by
    rw [List.length_drop] at hi
    rw [nth_drop]
    exact h.2 (n + i) (by omega) (by omega)
  rw [e2, Nat.mul_zero] at e
  omega
/-- Words without a 0 at the end. -/
def TopW (l : List Nat) : Prop := l = [] ∨ nth l (l.length - 1) ≠ 0
theorem vw_ge {l : List Nat} (h : l ≠ []) (ht : TopW l) : 18446744073709551616 ^ (l.length - 1) ≤ vw l := by
  have hp : 0 < l.length := List.length_pos_iff.2 h
  have e := vw_take_succ l (l.length - 1)
  rw [show l.length - 1 + 1 = l.length by omega, List.take_length] at e
  rcases ht with h0 | h0
  · exact absurd h0 h
  · have : 18446744073709551616 ^ (l.length - 1) * 1 ≤ 18446744073709551616 ^ (l.length - 1) * nth l (l.length - 1) := Nat.mul_le_mul_left _ (by omega)
    omega
theorem vw_lt_of_length {a b : List Nat} (ha : LimW a) (tb : TopW b) (h : a.length < b.length) : vw a < vw b := by
  have h1 := vw_lt ha
  have hb : b ≠ [] := by intro e; subst e; simp at h
  have h2 := vw_ge hb tb
  have h3 : 18446744073709551616 ^ a.length ≤ 18446744073709551616 ^ (b.length - 1) := Nat.pow_le_pow_right (by decide) (by omega)
  omega
theorem vw_lt_of_top {a b : List Nat} {k : Nat} (ha : LimW a) (hl : a.length = b.length) (hk : k < a.length) (hd : a.drop (k + 1) = b.drop (k + 1)) (h : nth a k < nth b k) : vw a < vw b := by
  have e1 := vw_split (l := a) (k + 1) (by omega)
  have e2 := vw_split (l := b) (k + 1) (by omega)
  rw [hd] at e1
  have t1 := vw_take_succ a k
  have t2 := vw_take_succ b k
  have l1 := vw_lt (limW_take ha k)
  rw [List.length_take, Nat.min_eq_left (by omega)] at l1
  have : 18446744073709551616 ^ k * (nth a k + 1) ≤ 18446744073709551616 ^ k * nth b k := Nat.mul_le_mul_left _ h
  rw [Nat.mul_add, Nat.mul_one] at this
  omega

end Kb
namespace Go.Proofs.YtlfeendebbidhaaDoor
open Go.RowKit Kb

set_option maxHeartbeats 400000 in
theorem trimWords_any (A : Option Addr) (n c : Nat) (xs : List Nat) (w : World) (hs : Sl w .u64 A xs) (hn : xs.length = n) (hl : n ≤ c) (hc : c ≤ maxLen) :
    Calls Tryd.prog 101 #[.slice A n c] w fun e w' => ∃ m, e = .returned (.slice A m c) ∧ m ≤ n ∧ TopW (xs.take m) ∧ vw (xs.take m) = vw xs ∧ w = w' := by
  unfold maxLen at hc
  have Hn := hid hn
  have hnl : n ≤ xs.length := by omega
  clear hn
  go_enter Tryd.func101, Tryd.ntmps101
  go_wp2
  go_loop [0] (fun s => ∃ m : Nat, keepL xs m ∧ m ≤ n ∧ s = .slice A m c) (fun s => lenOf s)
  case atStart => exact ⟨n, by rw [← Hn.out]; exact keepL_start xs, Nat.le_refl _, rfl⟩
  case round =>
    obtain ⟨m, hm, hmn, rfl⟩ := hrel
    have hm1 := hm.1
    by_cases h0 : 0 < m
    · obtain ⟨ad, rfl, hb, hcell⟩ := hs (m - 1) (by omega)
      by_cases hz : nth xs (m - 1) = 0
      · have hk := keepL_step hm hz
        rw [hz] at hcell
        have Hz := hid hz; clear hz
        go_wp2
        go_round
        case rel => exact ⟨m - 1, hk, by omega, rfl⟩
        case measure => simp [lenOf]; omega
      · have Ht := hid (show TopW (xs.take m) from .inr (by rw [List.length_take, Nat.min_eq_left hm1, nth_take (by omega)]; exact hz))
        have Hv := hid (vw_keep hm)
        go_wp2
        go_ret
        exact ⟨m, rfl, hmn, Ht.out, Hv.out, rfl⟩
    · have Ht := hid (show TopW (xs.take m) from .inl (by rw [show m = 0 by omega]; rfl))
      have Hv := hid (vw_keep hm)
      go_wp2
      go_ret
      exact ⟨m, rfl, hmn, Ht.out, Hv.out, rfl⟩

end Go.Proofs.YtlfeendebbidhaaDoor
