/- The contracts of commonDivisor at small numbers, of fraction, parts and product. -/
import Derived.Test.YtffipjofefemiaaGreatDoorMB
import Derived.Lib.TrailingZeros
import Derived.Shelf.Spec.TrailingZeros
namespace Go.Proofs.YtffipjofefemiaaGreatDoor
open Go.RowKit Kb

/-- The table of the library, in its variable. -/
def Tab (w : World) : Prop := ∀ j, j < Lib.deBruijn64tab.length → w.cell? ⟨0, j, none⟩ = some (.int .u8 (Lib.deBruijn64tab.getD j 0 : Nat))
theorem Tab.below {w w' : World} {B : Nat} (h : Tab w) (hb : Below B w w') (hB : 0 < B) : Tab w' := fun j hj => (hb.cell (p := ⟨0, j, none⟩) hB).trans (h j hj)

set_option maxRecDepth 100000 in
set_option maxHeartbeats 1000000 in
theorem tz_core (x k idx : Nat) (w : World) (hx0 : ((x : Int) == 0) = false)
    (key : IntKind.u64.wrap (bits BinOp.and IntKind.u64 (x : Int) (IntKind.u64.wrap (-(x : Int))) * 285870213051353865) / 288230376151711744 = (idx : Int))
    (hi : idx < 64) (hk : k < 64) (hcell : w.cell? ⟨0, idx, none⟩ = some (.int .u8 k)) :
    Calls Tryz.prog 168 #[.int .u64 x] w fun e w' => e = .returned (.int .i64 k) ∧ w = w' := by
  go_enter Tryz.func168, Tryz.ntmps168
  go_wp2_with (simp only [key])
  go_ret
  exact ⟨rfl, rfl⟩

theorem tz_any (x : Nat) (w : World) (hx : x < 18446744073709551616) (hx0 : x ≠ 0) (hT : Tab w) :
    Calls Tryz.prog 168 #[.int .u64 x] w fun e w' => e = .returned (.int .i64 (Lib.ctz 64 x : Nat)) ∧ w = w' := by
  obtain ⟨hlow, hk⟩ := Lib.lowest_bit 64 x hx0 hx
  obtain ⟨hi, htab⟩ := Lib.deBruijn64_at _ hk
  refine tz_core x _ _ w (by rw [beq_eq_false_iff_ne]; omega) (tz64_key x _ hx hx0 hlow) hi hk ?_
  rw [hT _ (by rw [show Lib.deBruijn64tab.length = 64 from by decide]; exact hi), htab]

/-- A number without its factors 2. -/
def odd (x : Nat) : Nat := x / 2 ^ Lib.ctz 64 x
theorem odd_spec {x : Nat} (hx : x < 18446744073709551616) (h0 : x ≠ 0) : ∃ m, odd x = 2 * m + 1 ∧ x = 2 ^ Lib.ctz 64 x * odd x := by
  have hc : Lib.ctz 64 x = Lib.ctzFrom 64 x := by unfold Lib.ctz; rw [if_neg h0]
  obtain ⟨m, h1, _⟩ := Lib.ctzFrom_spec 64 x (by omega) hx
  rw [← hc] at h1
  have e : odd x = 2 * m + 1 := by
    unfold odd
    generalize Lib.ctz 64 x = k at h1
    rw [h1, Nat.mul_div_cancel_left _ (Nat.pow_pos (by decide))]
  exact ⟨m, e, by rw [e]; exact h1⟩
theorem odd_lt {x : Nat} : odd x ≤ x := Nat.div_le_self _ _
theorem gcd_pow_two (k a m : Nat) : Nat.gcd (2 ^ k * a) (2 * m + 1) = Nat.gcd a (2 * m + 1) := by
  apply Nat.Coprime.gcd_mul_left_cancel
  apply Nat.Coprime.pow_left
  have : Nat.gcd 2 (2 * m + 1) = 1 := by
    rw [Nat.gcd_rec, show (2 * m + 1) % 2 = 1 by omega]
    rfl
  exact this
/-- One step of the greatest common divisor of odd numbers. -/
theorem gcd_step {x y m : Nat} (hx : x < 18446744073709551616) (hy : y = 2 * m + 1) (h : y < x) : Nat.gcd (odd (x - y)) y = Nat.gcd x y := by
  obtain ⟨_, _, e⟩ := odd_spec (x := x - y) (by omega) (by omega)
  have h1 : Nat.gcd (x - y) y = Nat.gcd x y := by
    rw [Nat.gcd_sub_self_left (by omega)]
  rw [← h1]
  conv => rhs; rw [e]
  subst hy
  rw [gcd_pow_two]

set_option maxRecDepth 100000 in
set_option maxHeartbeats 2000000 in
theorem wordDivisor_any (x y m n : Nat) (w : World) (hx : x < 18446744073709551616) (hy : y < 18446744073709551616) (hm : x = 2 * m + 1) (hn : y = 2 * n + 1) (hT : Tab w) :
    Calls Tryz.prog 158 #[.int .u64 x, .int .u64 y] w fun e w' => e = .returned (.int .u64 (Nat.gcd x y : Nat)) ∧ w = w' := by
  have HT := hid hT
  have Hmn := hid (And.intro hm hn)
  clear hm hn hT
  go_enter Tryz.func158, Tryz.ntmps158
  go_wp2
  go_loop [0, 1] (fun xv yv => ∃ a b m n : Nat, xv = .int .u64 a ∧ yv = .int .u64 b ∧ a < 18446744073709551616 ∧ b < 18446744073709551616 ∧ Hid (a = 2 * m + 1 ∧ b = 2 * n + 1 ∧ Nat.gcd a b = Nat.gcd x y)) (fun xv yv => (intOf xv).toNat + (intOf yv).toNat)
  case atStart => exact ⟨x, y, m, n, rfl, rfl, hx, hy, hid ⟨Hmn.out.1, Hmn.out.2, rfl⟩⟩
  case round =>
    obtain ⟨a, b, m', n', rfl, rfl, ha, hb, hH⟩ := hrel
    rcases Nat.lt_trichotomy a b with h | h | h
    · have hne : ((a : Int) != (b : Int)) = true := by rw [bne_iff_ne]; omega
      obtain ⟨d, hd⟩ : ∃ d, d = b - a := ⟨_, rfl⟩
      have hd1 : d < 18446744073709551616 := by omega
      have hd0 : d ≠ 0 := by omega
      have Ho := hid (odd_spec hd1 hd0)
      have Hd := hid hd
      have hdi : (b : Int) - (a : Int) = (d : Int) := by omega
      have Hres := hid (show Nat.gcd (odd d) a = Nat.gcd x y ∧ odd d < b from by
        have h1 := hH.out
        have h2 := odd_lt (x := d)
        refine ⟨?_, by omega⟩
        rw [hd, gcd_step hb h1.1 h, Nat.gcd_comm]; exact h1.2.2)
      have hk : Lib.ctz 64 d < 64 := (Lib.lowest_bit 64 d hd0 hd1).2
      have hol : odd d < 18446744073709551616 := by have := odd_lt (x := d); omega
      have hpos : 0 < a := by have := hH.out; omega
      clear hd
      go_wp2_with fail
      refine (tz_any d _ hd1 hd0 HT.out).mono ?_
      rintro e w' ⟨rfl, rfl⟩
      go_wp2
      go_round
      case rel =>
        obtain ⟨mo, hmo, _⟩ := Ho.out
        refine ⟨odd d, a, mo, m', val_int ?_, rfl, hol, ha, hid ⟨hmo, by have := hH.out; omega, Hres.out.1⟩⟩
        unfold odd
        rw [pow_int, Int.natCast_ediv]
      case measure =>
        have e : (d : Int) / 2 ^ Lib.ctz 64 d = ((odd d : Nat) : Int) := by unfold odd; rw [pow_int, Int.natCast_ediv]
        rw [e]
        simp only [intOf, Int.toNat_natCast]
        have := Hres.out.2
        omega
    · have hne : ((a : Int) != (b : Int)) = false := by subst h; simp
      have Hr := hid (show a = Nat.gcd x y by have := hH.out; rw [← this.2.2, ← h, Nat.gcd_self])
      clear h
      go_wp2
      go_ret
      exact ⟨ret_int (by rw [← Hr.out]), rfl⟩
    · have hne : ((a : Int) != (b : Int)) = true := by rw [bne_iff_ne]; omega
      obtain ⟨d, hd⟩ : ∃ d, d = a - b := ⟨_, rfl⟩
      have hd1 : d < 18446744073709551616 := by omega
      have hd0 : d ≠ 0 := by omega
      have Ho := hid (odd_spec hd1 hd0)
      have Hd := hid hd
      have hdi : (a : Int) - (b : Int) = (d : Int) := by omega
      have Hres := hid (show Nat.gcd (odd d) b = Nat.gcd x y ∧ odd d < a from by
        have h1 := hH.out
        have h2 := odd_lt (x := d)
        refine ⟨?_, by omega⟩
        rw [hd, gcd_step ha h1.2.1 h]; exact h1.2.2)
      have hk : Lib.ctz 64 d < 64 := (Lib.lowest_bit 64 d hd0 hd1).2
      have hol : odd d < 18446744073709551616 := by have := odd_lt (x := d); omega
      have hpos : 0 < b := by have := hH.out; omega
      clear hd
      go_wp2_with fail
      refine (tz_any d _ hd1 hd0 HT.out).mono ?_
      rintro e w' ⟨rfl, rfl⟩
      go_wp2
      go_round
      case rel =>
        obtain ⟨mo, hmo, _⟩ := Ho.out
        refine ⟨odd d, b, mo, n', val_int ?_, rfl, hol, hb, hid ⟨hmo, by have := hH.out; omega, Hres.out.1⟩⟩
        unfold odd
        rw [pow_int, Int.natCast_ediv]
      case measure =>
        have e : (d : Int) / 2 ^ Lib.ctz 64 d = ((odd d : Nat) : Int) := by unfold odd; rw [pow_int, Int.natCast_ediv]
        rw [e]
        simp only [intOf, Int.toNat_natCast]
        have := Hres.out.2
        omega

end Go.Proofs.YtffipjofefemiaaGreatDoor

namespace Kb

/-- The value of words. -/
def vw : List Nat → Nat
  | [] => 0
  | x :: l => x + 18446744073709551616 * vw l
def LimW (l : List Nat) : Prop := ∀ x, x ∈ l → x < 18446744073709551616
theorem limW_nth {l : List Nat} (h : LimW l) (i : Nat) : nth l i < 18446744073709551616 := by
  unfold nth
  rw [List.getD_eq_getElem?_getD]
  by_cases hi : i < l.length
  · rw [List.getElem?_eq_getElem hi]; exact h _ (List.getElem_mem hi)
  · rw [List.getElem?_eq_none (by omega)]; decide
theorem limW_take {l : List Nat} (h : LimW l) (k : Nat) : LimW (l.take k) := fun x hx => h x (List.mem_of_mem_take hx)
theorem limW_drop {l : List Nat} (h : LimW l) (k : Nat) : LimW (l.drop k) := fun x hx => h x (List.mem_of_mem_drop hx)
theorem limW_cons {x : Nat} {l : List Nat} : LimW (x :: l) ↔ x < 18446744073709551616 ∧ LimW l := by
  unfold LimW; simp
theorem limW_append {a b : List Nat} : LimW (a ++ b) ↔ LimW a ∧ LimW b := by
  unfold LimW; simp only [List.mem_append]
  exact ⟨fun h => ⟨fun x hx => h x (.inl hx), fun x hx => h x (.inr hx)⟩, fun h x hx => hx.elim (h.1 x) (h.2 x)⟩
theorem limW_set {l : List Nat} (h : LimW l) {i v : Nat} (hv : v < 18446744073709551616) : LimW (l.set i v) := by
  intro x hx
  rcases List.mem_or_eq_of_mem_set hx with h1 | h1
  · exact h x h1
  · omega
theorem vw_append (a b : List Nat) : vw (a ++ b) = vw a + 18446744073709551616 ^ a.length * vw b := by
  induction a with
  | nil => simp [vw]
  | cons x a ih =>
    simp only [List.cons_append, vw, ih, List.length_cons, Nat.pow_succ]
    rw [Nat.mul_add, Nat.mul_comm (18446744073709551616 ^ a.length) 18446744073709551616, Nat.mul_assoc]
    omega
theorem vw_lt {l : List Nat} (h : LimW l) : vw l < 18446744073709551616 ^ l.length := by
  induction l with
  | nil => simp [vw]
  | cons x l ih =>
    have hx := (limW_cons.1 h)
    have := ih hx.2
    simp only [vw, List.length_cons, Nat.pow_succ]
    omega
theorem vw_split {l : List Nat} (k : Nat) (h : k ≤ l.length) : vw l = vw (l.take k) + 18446744073709551616 ^ k * vw (l.drop k) := by
  have e := vw_append (l.take k) (l.drop k)
  rw [List.take_append_drop, List.length_take, Nat.min_eq_left h] at e
  exact e
theorem vw_take_succ (l : List Nat) (k : Nat) : vw (l.take (k + 1)) = vw (l.take k) + 18446744073709551616 ^ k * nth l k := by
  by_cases h : k < l.length
  · rw [take_succ_nth h, vw_append, List.length_take, Nat.min_eq_left (by omega)]; simp [vw]
  · rw [List.take_of_length_le (by omega), List.take_of_length_le (by omega), nth_out (by omega)]; simp
theorem vw_drop_nth {l : List Nat} {k : Nat} (h : k < l.length) : vw (l.drop k) = nth l k + 18446744073709551616 * vw (l.drop (k + 1)) := by
  rw [List.drop_eq_getElem_cons h, nth_eq h]; rfl
theorem vw_zeros {l : List Nat} (h : ∀ i, i < l.length → nth l i = 0) : vw l = 0 := by
  induction l with
  | nil => rfl
  | cons x l ih =>
    have h0 := h 0 (by simp)
    rw [nth_cons_zero] at h0
    simp only [vw, h0, ih (fun i hi => by have := h (i + 1) (by simpa using hi); rwa [nth_cons_succ] at this)]
theorem vw_keep {l : List Nat} {n : Nat} (h : keepL l n) : vw (l.take n) = vw l := by
  have e := vw_split n h.1
  have e2 : vw (l.drop n) = 0 := vw_zeros fun i hi => by
    rw [List.length_drop] at hi
    rw [nth_drop]
    exact h.2 (n + i) (by omega) (by omega)
  rw [e2, Nat.mul_zero] at e
  omega
/-- Words without a 0 at the end. -/
def TopW (l : List Nat) : Prop := l = [] ∨ nth l (l.length - 1) ≠ 0
theorem vw_ge {l : List Nat} (h : l ≠ []) (ht : TopW l) : 18446744073709551616 ^ (l.length - 1) ≤ vw l := by
  have hp : 0 < l.length := List.length_pos_iff.2 h
  have e := vw_take_succ l (l.length - 1)
  rw [show l.length - 1 + 1 = l.length by omega, List.take_length] at e
  rcases ht with h0 | h0
  · exact absurd h0 h
  · have : 18446744073709551616 ^ (l.length - 1) * 1 ≤ 18446744073709551616 ^ (l.length - 1) * nth l (l.length - 1) := Nat.mul_le_mul_left _ (by omega)
    omega
theorem vw_lt_of_length {a b : List Nat} (ha : LimW a) (tb : TopW b) (h : a.length < b.length) : vw a < vw b := by
  have h1 := vw_lt ha
  have hb : b ≠ [] := by intro e; subst e; simp at h
  have h2 := vw_ge hb tb
  have h3 : 18446744073709551616 ^ a.length ≤ 18446744073709551616 ^ (b.length - 1) := Nat.pow_le_pow_right (by decide) (by omega)
  omega
theorem vw_lt_of_top {a b : List Nat} {k : Nat} (ha : LimW a) (hl : a.length = b.length) (hk : k < a.length) (hd : a.drop (k + 1) = b.drop (k + 1)) (h : nth a k < nth b k) : vw a < vw b := by
  have e1 := vw_split (l := a) (k + 1) (by omega)
  have e2 := vw_split (l := b) (k + 1) (by omega)
  rw [hd] at e1
  have t1 := vw_take_succ a k
  have t2 := vw_take_succ b k
  have l1 := vw_lt (limW_take ha k)
  rw [List.length_take, Nat.min_eq_left (by omega)] at l1
  have : 18446744073709551616 ^ k * (nth a k + 1) ≤ 18446744073709551616 ^ k * nth b k := Nat.mul_le_mul_left _ h
  rw [Nat.mul_add, Nat.mul_one] at this
  omega

end Kb
namespace Go.Proofs.YtffipjofefemiaaGreatDoor
open Go.RowKit Kb

set_option maxHeartbeats 400000 in
theorem trimWords_any (A : Option Addr) (n c : Nat) (xs : List Nat) (w : World) (hs : Sl w .u64 A xs) (hn : xs.length = n) (hl : n ≤ c) (hc : c ≤ maxLen) :
    Calls Tryz.prog 156 #[.slice A n c] w fun e w' => ∃ m, e = .returned (.slice A m c) ∧ m ≤ n ∧ TopW (xs.take m) ∧ vw (xs.take m) = vw xs ∧ w = w' := by
  unfold maxLen at hc
  have Hn := hid hn
  have hnl : n ≤ xs.length := by omega
  clear hn
  go_enter Tryz.func156, Tryz.ntmps156
  go_wp2
  go_loop [0] (fun s => ∃ m : Nat, keepL xs m ∧ m ≤ n ∧ s = .slice A m c) (fun s => lenOf s)
  case atStart => exact ⟨n, by rw [← Hn.out]; exact keepL_start xs, Nat.le_refl _, rfl⟩
  case round =>
    obtain ⟨m, hm, hmn, rfl⟩ := hrel
    have hm1 := hm.1
    by_cases h0 : 0 < m
    · obtain ⟨ad, rfl, hb, hcell⟩ := hs (m - 1) (by omega)
      by_cases hz : nth xs (m - 1) = 0
      · have hk := keepL_step hm hz
        rw [hz] at hcell
        have Hz := hid hz; clear hz
        go_wp2
        go_round
        case rel => exact ⟨m - 1, hk, by omega, rfl⟩
        case measure => simp [lenOf]; omega
      · have Ht := hid (show TopW (xs.take m) from .inr (by rw [List.length_take, Nat.min_eq_left hm1, nth_take (by omega)]; exact hz))
        have Hv := hid (vw_keep hm)
        go_wp2
        go_ret
        exact ⟨m, rfl, hmn, Ht.out, Hv.out, rfl⟩
    · have Ht := hid (show TopW (xs.take m) from .inl (by rw [show m = 0 by omega]; rfl))
      have Hv := hid (vw_keep hm)
      go_wp2
      go_ret
      exact ⟨m, rfl, hmn, Ht.out, Hv.out, rfl⟩

end Go.Proofs.YtffipjofefemiaaGreatDoor

namespace Go.Proofs.YtffipjofefemiaaGreatDoor
open Go.RowKit Kb

theorem pow64 (k : Nat) : (18446744073709551616 : Nat) ^ k = 2 ^ (64 * k) := by rw [Nat.pow_mul]
/-- The factors 2 of words whose first i are 0, and the next is not. -/
theorem zero_math {xs : List Nat} {i : Nat} (hx : LimW xs) (hz : ∀ j, j < i → nth xs j = 0) (hi : i < xs.length) (hn : nth xs i ≠ 0) :
    ∃ m, vw xs = 2 ^ (64 * i + Lib.ctz 64 (nth xs i)) * (2 * m + 1) := by
  have hl := limW_nth hx i
  obtain ⟨m, h1, h2⟩ := odd_spec hl hn
  have hk : Lib.ctz 64 (nth xs i) < 64 := (Lib.lowest_bit 64 _ hn hl).2
  generalize Lib.ctz 64 (nth xs i) = k at *
  have e1 := vw_split (l := xs) i (by omega)
  have e2 : vw (xs.take i) = 0 := vw_zeros fun j hj => by
    rw [List.length_take] at hj
    rw [nth_take (by omega)]
    exact hz j (by omega)
  have e3 := vw_drop_nth hi
  rw [h1] at h2
  refine ⟨m + 2 ^ (63 - k) * vw (xs.drop (i + 1)), ?_⟩
  have p : (18446744073709551616 : Nat) = 2 ^ k * (2 * 2 ^ (63 - k)) := by
    rw [← Nat.mul_assoc, Nat.mul_comm (2 ^ k) 2, Nat.mul_assoc, ← Nat.pow_add, show k + (63 - k) = 63 by omega]
  rw [e1, e2, e3, h2, pow64, Nat.zero_add, Nat.pow_add, Nat.mul_assoc]
  congr 1
  conv => lhs; rw [p]
  rw [Nat.mul_assoc (2 ^ k), ← Nat.mul_add]
  congr 1
  rw [Nat.mul_assoc 2, Nat.mul_add]
  omega

set_option maxRecDepth 100000 in
set_option maxHeartbeats 2000000 in
theorem zeroBits_any (A : Option Addr) (n c i : Nat) (xs : List Nat) (w : World) (hs : Sl w .u64 A xs) (hx : LimW xs) (hn : xs.length = n) (hbig : n ≤ 100000000) (hz : ∀ j, j < i → nth xs j = 0) (hi : i < n) (h0 : nth xs i ≠ 0) (hT : Tab w) :
    Calls Tryz.prog 152 #[.slice A n c] w fun e w' => e = .returned (.int .i64 ((64 * i + Lib.ctz 64 (nth xs i) : Nat) : Int)) ∧ w = w' := by
  obtain ⟨ad, rfl, hb, hci⟩ := hs i (by omega)
  have hl := limW_nth hx i
  have hk : Lib.ctz 64 (nth xs i) < 64 := (Lib.lowest_bit 64 _ h0 hl).2
  have Hn := hid hn
  have Hz := hid (show ∀ j, j < i → w.cell? (ad.add j) = some (.int .u64 0) from fun j hj => by
    obtain ⟨ad', e, _, hc⟩ := hs j (by omega)
    injection e with e
    subst e
    rw [hc, hz j hj]; rfl)
  have HT := hid hT
  have H0 := hid h0
  have h0i : ((nth xs i : Int) == 0) = false := by rw [beq_eq_false_iff_ne]; omega
  clear hn hT hz hs h0
  go_enter Tryz.func152, Tryz.ntmps152
  go_wp2
  go_loop [3] (fun s => ∃ j : Nat, j ≤ i ∧ s = .int .i64 j) (fun s => i - (intOf s).toNat)
  case atStart => exact ⟨0, Nat.zero_le _, rfl⟩
  case round =>
    obtain ⟨j, hj, rfl⟩ := hrel
    by_cases hlt : j < i
    · have hc := Hz.out j hlt
      go_wp2
      go_round
      case rel => exact ⟨j + 1, hlt, by go_num⟩
      case measure => simp [intOf]; omega
    · obtain rfl : j = i := by omega
      go_wp2_with fail
      refine (tz_any (nth xs j) _ hl H0.out HT.out).mono ?_
      rintro e w' ⟨rfl, rfl⟩
      go_wp2
      go_ret
      exact ⟨ret_int (by push_cast; omega), rfl⟩

theorem ret_bool {a b : Bool} (h : a = b) : Ending.returned (.bool a) = .returned (.bool b) := by rw [h]
theorem less_round {a b : List Nat} {k : Nat} (h0 : 0 < k) (hk : k ≤ a.length) (hl : a.length = b.length) (hd : a.drop k = b.drop k) (he : nth a (k - 1) = nth b (k - 1)) : a.drop (k - 1) = b.drop (k - 1) := cmp_round h0 hk hl hd he
theorem less_top {a b : List Nat} {k : Nat} (ha : LimW a) (h0 : 0 < k) (hk : k ≤ a.length) (hl : a.length = b.length) (hd : a.drop k = b.drop k) (he : nth a (k - 1) < nth b (k - 1)) : vw a < vw b :=
  vw_lt_of_top (k := k - 1) ha hl (by omega) (by rw [show k - 1 + 1 = k by omega]; exact hd) he

set_option maxRecDepth 100000 in
set_option maxHeartbeats 2000000 in
theorem lessWords_any (A B : Option Addr) (n m c d : Nat) (X Y : List Nat) (w : World) (hs : Sl w .u64 A X) (hs2 : Sl w .u64 B Y) (hn : X.length = n) (hm : Y.length = m) (lX : LimW X) (lY : LimW Y) (tX : TopW X) (tY : TopW Y) (hb1 : n ≤ 100000000) (hb2 : m ≤ 100000000) :
    Calls Tryz.prog 154 #[.slice A n c, .slice B m d] w fun e w' => e = .returned (.bool (decide (vw X < vw Y))) ∧ Qt w w' := by
  by_cases hne : n = m
  · subst hne
    have hne' : ((n : Int) != (n : Int)) = false := by simp
    have Hn := hid hn
    have Hm := hid hm
    clear hn hm
    go_enter Tryz.func154, Tryz.ntmps154
    go_wp2
    go_loopw [5] (fun i wr => ∃ k : Nat, k ≤ n ∧ i = .int .i64 ((k : Int) - 1) ∧ X.drop k = Y.drop k ∧ Qt w wr) (fun i _ => (intOf i + 1).toNat)
    case atStart =>
      refine ⟨n, Nat.le_refl _, by go_num, ?_, Qt.refl _⟩
      rw [List.drop_of_length_le (by rw [Hn.out]; exact Nat.le_refl _), List.drop_of_length_le (by rw [Hm.out]; exact Nat.le_refl _)]
    case round =>
      obtain ⟨k, hk, rfl, hdr, hq⟩ := hrel
      have Hdr := hid hdr; clear hdr
      by_cases h0 : 0 < k
      · obtain ⟨ad, rfl, _, hcell⟩ := (hs.qt hq) (k - 1) (by have := Hn.out; omega)
        obtain ⟨bd, rfl, _, hcell2⟩ := (hs2.qt hq) (k - 1) (by have := Hm.out; omega)
        by_cases he : nth X (k - 1) = nth Y (k - 1)
        · have he' : (((nth X (k - 1) : Nat) : Int) != ((nth Y (k - 1) : Nat) : Int)) = false := by simp [he]
          have He := hid he; clear he
          go_wp2
          go_quiet (fail)
          go_wp2
          go_roundw
          case rel => exact ⟨k - 1, by omega, by go_num, less_round h0 (by have := Hn.out; omega) (Hn.out.trans Hm.out.symm) Hdr.out He.out, hq.drewN _⟩
          case measure => simp [intOf]; omega
        · have he' : (((nth X (k - 1) : Nat) : Int) != ((nth Y (k - 1) : Nat) : Int)) = true := by simp; omega
          have Hs := hid (show decide (vw X < vw Y) = decide (nth X (k - 1) < nth Y (k - 1)) from by
            rcases Nat.lt_or_gt_of_ne he with hlt | hgt
            · rw [decide_eq_true hlt, decide_eq_true (less_top lX h0 (by have := Hn.out; omega) (Hn.out.trans Hm.out.symm) Hdr.out hlt)]
            · have h1 := less_top lY h0 (by have := Hm.out; omega) (Hm.out.trans Hn.out.symm) Hdr.out.symm hgt
              rw [decide_eq_false (show ¬ vw X < vw Y by omega), decide_eq_false (show ¬ nth X (k - 1) < nth Y (k - 1) by omega)])
          clear he
          go_wp2
          go_quiet (fail)
          have hq1 := hq.drewN nq
          have hcell1 : (wr.drewN nq).cell? (ad.add (k - 1)) = _ := hcell
          have hcell3 : (wr.drewN nq).cell? (bd.add (k - 1)) = _ := hcell2
          clear hcell hcell2 hq
          generalize wr.drewN nq = w1 at *
          go_wp2
          go_quiet (fail)
          all_goals go_wp2
          all_goals go_ret
          all_goals exact ⟨ret_bool Hs.out.symm, hq1.drewN _⟩
      · have Hs := hid (show decide (vw X < vw Y) = false from by
          rw [show k = 0 by omega] at Hdr
          have := Hdr.out
          rw [List.drop_zero, List.drop_zero] at this
          rw [this]; simp)
        go_wp2
        go_ret
        exact ⟨ret_bool Hs.out.symm, hq⟩
  · have hne' : ((n : Int) != (m : Int)) = true := by simp; omega
    have Hs := hid (show decide (vw X < vw Y) = decide (n < m) from by
      rcases Nat.lt_or_gt_of_ne hne with hlt | hgt
      · rw [decide_eq_true hlt, decide_eq_true (vw_lt_of_length lX tY (by omega))]
      · have h1 := vw_lt_of_length lY tX (show Y.length < X.length by omega)
        rw [decide_eq_false (show ¬ vw X < vw Y by omega), decide_eq_false (show ¬ n < m by omega)])
    clear hne hn hm
    go_enter Tryz.func154, Tryz.ntmps154
    go_wp2
    go_ret
    exact ⟨ret_bool Hs.out.symm, Qt.refl _⟩

end Go.Proofs.YtffipjofefemiaaGreatDoor

namespace Go.Proofs.YtffipjofefemiaaGreatDoor
open Go.RowKit Kb

/-- The table of the library stands. -/
def Tb (w : World) : Prop := Tab w ∧ 0 < w.heap.size
theorem Tb.below {w w' : World} (h : Tb w) (hb : Below w.heap.size w w') : Tb w' := ⟨h.1.below hb h.2, Nat.lt_of_lt_of_le h.2 hb.size⟩
/-- The contract of commonDivisor at two numbers. -/
def CD (a b : Nat) : Prop := ∀ (v u : Value) (w : World), Nm w v a → Nm w u b → Tb w →
  Calls Tryz.prog 105 #[v, u] w fun e w' => ∃ r, e = .returned r ∧ Nm w' r (Nat.gcd a b) ∧ Below w.heap.size w w'

/-- A block that stands. -/
def Bk (W : World) (g : Nat) (o : Obj) : Prop := W.heap[g]? = some o
theorem Bk.below {W W' : World} {g N : Nat} {o : Obj} (h : Bk W g o) (hb : Below N W W') (hN : g < N) : Bk W' g o := (hb.block _ hN).trans h
theorem Bk.step {W W' : World} {g : Nat} {o : Obj} (h : Bk W g o) (hb : Below W.heap.size W W') : Bk W' g o := h.below hb (Array.getElem?_eq_some_iff.1 h).1
theorem Bk.lt {W : World} {g : Nat} {o : Obj} (h : Bk W g o) : g < W.heap.size := (Array.getElem?_eq_some_iff.1 h).1
theorem Bk.of_alloc (w : World) (o : Obj) {g : Nat} (hg : w.heap.size = g) : Bk (w.alloc o) g o := by subst hg; exact heap_alloc_new w o
theorem Bk.alloc {W : World} {g : Nat} {o : Obj} (h : Bk W g o) (o' : Obj) : Bk (W.alloc o') g o := (Below.heap_alloc _ _ _ h.lt).trans h
theorem Bk.set {W : World} {g : Nat} {o : Obj} (h : Bk W g o) {p : Addr} (hp : g ≠ p.block) (u : Value) : Bk (W.setCell p u) g o := (Below.heap_setCell W p u g hp).trans h
theorem Bk.c2 {W : World} {g : Nat} {a b : Value} {T : TypeId} (h : Bk W g (.cells #[a, b] T (0, 0))) :
    W.cell? ⟨g, 0, none⟩ = some a ∧ W.cell? ⟨g, 1, none⟩ = some b ∧ W.frozen? ⟨g, 0, none⟩ = false ∧ W.frozen? ⟨g, 1, none⟩ = false := cells2 h
theorem Bk.c4 {W : World} {g : Nat} {a b c d : Value} {T : TypeId} (h : Bk W g (.cells #[a, b, c, d] T (0, 0))) :
    W.cell? ⟨g, 0, none⟩ = some a ∧ W.cell? ⟨g, 1, none⟩ = some b ∧ W.cell? ⟨g, 2, none⟩ = some c ∧ W.cell? ⟨g, 3, none⟩ = some d ∧ W.frozen? ⟨g, 0, none⟩ = false ∧ W.frozen? ⟨g, 1, none⟩ = false ∧ W.frozen? ⟨g, 2, none⟩ = false ∧ W.frozen? ⟨g, 3, none⟩ = false := cells4 h
theorem three_new (w : World) (o1 o2 o3 : Obj) : Bk (((w.alloc o1).alloc o2).alloc o3) w.heap.size o1 ∧ Bk (((w.alloc o1).alloc o2).alloc o3) (w.heap.size + 1) o2 ∧ Bk (((w.alloc o1).alloc o2).alloc o3) (w.heap.size + 1 + 1) o3 :=
  ⟨((Bk.of_alloc w o1 rfl).alloc o2).alloc o3, (Bk.of_alloc (w.alloc o1) o2 (by simp)).alloc o3, Bk.of_alloc ((w.alloc o1).alloc o2) o3 (by simp)⟩

theorem integer_same (p q : Bool) {v : Value} {a : Nat} {w : World} (h : Nm w v a) :
    Calls Tryz.prog 101 #[.bool (!(p == q)), v] w fun e w' => ∃ v, e = .returned v ∧ Nz w' v (toZ (p != q) a) ∧ Below w.heap.size w w' := integer_nm (neg := (!(p == q))) h

set_option maxRecDepth 100000 in
set_option maxHeartbeats 4000000 in
theorem fraction_one (p q : Bool) (A B : Option Addr) (n c m d a b : Nat) (w : World) (h : Raw w A n c a) (k : Raw w B m d b) (hT : Tb w) (hC : CD a b) (hg1 : Nat.gcd a b = 1) :
    Calls Tryz.prog 58 #[.agg #[.bool p, .slice A n c], .agg #[.bool q, .slice B m d]] w fun e w' => ∃ v, e = .returned v ∧ Rz w' v (toZ (p != q) a) b ∧ Below w.heap.size w w' := by
  have b0 := three_new w (.cells #[.bool p, .slice A n c] 24) (.cells #[.bool q, .slice B m d] 24) (.cells #[.bool false, .slice none 0 0, .bool false, .slice none 0 0] 26)
  have hB := (((Below.refl w.heap.size w).alloc (Nat.le_refl _) (.cells #[.bool p, .slice A n c] 24)).alloc (by simp) (.cells #[.bool q, .slice B m d] 24)).alloc (by simp; omega) (.cells #[.bool false, .slice none 0 0, .bool false, .slice none 0 0] 26)
  obtain ⟨g, hg⟩ : ∃ g, w.heap.size = g := ⟨_, rfl⟩
  go_enter Tryz.func58, Tryz.ntmps58
  go_wp2_with fail
  rw [hg] at b0
  generalize ((w.alloc (.cells #[.bool p, .slice A n c] 24)).alloc (.cells #[.bool q, .slice B m d] 24)).alloc (.cells #[.bool false, .slice none 0 0, .bool false, .slice none 0 0] 26) = W0 at *
  have h0 : Raw W0.drew A n c a := h.below hB.drew
  have k0 : Raw W0.drew B m d b := k.below hB.drew
  have T0 : Tb W0.drew := hT.below hB.drew
  have HB := hid hB.drew
  have Hg := hid hg
  have hab : Bk W0.drew g _ ∧ Bk W0.drew (g + 1) _ ∧ Bk W0.drew (g + 1 + 1) _ := b0
  obtain ⟨a0, a1, a2⟩ := hab
  obtain ⟨x0, x1, -, -⟩ := b0.1.c2
  obtain ⟨x2, x3, -, -⟩ := b0.2.1.c2
  have Hg1 := hid hg1
  have l0 := a2.lt
  have l0' := b0.2.2.lt
  clear hB hg h k hT hg1 b0
  go_region_held3 (fun w' => w'.cell? ⟨g, 0, none⟩ = some (.bool p) ∧ w'.cell? ⟨g, 1, none⟩ = some (.slice A n c) ∧ w'.cell? ⟨g + 1, 0, none⟩ = some (.bool q) ∧ w'.cell? ⟨g + 1, 1, none⟩ = some (.slice B m d)) (first | exact ⟨x0, x1, x2, x3⟩ | exact ⟨y0, y1, y2, y3⟩ | exact ⟨z0, z1, z2, z3⟩) (first
    | (go_at_call 76; with_reducible refine (size_any p A n c a W0.drew h0).mono ?_; rintro e w1 ⟨v1, rfl, hv1, hb1⟩; replace a0 := a0.step hb1; replace a1 := a1.step hb1; replace a2 := a2.step hb1; obtain ⟨y0, y1, -, -⟩ := a0.c2; obtain ⟨y2, y3, -, -⟩ := a1.c2)
    | (go_at_call 76; with_reducible refine (size_any q B m d b _ (k0.below hb1)).mono ?_; rintro e w2 ⟨v2, rfl, hv2, hb2⟩; replace a0 := a0.step hb2; replace a1 := a1.step hb2; replace a2 := a2.step hb2; obtain ⟨z0, z1, -, -⟩ := a0.c2; obtain ⟨z2, z3, -, -⟩ := a1.c2))
  have T2 := (T0.below hb1).below hb2
  have hB2 := hid (bthen (bthen HB.out hb1 (Nat.le_refl _)) hb2 (Nat.le_refl _))
  have u1 := hv1.below hb2
  clear x0 x1 x2 x3 y0 y1 y2 y3 hb1 hb2 hv1
  go_wp2_with fail
  refine (hC v1 v2 _ u1 hv2 T2).mono ?_
  rintro e w3 ⟨v3, rfl, hv3, hb3⟩
  replace a0 := a0.step hb3
  replace a1 := a1.step hb3
  replace a2 := a2.step hb3
  rw [Hg1.out] at hv3
  go_wp2_with fail
  refine (isOne_nm hv3).mono ?_
  rintro e w4 ⟨rfl, rfl⟩
  obtain ⟨x0, x1, -, -⟩ := a0.c2
  obtain ⟨x2, x3, -, -⟩ := a1.c2
  go_wp2_with fail
  have hB3 := hid (bthen hB2.out hb3 (Nat.le_refl _))
  have U1 := u1.below hb3
  have U2 := hv2.below hb3
  refine (nz_openb (integer_same p q U1)).mono ?_
  rintro e w5 ⟨s1, A1, n1, c1, rfl, hs1, hn1, hb5⟩
  replace a2 := a2.step hb5
  go_wp2_with fail
  refine (nz_openb (integer_nm (neg := false) (U2.below hb5))).mono ?_
  rintro e w6 ⟨s2, A2, n2, c2, rfl, hs2, hn2, hb6⟩
  replace a2 := a2.step hb6
  have hN1 := hn1.below hb6
  have h5 := bthen (bthen hB3.out hb5 (Nat.le_refl _)) hb6 (Nat.le_refl _)
  have hgl := Hg.out
  have h4 := hid (below4 h5 (show w.heap.size ≤ g + 1 + 1 by omega) (.bool s1) (.slice A1 n1 c1) (.bool s2) (.slice A2 n2 c2))
  have m1 := hid (hN1.offbox a2 (noInt_four _ _ _ _ _ _ _ _) (gb4 _ _ (.bool s1) (.slice A1 n1 c1) (.bool s2) (.slice A2 n2 c2)))
  have m2 := hid (hn2.offbox a2 (noInt_four _ _ _ _ _ _ _ _) (gb4 _ _ (.bool s1) (.slice A1 n1 c1) (.bool s2) (.slice A2 n2 c2)))
  obtain ⟨t0, t1, t2, t3, t4, t5, t6, t7⟩ := a2.c4
  clear x0 x1 x2 x3 hgl h5 hn1 hn2 hN1 a2 U1 U2 hb5 hb6
  go_wp2
  exact bodyPost_ret (v := .agg #[.bool s1, .slice A1 n1 c1, .bool s2, .slice A2 n2 c2]) (by simp [results, Tryz.results58, go_sem, t0, t1, t2, t3]) rfl ⟨_, rfl, ⟨s1, A1, n1, c1, s2, A2, n2, c2, rfl, hs1, hid (by rw [hs2.out]; rfl), m1.out, m2.out⟩, h4.out⟩

set_option maxRecDepth 100000 in
set_option maxHeartbeats 4000000 in
theorem fraction_div (p q : Bool) (A B : Option Addr) (n c m d a b : Nat) (w : World) (h : Raw w A n c a) (k : Raw w B m d b) (hT : Tb w) (hC : CD a b) (hg1 : Nat.gcd a b ≠ 1) (hb0 : b ≠ 0) (ha : (dig a).length ≤ 400000000) (hb : (dig b).length ≤ 400000000) :
    Calls Tryz.prog 58 #[.agg #[.bool p, .slice A n c], .agg #[.bool q, .slice B m d]] w fun e w' => ∃ v, e = .returned v ∧ Rz w' v (toZ (p != q) (a / Nat.gcd a b)) ((b / Nat.gcd a b : Nat)) ∧ Below w.heap.size w w' := by
  have b0 := three_new w (.cells #[.bool p, .slice A n c] 24) (.cells #[.bool q, .slice B m d] 24) (.cells #[.bool false, .slice none 0 0, .bool false, .slice none 0 0] 26)
  have hB := (((Below.refl w.heap.size w).alloc (Nat.le_refl _) (.cells #[.bool p, .slice A n c] 24)).alloc (by simp) (.cells #[.bool q, .slice B m d] 24)).alloc (by simp; omega) (.cells #[.bool false, .slice none 0 0, .bool false, .slice none 0 0] 26)
  obtain ⟨g, hg⟩ : ∃ g, w.heap.size = g := ⟨_, rfl⟩
  go_enter Tryz.func58, Tryz.ntmps58
  go_wp2_with fail
  rw [hg] at b0
  generalize ((w.alloc (.cells #[.bool p, .slice A n c] 24)).alloc (.cells #[.bool q, .slice B m d] 24)).alloc (.cells #[.bool false, .slice none 0 0, .bool false, .slice none 0 0] 26) = W0 at *
  have h0 : Raw W0.drew A n c a := h.below hB.drew
  have k0 : Raw W0.drew B m d b := k.below hB.drew
  have T0 : Tb W0.drew := hT.below hB.drew
  have HB := hid hB.drew
  have Hg := hid hg
  have hab : Bk W0.drew g _ ∧ Bk W0.drew (g + 1) _ ∧ Bk W0.drew (g + 1 + 1) _ := b0
  obtain ⟨a0, a1, a2⟩ := hab
  obtain ⟨x0, x1, -, -⟩ := b0.1.c2
  obtain ⟨x2, x3, -, -⟩ := b0.2.1.c2
  have Hg1 := hid (decide_eq_false hg1)
  have Hg0 := hid (show Nat.gcd a b ≠ 0 from fun e => hb0 (Nat.eq_zero_of_gcd_eq_zero_right e))
  clear hb0
  have l0 := a2.lt
  have l0' := b0.2.2.lt
  clear hB hg h k hT hg1 b0
  go_region_held3 (fun w' => w'.cell? ⟨g, 0, none⟩ = some (.bool p) ∧ w'.cell? ⟨g, 1, none⟩ = some (.slice A n c) ∧ w'.cell? ⟨g + 1, 0, none⟩ = some (.bool q) ∧ w'.cell? ⟨g + 1, 1, none⟩ = some (.slice B m d)) (first | exact ⟨x0, x1, x2, x3⟩ | exact ⟨y0, y1, y2, y3⟩ | exact ⟨z0, z1, z2, z3⟩) (first
    | (go_at_call 76; with_reducible refine (size_any p A n c a W0.drew h0).mono ?_; rintro e w1 ⟨v1, rfl, hv1, hb1⟩; replace a0 := a0.step hb1; replace a1 := a1.step hb1; replace a2 := a2.step hb1; obtain ⟨y0, y1, -, -⟩ := a0.c2; obtain ⟨y2, y3, -, -⟩ := a1.c2)
    | (go_at_call 76; with_reducible refine (size_any q B m d b _ (k0.below hb1)).mono ?_; rintro e w2 ⟨v2, rfl, hv2, hb2⟩; replace a0 := a0.step hb2; replace a1 := a1.step hb2; replace a2 := a2.step hb2; obtain ⟨z0, z1, -, -⟩ := a0.c2; obtain ⟨z2, z3, -, -⟩ := a1.c2))
  have T2 := (T0.below hb1).below hb2
  have hB2 := hid (bthen (bthen HB.out hb1 (Nat.le_refl _)) hb2 (Nat.le_refl _))
  have u1 := hv1.below hb2
  clear x0 x1 x2 x3 y0 y1 y2 y3 hb1 hb2 hv1
  go_wp2_with fail
  refine (hC v1 v2 _ u1 hv2 T2).mono ?_
  rintro e w3 ⟨v3, rfl, hv3, hb3⟩
  replace a0 := a0.step hb3
  replace a1 := a1.step hb3
  replace a2 := a2.step hb3
  go_wp2_with fail
  refine (isOne_nm hv3).mono ?_
  rintro e w4 ⟨rfl, rfl⟩
  rw [Hg1.out]
  have hB3' := hid (bthen hB2.out hb3 (Nat.le_refl _))
  go_wp2_with fail
  refine (divLimbs_nm (u1.below hb3) hv3 Hg0.out ha).mono ?_
  rintro e w7 ⟨v7, r7, rfl, hv7, -, hb7⟩
  replace a0 := a0.step hb7
  replace a1 := a1.step hb7
  replace a2 := a2.step hb7
  go_wp2_with fail
  refine (divLimbs_nm ((hv2.below hb3).below hb7) (hv3.below hb7) Hg0.out hb).mono ?_
  rintro e w8 ⟨v8, r8, rfl, hv8, -, hb8⟩
  replace a0 := a0.step hb8
  replace a1 := a1.step hb8
  replace a2 := a2.step hb8
  obtain ⟨x0, x1, -, -⟩ := a0.c2
  obtain ⟨x2, x3, -, -⟩ := a1.c2
  have hB3 := hid (bthen (bthen hB3'.out hb7 (Nat.le_refl _)) hb8 (Nat.le_refl _))
  have U1 := hv7.below hb8
  have U2 := hv8
  clear hb3 hb7 hb8 hv7 hv8 hv3 hv2 u1
  go_wp2_with fail
  refine (nz_openb (integer_same p q U1)).mono ?_
  rintro e w5 ⟨s1, A1, n1, c1, rfl, hs1, hn1, hb5⟩
  replace a2 := a2.step hb5
  go_wp2_with fail
  refine (nz_openb (integer_nm (neg := false) (U2.below hb5))).mono ?_
  rintro e w6 ⟨s2, A2, n2, c2, rfl, hs2, hn2, hb6⟩
  replace a2 := a2.step hb6
  have hN1 := hn1.below hb6
  have h5 := bthen (bthen hB3.out hb5 (Nat.le_refl _)) hb6 (Nat.le_refl _)
  have hgl := Hg.out
  have h4 := hid (below4 h5 (show w.heap.size ≤ g + 1 + 1 by omega) (.bool s1) (.slice A1 n1 c1) (.bool s2) (.slice A2 n2 c2))
  have m1 := hid (hN1.offbox a2 (noInt_four _ _ _ _ _ _ _ _) (gb4 _ _ (.bool s1) (.slice A1 n1 c1) (.bool s2) (.slice A2 n2 c2)))
  have m2 := hid (hn2.offbox a2 (noInt_four _ _ _ _ _ _ _ _) (gb4 _ _ (.bool s1) (.slice A1 n1 c1) (.bool s2) (.slice A2 n2 c2)))
  obtain ⟨t0, t1, t2, t3, t4, t5, t6, t7⟩ := a2.c4
  clear x0 x1 x2 x3 hgl h5 hn1 hn2 hN1 a2 U1 U2 hb5 hb6
  go_wp2
  exact bodyPost_ret (v := .agg #[.bool s1, .slice A1 n1 c1, .bool s2, .slice A2 n2 c2]) (by simp [results, Tryz.results58, go_sem, t0, t1, t2, t3]) rfl ⟨_, rfl, ⟨s1, A1, n1, c1, s2, A2, n2, c2, rfl, hs1, hid (by rw [hs2.out]; rfl), m1.out, m2.out⟩, h4.out⟩

end Go.Proofs.YtffipjofefemiaaGreatDoor

namespace Go.Proofs.YtffipjofefemiaaGreatDoor
open Go.RowKit Kb

set_option maxRecDepth 100000 in
set_option maxHeartbeats 2000000 in
theorem parts_pos (p : Bool) (A B : Option Addr) (n c m d b : Nat) (w : World) (k : Raw w B m d b) (hb0 : b ≠ 0) :
    Calls Tryz.prog 56 #[.agg #[.bool p, .slice A n c, .bool false, .slice B m d]] w fun e w' => e = .returned (.tuple #[.agg #[.bool p, .slice A n c], .agg #[.bool false, .slice B m d]]) ∧ Below w.heap.size w w' := by
  have Hs := hid (show (toZ false b).sign = 1 from by unfold toZ; rw [if_neg (by decide)]; exact Int.sign_eq_one_of_pos (by omega))
  have b0 := three_new w (.cells #[.bool p, .slice A n c, .bool false, .slice B m d] 26) (.cells #[.bool false, .slice none 0 0] 24) (.cells #[.bool false, .slice none 0 0] 24)
  have hB := (((Below.refl w.heap.size w).alloc (Nat.le_refl _) (.cells #[.bool p, .slice A n c, .bool false, .slice B m d] 26)).alloc (by simp) (.cells #[.bool false, .slice none 0 0] 24)).alloc (by simp; omega) (.cells #[.bool false, .slice none 0 0] 24)
  obtain ⟨g, hg⟩ : ∃ g, w.heap.size = g := ⟨_, rfl⟩
  clear hb0
  go_enter Tryz.func56, Tryz.ntmps56
  go_wp2_with fail
  rw [hg] at b0
  generalize ((w.alloc (.cells #[.bool p, .slice A n c, .bool false, .slice B m d] 26)).alloc (.cells #[.bool false, .slice none 0 0] 24)).alloc (.cells #[.bool false, .slice none 0 0] 24) = W0 at *
  have k0 : Raw W0 B m d b := k.below hB
  have HB := hid hB
  have Hg := hid hg
  obtain ⟨a0, a1, a2⟩ := b0
  obtain ⟨x0, x1, x2, x3, -, -, -, -⟩ := a0.c4
  clear hB hg k
  go_wp2_with fail
  refine (sign_any false B m d b _ k0).mono ?_
  rintro e w1 ⟨rfl, hb1⟩
  rw [Hs.out]
  replace a0 := a0.step hb1
  replace a1 := a1.step hb1
  replace a2 := a2.step hb1
  obtain ⟨x0, x1, x2, x3, -, -, -, -⟩ := a0.c4
  obtain ⟨y0, y1, y2, y3⟩ := a1.c2
  obtain ⟨z0, z1, z2, z3⟩ := a2.c2
  have hB1 := bthen HB.out hb1 (Nat.le_refl _)
  go_wp2_with fail
  have hgl := Hg.out
  have h4 := hid (((((hB1.setCell (p := ⟨g + 1, 0, none⟩) (by show w.heap.size ≤ g + 1; omega) (.bool p)).setCell (p := ⟨g + 1, 1, none⟩) (by show w.heap.size ≤ g + 1; omega) (.slice A n c)).setCell (p := ⟨g + 1 + 1, 0, none⟩) (by show w.heap.size ≤ g + 1 + 1; omega) (.bool false)).setCell (p := ⟨g + 1 + 1, 1, none⟩) (by show w.heap.size ≤ g + 1 + 1; omega) (.slice B m d)).drew)
  clear hgl hB1 hb1
  go_region
  go_wp2
  exact bodyPost_ret (v := .tuple #[.agg #[.bool p, .slice A n c], .agg #[.bool false, .slice B m d]]) (by simp [results, Tryz.results56, go_sem, y0, y1, z0, z1]) rfl ⟨rfl, h4.out⟩

set_option maxRecDepth 100000 in
set_option maxHeartbeats 2000000 in
theorem opposite_any (p : Bool) (A : Option Addr) (n c : Nat) (w : World) :
    Calls Tryz.prog 103 #[.agg #[.bool p, .slice A n c]] w fun e w' => e = .returned (.agg #[.bool (!p), .slice A n c]) ∧ Below w.heap.size w w' := by
  have HB := hid (((Below.refl w.heap.size w).alloc (Nat.le_refl _) (.cells #[.bool p, .slice A n c] 24)).alloc (by simp) (.cells #[.bool (!p), .slice A n c] 24))
  go_enter Tryz.func103, Tryz.ntmps103
  go_wp2
  exact bodyPost_ret (v := .agg #[.bool (!p), .slice A n c]) (by simp [results, Tryz.results103, go_sem]) rfl ⟨rfl, HB.out⟩

set_option maxRecDepth 100000 in
set_option maxHeartbeats 2000000 in
theorem ratSign_pos (p : Bool) (A B : Option Addr) (n c m d a b : Nat) (w : World) (h : Raw w A n c a) (k : Raw w B m d b) (hb0 : b ≠ 0) :
    Calls Tryz.prog 85 #[.agg #[.bool p, .slice A n c, .bool false, .slice B m d]] w fun e w' => e = .returned (.int .i64 (toZ p a).sign) ∧ Below w.heap.size w w' := by
  have hB := (Below.refl w.heap.size w).alloc (Nat.le_refl _) (.cells #[.bool p, .slice A n c, .bool false, .slice B m d] 26)
  go_enter Tryz.func85, Tryz.ntmps85
  go_wp2_with fail
  refine (parts_pos p A B n c m d b _ (k.below hB) hb0).mono ?_
  rintro e w1 ⟨rfl, hb1⟩
  have hB1 := bthen hB hb1 (Nat.le_refl _)
  have h1 := (h.below hB).below hb1
  have hB2 := (hB1.alloc (hB1.size) (.cells #[.bool p, .slice A n c] 24)).alloc (by have := hB1.size; simp; omega) (.cells #[.bool false, .slice B m d] 24)
  have h2 := h.below hB2
  have HB2 := hid hB2
  clear hb0 hB hb1 h1 hB2 hB1 h k
  go_wp2_with fail
  refine (sign_any p A n c a _ h2).mono ?_
  rintro e w2 ⟨rfl, hb2⟩
  have hB3 := bthen HB2.out hb2 (Nat.le_refl _)
  go_wp2
  go_ret
  exact ⟨rfl, hB3⟩

set_option maxRecDepth 100000 in
set_option maxHeartbeats 2000000 in
theorem number_any (z : Int) (w : World) (h1 : -9223372036854775808 ≤ z) (h2 : z ≤ 9223372036854775807) :
    Calls Tryz.prog 87 #[.int .i64 z] w fun e w' => ∃ v, e = .returned v ∧ Rz w' v z 1 ∧ Below w.heap.size w w' := by
  have hb0 := fun o => (Below.refl w.heap.size w).alloc (Nat.le_refl _) o
  go_enter Tryz.func87, Tryz.ntmps87
  go_wp2_with fail
  refine (nz_openb (Of_any z _ h1 h2)).mono ?_
  rintro e w1 ⟨s1, A1, n1, c1, rfl, hs1, hn1, hb1⟩
  go_wp2_with fail
  refine (nz_openb (Of_any 1 _ (by decide) (by decide))).mono ?_
  rintro e w2 ⟨s2, A2, n2, c2, rfl, hs2, hn2, hb2⟩
  have hb3 := bthen hb1 hb2 (Nat.le_refl _)
  have hb4 := bthen (hb0 _) hb3 (Nat.le_refl _)
  have c0 := box_cell hb3 0
  have c1' := box_cell hb3 1
  have c2' := box_cell hb3 2
  have c3 := box_cell hb3 3
  have f0 := box_frozen hb3 0
  have f1 := box_frozen hb3 1
  have f2 := box_frozen hb3 2
  have f3 := box_frozen hb3 3
  have hbx := hid (box_heap hb3)
  have h5 := hid (below4 hb4 (Nat.le_refl _) (.bool s1) (.slice A1 n1 c1) (.bool s2) (.slice A2 n2 c2))
  have m1 := hid ((hn1.below hb2).offbox hbx.out (noInt_four _ _ _ _ _ _ _ _) (gb4 _ _ (.bool s1) (.slice A1 n1 c1) (.bool s2) (.slice A2 n2 c2)))
  have m2 := hid (hn2.offbox hbx.out (noInt_four _ _ _ _ _ _ _ _) (gb4 _ _ (.bool s1) (.slice A1 n1 c1) (.bool s2) (.slice A2 n2 c2)))
  clear hb1 hb2 hb3 hb4 hn1 hn2 hb0
  simp at c0 c1' c2' c3
  go_wp2
  exact bodyPost_ret (v := .agg #[.bool s1, .slice A1 n1 c1, .bool s2, .slice A2 n2 c2]) (by simp [results, Tryz.results87, go_sem, c0, c1', c2', c3]) rfl ⟨_, rfl, ⟨s1, A1, n1, c1, s2, A2, n2, c2, rfl, hs1, hs2, m1.out, m2.out⟩, h5.out⟩

end Go.Proofs.YtffipjofefemiaaGreatDoor

namespace Go.Proofs.YtffipjofefemiaaGreatDoor
open Go.RowKit Kb

/-- The fields of a fraction with a positive denominator. -/
structure Fr (w : World) (p : Bool) (A : Option Addr) (n c a : Nat) (B : Option Addr) (m d b : Nat) : Prop where
  num : Raw w A n c a
  den : Raw w B m d b
  pos : b ≠ 0
  ln : (dig a).length ≤ 100000000
  ld : (dig b).length ≤ 100000000
theorem Fr.below {w w' : World} {p : Bool} {A B : Option Addr} {n c a m d b : Nat} (h : Fr w p A n c a B m d b) (hb : Below w.heap.size w w') : Fr w' p A n c a B m d b :=
  ⟨h.num.below hb, h.den.below hb, h.pos, h.ln, h.ld⟩

theorem below_two (w : World) (o1 o2 : Obj) : Below w.heap.size w ((w.alloc o1).alloc o2) := ((Below.refl w.heap.size w).alloc (Nat.le_refl _) o1).alloc (by simp) o2
theorem Bk.alloc2 {W : World} {g : Nat} {o : Obj} (h : Bk W g o) (o1 o2 : Obj) : Bk ((W.alloc o1).alloc o2) g o := (h.alloc o1).alloc o2
theorem box1 (w : World) (o1 o2 : Obj) : Bk ((w.alloc o1).alloc o2) w.heap.size o1 := (Bk.of_alloc w o1 rfl).alloc o2
theorem box2 (w : World) (o1 o2 : Obj) : Bk ((w.alloc o1).alloc o2) (w.heap.size + 1) o2 := Bk.of_alloc (w.alloc o1) o2 (by simp)

theorem off_four {W : World} {g h i : Nat} {u0 u1 u2 u3 v : Value} (hne : h ≠ g) (hc : W.cell? ⟨g, i, none⟩ = some v) : ((((W.setCell ⟨h, 0, none⟩ u0).setCell ⟨h, 1, none⟩ u1).setCell ⟨h, 2, none⟩ u2).setCell ⟨h, 3, none⟩ u3).cell? ⟨g, i, none⟩ = some v := by
  rw [World.cell?_setCell_other _ _ _ _ (fun e => by injection e with e1; omega), World.cell?_setCell_other _ _ _ _ (fun e => by injection e with e1; omega), World.cell?_setCell_other _ _ _ _ (fun e => by injection e with e1; omega), World.cell?_setCell_other _ _ _ _ (fun e => by injection e with e1; omega)]
  exact hc

set_option maxRecDepth 100000 in
set_option maxHeartbeats 4000000 in
theorem product_pos (p q : Bool) (A B C D : Option Addr) (n c m d n' c' m' d' a b a' b' : Nat) (w : World) (h : Fr w p A n c a B m d b) (k : Fr w q C n' c' a' D m' d' b') :
    Calls Tryz.prog 72 #[.agg #[.bool p, .slice A n c, .bool false, .slice B m d], .agg #[.bool q, .slice C n' c', .bool false, .slice D m' d']] w fun e w' => ∃ v, e = .returned v ∧ Rz w' v (toZ p a * toZ q a') (b * b' : Nat) ∧ Below w.heap.size w w' := by
  have b0 := three_new w (.cells #[.bool p, .slice A n c, .bool false, .slice B m d] 26) (.cells #[.bool q, .slice C n' c', .bool false, .slice D m' d'] 26) (.cells #[.bool false, .slice none 0 0, .bool false, .slice none 0 0] 26)
  have hB := (((Below.refl w.heap.size w).alloc (Nat.le_refl _) (.cells #[.bool p, .slice A n c, .bool false, .slice B m d] 26)).alloc (by simp) (.cells #[.bool q, .slice C n' c', .bool false, .slice D m' d'] 26)).alloc (by simp; omega) (.cells #[.bool false, .slice none 0 0, .bool false, .slice none 0 0] 26)
  obtain ⟨g, hg⟩ : ∃ g, w.heap.size = g := ⟨_, rfl⟩
  go_enter Tryz.func72, Tryz.ntmps72
  go_wp2_with fail
  rw [hg] at b0
  generalize ((w.alloc (.cells #[.bool p, .slice A n c, .bool false, .slice B m d] 26)).alloc (.cells #[.bool q, .slice C n' c', .bool false, .slice D m' d'] 26)).alloc (.cells #[.bool false, .slice none 0 0, .bool false, .slice none 0 0] 26) = W0 at *
  have h0 := h.below hB
  have k0 := k.below hB
  have HB := hid hB
  have Hg := hid hg
  obtain ⟨a0, a1, a2⟩ := b0
  obtain ⟨x0, x1, x2, x3, -, -, -, -⟩ := a0.c4
  clear hB hg h k
  go_wp2_with fail
  refine (parts_pos p A B n c m d b _ h0.den h0.pos).mono ?_
  rintro e w1 ⟨rfl, hb1⟩
  replace a0 := a0.step hb1
  replace a1 := a1.step hb1
  replace a2 := a2.step hb1
  clear x0 x1 x2 x3
  obtain ⟨x0, x1, x2, x3, -, -, -, -⟩ := a1.c4
  have l1 := a2.lt
  have hB1 := hid (bthen HB.out hb1 (Nat.le_refl _))
  have k1 := k0.below hb1
  have h1 := h0.below hb1
  have hBn := ((Below.refl w1.heap.size w1).alloc (Nat.le_refl _) (.cells #[.bool p, .slice A n c] 24)).alloc (by simp) (.cells #[.bool false, .slice B m d] 24)
  have k2 := k1.below hBn
  have h2 := h1.below hBn
  have c1 := Bk.of_alloc w1 (.cells #[.bool p, .slice A n c] 24) rfl
  replace c1 := c1.alloc (.cells #[.bool false, .slice B m d] 24)
  have c2 := Bk.of_alloc (w1.alloc (.cells #[.bool p, .slice A n c] 24)) (.cells #[.bool false, .slice B m d] 24) (g := w1.heap.size + 1) (by simp)
  replace a0 := (a0.alloc (.cells #[.bool p, .slice A n c] 24)).alloc (.cells #[.bool false, .slice B m d] 24)
  replace a1 := (a1.alloc (.cells #[.bool p, .slice A n c] 24)).alloc (.cells #[.bool false, .slice B m d] 24)
  replace a2 := (a2.alloc (.cells #[.bool p, .slice A n c] 24)).alloc (.cells #[.bool false, .slice B m d] 24)
  clear x0 x1 x2 x3
  obtain ⟨x0, x1, x2, x3, -, -, -, -⟩ := a1.c4
  have hBn' := hid hBn
  have l1' := hid l1
  clear hb1 h0 k0 k1 h1 hBn
  go_wp2_with fail
  refine (parts_pos q C D n' c' m' d' b' _ k2.den k2.pos).mono ?_
  rintro e w2 ⟨rfl, hb2⟩
  clear x0 x1 x2 x3
  replace a2 := a2.step hb2
  replace c1 := c1.step hb2
  replace c2 := c2.step hb2
  have hB2 := hid (bthen (bthen hB1.out hBn'.out (Nat.le_refl _)) hb2 (Nat.le_refl _))
  have hBm := hid (below_two w2 (.cells #[.bool q, .slice C n' c'] 24) (.cells #[.bool false, .slice D m' d'] 24))
  have h3 := (h2.below hb2).below hBm.out
  have k3 := (k2.below hb2).below hBm.out
  have e1 := box1 w2 (.cells #[.bool q, .slice C n' c'] 24) (.cells #[.bool false, .slice D m' d'] 24)
  have e2 := box2 w2 (.cells #[.bool q, .slice C n' c'] 24) (.cells #[.bool false, .slice D m' d'] 24)
  replace a2 := a2.alloc2 (.cells #[.bool q, .slice C n' c'] 24) (.cells #[.bool false, .slice D m' d'] 24)
  replace c1 := c1.alloc2 (.cells #[.bool q, .slice C n' c'] 24) (.cells #[.bool false, .slice D m' d'] 24)
  replace c2 := c2.alloc2 (.cells #[.bool q, .slice C n' c'] 24) (.cells #[.bool false, .slice D m' d'] 24)
  have hB3 := hid (bthen hB2.out hBm.out (Nat.le_refl _))
  obtain ⟨u0, u1, -, -⟩ := c1.c2
  obtain ⟨u2, u3, -, -⟩ := c2.c2
  obtain ⟨u4, u5, -, -⟩ := e1.c2
  obtain ⟨u6, u7, -, -⟩ := e2.c2
  clear h2 k2
  go_wp2_with fail
  have hsz : w1.heap.size + 1 < w2.heap.size := by have := e1.lt; have := hb2.size; simp at this; omega
  clear hb2
  generalize (w2.alloc (.cells #[.bool q, .slice C n' c'] 24)).alloc (.cells #[.bool false, .slice D m' d'] 24) = W3 at *
  generalize w1.heap.size = g1 at *
  generalize w2.heap.size = g2 at *
  replace hB3 := hid hB3.out.drew
  have h4 : Fr W3.drew p A n c a B m d b := h3.below (Below.refl _ _).drew
  have k4 : Fr W3.drew q C n' c' a' D m' d' b' := k3.below (Below.refl _ _).drew
  have j2 : Bk W3.drew (g + 1 + 1) _ := a2
  have j3 : Bk W3.drew g1 _ := c1
  have j4 : Bk W3.drew (g1 + 1) _ := c2
  have j5 : Bk W3.drew g2 _ := e1
  have j6 : Bk W3.drew (g2 + 1) _ := e2
  clear h3 k3 a2 c1 c2 e1 e2
  go_region_held3 (fun w' => w'.cell? ⟨g1, 0, none⟩ = some (.bool p) ∧ w'.cell? ⟨g1, 1, none⟩ = some (.slice A n c) ∧ w'.cell? ⟨g1 + 1, 0, none⟩ = some (.bool false) ∧ w'.cell? ⟨g1 + 1, 1, none⟩ = some (.slice B m d) ∧ w'.cell? ⟨g2, 0, none⟩ = some (.bool q) ∧ w'.cell? ⟨g2, 1, none⟩ = some (.slice C n' c') ∧ w'.cell? ⟨g2 + 1, 0, none⟩ = some (.bool false) ∧ w'.cell? ⟨g2 + 1, 1, none⟩ = some (.slice D m' d')) (first | exact ⟨u0, u1, u2, u3, u4, u5, u6, u7⟩ | exact ⟨y0, y1, y2, y3, y4, y5, y6, y7⟩ | exact ⟨z0, z1, z2, z3, z4, z5, z6, z7⟩ | exact ⟨off_four (by omega) z0, off_four (by omega) z1, off_four (by omega) z2, off_four (by omega) z3, off_four (by omega) z4, off_four (by omega) z5, off_four (by omega) z6, off_four (by omega) z7⟩) (first
    | (go_at_call 59; with_reducible refine (nz_openb (Mul_any p q A C n c n' c' a a' W3.drew h4.num k4.num (by have := h4.ln; omega) (by have := k4.ln; omega))).mono ?_; rintro e w4 ⟨s1, A1, n1, c1, rfl, hs1, hn1, hb4⟩; replace j2 := j2.step hb4; replace j3 := j3.step hb4; replace j4 := j4.step hb4; replace j5 := j5.step hb4; replace j6 := j6.step hb4; obtain ⟨y0, y1, -, -⟩ := j3.c2; obtain ⟨y2, y3, -, -⟩ := j4.c2; obtain ⟨y4, y5, -, -⟩ := j5.c2; obtain ⟨y6, y7, -, -⟩ := j6.c2)
    | (go_at_call 59; with_reducible refine (nz_openb (Mul_any false false B D m d m' d' b b' w4 (h4.below hb4).den (k4.below hb4).den (by have := h4.ld; omega) (by have := k4.ld; omega))).mono ?_; rintro e w5 ⟨s2, A2, n2, c2, rfl, hs2, hn2, hb5⟩; replace j2 := j2.step hb5; replace j3 := j3.step hb5; replace j4 := j4.step hb5; replace j5 := j5.step hb5; replace j6 := j6.step hb5; obtain ⟨z0, z1, -, -⟩ := j3.c2; obtain ⟨z2, z3, -, -⟩ := j4.c2; obtain ⟨z4, z5, -, -⟩ := j5.c2; obtain ⟨z6, z7, -, -⟩ := j6.c2; have hl5 := j2.lt; obtain ⟨t0, t1, t2, t3, t4, t5, t6, t7⟩ := j2.c4))
  have h5 := bthen (bthen hB3.out hb4 (Nat.le_refl _)) hb5 (Nat.le_refl _)
  have hgl := Hg.out
  have hN1 := hn1.below hb5
  have h6 := hid (below4 h5 (show w.heap.size ≤ g + 1 + 1 by omega) (.bool s1) (.slice A1 n1 c1) (.bool s2) (.slice A2 n2 c2))
  have m1 := hid (hN1.offbox j2 (noInt_four _ _ _ _ _ _ _ _) (gb4 _ _ (.bool s1) (.slice A1 n1 c1) (.bool s2) (.slice A2 n2 c2)))
  have m2 := hid (hn2.offbox j2 (noInt_four _ _ _ _ _ _ _ _) (gb4 _ _ (.bool s1) (.slice A1 n1 c1) (.bool s2) (.slice A2 n2 c2)))
  clear u0 u1 u2 u3 u4 u5 u6 u7 y0 y1 y2 y3 y4 y5 y6 y7 z0 z1 z2 z3 z4 z5 z6 z7 hgl h5 hn1 hn2 hN1 j2 j3 j4 j5 j6 hb4 hb5 a0 a1
  go_wp2
  exact bodyPost_ret (v := .agg #[.bool s1, .slice A1 n1 c1, .bool s2, .slice A2 n2 c2]) (by simp [results, Tryz.results72, go_sem, t0, t1, t2, t3]) rfl ⟨_, rfl, ⟨s1, A1, n1, c1, s2, A2, n2, c2, rfl, hs1, hid (by rw [hs2.out]; unfold toZ; rw [if_neg (by decide), if_neg (by decide), Int.natCast_mul]), m1.out, by have := m2.out; unfold toZ at this; rw [if_neg (by decide), if_neg (by decide), ← Int.natCast_mul] at this; exact this⟩, h6.out⟩

end Go.Proofs.YtffipjofefemiaaGreatDoor
