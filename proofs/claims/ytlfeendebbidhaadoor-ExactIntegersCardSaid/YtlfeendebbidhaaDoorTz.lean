/- The contract of TrailingZeros64. For all words but 0, where the table of the library reads as the program lays it. -/
import Derived.Test.YtlfeendebbidhaaDoorDup
import Derived.Lib.TrailingZeros
import Derived.Shelf.Spec.TrailingZeros
namespace Go.Proofs.YtlfeendebbidhaaDoor
open Go.RowKit Kb

/-- The table of the library, in its variable. -/
def Tab (w : World) : Prop := ∀ j, j < Lib.deBruijn64tab.length → w.cell? ⟨0, j, none⟩ = some (.int .u8 (Lib.deBruijn64tab.getD j 0 : Nat))
theorem Tab.below {w w' : World} {B : Nat} (h : Tab w) (hb : Below B w w') (hB : 0 < B) : Tab w' := fun j hj => (hb.cell (p := ⟨0, j, none⟩) hB).trans (h j hj)

set_option maxRecDepth 100000 in
set_option maxHeartbeats 1000000 in
theorem tz_core (x k idx : Nat) (w : World) (hx0 : ((x : Int) == 0) = false)
    (key : IntKind.u64.wrap (bits BinOp.and IntKind.u64 (x : Int) (IntKind.u64.wrap (-(x : Int))) * 285870213051353865) / 288230376151711744 = (idx : Int))
    (hi : idx < 64) (hk : k < 64) (hcell : w.cell? ⟨0, idx, none⟩ = some (.int .u8 k)) :
    Calls Tryd.prog 106 #[.int .u64 x] w fun e w' => e = .returned (.int .i64 k) ∧ w = w' := by
  go_enter Tryd.func106, Tryd.ntmps106
  go_wp2_with (simp only [key])
  go_ret
  exact ⟨rfl, rfl⟩

theorem tz_any (x : Nat) (w : World) (hx : x < 18446744073709551616) (hx0 : x ≠ 0) (hT : Tab w) :
    Calls Tryd.prog 106 #[.int .u64 x] w fun e w' => e = .returned (.int .i64 (Lib.ctz 64 x : Nat)) ∧ w = w' := by
  obtain ⟨hlow, hk⟩ := Lib.lowest_bit 64 x hx0 hx
  obtain ⟨hi, htab⟩ := Lib.deBruijn64_at _ hk
  refine tz_core x _ _ w (by rw [beq_eq_false_iff_ne]; omega) (tz64_key x _ hx hx0 hlow) hi hk ?_
  rw [hT _ (by rw [show Lib.deBruijn64tab.length = 64 from by decide]; exact hi), htab]

/-- A number without its factors 2. -/
def odd (x : Nat) : Nat := x / 2 ^ Lib.ctz 64 x
theorem odd_spec {x : Nat} (hx : x < 18446744073709551616) (h0 : x ≠ 0) : ∃ m, odd x = 2 * m + 1 ∧ x = 2 ^ Lib.ctz 64 x * odd x := by
  have hc : Lib.ctz 64 x = Lib.ctzFrom 64 x := by unfold Lib.ctz; rw [if_neg h0]
  obtain ⟨m, h1, _⟩ := Lib.ctzFrom_spec 64 x (by omega) hx
  rw [← hc] at h1
  have e : odd x = 2 * m + 1 := by
    unfold odd
    generalize Lib.ctz 64 x = k at h1
    rw [h1, Nat.mul_div_cancel_left _ (Nat.pow_pos (by decide))]
  exact ⟨m, e, by rw [e]; exact h1⟩
theorem odd_lt {x : Nat} : odd x ≤ x := Nat.div_le_self _ _
theorem gcd_pow_two (k a m : Nat) : Nat.gcd (2 ^ k * a) (2 * m + 1) = Nat.gcd a (2 * m + 1) := by
  apply Nat.Coprime.gcd_mul_left_cancel
  apply Nat.Coprime.pow_left
  have : Nat.gcd 2 (2 * m + 1) = 1 := by
    rw [Nat.gcd_rec, show (2 * m + 1) % 2 = 1 by omega]
    rfl
  exact this
/-- One step of the greatest common divisor of odd numbers. -/
theorem gcd_step {x y m : Nat} (hx : x < 18446744073709551616) (hy : y = 2 * m + 1) (h : y < x) : Nat.gcd (odd (x - y)) y = Nat.gcd x y := by
  obtain ⟨_, _, e⟩ := odd_spec (x := x - y) (by omega) (by omega)
  have h1 : Nat.gcd (x - y) y = Nat.gcd x y := by
    rw [Nat.gcd_sub_self_left (by omega)]
  rw [← h1]
  conv => rhs; rw [e]
  subst hy
  rw [gcd_pow_two]

set_option maxRecDepth 100000 in
set_option maxHeartbeats 2000000 in
theorem wordDivisor_any (x y m n : Nat) (w : World) (hx : x < 18446744073709551616) (hy : y < 18446744073709551616) (hm : x = 2 * m + 1) (hn : y = 2 * n + 1) (hT : Tab w) :
    Calls Tryd.prog 103 #[.int .u64 x, .int .u64 y] w fun e w' => e = .returned (.int .u64 (Nat.gcd x y : Nat)) ∧ w = w' := by
  have HT := hid hT
  have Hmn := hid (And.intro hm hn)
  clear hm hn hT
  go_enter Tryd.func103, Tryd.ntmps103
  go_wp2
  go_loop [0, 1] (fun xv yv => ∃ a b m n : Nat, xv = .int .u64 a ∧ yv = .int .u64 b ∧ a < 18446744073709551616 ∧ b < 18446744073709551616 ∧ Hid (a = 2 * m + 1 ∧ b = 2 * n + 1 ∧ Nat.gcd a b = Nat.gcd x y)) (fun xv yv => (intOf xv).toNat + (intOf yv).toNat)
  case atStart => exact ⟨x, y, m, n, rfl, rfl, hx, hy, hid ⟨Hmn.out.1, Hmn.out.2, rfl⟩⟩
  case round =>
    obtain ⟨a, b, m', n', rfl, rfl, ha, hb, hH⟩ := hrel
    rcases Nat.lt_trichotomy a b with h | h | h
    · have hne : ((a : Int) != (b : Int)) = true := by rw [bne_iff_ne]; omega
      obtain ⟨d, hd⟩ : ∃ d, d = b - a := ⟨_, rfl⟩
      have hd1 : d < 18446744073709551616 := by omega
      have hd0 : d ≠ 0 := by omega
      have Ho := hid (odd_spec hd1 hd0)
      have Hd := hid hd
      have hdi : (b : Int) - (a : Int) = (d : Int) := by omega
      have Hres := hid (show Nat.gcd (odd d) a = Nat.gcd x y ∧ odd d < b from by
        have h1 := hH.out
        have h2 := odd_lt (x := d)
        refine ⟨?_, by omega⟩
        rw [hd, gcd_step hb h1.1 h, Nat.gcd_comm]; exact h1.2.2)
      have hk : Lib.ctz 64 d < 64 := (Lib.lowest_bit 64 d hd0 hd1).2
      have hol : odd d < 18446744073709551616 := by have := odd_lt (x := d); omega
      have hpos : 0 < a := by have := hH.out; omega
      clear hd
      go_wp2_with fail
      refine (tz_any d _ hd1 hd0 HT.out).mono ?_
      rintro e w' ⟨rfl, rfl⟩
      go_wp2
      go_round
      case rel =>
        obtain ⟨mo, hmo, _⟩ := Ho.out
        refine ⟨odd d, a, mo, m', val_int ?_, rfl, hol, ha, hid ⟨hmo, by have := hH.out; omega, Hres.out.1⟩⟩
        unfold odd
        rw [pow_int, Int.natCast_ediv]
      case measure =>
        have e : (d : Int) / 2 ^ Lib.ctz 64 d = ((odd d : Nat) : Int) := by unfold odd; rw [pow_int, Int.natCast_ediv]
        rw [e]
        simp only [intOf, Int.toNat_natCast]
        have := Hres.out.2
        omega
    · have hne : ((a : Int) != (b : Int)) = false := by subst h; simp
      have Hr := hid (show a = Nat.gcd x y by have := hH.out; rw [← this.2.2, ← h, Nat.gcd_self])
      clear h
      go_wp2
      go_ret
      exact ⟨ret_int (by rw [← Hr.out]), rfl⟩
    · have hne : ((a : Int) != (b : Int)) = true := by rw [bne_iff_ne]; omega
      obtain ⟨d, hd⟩ : ∃ d, d = a - b := ⟨_, rfl⟩
      have hd1 : d < 18446744073709551616 := by omega
      have hd0 : d ≠ 0 := by omega
      have Ho := hid (odd_spec hd1 hd0)
      have Hd := hid hd
      have hdi : (a : Int) - (b : Int) = (d : Int) := by omega
      have Hres := hid (show Nat.gcd (odd d) b = Nat.gcd x y ∧ odd d < a from by
        have h1 := hH.out
        have h2 := odd_lt (x := d)
        refine ⟨?_, by omega⟩
        rw [hd, gcd_step ha h1.2.1 h]; exact h1.2.2)
      have hk : Lib.ctz 64 d < 64 := (Lib.lowest_bit 64 d hd0 hd1).2
      have hol : odd d < 18446744073709551616 := by have := odd_lt (x := d); omega
      have hpos : 0 < b := by have := hH.out; omega
      clear hd
      go_wp2_with fail
      refine (tz_any d _ hd1 hd0 HT.out).mono ?_
      rintro e w' ⟨rfl, rfl⟩
      go_wp2
      go_round
      case rel =>
        obtain ⟨mo, hmo, _⟩ := Ho.out
        refine ⟨odd d, b, mo, n', val_int ?_, rfl, hol, hb, hid ⟨hmo, by have := hH.out; omega, Hres.out.1⟩⟩
        unfold odd
        rw [pow_int, Int.natCast_ediv]
      case measure =>
        have e : (d : Int) / 2 ^ Lib.ctz 64 d = ((odd d : Nat) : Int) := by unfold odd; rw [pow_int, Int.natCast_ediv]
        rw [e]
        simp only [intOf, Int.toNat_natCast]
        have := Hres.out.2
        omega

end Go.Proofs.YtlfeendebbidhaaDoor
