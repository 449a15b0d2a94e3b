/- The integral of a curve as two sums; their sizes. No program in it. -/
import Derived.Test.YtffipjofefemiaaGreatDoorAlq
import Derived.Test.YtffipjofefemiaaGreatDoorQlv
namespace Go.Proofs.YtffipjofefemiaaGreatDoor
open Go.RowKit Kb

/-- One half. -/
def hf : Rat := mkRat 1 2
theorem hf_two : hf + hf = 1 := by
  unfold hf
  rw [Rat.mkRat_add_mkRat _ _ (by decide) (by decide), show (1 : Rat) = mkRat 1 1 from (Rat.mkRat_self 1).symm, Rat.mkRat_eq_iff (by decide) (by decide)]
  decide
/-- A term of the sum that Integral makes. -/
def iterm (X : Nat → Int) (Q : Nat → Rat) (u : Nat) (y : Rat) (j : Nat) : Rat := (Q j * (tov X u y j - (X j : Rat))) * (y - ((X j : Rat) + tov X u y j) * hf)
/-- A term of the sum that the reference makes. -/
def irf (n : Nat) (X : Nat → Int) (Q : Nat → Rat) (y : Rat) (i : Nat) : Rat := Kc.pre X Q i * Kc.pc n X i y + (Q i * (Kc.pc n X i y * Kc.pc n X i y)) * hf
def ig (n : Nat) (X : Nat → Int) (Q : Nat → Rat) (y : Rat) : Rat := Kc.sm (irf n X Q y) n
/-- Whole pieces. -/
def gp (X : Nat → Int) (j : Nat) : Rat := (X (j + 1) : Rat) - (X j : Rat)
def whole (X : Nat → Int) (Q : Nat → Rat) (i : Nat) : Rat := Kc.sm (fun j => Kc.pre X Q j * gp X j + (Q j * (gp X j * gp X j)) * hf) i
theorem whole_eq (X : Nat → Int) (Q : Nat → Rat) (z : Rat) (k : Nat) : Kc.sm (fun j => (Q j * gp X j) * (z - ((X j : Rat) + (X (j + 1) : Rat)) * hf)) k = whole X Q k + Kc.pre X Q k * (z - (X k : Rat)) := by
  induction k with
  | zero => unfold whole Kc.pre Kc.sm; grind
  | succ k ih =>
    have e1 : Kc.sm (fun j => (Q j * gp X j) * (z - ((X j : Rat) + (X (j + 1) : Rat)) * hf)) (k + 1) = Kc.sm (fun j => (Q j * gp X j) * (z - ((X j : Rat) + (X (j + 1) : Rat)) * hf)) k + (Q k * gp X k) * (z - ((X k : Rat) + (X (k + 1) : Rat)) * hf) := rfl
    have e2 : whole X Q (k + 1) = whole X Q k + (Kc.pre X Q k * gp X k + (Q k * (gp X k * gp X k)) * hf) := rfl
    have e3 : Kc.pre X Q (k + 1) = Kc.pre X Q k + Q k * gp X k := rfl
    have h2 := hf_two
    rw [e1, e2, e3, ih]
    have eg : gp X k = (X (k + 1) : Rat) - (X k : Rat) := rfl
    generalize gp X k = L at *
    generalize (X (k + 1) : Rat) = b at *
    generalize (X k : Rat) = a at *
    generalize Kc.pre X Q k = p at *
    generalize whole X Q k = W at *
    generalize Q k = q at *
    generalize hf = h at *
    grind
theorem pc_whole {n : Nat} {X : Nat → Int} (h : Kc.Inc n X) {j : Nat} {y : Rat} (hj : j + 1 < n) (h2 : (X (j + 1) : Rat) ≤ y) : Kc.pc n X j y = gp X j := by
  have h3 := Kc.cast_lt (h j hj)
  unfold Kc.pc gp
  rw [if_neg (by grind)]
  by_cases h5 : (X (j + 1) : Rat) < y
  · rw [if_pos ⟨hj, h5⟩]
  · rw [if_neg (fun e => h5 e.2)]; grind
theorem pc_last {n : Nat} {X : Nat → Int} {j : Nat} {y : Rat} (h1 : (X j : Rat) ≤ y) (h2 : j + 1 < n → y < (X (j + 1) : Rat)) : Kc.pc n X j y = y - (X j : Rat) := by
  unfold Kc.pc
  by_cases h3 : y ≤ (X j : Rat)
  · rw [if_pos h3]; grind
  · rw [if_neg h3, if_neg (fun e => by have := h2 e.1; grind)]
theorem pc_none {n : Nat} {X : Nat → Int} {j : Nat} {y : Rat} (h1 : y < (X j : Rat)) : Kc.pc n X j y = 0 := by
  unfold Kc.pc; rw [if_pos (by grind)]
theorem irf_whole {n : Nat} {X : Nat → Int} {Q : Nat → Rat} {y : Rat} {u i : Nat} (h : Kc.Inc n X) (hu : Upto n X y u) (hi : i + 1 ≤ u) : Kc.sm (irf n X Q y) i = whole X Q i :=
  Kc.sm_congr fun j hj => by
    have hle := hu.le
    show irf n X Q y j = _
    unfold irf
    rw [pc_whole h (by omega) (hu.lo (j + 1) (by omega))]
theorem ig_eq {n : Nat} {X : Nat → Int} {Q : Nat → Rat} {y : Rat} {u : Nat} (h : Kc.Inc n X) (hu : Upto n X y u) : Kc.sm (iterm X Q u y) u = ig n X Q y := by
  have hle := hu.le
  unfold ig
  rw [Kc.sm_zero (f := irf n X Q y) (k := u) hle (fun j h1 h2 => by unfold irf; rw [pc_none (hu.hi j h1 h2)]; grind)]
  match u, hu with
  | 0, _ => rfl
  | k + 1, hu =>
    have e1 : Kc.sm (iterm X Q (k + 1) y) (k + 1) = Kc.sm (iterm X Q (k + 1) y) k + iterm X Q (k + 1) y k := rfl
    have e2 : Kc.sm (irf n X Q y) (k + 1) = Kc.sm (irf n X Q y) k + irf n X Q y k := rfl
    rw [e1, e2, irf_whole h hu (Nat.le_refl _)]
    have e3 : Kc.sm (iterm X Q (k + 1) y) k = Kc.sm (fun j => (Q j * gp X j) * (y - ((X j : Rat) + (X (j + 1) : Rat)) * hf)) k := Kc.sm_congr fun j hj => by
      unfold iterm tov gp; rw [if_pos (by omega)]
    have e4 : iterm X Q (k + 1) y k = (Q k * (y - (X k : Rat))) * (y - ((X k : Rat) + y) * hf) := by
      unfold iterm tov; rw [if_neg (by omega)]
    have e5 : irf n X Q y k = Kc.pre X Q k * (y - (X k : Rat)) + (Q k * ((y - (X k : Rat)) * (y - (X k : Rat)))) * hf := by
      unfold irf; rw [pc_last (hu.lo k (by omega)) (fun hl => hu.hi (k + 1) (Nat.le_refl _) hl)]
    rw [e3, e4, e5, whole_eq]
    have h2 := hf_two
    generalize (X k : Rat) = a at *
    generalize Kc.pre X Q k = p at *
    generalize whole X Q k = W at *
    generalize Q k = q at *
    generalize hf = h at *
    grind
theorem hf_ql : QL 1 hf := by
  unfold hf
  exact mk_ql (by decide) (by unfold Le; decide) (by unfold Le; decide)
theorem whole_ql' {n kc : Nat} {X : Nat → Int} {Q : Nat → Rat} (h : Okc n X Q) (hq : ∀ i, i < n → QL kc (Q i)) {i : Nat} (hi : i < n) : QL (1 + i * (kc + 12)) (whole X Q i) := by
  have e : whole X Q i = Kc.sm (fun j => (Q j * gp X j) * ((X i : Rat) - ((X j : Rat) + (X (j + 1) : Rat)) * hf)) i := by
    rw [whole_eq]; grind
  rw [e]
  have key : ∀ k, k ≤ i → QL (1 + k * (kc + 12)) (Kc.sm (fun j => (Q j * gp X j) * ((X i : Rat) - ((X j : Rat) + (X (j + 1) : Rat)) * hf)) k) := fun k => by
    induction k with
    | zero => intro _; rw [Nat.zero_mul]; exact QL.zero _ (by decide)
    | succ k ih =>
      intro hk
      have e1 : Kc.sm (fun j => (Q j * gp X j) * ((X i : Rat) - ((X j : Rat) + (X (j + 1) : Rat)) * hf)) (k + 1) = Kc.sm (fun j => (Q j * gp X j) * ((X i : Rat) - ((X j : Rat) + (X (j + 1) : Rat)) * hf)) k + (Q k * gp X k) * ((X i : Rat) - ((X k : Rat) + (X (k + 1) : Rat)) * hf) := rfl
      rw [e1]
      have l1 := (hq k (by omega)).mul (h.gapql (show k + 1 < n by omega))
      have l2 := (h.ql hi).sub (((h.ql (show k < n by omega)).add (h.ql (show k + 1 < n by omega))).mul hf_ql)
      exact ((ih (by omega)).add (l1.mul l2)).mono (by rw [Nat.succ_mul]; omega)
  exact key i (Nat.le_refl _)

end Go.Proofs.YtffipjofefemiaaGreatDoor
