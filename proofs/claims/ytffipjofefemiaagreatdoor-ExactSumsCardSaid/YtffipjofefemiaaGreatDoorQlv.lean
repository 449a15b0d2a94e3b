/- The sizes of values of curves. No program in it. -/
import Derived.Test.YtffipjofefemiaaGreatDoorCrv
import Derived.Test.YtffipjofefemiaaGreatDoorUpt
namespace Go.Proofs.YtffipjofefemiaaGreatDoor
open Go.RowKit Kb

theorem QL.zero (k : Nat) (hk : 0 < k) : QL k 0 := (whole_ql (z := 0) (Le.zero _) hk)
theorem QL.div' {k l : Nat} {x y : Rat} (h : QL k x) (g : QL l y) (hy : y ≠ 0) (hk : 0 < k) : QL (k + l) (x / y) := by
  obtain ⟨e, h1, h2⟩ := h.pq.div g.pq (fun e => hy (Rat.num_eq_zero.1 e))
  rw [← e]
  exact rv_ql (by omega) h1 h2
section
variable {n : Nat} {X : Nat → Int} {Q : Nat → Rat} {kc k : Nat}
theorem Okc.gapql (h : Okc n X Q) {i : Nat} (hi : i + 1 < n) : QL 2 ((X (i + 1) : Rat) - (X i : Rat)) := by
  have : ((X (i + 1) : Rat) - (X i : Rat)) = (((X (i + 1) - X i : Int)) : Rat) := by simp
  rw [this]
  exact whole_ql (le_of_small (by have := h.far i (by omega); have := h.far (i + 1) hi; omega)) (by decide)
theorem pre_ql (h : Okc n X Q) (hq : ∀ i, i < n → QL kc (Q i)) {i : Nat} (hi : i < n) : QL (1 + i * (kc + 3)) (Kc.pre X Q i) := by
  induction i with
  | zero => rw [Nat.zero_mul]; exact QL.zero _ (by decide)
  | succ i ih =>
    have e : Kc.pre X Q (i + 1) = Kc.pre X Q i + Q i * ((X (i + 1) : Rat) - (X i : Rat)) := rfl
    rw [e]
    exact ((ih (by omega)).add ((hq i (by omega)).mul (h.gapql hi))).mono (by rw [Nat.succ_mul]; omega)
theorem upto_ex (h : Kc.Inc n X) (y : Rat) : ∃ u, Upto n X y u := by
  have key : ∀ m, m ≤ n → ∃ u, u ≤ m ∧ (∀ i, i < u → (X i : Rat) ≤ y) ∧ (∀ i, u ≤ i → i < m → y < (X i : Rat)) := fun m => by
    induction m with
    | zero => exact fun _ => ⟨0, Nat.le_refl _, fun i hi => absurd hi (Nat.not_lt_zero _), fun i _ hi => absurd hi (Nat.not_lt_zero _)⟩
    | succ m ih =>
      intro hm
      obtain ⟨u, h1, h2, h3⟩ := ih (by omega)
      by_cases hu : u = m
      · subst hu
        by_cases hx : (X u : Rat) ≤ y
        · exact ⟨u + 1, Nat.le_refl _, fun i hi => by
            rcases Nat.lt_or_ge i u with h | h
            · exact h2 i h
            · have : i = u := by omega
              subst this; exact hx, fun i hi hm => by omega⟩
        · exact ⟨u, by omega, h2, fun i hi hm => by
            have : i = u := by omega
            subst this; grind⟩
      · refine ⟨u, by omega, h2, fun i hi him => ?_⟩
        rcases Nat.lt_or_ge i m with hh | hh
        · exact h3 i hi hh
        · have : i = m := by omega
          subst this
          have h4 := h3 u (Nat.le_refl _) (by omega)
          have h5 := Kc.cast_le (h.le (show u ≤ i by omega) (by omega))
          grind
  obtain ⟨u, h1, h2, h3⟩ := key n (Nat.le_refl _)
  exact ⟨u, h1, h2, h3⟩
theorem vl_ql (h : Okc n X Q) (hq : ∀ i, i < n → QL kc (Q i)) {y : Rat} (hy : QL k y) : QL (11 * (kc + 3) + kc + k + 5) (Kc.vl n X Q y) := by
  obtain ⟨u, hu⟩ := upto_ex h.inc y
  match u, hu with
  | 0, hu =>
    rw [Kc.vl_before h.inc (fun hn => Rat.le_of_lt (hu.hi 0 (Nat.le_refl _) hn))]
    exact QL.zero _ (by omega)
  | i + 1, hu =>
    have hin : i < n := by have := hu.le; omega
    rw [Kc.vl_in h.inc hin (hu.lo i (by omega)) (fun hl => Rat.le_of_lt (hu.hi (i + 1) (Nat.le_refl _) hl))]
    refine ((pre_ql h hq hin).add ((hq i hin).mul (hy.sub (h.ql hin)))).mono ?_
    have h1 := Nat.mul_le_mul_right (kc + 3) (show i ≤ 11 by have := h.few; omega)
    omega
end

end Go.Proofs.YtffipjofefemiaaGreatDoor
