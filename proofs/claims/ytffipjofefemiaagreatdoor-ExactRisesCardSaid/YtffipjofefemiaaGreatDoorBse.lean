/- The contract of slices.BinarySearch at a slice of increasing integers at any address. -/
import Derived.Test.YtffipjofefemiaaGreatDoorSi
import Derived.Test.YtffipjofefemiaaGreatDoorShelf
import Derived.Deep.LoopGhost
import Derived.Lib.Walk
namespace Go.Proofs.YtffipjofefemiaaGreatDoor
open Go.RowKit Go.Lib Kb

/-- Where a search ends. -/
def Found (n : Nat) (X : Nat → Int) (t : Int) (i : Nat) : Prop := i ≤ n ∧ (∀ j, j < i → X j < t) ∧ (∀ j, i ≤ j → j < n → t ≤ X j)
set_option maxRecDepth 100000 in
set_option maxHeartbeats 4000000 in
theorem search_any (A : Option Addr) (n c B0 : Nat) (X : Nat → Int) (t : Int) (w : World) (h : Si w B0 A n X) (hI : Kc.Inc n X) (hn : n ≤ 1000) :
    Calls Tryz.prog 135 #[.slice A n c, .int .i64 t] w fun e w' => ∃ i b, e = .returned (.tuple #[.int .i64 ((i : Nat) : Int), .bool b]) ∧ Hid (Found n X t i ∧ b = decide (i < n ∧ X i = t)) ∧ ∃ q, w' = w.drewN q := by
  have HI := hid hI
  have HS := hid h
  clear hI h
  go_enter Tryz.func135, Tryz.ntmps135
  go_wp2
  go_loopg [7, 8] n (fun g s7 s8 wr => ∃ lo hi q : Nat, s7 = .int .i64 lo ∧ s8 = .int .i64 hi ∧ lo ≤ hi ∧ hi ≤ n ∧ hi - lo ≤ g ∧ wr = w.drewN q ∧ (∀ t', t' < lo → X t' < t) ∧ (∀ t', hi ≤ t' → t' < n → t ≤ X t'))
  case atStart => exact ⟨0, n, 0, rfl, rfl, Nat.zero_le _, Nat.le_refl _, by omega, rfl, fun t ht => absurd ht (Nat.not_lt_zero _), fun t h1 h2 => by omega⟩
  case round =>
    obtain ⟨lo, hi, q, rfl, rfl, hlh, hin, hg, rfl, h1, h2⟩ := hrel
    have I := hid (And.intro h1 h2)
    clear h1 h2
    by_cases hlt : lo < hi
    · obtain ⟨ad, rfl, -, cm⟩ := HS.out ((lo + hi) / 2) (by omega)
      have HS' := hid HS.out
      clear HS
      generalize hy : X ((lo + hi) / 2) = y at cm
      have Y := hid hy
      clear hy
      by_cases hyx : y < t
      · go_wp2_with (first | (go_at_call 143; refine (Tryz.cmp_Less_int2 _ _ _).mono ?_; rintro e w' ⟨rfl, rfl⟩) | (go_at_call 159; refine (Tryz.slices_isNaN_int2 _ _).mono ?_; rintro e w' ⟨rfl, rfl⟩))
        go_roundg (hi - ((lo + hi) / 2 + 1))
        case measure => omega
        case rel =>
          refine ⟨(lo + hi) / 2 + 1, hi, _, by rw [show ((lo : Int) + (hi : Int)) / 2 + 1 = (((lo + hi) / 2 + 1 : Nat) : Int) by omega], rfl, by omega, hin, Nat.le_refl _, rfl, fun t' ht => ?_, I.out.2⟩
          have := HI.out.le (show t' ≤ (lo + hi) / 2 by omega) (by omega)
          rw [Y.out] at this
          omega
      · go_wp2_with (first | (go_at_call 143; refine (Tryz.cmp_Less_int2 _ _ _).mono ?_; rintro e w' ⟨rfl, rfl⟩) | (go_at_call 159; refine (Tryz.slices_isNaN_int2 _ _).mono ?_; rintro e w' ⟨rfl, rfl⟩))
        go_roundg ((lo + hi) / 2 - lo)
        case measure => omega
        case rel =>
          refine ⟨lo, (lo + hi) / 2, _, rfl, by rw [show ((lo : Int) + (hi : Int)) / 2 = (((lo + hi) / 2 : Nat) : Int) by omega], by omega, by omega, Nat.le_refl _, rfl, I.out.1, fun t' ht htn => ?_⟩
          have := HI.out.le (show (lo + hi) / 2 ≤ t' by omega) htn
          rw [Y.out] at this
          omega
    · have : hi = lo := by omega
      subst this
      by_cases hn : hi < n
      · obtain ⟨ad, rfl, -, cl⟩ := HS.out hi (by omega)
        have HS' := hid HS.out
        clear HS
        generalize hy : X hi = y at cl
        have Y := hid hy
        clear hy
        by_cases hyx : y = t
        · go_wp2_with (first | (go_at_call 143; refine (Tryz.cmp_Less_int2 _ _ _).mono ?_; rintro e w' ⟨rfl, rfl⟩) | (go_at_call 159; refine (Tryz.slices_isNaN_int2 _ _).mono ?_; rintro e w' ⟨rfl, rfl⟩))
          go_ret2
          refine ⟨hi, true, ?_, hid ⟨⟨hin, I.out.1, I.out.2⟩, by rw [Y.out, decide_eq_true (show hi < n ∧ y = t from ⟨hn, hyx⟩)]⟩, _, rfl⟩
          first | rfl | simp [*]
        · go_wp2_with (first | (go_at_call 143; refine (Tryz.cmp_Less_int2 _ _ _).mono ?_; rintro e w' ⟨rfl, rfl⟩) | (go_at_call 159; refine (Tryz.slices_isNaN_int2 _ _).mono ?_; rintro e w' ⟨rfl, rfl⟩))
          go_ret2
          refine ⟨hi, false, ?_, hid ⟨⟨hin, I.out.1, I.out.2⟩, by rw [Y.out, decide_eq_false (show ¬ (hi < n ∧ y = t) from fun h => hyx h.2)]⟩, _, rfl⟩
          first | rfl | simp [*]
      · go_wp2_with (first | (go_at_call 143; refine (Tryz.cmp_Less_int2 _ _ _).mono ?_; rintro e w' ⟨rfl, rfl⟩) | (go_at_call 159; refine (Tryz.slices_isNaN_int2 _ _).mono ?_; rintro e w' ⟨rfl, rfl⟩))
        go_ret2
        refine ⟨hi, false, ?_, hid ⟨⟨hin, I.out.1, I.out.2⟩, by rw [decide_eq_false (show ¬ (hi < n ∧ X hi = t) from fun h => hn h.1)]⟩, _, rfl⟩
        first | rfl | simp [*]

end Go.Proofs.YtffipjofefemiaaGreatDoor
