/- exact.Small. For all integers whose limbs fit into memory. -/
import Derived.Test.YtffipjofefemiaaGreatDoorMR2
import Derived.Test.YtffipjofefemiaaGreatDoorMD
namespace Go.Proofs.YtffipjofefemiaaGreatDoor
open Go.RowKit Kb

set_option maxRecDepth 100000 in
set_option maxHeartbeats 2000000 in
theorem Small_neg (A : Option Addr) (n c a : Nat) (w : World) (h : Raw w A n c a) (ha : a ≤ 9223372036854775808) :
    Calls Tryz.prog 134 #[.agg #[.bool true, .slice A n c]] w fun e w' => e = .returned (.tuple #[.int .i64 (-(a : Int)), .bool true]) ∧ Below w.heap.size w w' := by
  have hl : (dig a).length ≤ 4 := dig_length_le (by rw [show (65536 : Nat) ^ 4 = 18446744073709551616 from rfl]; omega)
  have hb0 := (Below.refl w.heap.size w).alloc (Nat.le_refl _) (.cells #[.bool true, .slice A n c] 24)
  have j1 := Bk.of_alloc w (.cells #[.bool true, .slice A n c] 24) rfl
  have h0 := h.below hb0
  clear h
  go_enter Tryz.func134, Tryz.ntmps134
  go_wp2_with fail
  refine (size_any true A n c a _ h0).mono ?_
  rintro e w1 ⟨v, rfl, hv, hb1⟩
  replace j1 := j1.step hb1
  obtain ⟨x0, x1, -, -⟩ := j1.c2
  have hl1 := j1.lt
  have hv' := hv
  obtain ⟨A', c', rfl, -⟩ := hv
  have hB1 := bthen hb0 hb1 (Nat.le_refl _)
  have hle : ¬ (4 : Int) < ((dig a).length : Int) := by omega
  go_wp2_with fail
  refine (wordOf_nm hv' (lt_of_dig_length hl)).mono ?_
  rintro e w2 ⟨rfl, rfl⟩
  have hgt : ¬ (9223372036854775808 : Int) < (a : Int) := by omega
  have hw := hid (show wrap64 (-wrap64 (a : Int)) = -(a : Int) by unfold wrap64; omega)
  have hge : (decide ((9223372036854775808 : Int) < (a : Int))) = false := decide_eq_false hgt
  clear ha hle
  go_wp2
  go_ret2
  refine ⟨?_, hB1⟩
  show Ending.returned (.tuple #[.int .i64 (wrap64 (-wrap64 (a : Int))), .bool true]) = _
  rw [hw.out]
set_option maxRecDepth 100000 in
set_option maxHeartbeats 2000000 in
theorem Small_neg_no (A : Option Addr) (n c a : Nat) (w : World) (h : Raw w A n c a) (ha : 9223372036854775808 < a) (hl : (dig a).length ≤ 4) :
    Calls Tryz.prog 134 #[.agg #[.bool true, .slice A n c]] w fun e w' => e = .returned (.tuple #[.int .i64 0, .bool false]) ∧ Below w.heap.size w w' := by
  have hb0 := (Below.refl w.heap.size w).alloc (Nat.le_refl _) (.cells #[.bool true, .slice A n c] 24)
  have j1 := Bk.of_alloc w (.cells #[.bool true, .slice A n c] 24) rfl
  have h0 := h.below hb0
  clear h
  go_enter Tryz.func134, Tryz.ntmps134
  go_wp2_with fail
  refine (size_any true A n c a _ h0).mono ?_
  rintro e w1 ⟨v, rfl, hv, hb1⟩
  replace j1 := j1.step hb1
  obtain ⟨x0, x1, -, -⟩ := j1.c2
  have hl1 := j1.lt
  have hv' := hv
  obtain ⟨A', c', rfl, -⟩ := hv
  have hB1 := bthen hb0 hb1 (Nat.le_refl _)
  have hle : ¬ (4 : Int) < ((dig a).length : Int) := by omega
  go_wp2_with fail
  refine (wordOf_nm hv' (lt_of_dig_length hl)).mono ?_
  rintro e w2 ⟨rfl, rfl⟩
  have hgt : (9223372036854775808 : Int) < (a : Int) := by omega
  have hge : (decide ((9223372036854775808 : Int) < (a : Int))) = true := decide_eq_true hgt
  clear ha hle
  go_wp2
  go_ret2
  exact ⟨rfl, hB1⟩
set_option maxRecDepth 100000 in
set_option maxHeartbeats 2000000 in
theorem Small_pos_no (A : Option Addr) (n c a : Nat) (w : World) (h : Raw w A n c a) (ha : 9223372036854775808 ≤ a) (hl : (dig a).length ≤ 4) :
    Calls Tryz.prog 134 #[.agg #[.bool false, .slice A n c]] w fun e w' => e = .returned (.tuple #[.int .i64 0, .bool false]) ∧ Below w.heap.size w w' := by
  have hb0 := (Below.refl w.heap.size w).alloc (Nat.le_refl _) (.cells #[.bool false, .slice A n c] 24)
  have j1 := Bk.of_alloc w (.cells #[.bool false, .slice A n c] 24) rfl
  have h0 := h.below hb0
  clear h
  go_enter Tryz.func134, Tryz.ntmps134
  go_wp2_with fail
  refine (size_any false A n c a _ h0).mono ?_
  rintro e w1 ⟨v, rfl, hv, hb1⟩
  replace j1 := j1.step hb1
  obtain ⟨x0, x1, -, -⟩ := j1.c2
  have hl1 := j1.lt
  have hv' := hv
  obtain ⟨A', c', rfl, -⟩ := hv
  have hB1 := bthen hb0 hb1 (Nat.le_refl _)
  have hle : ¬ (4 : Int) < ((dig a).length : Int) := by omega
  go_wp2_with fail
  refine (wordOf_nm hv' (lt_of_dig_length hl)).mono ?_
  rintro e w2 ⟨rfl, rfl⟩
  have hgt : (9223372036854775808 : Int) ≤ (a : Int) := by omega
  have hge : (decide ((9223372036854775808 : Int) ≤ (a : Int))) = true := decide_eq_true hgt
  clear ha hle
  go_wp2
  go_ret2
  exact ⟨rfl, hB1⟩
set_option maxRecDepth 100000 in
set_option maxHeartbeats 2000000 in
theorem Small_long (p : Bool) (A : Option Addr) (n c a : Nat) (w : World) (h : Raw w A n c a) (hl : 4 < (dig a).length) :
    Calls Tryz.prog 134 #[.agg #[.bool p, .slice A n c]] w fun e w' => e = .returned (.tuple #[.int .i64 0, .bool false]) ∧ Below w.heap.size w w' := by
  have hb0 := (Below.refl w.heap.size w).alloc (Nat.le_refl _) (.cells #[.bool p, .slice A n c] 24)
  have j1 := Bk.of_alloc w (.cells #[.bool p, .slice A n c] 24) rfl
  have h0 := h.below hb0
  clear h
  go_enter Tryz.func134, Tryz.ntmps134
  go_wp2_with fail
  refine (size_any p A n c a _ h0).mono ?_
  rintro e w1 ⟨v, rfl, hv, hb1⟩
  replace j1 := j1.step hb1
  obtain ⟨x0, x1, -, -⟩ := j1.c2
  have hl1 := j1.lt
  have hv' := hv
  obtain ⟨A', c', rfl, -⟩ := hv
  have hB1 := bthen hb0 hb1 (Nat.le_refl _)
  have hle : (4 : Int) < ((dig a).length : Int) := by omega
  clear hl
  go_wp2
  go_ret2
  exact ⟨rfl, hB1⟩

/-- Does an integer fit into an int? -/
def fits (x : Int) : Bool := decide (-9223372036854775808 ≤ x ∧ x ≤ 9223372036854775807)
def sml (x : Int) : Int := if fits x = true then x else 0
theorem SmallZ {w : World} {s : Bool} {A : Option Addr} {n c : Nat} {x : Int} (h : Zi w s A n c x) :
    Calls Tryz.prog 134 #[.agg #[.bool s, .slice A n c]] w fun e w' => e = .returned (.tuple #[.int .i64 (sml x), .bool (fits x)]) ∧ Below w.heap.size w w' := by
  obtain ⟨a, hr, e⟩ := h
  have e := e.out
  by_cases hl : (dig a).length ≤ 4
  · have ha : a < 65536 ^ 4 := lt_of_dig_length hl
    rw [show (65536 : Nat) ^ 4 = 18446744073709551616 from rfl] at ha
    cases s
    · have ex : x = (a : Int) := by rw [← e]; rfl
      by_cases hb : a < 9223372036854775808
      · have hf : fits x = true := decide_eq_true (by omega)
        unfold sml
        rw [if_pos hf, hf, ex]
        exact Small_nat A n c a w hr hb
      · have hf : fits x = false := decide_eq_false (by omega)
        unfold sml
        rw [hf, if_neg (by decide)]
        exact Small_pos_no A n c a w hr (by omega) hl
    · have ex : x = -(a : Int) := by rw [← e]; rfl
      by_cases hb : a ≤ 9223372036854775808
      · have hf : fits x = true := decide_eq_true (by omega)
        unfold sml
        rw [if_pos hf, hf, ex]
        exact Small_neg A n c a w hr hb
      · have hf : fits x = false := decide_eq_false (by omega)
        unfold sml
        rw [hf, if_neg (by decide)]
        exact Small_neg_no A n c a w hr (by omega) hl
  · have ha : 65536 ^ 4 ≤ a := by
      rcases Nat.lt_or_ge a (65536 ^ 4) with h | h
      · exact absurd (dig_length_le h) hl
      · exact h
    rw [show (65536 : Nat) ^ 4 = 18446744073709551616 from rfl] at ha
    have hf : fits x = false := decide_eq_false (by
      have : x.natAbs = a := by rw [← e, natAbs_toZ]
      omega)
    unfold sml
    rw [hf, if_neg (by decide)]
    exact Small_long s A n c a w hr (by omega)

end Go.Proofs.YtffipjofefemiaaGreatDoor
