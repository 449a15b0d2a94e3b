/- The contract of startsUpTo. For all increasing starts within the range of curves, and all fractions of at most 400 limbs. -/
import Derived.Test.YtffipjofefemiaaGreatDoorBse
import Derived.Test.YtffipjofefemiaaGreatDoorMI
import Derived.Test.YtffipjofefemiaaGreatDoorSmm
namespace Go.Proofs.YtffipjofefemiaaGreatDoor
open Go.RowKit Kb

/-- u starts are not greater than y. -/
structure Upto (n : Nat) (X : Nat → Int) (y : Rat) (u : Nat) : Prop where
  le : u ≤ n
  lo : ∀ i, i < u → (X i : Rat) ≤ y
  hi : ∀ i, u ≤ i → i < n → y < (X i : Rat)
theorem upto_floor {y : Rat} {z : Int} (h1 : (z : Rat) ≤ y) (h2 : y < (z : Rat) + 1) (t : Int) : (t : Rat) ≤ y ↔ t ≤ z := by
  constructor
  · intro h
    rcases Int.lt_or_le z t with h3 | h3
    · exfalso
      have h4 : ((z + 1 : Int) : Rat) ≤ (t : Rat) := Rat.intCast_le_intCast.2 (by omega)
      have h5 : ((z + 1 : Int) : Rat) = (z : Rat) + 1 := by simp
      rw [h5] at h4
      grind
    · exact h3
  · intro h
    have h4 : (t : Rat) ≤ (z : Rat) := Rat.intCast_le_intCast.2 h
    grind
theorem Upto.of_floor {n : Nat} {X : Nat → Int} {y : Rat} {z : Int} {u : Nat} (h1 : (z : Rat) ≤ y) (h2 : y < (z : Rat) + 1) (hu : u ≤ n) (lo : ∀ i, i < u → X i ≤ z) (hi : ∀ i, u ≤ i → i < n → z < X i) : Upto n X y u :=
  ⟨hu, fun i h => (upto_floor h1 h2 _).2 (lo i h), fun i h hn => by
    have := hi i h hn
    rcases Classical.em ((X i : Rat) ≤ y) with h3 | h3
    · have := (upto_floor h1 h2 _).1 h3; omega
    · grind⟩
theorem upto_found {n : Nat} {X : Nat → Int} {y : Rat} {z : Int} {i : Nat} (hI : Kc.Inc n X) (h1 : (z : Rat) ≤ y) (h2 : y < (z : Rat) + 1) (h : Found n X z i) (hx : i < n ∧ X i = z) : Upto n X y (i + 1) :=
  Upto.of_floor h1 h2 (by omega) (fun j hj => by
    rcases Nat.lt_or_ge j i with h3 | h3
    · have := h.2.1 j h3; omega
    · have : j = i := by omega
      subst this; omega) (fun j hj hn => by have := hI.lt (show i < j by omega) hn; omega)
theorem upto_not {n : Nat} {X : Nat → Int} {y : Rat} {z : Int} {i : Nat} (hI : Kc.Inc n X) (h1 : (z : Rat) ≤ y) (h2 : y < (z : Rat) + 1) (h : Found n X z i) (hx : ¬ (i < n ∧ X i = z)) : Upto n X y i :=
  Upto.of_floor h1 h2 h.1 (fun j hj => by have := h.2.1 j hj; omega) (fun j hj hn => by
    have h3 := h.2.2 j hj hn
    rcases Nat.lt_or_ge i j with h4 | h4
    · have := hI.lt h4 hn; have := h.2.2 i (Nat.le_refl _) (by omega); omega
    · have : j = i := by omega
      subst this
      have : X j ≠ z := fun e => hx ⟨hn, e⟩
      omega)

set_option maxRecDepth 100000 in
set_option maxHeartbeats 4000000 in
theorem startsUpTo_q {w : World} {A : Option Addr} {n c : Nat} {B : Option Addr} {m d B0 k : Nat} {X : Nat → Int} {y : Rat} {s1 s2 : Bool} {A1 A2 : Option Addr} {n1 c1 n2 c2 : Nat} (h : Si w B0 A n X) (hB0 : B0 ≤ w.heap.size) (hI : Kc.Inc n X) (hn : n ≤ 1000) (hX : ∀ i, i < n → -10000000 ≤ X i ∧ X i ≤ 10000000) (k0 : Qi w s1 A1 n1 c1 s2 A2 n2 c2 k y) (hk0 : 0 < k) (hk : k ≤ 400) :
    Calls Tryz.prog 120 #[.agg #[.slice A n c, .slice B m d], .agg #[.bool s1, .slice A1 n1 c1, .bool s2, .slice A2 n2 c2]] w fun e w' => ∃ u : Nat, e = .returned (.int .i64 (u : Int)) ∧ Hid (Upto n X y u) ∧ Below w.heap.size w w' := by
  have hb0 := below_two w (.cells #[.slice A n c, .slice B m d] 48) (.cells #[.bool s1, .slice A1 n1 c1, .bool s2, .slice A2 n2 c2] 26)
  have j1 := box1 w (.cells #[.slice A n c, .slice B m d] 48) (.cells #[.bool s1, .slice A1 n1 c1, .bool s2, .slice A2 n2 c2] 26)
  have h0 := k0.below hb0
  have HI := hid hI
  have HX := hid hX
  have HS := hid h
  have HB0 := hid hB0
  clear hI hX h k0 hB0
  go_enter Tryz.func120, Tryz.ntmps120
  go_wp2_with fail
  refine (Floor_q h0 hk0 hk).mono ?_
  rintro e w1 ⟨r, R, o, e1, z, rfl, hn1, HZ, hb1⟩
  replace j1 := j1.step hb1
  have hB1 := hid (bthen hb0 hb1 (Nat.le_refl _))
  have hqb := (Below.refl w1.heap.size w1).alloc (Nat.le_refl _) (.cells #[.bool r, .slice R o e1] 24)
  replace j1 := j1.alloc (.cells #[.bool r, .slice R o e1] 24)
  have hn2 := hn1.below hqb
  have hB2 := hid (bthen hB1.out hqb (Nat.le_refl _))
  have j5 := Bk.of_alloc w1 (.cells #[.bool r, .slice R o e1] 24) rfl
  have Hz := hid HZ.out.2
  clear hqb hn1 hb1 h0 hb0 HZ
  go_wp2_with fail
  refine (SmallZ hn2.zi).mono ?_
  rintro e w2 ⟨rfl, hb2⟩
  replace j1 := j1.step hb2
  replace j5 := j5.step hb2
  replace hn2 := hn2.below hb2
  have hB3 := hid (bthen hB2.out hb2 (Nat.le_refl _))
  obtain ⟨x0, x1, -, -⟩ := j1.c2
  obtain ⟨x2, x3, -, -⟩ := j5.c2
  have hlw := j1.lt
  clear hb2
  by_cases hf : fits z = true
  · have hs : sml z = z := by unfold sml; rw [if_pos hf]
    rw [hs, hf]
    clear hs hf
    have hw := hid (HS.out.below hB3.out HB0.out)
    go_wp2_with fail
    refine (search_any A n c B0 X z w2 hw.out HI.out hn).mono ?_
    rintro e w3 ⟨i, b, rfl, HF, q, rfl⟩
    have hB4 := hid (hB3.out.drewN' q)
    have hi : i ≤ 1000 := Nat.le_trans HF.out.1.1 hn
    cases b with
    | true =>
      have HU := hid (upto_found HI.out Hz.out.1 Hz.out.2 HF.out.1 (of_decide_eq_true HF.out.2.symm))
      go_wp2
      go_ret
      exact ⟨i + 1, by go_num, HU, hB4.out⟩
    | false =>
      have HU := hid (upto_not HI.out Hz.out.1 Hz.out.2 HF.out.1 (of_decide_eq_false HF.out.2.symm))
      go_wp2
      go_ret
      exact ⟨i, rfl, HU, hB4.out⟩
  · have hf' : fits z = false := by simpa using hf
    have hs : sml z = 0 := by unfold sml; rw [if_neg hf]
    rw [hs, hf']
    have hz : ¬ (-9223372036854775808 ≤ z ∧ z ≤ 9223372036854775807) := of_decide_eq_false hf'
    clear hs hf hf'
    rcases Int.lt_or_le 0 z with h0 | h0
    · have hsg : z.sign = 1 := Int.sign_eq_one_of_pos h0
      have HU := hid (show Upto n X y n from Upto.of_floor Hz.out.1 Hz.out.2 (Nat.le_refl _) (fun i hi => by have := HX.out i hi; omega) (fun i hi hn => by omega))
      clear h0 hz
      go_wp2_with fail
      refine (SignZ hn2.zi).mono ?_
      rintro e w3 ⟨rfl, hb3⟩
      rw [hsg]
      replace j1 := j1.step hb3
      have hB4 := hid (bthen hB3.out hb3 (Nat.le_refl _))
      clear x0 x1 x2 x3 hb3 hsg
      obtain ⟨x0, x1, -, -⟩ := j1.c2
      go_wp2
      go_ret
      exact ⟨n, rfl, HU, hB4.out⟩
    · have hsg : z.sign = -1 := Int.sign_eq_neg_one_of_neg (by omega)
      have HU := hid (show Upto n X y 0 from Upto.of_floor Hz.out.1 Hz.out.2 (Nat.zero_le _) (fun i hi => by omega) (fun i hi hn => by have := HX.out i hn; omega))
      clear h0 hz
      go_wp2_with fail
      refine (SignZ hn2.zi).mono ?_
      rintro e w3 ⟨rfl, hb3⟩
      rw [hsg]
      have hB4 := hid (bthen hB3.out hb3 (Nat.le_refl _))
      clear x0 x1 x2 x3 hb3 hsg
      go_wp2
      go_ret
      exact ⟨0, rfl, HU, hB4.out⟩

end Go.Proofs.YtffipjofefemiaaGreatDoor
