/- The contracts of ratSign and CheckCurve. For all fractions of at most 400 limbs, for all valid curves of few starts. -/
import Derived.Test.YtffipjofefemiaaGreatDoorCrv
namespace Go.Proofs.YtffipjofefemiaaGreatDoor
open Go.RowKit Kb

theorem sign_cmpQ {k : Nat} {x : Rat} {a : Int} {b : Nat} (h : Pq k x a b) : a.sign = cmpQ x 0 := by
  have h0 : Pq 1 0 0 1 := whole_pq (k := 1) (z := 0) (Le.zero _) (by decide)
  have e := cmpQ_of h h0
  rw [← e]
  unfold cmpZ
  rw [show a * ((1 : Nat) : Int) - 0 * (b : Int) = a by omega]
theorem cmpQ_nonneg {x : Rat} (h : 0 ≤ x) : decide (cmpQ x 0 < 0) = false := by
  refine decide_eq_false ?_
  unfold cmpQ
  rw [if_neg (by grind)]
  split <;> decide
set_option maxRecDepth 100000 in
set_option maxHeartbeats 4000000 in
theorem ratSign_q {w : World} {s1 s2 : Bool} {A1 A2 : Option Addr} {n1 c1 n2 c2 k : Nat} {x : Rat} (h : Qi w s1 A1 n1 c1 s2 A2 n2 c2 k x) (hk0 : 0 < k) :
    Calls Tryz.prog 85 #[.agg #[.bool s1, .slice A1 n1 c1, .bool s2, .slice A2 n2 c2]] w fun e w' => e = .returned (.int .i64 (cmpQ x 0)) ∧ Below w.heap.size w w' := by
  have hB := alo (W := w) (o := (.cells #[.bool s1, .slice A1 n1 c1, .bool s2, .slice A2 n2 c2] 26))
  go_enter Tryz.func85, Tryz.ntmps85
  go_wp2_with fail
  refine (parts_q (h.below hB) hk0).mono ?_
  rintro e w1 ⟨p, A, n, c, B, m, d, a, b, rfl, hf, hb1⟩
  have hB1 := bthen hB hb1 (Nat.le_refl _)
  have hal := below_two w1 (.cells #[.bool p, .slice A n c] 24) (.cells #[.bool false, .slice B m d] 24)
  have h2 := hf.below hal
  have HB2 := hid (bthen hB1 hal (Nat.le_refl _))
  have HS := hid (sign_cmpQ hf.pq)
  clear hB hb1 hB1 h hf hal
  go_wp2_with fail
  refine (SignZ h2.num).mono ?_
  rintro e w2 ⟨rfl, hb2⟩
  rw [HS.out]
  have hB3 := bthen HB2.out hb2 (Nat.le_refl _)
  clear hb2 h2
  go_wp2
  go_ret
  exact ⟨rfl, hB3⟩

set_option maxRecDepth 100000 in
set_option maxHeartbeats 8000000 in
theorem CheckCurve_ok {w : World} {A : Option Addr} {n c : Nat} {B : Option Addr} {d B0 k : Nat} {X : Nat → Int} {Q : Nat → Rat} (h : Cv w B0 A n B n k X Q) (hk0 : 0 < k) (ok : Okc n X Q) :
    Calls Tryz.prog 39 #[.agg #[.slice A n c, .slice B n d]] w fun e w' => e = .returned (.int .i64 0) ∧ Below w.heap.size w w' := by
  have hb0 := alo (W := w) (o := (.cells #[.slice A n c, .slice B n d] 48))
  have j1 := Bk.of_alloc w (.cells #[.slice A n c, .slice B n d] 48) rfl
  have h0 := h.below hb0
  obtain ⟨g, hg⟩ : ∃ g, w.heap.size = g := ⟨_, rfl⟩
  have hn40 : decide ((40 : Int) < (n : Int)) = false := decide_eq_false (by have := ok.few; omega)
  have OK := hid ok
  clear ok h
  go_enter Tryz.func39, Tryz.ntmps39
  go_wp2
  rw [hg] at j1
  generalize w.alloc (.cells #[.slice A n c, .slice B n d] 48) = W0 at *
  have HB0 := hid hb0
  have Hg := hid hg
  clear hb0 hg hn40
  go_loopw [19] (fun iv wr => ∃ (k : Nat), k ≤ n ∧ iv = .int .i64 k ∧ Below W0.heap.size W0 wr) (fun iv _ => n - (intOf iv).toNat)
  case atStart => exact ⟨0, Nat.zero_le _, rfl, Below.refl _ _⟩
  case round =>
    obtain ⟨i, hi, rfl, hbel⟩ := hrel
    have hw := h0.below hbel
    have j2 := j1.step hbel
    have Hbel := hid hbel
    clear hbel
    obtain ⟨x0, x1, -, -⟩ := j2.c2
    by_cases hlt : i < n
    · obtain ⟨ad, hA, -, cs⟩ := hw.s i hlt
      obtain ⟨bd, s1, A1, n1, c1, s2, A2, n2, c2, hBd, -, q0, q1, q2, q3, hq⟩ := hw.q i hlt
      have hx1 : decide (X i < -10000000) = false := decide_eq_false (by have := OK.out.far i hlt; omega)
      have hx2 : decide (10000000 < X i) = false := decide_eq_false (by have := OK.out.far i hlt; omega)
      have hsg := cmpQ_nonneg (OK.out.pos i hlt)
      have hs' : ∀ ad, A = some ad → 0 < i → w = w → wr.cell? (ad.add (i - 1)) = some (.int .i64 (X (i - 1))) := fun ad e hp _ => by
        obtain ⟨ad', e', -, h⟩ := hw.s (i - 1) (by omega)
        rw [e] at e'; injection e' with e'; subst e'; exact h
      have Hs' := hid hs'
      have HA := hid hA
      have hor : i = 0 ∨ 0 < i := by omega
      clear hs'
      subst hA; subst hBd
      have hw' := hid hw
      clear hw
      have hn12 := OK.out.few
      rcases hor with h00 | hpos
      · have hip : (decide ((0 : Int) < (i : Int))) = false := decide_eq_false (by omega)
        have hip2 : decide (0 < i) = false := decide_eq_false (by omega)
        have H00 := hid h00
        clear h00
        go_wp2_with fail
        refine (ratSign_q hq.q hk0).mono ?_
        rintro e w2 ⟨rfl, hb2⟩
        have j3 := j2.step hb2
        have hB2 := hid (Hbel.out.trans (hb2.mono Hbel.out.size))
        clear x0 x1 cs q0 q1 q2 q3 hb2 j2 hq
        obtain ⟨x0, x1, -, -⟩ := j3.c2
        go_wp2
        go_roundw
        case rel => exact ⟨i + 1, by omega, by go_num, hB2.out⟩
        case measure => simp [intOf]; omega
      · have hx3 : decide (X i ≤ X (i - 1)) = false := decide_eq_false (by have := OK.out.inc.lt (show i - 1 < i by omega) hlt; omega)
        have hip : (decide ((0 : Int) < (i : Int))) = true := decide_eq_true (by omega)
        have hi1 : (1 : Int) ≤ (i : Int) := by omega
        go_wp2_with fail
        refine (ratSign_q hq.q hk0).mono ?_
        rintro e w2 ⟨rfl, hb2⟩
        have j3 := j2.step hb2
        have hB2 := hid (Hbel.out.trans (hb2.mono Hbel.out.size))
        have hcp := ((hw'.out.s.below hb2 hw'.out.le) (i - 1) (by omega))
        obtain ⟨ad', e', -, hcp⟩ := hcp
        injection e' with e'
        subst e'
        clear x0 x1 cs q0 q1 q2 q3 hb2 j2 hq
        obtain ⟨x0, x1, -, -⟩ := j3.c2
        go_wp2
        go_roundw
        case rel => exact ⟨i + 1, by omega, by go_num, hB2.out⟩
        case measure => simp [intOf]; omega
    · have hB2 := bthen HB0.out Hbel.out (Nat.le_refl _)
      have : i = n := by omega
      subst this
      go_wp2
      go_ret
      exact ⟨rfl, hB2⟩

end Go.Proofs.YtffipjofefemiaaGreatDoor
