/- The walk of BerthLines. For all lists of lines. -/
import Derived.Test.YtkenanicohoigaaBl4
namespace Go.Proofs.Ytkenanicohoigaa
open Go.RowKit Go.Maps Kb Wb

theorem Mll.at1 {w : World} {B0 n : Nat} {ad : Addr} {b : Nat → Mld} (h : Mll w B0 (some ad) n b) {i : Nat} (hi : i < n) : Mll w B0 (some (ad.add (i * 6))) 1 fun _ => b i :=
  ⟨fun j hj => by
    obtain rfl : j = 0 := by omega
    obtain ⟨ad', e, hl, hc⟩ := h.at_ i hi
    injection e with e
    subst e
    refine ⟨_, rfl, in_add hl, ?_⟩
    rw [Nat.zero_mul, addr_zero]
    exact hc, h.le⟩
theorem dist2_sq (x : Mld) : dist2 x = (x.tx - x.x) * (x.tx - x.x) + (x.ty - x.y) * (x.ty - x.y) := rfl
set_option maxRecDepth 100000 in
set_option maxHeartbeats 8000000 in
theorem lines_walk {w : World} {B0 n c : Nat} {A : Option Addr} {b : Nat → Mld} (h : Mll w B0 A n b) (hc : n ≤ c) (hcm : c ≤ maxLen) (hs : ∀ i, i < n → (b i).nm.size ≤ maxLen) :
    Calls Try.prog 4 #[.slice A n c] w fun e w' => e = .returned (.bool true) ∧ Below w.heap.size w w' := by
  unfold maxLen at hs
  have hn' : n < 9223372036854775808 := by unfold maxLen at hcm; omega
  have Hs0 := hid (show ∀ i, i < n → (b i).nm.size < 9223372036854775808 from fun i hi => by have := hs i hi; omega)
  have Hh := hid h
  have Hs := hid hs
  clear h hs
  go_enter Try.func4, Try.ntmps4
  go_wp2_with fail
  refine (spans_any _).mono ?_
  rintro e w1 ⟨rfl, hb⟩
  have K1 := Hh.out.below hb
  have HB1 := hid hb
  clear hb
  by_cases hsl : SlB n b
  · have HT := hid (slB_t hsl)
    have hn14 := hsl.2
    have hs40 := hid (show ∀ i, i < n → (b i).nm.size ≤ 1000000000 from fun i hi => by have := hsl.1 i hi; omega)
    clear hsl
    obtain ⟨q, hq0⟩ := Mlq.exists n b
    have Hq := hid hq0
    clear hq0
    go_wp2_with fail
    refine (slack_any K1 hn' Hs0.out).mono ?_
    rintro e w2 ⟨rfl, hb⟩
    rw [HT.out]
    have K2 := K1.below hb
    have HB2 := hid (bthen HB1.out hb (Nat.le_refl _))
    clear hb K1
    go_wp2_with fail
    refine (Mlcheck_is Hq K2 (by omega) hs40.out).mono ?_
    rintro e w3 ⟨rfl, hb⟩
    have K3 := K2.below hb
    have HB3 := hid (bthen HB2.out hb (Nat.le_refl _))
    clear hb K2
    go_wp2_with fail
    refine (rCheckLines_is Hq K3 (by omega) hs40.out).mono ?_
    rintro e w4 ⟨rfl, hb⟩
    have K4 := K3.below hb
    have HB4 := hid (bthen HB3.out hb (Nat.le_refl _))
    clear hb K3
    go_wp2_with fail
    go_loopw [3, 4, 5, 6, 7, 8] (fun iv _ _ _ _ _ wr => ∃ (i : Nat), i ≤ n ∧ iv = .int .i64 i ∧ Below w4.heap.size w4 wr) (fun iv _ _ _ _ _ _ => n - (intOf iv).toNat)
    case atStart => exact ⟨0, Nat.zero_le _, rfl, Below.refl _ _⟩
    case round =>
      obtain ⟨i, hi, rfl, hbel⟩ := hrel
      have hw := K4.below hbel
      have Hbel := hid hbel
      have HB5 := hid (bthen HB4.out hbel (Nat.le_refl _))
      clear hbel
      by_cases hlt : i < n
      · obtain ⟨ad, hA, hl, q0, q1, q2, q3, q4, q5⟩ := hw.at_ i hlt
        subst hA
        have hs9 := hs40.out i hlt
        obtain ⟨p, hp0⟩ := Mlq.exists 1 (fun _ => b i)
        have Hp := hid hp0
        clear hp0
        go_wp2_with fail
        refine (Span_any (b i) Hp hs9).mono ?_
        rintro e w6 ⟨r, rfl, hr, hb⟩
        have K6 := (hw.below hb)
        have Hb6 := hid (Hbel.out.trans (hb.mono Hbel.out.size))
        clear hb q0 q1 q2 q3 q4 q5 hw
        have O6 := K6.at1 hlt
        go_wp2_with fail
        refine (rCheckLines_is Hp O6 (by decide) (fun _ _ => hs9)).mono ?_
        rintro e w7 ⟨rfl, hb⟩
        have K7 := (K6.below hb)
        have Hb7 := hid (Hb6.out.trans (hb.mono Hb6.out.size))
        have HB7 := hid (bthen HB4.out Hb7.out (Nat.le_refl _))
        clear hb K6 O6
        obtain ⟨ad', hA', hl', q0, q1, q2, q3, q4, q5⟩ := K7.at_ i hlt
        injection hA' with hA'
        subst hA'
        by_cases p0 : p = 0
        · subst p0
          obtain ⟨hz, hsp⟩ : lineE (b i) = 0 ∧ Spn (dist2 (b i)) r := by
            rcases hr.out with ⟨h, _⟩ | ⟨_, h1, h2⟩
            · exact absurd rfl h
            · exact ⟨h1, h2⟩
          obtain ⟨b1, b2, ⟨b3, b4⟩, ⟨b5, b6⟩⟩ := dist2_bd hz
          have k1 := sq_bd b3 b4
          have k2 := sq_bd b5 b6
          have k3 := hsp.lo
          have k4 := hsp.most b2
          have k5 := hsp.a
          have k6 := hsp.b
          rw [dist2_sq] at k5 k6
          have k7 := bmul' (a := r) (b := r) (by omega) (by omega)
          have k8 := bmul' (a := r - 1) (b := r - 1) (by omega) (by omega)
          clear b1 b2 hsp hz hr
          go_wp2
          go_quiet (fail)
          clear q0 q1 q2 q3 q4 q5
          go_wp2
          go_roundw
          case rel => exact ⟨i + 1, by omega, by go_num, Hb7.out.drewN' _⟩
          case measure => simp [intOf]; omega
        · have hr0 : r = 0 := by
            rcases hr.out with ⟨_, h⟩ | ⟨h, _⟩
            · exact h
            · exact absurd h p0
          subst hr0
          have hd : (p != 0) = true := by rw [bne_iff_ne]; exact p0
          have hd2 : (p != p) = false := by rw [bne_eq_false_iff_eq]
          clear p0
          go_wp2
          go_roundw
          case rel => exact ⟨i + 1, by omega, by go_num, Hb7.out⟩
          case measure => simp [intOf]; omega
      · obtain rfl : i = n := by omega
        go_wp2
        go_ret
        exact ⟨rfl, HB5.out⟩
  · have HF := hid (slB_f hsl)
    clear hsl
    go_wp2_with fail
    refine (slack_any K1 hn' Hs0.out).mono ?_
    rintro e w2 ⟨rfl, hb⟩
    rw [HF.out]
    have K2 := K1.below hb
    have HB2 := hid (bthen HB1.out hb (Nat.le_refl _))
    clear hb K1
    go_wp2_with fail
    refine (slack_any K2 hn' Hs0.out).mono ?_
    rintro e w3 ⟨rfl, hb⟩
    rw [HF.out]
    have HB3 := hid (bthen HB2.out hb (Nat.le_refl _))
    clear hb K2
    go_wp2
    go_ret
    exact ⟨rfl, HB3.out⟩

end Go.Proofs.Ytkenanicohoigaa
