/- The contract of the reference's CheckCurve. For all starts, and all slopes of few limbs. -/
import Derived.Test.YtffipjofefemiaaGreatDoorCkc
import Derived.Test.YtffipjofefemiaaGreatDoorRcm
namespace Go.Proofs.YtffipjofefemiaaGreatDoor
open Go.RowKit Kb

/-- Start i is in range, slope i not negative. -/
def Fp (X : Nat → Int) (Q : Nat → Rat) (i : Nat) : Prop := (-10000000 ≤ X i ∧ X i ≤ 10000000) ∧ 0 ≤ Q i
/-- Piece i is as required behind those before it. -/
def Gd (X : Nat → Int) (Q : Nat → Rat) (i : Nat) : Prop := Fp X Q i ∧ (0 < i → X (i - 1) < X i)
/-- What CheckCurve says. -/
def Ck (n m : Nat) (X : Nat → Int) (Q : Nat → Rat) (d : Int) : Prop :=
  (40 < n ∧ d = 8) ∨ (n ≤ 40 ∧ m ≠ n ∧ d = 11) ∨ (n ≤ 40 ∧ m = n ∧ (∀ j, j < n → Gd X Q j) ∧ d = 0) ∨ (n ≤ 40 ∧ m = n ∧ ∃ i, i < n ∧ (∀ j, j < i → Gd X Q j) ∧ ((¬ Fp X Q i ∧ d = 2) ∨ (Fp X Q i ∧ ¬ Gd X Q i ∧ d = 10)))
theorem Ck.valid {n m : Nat} {X : Nat → Int} {Q : Nat → Rat} {d : Int} (h : Ck n m X Q d) (h0 : d = 0) : n ≤ 40 ∧ m = n ∧ ∀ j, j < n → Gd X Q j := by
  rcases h with ⟨_, h1⟩ | ⟨_, _, h1⟩ | ⟨h1, h2, h3, _⟩ | ⟨_, _, i, _, _, ⟨_, h1⟩ | ⟨_, _, h1⟩⟩
  · omega
  · omega
  · exact ⟨h1, h2, h3⟩
  · omega
  · omega
theorem okc_of {n : Nat} {X : Nat → Int} {Q : Nat → Rat} (hn : n ≤ 12) (h : ∀ j, j < n → Gd X Q j) : Okc n X Q :=
  ⟨hn, fun i hi => by have := (h (i + 1) hi).2 (by omega); simpa using this, fun i hi => (h i hi).1.1, fun i hi => (h i hi).1.2⟩
theorem num_sign (x : Rat) : x.num.sign = cmpQ x 0 := by
  have := cmpQ_sub x 0
  rwa [show x - 0 = x by grind] at this
theorem cmpQ_neg {x : Rat} (h : ¬ 0 ≤ x) : decide (cmpQ x 0 < 0) = true := by
  refine decide_eq_true ?_
  unfold cmpQ
  rw [if_pos (by grind)]; decide
set_option maxRecDepth 100000 in
set_option maxHeartbeats 8000000 in
theorem rCheckCurve {w : World} {A : Option Addr} {n c : Nat} {B : Option Addr} {m d B0 k : Nat} {X : Nat → Int} {Q : Nat → Rat} (h : Cv w B0 A n B m k X Q) (hk0 : 0 < k) (hk : k ≤ 400) (hn60 : n ≤ 60) (hm60 : m ≤ 60) :
    Calls Tryz.prog 33 #[.agg #[.slice A n c, .slice B m d]] w fun e w' => ∃ r : Int, e = .returned (.int .i64 r) ∧ Hid (Ck n m X Q r) ∧ Below w.heap.size w w' := by
  have hb0 := alo (W := w) (o := (.cells #[.slice A n c, .slice B m d] 48))
  have j1 := Bk.of_alloc w (.cells #[.slice A n c, .slice B m d] 48) rfl
  have h0 := h.below hb0
  obtain ⟨g, hg⟩ : ∃ g, w.heap.size = g := ⟨_, rfl⟩
  clear h
  by_cases hbig : 40 < n
  · have hd : decide ((40 : Int) < (n : Int)) = true := decide_eq_true (by omega)
    have HE := hid (show Ck n m X Q 8 from .inl ⟨hbig, rfl⟩)
    clear hbig h0 j1
    go_enter Tryz.func33, Tryz.ntmps33
    go_wp2
    go_ret
    exact ⟨8, rfl, HE, hb0⟩
  · have hn40 : n ≤ 40 := by omega
    have hd : decide ((40 : Int) < (n : Int)) = false := decide_eq_false (by omega)
    clear hbig
    by_cases hmn : m = n
    · subst hmn
      go_enter Tryz.func33, Tryz.ntmps33
      go_wp2
      rw [hg] at j1
      generalize w.alloc (.cells #[.slice A m c, .slice B m d] 48) = W0 at *
      have HB0 := hid hb0
      have Hg := hid hg
      clear hb0 hg hd
      go_loopw [3] (fun iv wr => ∃ (i : Nat), i ≤ m ∧ iv = .int .i64 i ∧ Hid (∀ j, j < i → Gd X Q j) ∧ Below W0.heap.size W0 wr) (fun iv _ => m - (intOf iv).toNat)
      case atStart => exact ⟨0, Nat.zero_le _, rfl, hid (fun j hj => absurd hj (Nat.not_lt_zero _)), Below.refl _ _⟩
      case round =>
        obtain ⟨i, hi, rfl, HN, hbel⟩ := hrel
        have hw := h0.below hbel
        have j2 := j1.step hbel
        have Hbel := hid hbel
        have hBE := hid (bthen HB0.out hbel (Nat.le_refl _))
        clear hbel
        obtain ⟨x0, x1, -, -⟩ := j2.c2
        by_cases hlt : i < m
        · obtain ⟨ad, hA, -, cs⟩ := hw.s i hlt
          obtain ⟨bd, s1, A1, n1, c1, s2, A2, n2, c2, hBd, -, q0, q1, q2, q3, hq⟩ := hw.q i hlt
          have hw' := hid hw
          clear hw
          subst hA; subst hBd
          have bad := fun (hf : ¬ Fp X Q i) => hid (show Ck m m X Q 2 from .inr (.inr (.inr ⟨hn40, rfl, i, hlt, HN.out, .inl ⟨hf, rfl⟩⟩)))
          by_cases h1 : X i < -10000000
          · have hx1 : decide (X i < -10000000) = true := decide_eq_true h1
            have HE := bad (fun hf => by have := hf.1.1; omega)
            clear h1 bad
            go_wp2
            go_ret
            exact ⟨2, rfl, HE, hBE.out⟩
          · have hx1 : decide (X i < -10000000) = false := decide_eq_false h1
            by_cases h2 : 10000000 < X i
            · have hx2 : decide (10000000 < X i) = true := decide_eq_true h2
              have HE := bad (fun hf => by have := hf.1.2; omega)
              clear h1 h2 bad
              go_wp2
              go_ret
              exact ⟨2, rfl, HE, hBE.out⟩
            · have hx2 : decide (10000000 < X i) = false := decide_eq_false h2
              have hr := hid (show -10000000 ≤ X i ∧ X i ≤ 10000000 by omega)
              clear h1 h2
              by_cases h3 : 0 ≤ Q i
              · have hsg := cmpQ_nonneg h3
                have HF := hid (show Fp X Q i from ⟨hr.out, h3⟩)
                clear h3 bad
                go_wp2_with fail
                refine (rSignRat hq hk0 hk).mono ?_
                rintro e w2 ⟨rfl, hb2⟩
                rw [num_sign]
                have j3 := j2.step hb2
                have hB2 := hid (Hbel.out.trans (hb2.mono Hbel.out.size))
                have hBE2 := hid (bthen hBE.out hb2 (Nat.le_refl _))
                have hw2 := hid (hw'.out.below hb2)
                clear x0 x1 cs q0 q1 q2 q3 hb2 j2 hq
                obtain ⟨x0, x1, -, -⟩ := j3.c2
                by_cases h0 : 0 < i
                · have hip : (decide ((0 : Int) < (i : Int))) = true := decide_eq_true (by omega)
                  have hip2 : (decide (0 < i)) = true := decide_eq_true h0
                  have hi1 : (1 : Int) ≤ (i : Int) := by omega
                  obtain ⟨ad', e', -, cp⟩ := hw2.out.s (i - 1) (by omega)
                  injection e' with e'
                  subst e'
                  obtain ⟨ad', e', -, cs⟩ := hw2.out.s i hlt
                  injection e' with e'
                  subst e'
                  by_cases h4 : X (i - 1) < X i
                  · have hx3 : decide (X i ≤ X (i - 1)) = false := decide_eq_false (by omega)
                    have HG := hid (show Gd X Q i from ⟨HF.out, fun _ => h4⟩)
                    clear h4
                    go_wp2
                    go_quiet (fail)
                    go_wp2
                    go_roundw
                    case rel => exact ⟨i + 1, by omega, by go_num, hid (fun j hj => by rcases Nat.lt_or_ge j i with h | h; exact HN.out j h; have : j = i := (by omega); subst this; exact HG.out), hB2.out.drewN' _⟩
                    case measure => simp [intOf]; omega
                  · have hx3 : decide (X i ≤ X (i - 1)) = true := decide_eq_true (by omega)
                    have HE := hid (show Ck m m X Q 10 from .inr (.inr (.inr ⟨hn40, rfl, i, hlt, HN.out, .inr ⟨HF.out, fun hg => h4 (hg.2 h0), rfl⟩⟩)))
                    clear h4
                    go_wp2
                    go_quiet (fail)
                    go_wp2
                    go_ret
                    exact ⟨10, rfl, HE, hBE2.out.drewN' _⟩
                · have hip : (decide ((0 : Int) < (i : Int))) = false := decide_eq_false (by omega)
                  have hip2 : (decide (0 < i)) = false := decide_eq_false h0
                  have HG := hid (show Gd X Q i from ⟨HF.out, fun h => absurd h h0⟩)
                  clear h0
                  go_wp2
                  go_quiet (fail)
                  go_wp2
                  go_roundw
                  case rel => exact ⟨i + 1, by omega, by go_num, hid (fun j hj => by rcases Nat.lt_or_ge j i with h | h; exact HN.out j h; have : j = i := (by omega); subst this; exact HG.out), hB2.out.drewN' _⟩
                  case measure => simp [intOf]; omega
              · have hsg := cmpQ_neg h3
                have HE := bad (fun hf => h3 hf.2)
                clear h3 bad
                go_wp2_with fail
                refine (rSignRat hq hk0 hk).mono ?_
                rintro e w2 ⟨rfl, hb2⟩
                rw [num_sign]
                have hBE2 := hid (bthen hBE.out hb2 (Nat.le_refl _))
                clear x0 x1 cs q0 q1 q2 q3 hb2 j2 hq
                go_wp2
                go_ret
                exact ⟨2, rfl, HE, hBE2.out⟩
        · have : i = m := by omega
          subst this
          have HE := hid (show Ck i i X Q 0 from .inr (.inr (.inl ⟨hn40, rfl, HN.out, rfl⟩)))
          go_wp2
          go_ret
          exact ⟨0, rfl, HE, hBE.out⟩
    · have hdm : decide ((m : Int) = (n : Int)) = false := decide_eq_false (by omega)
      have hdm2 : ((m : Int) != (n : Int)) = true := by simpa using (show (m : Int) ≠ (n : Int) by omega)
      have hdm3 : (m == n) = false := beq_eq_false_iff_ne.2 hmn
      have hdm4 : (m != n) = true := by simpa using hmn
      have HE := hid (show Ck n m X Q 11 from .inr (.inl ⟨hn40, hmn, rfl⟩))
      clear h0 j1 hmn
      go_enter Tryz.func33, Tryz.ntmps33
      go_wp2
      go_ret
      exact ⟨11, rfl, HE, hb0⟩

end Go.Proofs.YtffipjofefemiaaGreatDoor
