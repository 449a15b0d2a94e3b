/- The contract of CheckCurve; Value, Slope, Integral, Reach and Capacity of a curve that is not valid. For all starts, and all slopes of few limbs. -/
import Derived.Test.YtffipjofefemiaaGreatDoorElc
namespace Go.Proofs.YtffipjofefemiaaGreatDoor
open Go.RowKit Kb

set_option maxRecDepth 100000 in
set_option maxHeartbeats 80000000 in
theorem CheckCurve_q {w : World} {A : Option Addr} {n c : Nat} {B : Option Addr} {m d B0 k : Nat} {X : Nat → Int} {Q : Nat → Rat} (h : Cv w B0 A n B m k X Q) (hk0 : 0 < k) (hn60 : n ≤ 60) (hm60 : m ≤ 60) :
    Calls Tryz.prog 39 #[.agg #[.slice A n c, .slice B m d]] w fun e w' => ∃ r : Int, e = .returned (.int .i64 r) ∧ Hid (Ck n m X Q r) ∧ Below w.heap.size w w' := by
  have hb0 := alo (W := w) (o := (.cells #[.slice A n c, .slice B m d] 48))
  have j1 := Bk.of_alloc w (.cells #[.slice A n c, .slice B m d] 48) rfl
  have h0 := h.below hb0
  obtain ⟨g, hg⟩ : ∃ g, w.heap.size = g := ⟨_, rfl⟩
  clear h
  by_cases hbig : 40 < n
  · have hd : decide ((40 : Int) < (n : Int)) = true := decide_eq_true (by omega)
    have HE := hid (show Ck n m X Q 8 from .inl ⟨hbig, rfl⟩)
    clear hbig h0 j1
    go_enter Tryz.func39, Tryz.ntmps39
    go_wp2
    go_ret
    exact ⟨8, rfl, HE, hb0⟩
  · have hn40 : n ≤ 40 := by omega
    have hd : decide ((40 : Int) < (n : Int)) = false := decide_eq_false (by omega)
    clear hbig
    by_cases hmn : m = n
    · subst hmn
      go_enter Tryz.func39, Tryz.ntmps39
      go_wp2
      rw [hg] at j1
      generalize w.alloc (.cells #[.slice A m c, .slice B m d] 48) = W0 at *
      have HB0 := hid hb0
      have Hg := hid hg
      clear hb0 hg hd
      go_loopw [19] (fun iv wr => ∃ (i : Nat), i ≤ m ∧ iv = .int .i64 i ∧ Hid (∀ j, j < i → Gd X Q j) ∧ Below W0.heap.size W0 wr) (fun iv _ => m - (intOf iv).toNat)
      case atStart => exact ⟨0, Nat.zero_le _, rfl, hid (fun j hj => absurd hj (Nat.not_lt_zero _)), Below.refl _ _⟩
      case round =>
        obtain ⟨i, hi, rfl, HN, hbel⟩ := hrel
        have hw := h0.below hbel
        have j2 := j1.step hbel
        have Hbel := hid hbel
        have hBE := hid (bthen HB0.out hbel (Nat.le_refl _))
        clear hbel
        obtain ⟨x0, x1, -, -⟩ := j2.c2
        by_cases hlt : i < m
        · obtain ⟨ad, hA, -, cs⟩ := hw.s i hlt
          obtain ⟨bd, s1, A1, n1, c1, s2, A2, n2, c2, hBd, -, q0, q1, q2, q3, hq⟩ := hw.q i hlt
          have hw' := hid hw
          clear hw
          subst hA; subst hBd
          have bad := fun (hf : ¬ Fp X Q i) => hid (show Ck m m X Q 2 from .inr (.inr (.inr ⟨hn40, rfl, i, hlt, HN.out, .inl ⟨hf, rfl⟩⟩)))
          by_cases h1 : X i < -10000000
          · have hx1 : decide (X i < -10000000) = true := decide_eq_true h1
            have HE := bad (fun hf => by have := hf.1.1; omega)
            clear h1 bad
            go_wp2
            go_ret
            exact ⟨2, rfl, HE, hBE.out⟩
          · have hx1 : decide (X i < -10000000) = false := decide_eq_false h1
            by_cases h2 : 10000000 < X i
            · have hx2 : decide (10000000 < X i) = true := decide_eq_true h2
              have HE := bad (fun hf => by have := hf.1.2; omega)
              clear h1 h2 bad
              go_wp2
              go_ret
              exact ⟨2, rfl, HE, hBE.out⟩
            · have hx2 : decide (10000000 < X i) = false := decide_eq_false h2
              have hr := hid (show -10000000 ≤ X i ∧ X i ≤ 10000000 by omega)
              clear h1 h2
              by_cases h3 : 0 ≤ Q i
              · have hsg := cmpQ_nonneg h3
                have HF := hid (show Fp X Q i from ⟨hr.out, h3⟩)
                clear h3 bad
                by_cases h0 : 0 < i
                · have hip : (decide ((0 : Int) < (i : Int))) = true := decide_eq_true (by omega)
                  have hip2 : (decide (0 < i)) = true := decide_eq_true h0
                  have hi1 : (1 : Int) ≤ (i : Int) := by omega
                  by_cases h4 : X (i - 1) < X i
                  · have hx3 : decide (X i ≤ X (i - 1)) = false := decide_eq_false (by omega)
                    have HG := hid (show Gd X Q i from ⟨HF.out, fun _ => h4⟩)
                    clear h4
                    go_wp2_with fail
                    refine (ratSign_q hq.q hk0).mono ?_
                    rintro e w2 ⟨rfl, hb2⟩
                    have j3 := j2.step hb2
                    have hB2 := hid (Hbel.out.trans (hb2.mono Hbel.out.size))
                    have hBE2 := hid (bthen hBE.out hb2 (Nat.le_refl _))
                    have hcp := (hw'.out.s.below hb2 hw'.out.le) (i - 1) (by omega)
                    obtain ⟨ad', e', -, hcp⟩ := hcp
                    injection e' with e'
                    subst e'
                    clear x0 x1 cs q0 q1 q2 q3 hb2 j2 hq
                    obtain ⟨x0, x1, -, -⟩ := j3.c2
                    go_wp2
                    go_roundw
                    case rel => exact ⟨i + 1, by omega, by go_num, hid (fun j hj => by rcases Nat.lt_or_ge j i with h | h; exact HN.out j h; have : j = i := (by omega); subst this; exact HG.out), hB2.out⟩
                    case measure => simp [intOf]; omega
                  · have hx3 : decide (X i ≤ X (i - 1)) = true := decide_eq_true (by omega)
                    have HE := hid (show Ck m m X Q 10 from .inr (.inr (.inr ⟨hn40, rfl, i, hlt, HN.out, .inr ⟨HF.out, fun hg => h4 (hg.2 h0), rfl⟩⟩)))
                    clear h4
                    go_wp2_with fail
                    refine (ratSign_q hq.q hk0).mono ?_
                    rintro e w2 ⟨rfl, hb2⟩
                    have j3 := j2.step hb2
                    have hB2 := hid (Hbel.out.trans (hb2.mono Hbel.out.size))
                    have hBE2 := hid (bthen hBE.out hb2 (Nat.le_refl _))
                    have hcp := (hw'.out.s.below hb2 hw'.out.le) (i - 1) (by omega)
                    obtain ⟨ad', e', -, hcp⟩ := hcp
                    injection e' with e'
                    subst e'
                    clear x0 x1 cs q0 q1 q2 q3 hb2 j2 hq
                    obtain ⟨x0, x1, -, -⟩ := j3.c2
                    go_wp2
                    go_ret
                    exact ⟨10, rfl, HE, hBE2.out⟩
                · have hip : (decide ((0 : Int) < (i : Int))) = false := decide_eq_false (by omega)
                  have hip2 : (decide (0 < i)) = false := decide_eq_false h0
                  have HG := hid (show Gd X Q i from ⟨HF.out, fun h => absurd h h0⟩)
                  clear h0
                  go_wp2_with fail
                  refine (ratSign_q hq.q hk0).mono ?_
                  rintro e w2 ⟨rfl, hb2⟩
                  have hB2 := hid (Hbel.out.trans (hb2.mono Hbel.out.size))
                  clear x0 x1 cs q0 q1 q2 q3 hb2 j2 hq
                  go_wp2
                  go_roundw
                  case rel => exact ⟨i + 1, by omega, by go_num, hid (fun j hj => by rcases Nat.lt_or_ge j i with h | h; exact HN.out j h; have : j = i := (by omega); subst this; exact HG.out), hB2.out⟩
                  case measure => simp [intOf]; omega
              · have hsg := cmpQ_neg h3
                have HE := bad (fun hf => h3 hf.2)
                clear h3 bad
                go_wp2_with fail
                refine (ratSign_q hq.q hk0).mono ?_
                rintro e w2 ⟨rfl, hb2⟩
                have hBE2 := hid (bthen hBE.out hb2 (Nat.le_refl _))
                clear x0 x1 cs q0 q1 q2 q3 hb2 j2 hq
                go_wp2
                go_ret
                exact ⟨2, rfl, HE, hBE2.out⟩
        · have : i = m := by omega
          subst this
          have HE := hid (show Ck i i X Q 0 from .inr (.inr (.inl ⟨hn40, rfl, HN.out, rfl⟩)))
          go_wp2
          go_ret
          exact ⟨0, rfl, HE, hBE.out⟩
    · have hdm2 : ((m : Int) != (n : Int)) = true := by simpa using (show (m : Int) ≠ (n : Int) by omega)
      have hdm4 : (m != n) = true := by simpa using hmn
      have HE := hid (show Ck n m X Q 11 from .inr (.inl ⟨hn40, hmn, rfl⟩))
      clear h0 j1 hmn
      go_enter Tryz.func39, Tryz.ntmps39
      go_wp2
      go_ret
      exact ⟨11, rfl, HE, hb0⟩
theorem Ck.same {n m : Nat} {X : Nat → Int} {Q : Nat → Rat} {d e : Int} (h : Ck n m X Q d) (g : Ck n m X Q e) : d = e := by
  have key : ∀ i j, i < n → j < n → (∀ l, l < i → Gd X Q l) → (∀ l, l < j → Gd X Q l) → ¬ Gd X Q i → ¬ Gd X Q j → i = j := fun i j hi hj h1 h2 g1 g2 => by
    rcases Nat.lt_trichotomy i j with h | h | h
    · exact absurd (h2 i h) g1
    · exact h
    · exact absurd (h1 j h) g2
  rcases h with ⟨h1, h2⟩ | ⟨h1, h2, h3⟩ | ⟨h1, h2, h3, h4⟩ | ⟨h1, h2, i, h3, h4, h5⟩
  · rcases g with ⟨g1, g2⟩ | ⟨g1, g2, g3⟩ | ⟨g1, g2, g3, g4⟩ | ⟨g1, g2, j, g3, g4, g5⟩ <;> omega
  · rcases g with ⟨g1, g2⟩ | ⟨g1, g2, g3⟩ | ⟨g1, g2, g3, g4⟩ | ⟨g1, g2, j, g3, g4, g5⟩ <;> omega
  · rcases g with ⟨g1, g2⟩ | ⟨g1, g2, g3⟩ | ⟨g1, g2, g3, g4⟩ | ⟨g1, g2, j, g3, g4, g5⟩
    · omega
    · omega
    · omega
    · have := h3 j g3
      rcases g5 with ⟨g5, _⟩ | ⟨_, g5, _⟩
      · exact absurd this.1 g5
      · exact absurd this g5
  · rcases g with ⟨g1, g2⟩ | ⟨g1, g2, g3⟩ | ⟨g1, g2, g3, g4⟩ | ⟨g1, g2, j, g3, g4, g5⟩
    · omega
    · omega
    · have := g3 i h3
      rcases h5 with ⟨h5, _⟩ | ⟨_, h5, _⟩
      · exact absurd this.1 h5
      · exact absurd this h5
    · have hi : ¬ Gd X Q i := by
        rcases h5 with ⟨h5, _⟩ | ⟨_, h5, _⟩
        · exact fun h => h5 h.1
        · exact h5
      have hj : ¬ Gd X Q j := by
        rcases g5 with ⟨g5, _⟩ | ⟨_, g5, _⟩
        · exact fun h => g5 h.1
        · exact g5
      have e := key i j h3 g3 h4 g4 hi hj
      subst e
      rcases h5 with ⟨h5, h6⟩ | ⟨h5, _, h6⟩ <;> rcases g5 with ⟨g5, g6⟩ | ⟨g5, _, g6⟩
      · omega
      · exact absurd g5 h5
      · exact absurd h5 g5
      · omega
set_option maxRecDepth 100000 in
set_option maxHeartbeats 80000000 in
theorem Value_err {w : World} {A : Option Addr} {n c : Nat} {B : Option Addr} {m d B0 k : Nat} {X : Nat → Int} {Q : Nat → Rat} {y1 : Bool} {Y1 : Option Addr} {ly1 cy1 : Nat} {y2 : Bool} {Y2 : Option Addr} {ly2 cy2 : Nat} {r : Int} (h : Cv w B0 A n B m k X Q) (hk0 : 0 < k) (hn60 : n ≤ 60) (hm60 : m ≤ 60) (hr : Ck n m X Q r) (h0 : r ≠ 0) :
    Calls Tryz.prog 34 #[.agg #[.slice A n c, .slice B m d], .agg #[.bool y1, .slice Y1 ly1 cy1, .bool y2, .slice Y2 ly2 cy2]] w fun e w' => e = .returned (.tuple #[.agg #[.bool false, .slice none 0 0, .bool false, .slice none 0 0], .int .i64 r]) ∧ Below w.heap.size w w' := by
  have b0 := three_new w (.cells #[.slice A n c, .slice B m d] 48) (.cells #[.bool y1, .slice Y1 ly1 cy1, .bool y2, .slice Y2 ly2 cy2] 26) (.cells #[.bool false, .slice none 0 0, .bool false, .slice none 0 0] 26)
  have hB := (((Below.refl w.heap.size w).alloc (Nat.le_refl _) (.cells #[.slice A n c, .slice B m d] 48)).alloc (by simp) (.cells #[.bool y1, .slice Y1 ly1 cy1, .bool y2, .slice Y2 ly2 cy2] 26)).alloc (by simp; omega) (.cells #[.bool false, .slice none 0 0, .bool false, .slice none 0 0] 26)
  obtain ⟨g, hg⟩ : ∃ g, w.heap.size = g := ⟨_, rfl⟩
  have HR := hid hr
  have hr1 : (r == 0) = false := beq_eq_false_iff_ne.2 h0
  have hr2 : (r != 0) = true := by simpa using h0
  clear hr h0
  go_enter Tryz.func34, Tryz.ntmps34
  go_wp2_with fail
  rw [hg] at b0
  generalize ((w.alloc (.cells #[.slice A n c, .slice B m d] 48)).alloc (.cells #[.bool y1, .slice Y1 ly1 cy1, .bool y2, .slice Y2 ly2 cy2] 26)).alloc (.cells #[.bool false, .slice none 0 0, .bool false, .slice none 0 0] 26) = W0 at *
  have h1 := h.below hB
  have j0 := b0.2.2
  have HB := hid hB
  have Hg := hid hg
  clear h hB b0 hg
  refine (CheckCurve_q h1 hk0 hn60 hm60).mono ?_
  rintro e w1 ⟨r', rfl, hr', hb1⟩
  obtain rfl : r' = r := Ck.same hr'.out HR.out
  have j2 := j0.step hb1
  have hl7 := j2.lt
  obtain ⟨i0, i1, i2, i3, i4, i5, i6, i7⟩ := j2.c4
  have h11 := hid (below4 (bthen HB.out hb1 (Nat.le_refl _)) (show w.heap.size ≤ g + 1 + 1 by have := Hg.out; omega) (.bool false) (.slice none 0 0) (.bool false) (.slice none 0 0))
  clear h1 j0 hb1 j2 hr'
  go_wp2
  exact bodyPost_ret (v := .tuple #[.agg #[.bool false, .slice none 0 0, .bool false, .slice none 0 0], .int .i64 r']) (by simp [results, Tryz.results34, go_sem, i0, i1, i2, i3]) rfl ⟨rfl, h11.out⟩
set_option maxRecDepth 100000 in
set_option maxHeartbeats 80000000 in
theorem Slope_err {w : World} {A : Option Addr} {n c : Nat} {B : Option Addr} {m d B0 k : Nat} {X : Nat → Int} {Q : Nat → Rat} {y1 : Bool} {Y1 : Option Addr} {ly1 cy1 : Nat} {y2 : Bool} {Y2 : Option Addr} {ly2 cy2 : Nat} {r : Int} (h : Cv w B0 A n B m k X Q) (hk0 : 0 < k) (hn60 : n ≤ 60) (hm60 : m ≤ 60) (hr : Ck n m X Q r) (h0 : r ≠ 0) :
    Calls Tryz.prog 35 #[.agg #[.slice A n c, .slice B m d], .agg #[.bool y1, .slice Y1 ly1 cy1, .bool y2, .slice Y2 ly2 cy2]] w fun e w' => e = .returned (.tuple #[.agg #[.bool false, .slice none 0 0, .bool false, .slice none 0 0], .int .i64 r]) ∧ Below w.heap.size w w' := by
  have b0 := three_new w (.cells #[.slice A n c, .slice B m d] 48) (.cells #[.bool y1, .slice Y1 ly1 cy1, .bool y2, .slice Y2 ly2 cy2] 26) (.cells #[.bool false, .slice none 0 0, .bool false, .slice none 0 0] 26)
  have hB := (((Below.refl w.heap.size w).alloc (Nat.le_refl _) (.cells #[.slice A n c, .slice B m d] 48)).alloc (by simp) (.cells #[.bool y1, .slice Y1 ly1 cy1, .bool y2, .slice Y2 ly2 cy2] 26)).alloc (by simp; omega) (.cells #[.bool false, .slice none 0 0, .bool false, .slice none 0 0] 26)
  obtain ⟨g, hg⟩ : ∃ g, w.heap.size = g := ⟨_, rfl⟩
  have HR := hid hr
  have hr1 : (r == 0) = false := beq_eq_false_iff_ne.2 h0
  have hr2 : (r != 0) = true := by simpa using h0
  clear hr h0
  go_enter Tryz.func35, Tryz.ntmps35
  go_wp2_with fail
  rw [hg] at b0
  generalize ((w.alloc (.cells #[.slice A n c, .slice B m d] 48)).alloc (.cells #[.bool y1, .slice Y1 ly1 cy1, .bool y2, .slice Y2 ly2 cy2] 26)).alloc (.cells #[.bool false, .slice none 0 0, .bool false, .slice none 0 0] 26) = W0 at *
  have h1 := h.below hB
  have j0 := b0.2.2
  have HB := hid hB
  have Hg := hid hg
  clear h hB b0 hg
  refine (CheckCurve_q h1 hk0 hn60 hm60).mono ?_
  rintro e w1 ⟨r', rfl, hr', hb1⟩
  obtain rfl : r' = r := Ck.same hr'.out HR.out
  have j2 := j0.step hb1
  have hl7 := j2.lt
  obtain ⟨i0, i1, i2, i3, i4, i5, i6, i7⟩ := j2.c4
  have h11 := hid (below4 (bthen HB.out hb1 (Nat.le_refl _)) (show w.heap.size ≤ g + 1 + 1 by have := Hg.out; omega) (.bool false) (.slice none 0 0) (.bool false) (.slice none 0 0))
  clear h1 j0 hb1 j2 hr'
  go_wp2
  exact bodyPost_ret (v := .tuple #[.agg #[.bool false, .slice none 0 0, .bool false, .slice none 0 0], .int .i64 r']) (by simp [results, Tryz.results35, go_sem, i0, i1, i2, i3]) rfl ⟨rfl, h11.out⟩
set_option maxRecDepth 100000 in
set_option maxHeartbeats 80000000 in
theorem Integral_err {w : World} {A : Option Addr} {n c : Nat} {B : Option Addr} {m d B0 k : Nat} {X : Nat → Int} {Q : Nat → Rat} {y1 : Bool} {Y1 : Option Addr} {ly1 cy1 : Nat} {y2 : Bool} {Y2 : Option Addr} {ly2 cy2 : Nat} {r : Int} (h : Cv w B0 A n B m k X Q) (hk0 : 0 < k) (hn60 : n ≤ 60) (hm60 : m ≤ 60) (hr : Ck n m X Q r) (h0 : r ≠ 0) :
    Calls Tryz.prog 36 #[.agg #[.slice A n c, .slice B m d], .agg #[.bool y1, .slice Y1 ly1 cy1, .bool y2, .slice Y2 ly2 cy2]] w fun e w' => e = .returned (.tuple #[.agg #[.bool false, .slice none 0 0, .bool false, .slice none 0 0], .int .i64 r]) ∧ Below w.heap.size w w' := by
  have b0 := three_new w (.cells #[.slice A n c, .slice B m d] 48) (.cells #[.bool y1, .slice Y1 ly1 cy1, .bool y2, .slice Y2 ly2 cy2] 26) (.cells #[.bool false, .slice none 0 0, .bool false, .slice none 0 0] 26)
  have hB := (((Below.refl w.heap.size w).alloc (Nat.le_refl _) (.cells #[.slice A n c, .slice B m d] 48)).alloc (by simp) (.cells #[.bool y1, .slice Y1 ly1 cy1, .bool y2, .slice Y2 ly2 cy2] 26)).alloc (by simp; omega) (.cells #[.bool false, .slice none 0 0, .bool false, .slice none 0 0] 26)
  obtain ⟨g, hg⟩ : ∃ g, w.heap.size = g := ⟨_, rfl⟩
  have HR := hid hr
  have hr1 : (r == 0) = false := beq_eq_false_iff_ne.2 h0
  have hr2 : (r != 0) = true := by simpa using h0
  clear hr h0
  go_enter Tryz.func36, Tryz.ntmps36
  go_wp2_with fail
  rw [hg] at b0
  generalize ((w.alloc (.cells #[.slice A n c, .slice B m d] 48)).alloc (.cells #[.bool y1, .slice Y1 ly1 cy1, .bool y2, .slice Y2 ly2 cy2] 26)).alloc (.cells #[.bool false, .slice none 0 0, .bool false, .slice none 0 0] 26) = W0 at *
  have h1 := h.below hB
  have j0 := b0.2.2
  have HB := hid hB
  have Hg := hid hg
  clear h hB b0 hg
  refine (CheckCurve_q h1 hk0 hn60 hm60).mono ?_
  rintro e w1 ⟨r', rfl, hr', hb1⟩
  obtain rfl : r' = r := Ck.same hr'.out HR.out
  have j2 := j0.step hb1
  have hl7 := j2.lt
  obtain ⟨i0, i1, i2, i3, i4, i5, i6, i7⟩ := j2.c4
  have h11 := hid (below4 (bthen HB.out hb1 (Nat.le_refl _)) (show w.heap.size ≤ g + 1 + 1 by have := Hg.out; omega) (.bool false) (.slice none 0 0) (.bool false) (.slice none 0 0))
  clear h1 j0 hb1 j2 hr'
  go_wp2
  exact bodyPost_ret (v := .tuple #[.agg #[.bool false, .slice none 0 0, .bool false, .slice none 0 0], .int .i64 r']) (by simp [results, Tryz.results36, go_sem, i0, i1, i2, i3]) rfl ⟨rfl, h11.out⟩
set_option maxRecDepth 100000 in
set_option maxHeartbeats 80000000 in
theorem Reach_err {w : World} {A : Option Addr} {n c : Nat} {B : Option Addr} {m d B0 k : Nat} {X : Nat → Int} {Q : Nat → Rat} {y1 : Bool} {Y1 : Option Addr} {ly1 cy1 : Nat} {y2 : Bool} {Y2 : Option Addr} {ly2 cy2 : Nat} {r : Int} (h : Cv w B0 A n B m k X Q) (hk0 : 0 < k) (hn60 : n ≤ 60) (hm60 : m ≤ 60) (hr : Ck n m X Q r) (h0 : r ≠ 0) :
    Calls Tryz.prog 37 #[.agg #[.slice A n c, .slice B m d], .agg #[.bool y1, .slice Y1 ly1 cy1, .bool y2, .slice Y2 ly2 cy2]] w fun e w' => e = .returned (.tuple #[.agg #[.bool false, .slice none 0 0, .bool false, .slice none 0 0], .int .i64 r]) ∧ Below w.heap.size w w' := by
  have b0 := three_new w (.cells #[.slice A n c, .slice B m d] 48) (.cells #[.bool y1, .slice Y1 ly1 cy1, .bool y2, .slice Y2 ly2 cy2] 26) (.cells #[.bool false, .slice none 0 0, .bool false, .slice none 0 0] 26)
  have hB := (((Below.refl w.heap.size w).alloc (Nat.le_refl _) (.cells #[.slice A n c, .slice B m d] 48)).alloc (by simp) (.cells #[.bool y1, .slice Y1 ly1 cy1, .bool y2, .slice Y2 ly2 cy2] 26)).alloc (by simp; omega) (.cells #[.bool false, .slice none 0 0, .bool false, .slice none 0 0] 26)
  obtain ⟨g, hg⟩ : ∃ g, w.heap.size = g := ⟨_, rfl⟩
  have HR := hid hr
  have hr1 : (r == 0) = false := beq_eq_false_iff_ne.2 h0
  have hr2 : (r != 0) = true := by simpa using h0
  clear hr h0
  go_enter Tryz.func37, Tryz.ntmps37
  go_wp2_with fail
  rw [hg] at b0
  generalize ((w.alloc (.cells #[.slice A n c, .slice B m d] 48)).alloc (.cells #[.bool y1, .slice Y1 ly1 cy1, .bool y2, .slice Y2 ly2 cy2] 26)).alloc (.cells #[.bool false, .slice none 0 0, .bool false, .slice none 0 0] 26) = W0 at *
  have h1 := h.below hB
  have j0 := b0.2.2
  have HB := hid hB
  have Hg := hid hg
  clear h hB b0 hg
  refine (CheckCurve_q h1 hk0 hn60 hm60).mono ?_
  rintro e w1 ⟨r', rfl, hr', hb1⟩
  obtain rfl : r' = r := Ck.same hr'.out HR.out
  have j2 := j0.step hb1
  have hl7 := j2.lt
  obtain ⟨i0, i1, i2, i3, i4, i5, i6, i7⟩ := j2.c4
  have h11 := hid (below4 (bthen HB.out hb1 (Nat.le_refl _)) (show w.heap.size ≤ g + 1 + 1 by have := Hg.out; omega) (.bool false) (.slice none 0 0) (.bool false) (.slice none 0 0))
  clear h1 j0 hb1 j2 hr'
  go_wp2
  exact bodyPost_ret (v := .tuple #[.agg #[.bool false, .slice none 0 0, .bool false, .slice none 0 0], .int .i64 r']) (by simp [results, Tryz.results37, go_sem, i0, i1, i2, i3]) rfl ⟨rfl, h11.out⟩
set_option maxRecDepth 100000 in
set_option maxHeartbeats 80000000 in
theorem Capacity_err {w : World} {A : Option Addr} {n c : Nat} {B : Option Addr} {m d B0 k : Nat} {X : Nat → Int} {Q : Nat → Rat} {r : Int} (h : Cv w B0 A n B m k X Q) (hk0 : 0 < k) (hn60 : n ≤ 60) (hm60 : m ≤ 60) (hr : Ck n m X Q r) (h0 : r ≠ 0) :
    Calls Tryz.prog 38 #[.agg #[.slice A n c, .slice B m d]] w fun e w' => e = .returned (.tuple #[.agg #[.bool false, .slice none 0 0, .bool false, .slice none 0 0], .bool false, .int .i64 r]) ∧ Below w.heap.size w w' := by
  have b0 := two_new w (.cells #[.slice A n c, .slice B m d] 48) (.cells #[.bool false, .slice none 0 0, .bool false, .slice none 0 0] 26)
  have hB := below_two w (.cells #[.slice A n c, .slice B m d] 48) (.cells #[.bool false, .slice none 0 0, .bool false, .slice none 0 0] 26)
  obtain ⟨g, hg⟩ : ∃ g, w.heap.size = g := ⟨_, rfl⟩
  have HR := hid hr
  have hr1 : (r == 0) = false := beq_eq_false_iff_ne.2 h0
  have hr2 : (r != 0) = true := by simpa using h0
  clear hr h0
  go_enter Tryz.func38, Tryz.ntmps38
  go_wp2_with fail
  rw [hg] at b0
  generalize (w.alloc (.cells #[.slice A n c, .slice B m d] 48)).alloc (.cells #[.bool false, .slice none 0 0, .bool false, .slice none 0 0] 26) = W0 at *
  have h1 := h.below hB
  have j0 : Bk W0 (g + 1) _ := b0.2
  have HB := hid hB
  have Hg := hid hg
  clear h hB b0 hg
  refine (CheckCurve_q h1 hk0 hn60 hm60).mono ?_
  rintro e w1 ⟨r', rfl, hr', hb1⟩
  obtain rfl : r' = r := Ck.same hr'.out HR.out
  have j2 := j0.step hb1
  have hl7 := j2.lt
  obtain ⟨i0, i1, i2, i3, i4, i5, i6, i7⟩ := j2.c4
  have h11 := hid (below4 (bthen HB.out hb1 (Nat.le_refl _)) (show w.heap.size ≤ g + 1 by have := Hg.out; omega) (.bool false) (.slice none 0 0) (.bool false) (.slice none 0 0))
  clear h1 j0 hb1 j2 hr'
  go_wp2
  exact bodyPost_ret (v := .tuple #[.agg #[.bool false, .slice none 0 0, .bool false, .slice none 0 0], .bool false, .int .i64 r']) (by simp [results, Tryz.results38, go_sem, i0, i1, i2, i3]) rfl ⟨rfl, h11.out⟩

end Go.Proofs.YtffipjofefemiaaGreatDoor
