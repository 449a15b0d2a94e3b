/- Networks: CheckCourse, CheckTarget of the reference. For every question. -/
import Derived.Test.YtockfiobhmohnaaRu2
namespace Go.Proofs.Ytockfiobhmohnaa
open Go.RowKit Go.Maps Kb Wb

set_option maxRecDepth 100000 in
set_option maxHeartbeats 8000000 in
theorem CheckCourse_is {w : World} {B0 : Nat} {N : Nd} {W : Wd} {s : ByteArray} {E C : Int} {r : Int} (hr : Hid (CeR N W.min s E C r)) (t0 : 0 ≤ W.min) (t1 : W.min ≤ 1000000) (hE64 : I64 E) (hC64 : I64 C) (h : Nt w B0 N) (hs : Nsm N) :
    Calls Try.prog 21 #[.agg #[.slice N.A N.n N.c, .slice N.M N.m N.d, .slice N.K N.k N.e], .agg #[.int .i64 W.min, .slice W.A W.n W.c, .slice W.M W.m W.d], .agg #[.string s, .int .i64 E, .int .i64 C]] w fun e w' => e = .returned (.int .i64 r) ∧ Below w.heap.size w w' := by
  unfold I64 at hE64 hC64
  have _ := hE64
  obtain ⟨g, hg⟩ : ∃ g, w.heap.size = g := ⟨_, rfl⟩
  have hb0 := (((Below.refl w.heap.size w).alloc (Nat.le_refl _) (.cells #[.slice N.A N.n N.c, .slice N.M N.m N.d, .slice N.K N.k N.e] 26)).alloc (by simp) (.cells #[.int .i64 W.min, .slice W.A W.n W.c, .slice W.M W.m W.d] 30)).alloc (by simp; omega) (.cells #[.string s, .int .i64 E, .int .i64 C] 56)
  have K1 := ((Nb.new h hg).below (alo (o := .cells #[.int .i64 W.min, .slice W.A W.n W.c, .slice W.M W.m W.d] 30))).below (alo (o := .cells #[.string s, .int .i64 E, .int .i64 C] 56))
  have V1 : Bk _ (g + 1) _ := (Bk.of_alloc (w.alloc (.cells #[.slice N.A N.n N.c, .slice N.M N.m N.d, .slice N.K N.k N.e] 26)) (.cells #[.int .i64 W.min, .slice W.A W.n W.c, .slice W.M W.m W.d] 30) (by simp [hg])).alloc (.cells #[.string s, .int .i64 E, .int .i64 C] 56)
  have R1 : Bk _ (g + 1 + 1) _ := Bk.of_alloc ((w.alloc (.cells #[.slice N.A N.n N.c, .slice N.M N.m N.d, .slice N.K N.k N.e] 26)).alloc (.cells #[.int .i64 W.min, .slice W.A W.n W.c, .slice W.M W.m W.d] 30)) (.cells #[.string s, .int .i64 E, .int .i64 C] 56) (by simp [hg])
  go_enter Try.func21, Try.ntmps21
  go_wp2_with fail
  generalize ((w.alloc (.cells #[.slice N.A N.n N.c, .slice N.M N.m N.d, .slice N.K N.k N.e] 26)).alloc (.cells #[.int .i64 W.min, .slice W.A W.n W.c, .slice W.M W.m W.d] 30)).alloc (.cells #[.string s, .int .i64 E, .int .i64 C] 56) = W0 at *
  have HB0 := hid hb0
  clear hb0 hg h
  obtain ⟨x0, x1, x2⟩ := K1.cells
  obtain ⟨q0, q1, q2⟩ := R1.c3
  obtain ⟨ix, hix⟩ : ∃ ix, ixB N s = ix := ⟨_, rfl⟩
  have HIX := hid (show Ixn N.n N.bnm s ix from hix ▸ ixB_is N s)
  have Hix := hid hix
  go_wp2_with fail
  refine (rBasin_is HIX K1.a hs).mono ?_
  rintro e w3 ⟨rfl, hb⟩
  have HB3 := hid (bthen HB0.out hb (Nat.le_refl _))
  have V3 := V1.step hb
  have R3 := R1.step hb
  clear hb K1 V1 R1 x0 x1 x2 q0 q1 q2 hix
  by_cases hneg : ix < 0
  · have dneg : decide (ix < 0) = true := decide_eq_true hneg
    obtain rfl : r = 6 := hr.out.same (.inl ⟨by rw [Hix.out]; exact hneg, rfl⟩)
    go_wp2
    go_ret
    exact ⟨rfl, HB3.out⟩
  · have dneg : decide (ix < 0) = false := decide_eq_false hneg
    have Hge := hid (show 0 ≤ ixB N s from by rw [Hix.out]; omega)
    clear hneg
    obtain ⟨y0, y1, y2⟩ := V3.c3
    obtain ⟨q0, q1, q2⟩ := R3.c3
    have Bad := hid (fun (hne : ¬ CoOk W.min E C) => (show r = 2 from hr.out.same (.inr ⟨Hge.out, .inl ⟨hne, rfl⟩⟩)))
    by_cases hE : inB E 1 1000 = true
    · have hE' := inB_iff.1 hE
      by_cases hC : inB C 0 200 = true
      · have hC' := inB_iff.1 hC
        have hmx : (C = 0 ∧ max (C - 1) 0 * E = 0 ∧ (C - 1) * E = -E) ∨ (1 ≤ C ∧ max (C - 1) 0 * E = (C - 1) * E) := by
          by_cases h0 : C = 0
          · subst h0
            exact .inl ⟨rfl, by rw [show max ((0 : Int) - 1) 0 = 0 by omega, Int.zero_mul], by rw [show (0 : Int) - 1 = -1 by omega]; omega⟩
          · exact .inr ⟨by omega, by rw [show max (C - 1) 0 = C - 1 by omega]⟩
        have hp1 : -1000 ≤ (C - 1) * E ∧ (C - 1) * E ≤ 199000 := by
          rcases hmx with ⟨h0, _, h1⟩ | ⟨h0, _⟩
          · rw [h1]; omega
          · have a := Int.mul_nonneg (show 0 ≤ C - 1 by omega) (show 0 ≤ E by omega)
            have b := Int.mul_le_mul (show C - 1 ≤ 199 by omega) hE'.2 (by omega) (by decide)
            omega
        have hp2 : 0 ≤ max (C - 1) 0 * E ∧ max (C - 1) 0 * E ≤ 199000 := by
          have a0 : 0 ≤ max (C - 1) 0 := by omega
          have a1 : max (C - 1) 0 ≤ 199 := by omega
          refine ⟨Int.mul_nonneg a0 (by omega), ?_⟩
          have := Int.mul_le_mul a1 hE'.2 (by omega) (by decide)
          omega
        obtain ⟨p1, h1⟩ : ∃ p1, (C - 1) * E = p1 := ⟨_, rfl⟩
        obtain ⟨p2, h2⟩ : ∃ p2, max (C - 1) 0 * E = p2 := ⟨_, rfl⟩
        have HCo := hid (show CoOk W.min E C ↔ ((1 ≤ E ∧ E ≤ 1000) ∧ (0 ≤ C ∧ C ≤ 200) ∧ W.min + p2 ≤ 1000000 ∧ p2 ≤ 10000) from by unfold CoOk; rw [h2])
        rw [h1] at hp1
        rw [h1, h2] at hmx
        rw [h2] at hp2
        have w1 : IntKind.i64.wrap (C - 1) = C - 1 := IntWalk.i64_in _ (by omega)
        have w2 : IntKind.i64.wrap ((C - 1) * E) = p1 := by rw [h1]; exact IntWalk.i64_in _ (by omega)
        have w3' : IntKind.i64.wrap (max (C - 1) 0 * E) = p2 := by rw [h2]; exact IntWalk.i64_in _ (by omega)
        have w4 : IntKind.i64.wrap (W.min + p2) = W.min + p2 := IntWalk.i64_in _ (by omega)
        clear h1 h2
        by_cases ho : 10000 < p1
        · have d1 : decide (10000 < p1) = true := decide_eq_true ho
          obtain rfl := Bad.out (fun h => by have := HCo.out.1 h; omega)
          clear hmx
          go_wp2_with ((with_reducible refine (inside_any _ _ _ _).mono ?_); rintro e w' ⟨rfl, rfl⟩)
          go_ret
          exact ⟨rfl, HB3.out⟩
        · have d1 : decide (10000 < p1) = false := decide_eq_false ho
          by_cases ho2 : 1000000 < W.min + p2
          · have d2 : decide (1000000 < W.min + p2) = true := decide_eq_true ho2
            obtain rfl := Bad.out (fun h => by have := HCo.out.1 h; omega)
            clear hmx
            go_wp2_with ((with_reducible refine (inside_any _ _ _ _).mono ?_); rintro e w' ⟨rfl, rfl⟩)
            go_ret
            exact ⟨rfl, HB3.out⟩
          · have d2 : decide (1000000 < W.min + p2) = false := decide_eq_false ho2
            obtain rfl : r = 0 := hr.out.same (.inr ⟨Hge.out, .inr ⟨HCo.out.2 ⟨hE', hC', by omega, by omega⟩, rfl⟩⟩)
            clear hmx
            go_wp2_with ((with_reducible refine (inside_any _ _ _ _).mono ?_); rintro e w' ⟨rfl, rfl⟩)
            go_ret
            exact ⟨rfl, HB3.out⟩
      · have hC0 := Bool.eq_false_iff.2 hC
        obtain rfl := Bad.out (fun h => hC (inB_t h.2.1))
        clear hC
        go_wp2_with ((with_reducible refine (inside_any _ _ _ _).mono ?_); rintro e w' ⟨rfl, rfl⟩)
        go_ret
        exact ⟨rfl, HB3.out⟩
    · have hE0 := Bool.eq_false_iff.2 hE
      obtain rfl := Bad.out (fun h => hE (inB_t h.1))
      clear hE
      go_wp2_with ((with_reducible refine (inside_any _ _ _ _).mono ?_); rintro e w' ⟨rfl, rfl⟩)
      go_ret
      exact ⟨rfl, HB3.out⟩

set_option maxRecDepth 100000 in
set_option maxHeartbeats 8000000 in
theorem CheckTarget_is {w : World} {B0 : Nat} {N : Nd} {W : Wd} {s : ByteArray} {E C : Int} {rs : Bool} {r : Int} (hr : Hid (UeR N W.min s E C r)) (t0 : 0 ≤ W.min) (t1 : W.min ≤ 1000000) (hE64 : I64 E) (hC64 : I64 C) (h : Nt w B0 N) (hs : Nsm N) :
    Calls Try.prog 23 #[.agg #[.slice N.A N.n N.c, .slice N.M N.m N.d, .slice N.K N.k N.e], .agg #[.int .i64 W.min, .slice W.A W.n W.c, .slice W.M W.m W.d], .agg #[.string s, .int .i64 E, .int .i64 C, .bool rs]] w fun e w' => e = .returned (.int .i64 r) ∧ Below w.heap.size w w' := by
  unfold I64 at hE64 hC64
  have _ := hE64
  obtain ⟨g, hg⟩ : ∃ g, w.heap.size = g := ⟨_, rfl⟩
  have hb0 := (((Below.refl w.heap.size w).alloc (Nat.le_refl _) (.cells #[.slice N.A N.n N.c, .slice N.M N.m N.d, .slice N.K N.k N.e] 26)).alloc (by simp) (.cells #[.int .i64 W.min, .slice W.A W.n W.c, .slice W.M W.m W.d] 30)).alloc (by simp; omega) (.cells #[.string s, .int .i64 E, .int .i64 C, .bool rs] 58)
  have K1 := ((Nb.new h hg).below (alo (o := .cells #[.int .i64 W.min, .slice W.A W.n W.c, .slice W.M W.m W.d] 30))).below (alo (o := .cells #[.string s, .int .i64 E, .int .i64 C, .bool rs] 58))
  have V1 : Bk _ (g + 1) _ := (Bk.of_alloc (w.alloc (.cells #[.slice N.A N.n N.c, .slice N.M N.m N.d, .slice N.K N.k N.e] 26)) (.cells #[.int .i64 W.min, .slice W.A W.n W.c, .slice W.M W.m W.d] 30) (by simp [hg])).alloc (.cells #[.string s, .int .i64 E, .int .i64 C, .bool rs] 58)
  have R1 : Bk _ (g + 1 + 1) _ := Bk.of_alloc ((w.alloc (.cells #[.slice N.A N.n N.c, .slice N.M N.m N.d, .slice N.K N.k N.e] 26)).alloc (.cells #[.int .i64 W.min, .slice W.A W.n W.c, .slice W.M W.m W.d] 30)) (.cells #[.string s, .int .i64 E, .int .i64 C, .bool rs] 58) (by simp [hg])
  go_enter Try.func23, Try.ntmps23
  go_wp2_with fail
  generalize ((w.alloc (.cells #[.slice N.A N.n N.c, .slice N.M N.m N.d, .slice N.K N.k N.e] 26)).alloc (.cells #[.int .i64 W.min, .slice W.A W.n W.c, .slice W.M W.m W.d] 30)).alloc (.cells #[.string s, .int .i64 E, .int .i64 C, .bool rs] 58) = W0 at *
  have HB0 := hid hb0
  clear hb0 hg h
  obtain ⟨x0, x1, x2⟩ := K1.cells
  obtain ⟨q0, q1, q2, q3⟩ := Bk.c4 R1
  obtain ⟨ix, hix⟩ : ∃ ix, ixB N s = ix := ⟨_, rfl⟩
  have HIX := hid (show Ixn N.n N.bnm s ix from hix ▸ ixB_is N s)
  have Hix := hid hix
  go_wp2_with fail
  refine (rBasin_is HIX K1.a hs).mono ?_
  rintro e w3 ⟨rfl, hb⟩
  have HB3 := hid (bthen HB0.out hb (Nat.le_refl _))
  have V3 := V1.step hb
  have R3 := R1.step hb
  clear hb K1 V1 R1 x0 x1 x2 q0 q1 q2 q3 hix
  by_cases hneg : ix < 0
  · have dneg : decide (ix < 0) = true := decide_eq_true hneg
    obtain rfl : r = 6 := hr.out.same (.inl ⟨by rw [Hix.out]; exact hneg, rfl⟩)
    go_wp2
    go_ret
    exact ⟨rfl, HB3.out⟩
  · have dneg : decide (ix < 0) = false := decide_eq_false hneg
    have Hge := hid (show 0 ≤ ixB N s from by rw [Hix.out]; omega)
    clear hneg
    obtain ⟨y0, y1, y2⟩ := V3.c3
    obtain ⟨q0, q1, q2, q3⟩ := Bk.c4 R3
    have Bad := hid (fun (hne : ¬ ((-1000000 ≤ E ∧ E ≤ 1000000) ∧ lstB W.min C = true)) => (show r = 2 from hr.out.same (.inr ⟨Hge.out, .inl ⟨hne, rfl⟩⟩)))
    by_cases hE : inB E (-1000000) 1000000 = true
    · have hE' := inB_iff.1 hE
      by_cases hC : inB C 0 10000 = true
      · have hC' := inB_iff.1 hC
        have w4 : IntKind.i64.wrap (W.min + C) = W.min + C := IntWalk.i64_in _ (by omega)
        by_cases ho2 : 1000000 < W.min + C
        · have d2 : decide (1000000 < W.min + C) = true := decide_eq_true ho2
          obtain rfl := Bad.out (fun h => by have := lstB_iff.1 h.2; omega)
          go_wp2_with ((with_reducible refine (inside_any _ _ _ _).mono ?_); rintro e w' ⟨rfl, rfl⟩)
          go_ret
          exact ⟨rfl, HB3.out⟩
        · have d2 : decide (1000000 < W.min + C) = false := decide_eq_false ho2
          obtain rfl : r = 0 := hr.out.same (.inr ⟨Hge.out, .inr ⟨⟨hE', lstB_iff.2 ⟨hC', by omega⟩⟩, rfl⟩⟩)
          go_wp2_with ((with_reducible refine (inside_any _ _ _ _).mono ?_); rintro e w' ⟨rfl, rfl⟩)
          go_ret
          exact ⟨rfl, HB3.out⟩
      · have hC0 := Bool.eq_false_iff.2 hC
        obtain rfl := Bad.out (fun h => hC (inB_t (lstB_iff.1 h.2).1))
        clear hC
        go_wp2_with ((with_reducible refine (inside_any _ _ _ _).mono ?_); rintro e w' ⟨rfl, rfl⟩)
        go_ret
        exact ⟨rfl, HB3.out⟩
    · have hE0 := Bool.eq_false_iff.2 hE
      obtain rfl := Bad.out (fun h => hE (inB_t h.1))
      clear hE
      go_wp2_with ((with_reducible refine (inside_any _ _ _ _).mono ?_); rintro e w' ⟨rfl, rfl⟩)
      go_ret
      exact ⟨rfl, HB3.out⟩

end Go.Proofs.Ytockfiobhmohnaa

