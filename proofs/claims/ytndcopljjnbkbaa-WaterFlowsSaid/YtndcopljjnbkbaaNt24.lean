/- Networks: Act of the reference at a gate, over the contracts of height and through. -/
import Derived.Test.YtndcopljjnbkbaaNt23
namespace Go.Proofs.Ytndcopljjnbkbaa
open Go.RowKit Go.Maps Kb Wb

/-- What a gate between the heights a and c does. -/
def Gac (a c : Int) (G1 G2 : Int → Prop) (r : Int) : Prop := (c < a ∧ G1 r) ∨ (a < c ∧ ∃ r', r = -r' ∧ G2 r') ∨ (a = c ∧ r = 0)
section
variable {w : World} {B0 B1 : Nat} {N : Nd} {W : Wd} {l : Ld}
set_option maxRecDepth 100000 in
set_option maxHeartbeats 8000000 in
theorem Act_gate (G1 G2 : Int → Prop) (a c : Int) (h : Nt w B0 N) (hw : Wt w B1 W) (hk : l.kind = 0)
    (Ha : Hid (∀ (V : World) (B0 B1 : Nat), Nt V B0 N → Wt V B1 W → Calls Try.prog 61 #[.agg #[.slice N.A N.n N.c, .slice N.M N.m N.d, .slice N.K N.k N.e], .agg #[.int .i64 W.min, .slice W.A W.n W.c, .slice W.M W.m W.d], .string l.fr] V fun e w' => e = .returned (.int .i64 a) ∧ Below V.heap.size V w'))
    (Hc : Hid (∀ (V : World) (B0 B1 : Nat), Nt V B0 N → Wt V B1 W → Calls Try.prog 61 #[.agg #[.slice N.A N.n N.c, .slice N.M N.m N.d, .slice N.K N.k N.e], .agg #[.int .i64 W.min, .slice W.A W.n W.c, .slice W.M W.m W.d], .string l.tw] V fun e w' => e = .returned (.int .i64 c) ∧ Below V.heap.size V w'))
    (Hf : Hid (c < a → ∀ (V : World) (B0 B1 : Nat), Nt V B0 N → Wt V B1 W → Calls Try.prog 62 #[.agg #[.slice N.A N.n N.c, .slice N.M N.m N.d, .slice N.K N.k N.e], .agg #[.int .i64 W.min, .slice W.A W.n W.c, .slice W.M W.m W.d], .agg #[.string l.nm, .int .i64 l.kind, .string l.fr, .string l.tw, .int .i64 l.sill, .int .i64 l.rate, .int .i64 l.fac, .int .i64 l.lift], .string l.fr, .string l.tw] V fun e w' => ∃ r : Int, e = .returned (.int .i64 r) ∧ Hid (G1 r) ∧ (0 ≤ r ∧ r ≤ 2000000000) ∧ Below V.heap.size V w'))
    (Ht : Hid (a < c → ∀ (V : World) (B0 B1 : Nat), Nt V B0 N → Wt V B1 W → Calls Try.prog 62 #[.agg #[.slice N.A N.n N.c, .slice N.M N.m N.d, .slice N.K N.k N.e], .agg #[.int .i64 W.min, .slice W.A W.n W.c, .slice W.M W.m W.d], .agg #[.string l.nm, .int .i64 l.kind, .string l.fr, .string l.tw, .int .i64 l.sill, .int .i64 l.rate, .int .i64 l.fac, .int .i64 l.lift], .string l.tw, .string l.fr] V fun e w' => ∃ r : Int, e = .returned (.int .i64 r) ∧ Hid (G2 r) ∧ (0 ≤ r ∧ r ≤ 2000000000) ∧ Below V.heap.size V w')) :
    Calls Try.prog 23 #[.agg #[.slice N.A N.n N.c, .slice N.M N.m N.d, .slice N.K N.k N.e], .agg #[.int .i64 W.min, .slice W.A W.n W.c, .slice W.M W.m W.d], .agg #[.string l.nm, .int .i64 l.kind, .string l.fr, .string l.tw, .int .i64 l.sill, .int .i64 l.rate, .int .i64 l.fac, .int .i64 l.lift]] w fun e w' => ∃ r : Int, e = .returned (.int .i64 r) ∧ Hid (Gac a c G1 G2 r) ∧ Below w.heap.size w w' := by
  obtain ⟨g, hg⟩ : ∃ g, w.heap.size = g := ⟨_, rfl⟩
  obtain ⟨g1, hg1⟩ : ∃ g', g + 1 = g' := ⟨_, rfl⟩
  obtain ⟨g2, hg2⟩ : ∃ g', g1 + 1 = g' := ⟨_, rfl⟩
  have hb0 := (((Below.refl w.heap.size w).alloc (Nat.le_refl _) (.cells #[.slice N.A N.n N.c, .slice N.M N.m N.d, .slice N.K N.k N.e] 26)).alloc (by simp) (.cells #[.int .i64 W.min, .slice W.A W.n W.c, .slice W.M W.m W.d] 33)).alloc (by simp; omega) (.cells #[.string l.nm, .int .i64 l.kind, .string l.fr, .string l.tw, .int .i64 l.sill, .int .i64 l.rate, .int .i64 l.fac, .int .i64 l.lift] 59)
  have D := Tw.new l h hw hg hg1 hg2
  have dk : (l.kind == 0) = true := by rw [beq_iff_eq]; exact hk
  have Hk := hid hk
  clear hk
  go_enter Try.func23, Try.ntmps23
  go_upto_region 1 with fail
  generalize ((w.alloc (.cells #[.slice N.A N.n N.c, .slice N.M N.m N.d, .slice N.K N.k N.e] 26)).alloc (.cells #[.int .i64 W.min, .slice W.A W.n W.c, .slice W.M W.m W.d] 33)).alloc (.cells #[.string l.nm, .int .i64 l.kind, .string l.fr, .string l.tw, .int .i64 l.sill, .int .i64 l.rate, .int .i64 l.fac, .int .i64 l.lift] 59) = W0 at *
  have HB0 := hid hb0
  have D0 := D.below dr0
  clear hb0 hg hg1 hg2 h hw D
  rcases Int.lt_trichotomy c a with e1 | e1 | e1
  · have k1 : decide (c < a) = true := decide_eq_true e1
    go_region_held3 (fun w' => w'.cell? ⟨g, 0, none⟩ = some (.slice N.A N.n N.c) ∧ w'.cell? ⟨g, 1, none⟩ = some (.slice N.M N.m N.d) ∧ w'.cell? ⟨g, 2, none⟩ = some (.slice N.K N.k N.e) ∧ w'.cell? ⟨g1, 0, none⟩ = some (.int .i64 W.min) ∧ w'.cell? ⟨g1, 1, none⟩ = some (.slice W.A W.n W.c) ∧ w'.cell? ⟨g1, 2, none⟩ = some (.slice W.M W.m W.d) ∧ w'.cell? ⟨g2, 0, none⟩ = some (.string l.nm) ∧ w'.cell? ⟨g2, 1, none⟩ = some (.int .i64 l.kind) ∧ w'.cell? ⟨g2, 2, none⟩ = some (.string l.fr) ∧ w'.cell? ⟨g2, 3, none⟩ = some (.string l.tw) ∧ w'.cell? ⟨g2, 4, none⟩ = some (.int .i64 l.sill) ∧ w'.cell? ⟨g2, 5, none⟩ = some (.int .i64 l.rate) ∧ w'.cell? ⟨g2, 6, none⟩ = some (.int .i64 l.fac) ∧ w'.cell? ⟨g2, 7, none⟩ = some (.int .i64 l.lift)) (first | with_reducible exact Tw.cells D0 | with_reducible exact Tw.cells D1 | with_reducible exact Tw.cells D2) (first
      | (go_at_call 61; (with_reducible refine (Ha.out _ _ _ D0.n.a D0.a).mono ?_); rintro e w1 ⟨rfl, hb1⟩; have D1 := D0.below hb1)
      | (go_at_call 61; (with_reducible refine (Hc.out _ _ _ D1.n.a D1.a).mono ?_); rintro e w2 ⟨rfl, hb2⟩; have D2 := D1.below hb2)
      | (go_at_call 61; (with_reducible refine (Hc.out _ _ _ D0.n.a D0.a).mono ?_); rintro e w1 ⟨rfl, hb1⟩; have D1 := D0.below hb1)
      | (go_at_call 61; (with_reducible refine (Ha.out _ _ _ D1.n.a D1.a).mono ?_); rintro e w2 ⟨rfl, hb2⟩; have D2 := D1.below hb2))
    all_goals
      have HB2 := hid (bthen (bthen HB0.out.drew hb1 (Nat.le_refl _)) hb2 (Nat.le_refl _))
      clear hb1 hb2 D0 D1
      obtain ⟨y0, y1, y2, y3, y4, y5, y6, y7, y8, y9, ya, yb, yc, yd⟩ := D2.cells
      go_wp2_with fail
      refine (Hf.out e1 _ _ _ D2.n.a D2.a).mono ?_
      rintro e w3 ⟨r, rfl, hr, -, hb⟩
      have HB3 := hid (bthen HB2.out hb (Nat.le_refl _))
      have HE := hid (show Gac a c G1 G2 r from .inl ⟨e1, hr.out⟩)
      clear hb hr
      go_wp2
      go_ret
      exact ⟨r, rfl, HE, HB3.out⟩
  · subst e1
    have k1 : decide (c < c) = false := decide_eq_false (by omega)
    have HE := hid (show Gac c c G1 G2 0 from .inr (.inr ⟨rfl, rfl⟩))
    go_region_held3 (fun w' => w'.cell? ⟨g, 0, none⟩ = some (.slice N.A N.n N.c) ∧ w'.cell? ⟨g, 1, none⟩ = some (.slice N.M N.m N.d) ∧ w'.cell? ⟨g, 2, none⟩ = some (.slice N.K N.k N.e) ∧ w'.cell? ⟨g1, 0, none⟩ = some (.int .i64 W.min) ∧ w'.cell? ⟨g1, 1, none⟩ = some (.slice W.A W.n W.c) ∧ w'.cell? ⟨g1, 2, none⟩ = some (.slice W.M W.m W.d) ∧ w'.cell? ⟨g2, 0, none⟩ = some (.string l.nm) ∧ w'.cell? ⟨g2, 1, none⟩ = some (.int .i64 l.kind) ∧ w'.cell? ⟨g2, 2, none⟩ = some (.string l.fr) ∧ w'.cell? ⟨g2, 3, none⟩ = some (.string l.tw) ∧ w'.cell? ⟨g2, 4, none⟩ = some (.int .i64 l.sill) ∧ w'.cell? ⟨g2, 5, none⟩ = some (.int .i64 l.rate) ∧ w'.cell? ⟨g2, 6, none⟩ = some (.int .i64 l.fac) ∧ w'.cell? ⟨g2, 7, none⟩ = some (.int .i64 l.lift)) (first | with_reducible exact Tw.cells D0 | with_reducible exact Tw.cells D1 | with_reducible exact Tw.cells D2) (first
      | (go_at_call 61; (with_reducible refine (Ha.out _ _ _ D0.n.a D0.a).mono ?_); rintro e w1 ⟨rfl, hb1⟩; have D1 := D0.below hb1)
      | (go_at_call 61; (with_reducible refine (Hc.out _ _ _ D1.n.a D1.a).mono ?_); rintro e w2 ⟨rfl, hb2⟩; have D2 := D1.below hb2)
      | (go_at_call 61; (with_reducible refine (Hc.out _ _ _ D0.n.a D0.a).mono ?_); rintro e w1 ⟨rfl, hb1⟩; have D1 := D0.below hb1)
      | (go_at_call 61; (with_reducible refine (Ha.out _ _ _ D1.n.a D1.a).mono ?_); rintro e w2 ⟨rfl, hb2⟩; have D2 := D1.below hb2))
    all_goals
      have HB2 := hid (bthen (bthen HB0.out.drew hb1 (Nat.le_refl _)) hb2 (Nat.le_refl _))
      clear hb1 hb2 D0 D1
      obtain ⟨y0, y1, y2, y3, y4, y5, y6, y7, y8, y9, ya, yb, yc, yd⟩ := D2.cells
      go_wp2
      go_ret
      exact ⟨0, rfl, HE, HB2.out⟩
  · have k1 : decide (c < a) = false := decide_eq_false (by omega)
    have k2 : decide (a < c) = true := decide_eq_true e1
    go_region_held3 (fun w' => w'.cell? ⟨g, 0, none⟩ = some (.slice N.A N.n N.c) ∧ w'.cell? ⟨g, 1, none⟩ = some (.slice N.M N.m N.d) ∧ w'.cell? ⟨g, 2, none⟩ = some (.slice N.K N.k N.e) ∧ w'.cell? ⟨g1, 0, none⟩ = some (.int .i64 W.min) ∧ w'.cell? ⟨g1, 1, none⟩ = some (.slice W.A W.n W.c) ∧ w'.cell? ⟨g1, 2, none⟩ = some (.slice W.M W.m W.d) ∧ w'.cell? ⟨g2, 0, none⟩ = some (.string l.nm) ∧ w'.cell? ⟨g2, 1, none⟩ = some (.int .i64 l.kind) ∧ w'.cell? ⟨g2, 2, none⟩ = some (.string l.fr) ∧ w'.cell? ⟨g2, 3, none⟩ = some (.string l.tw) ∧ w'.cell? ⟨g2, 4, none⟩ = some (.int .i64 l.sill) ∧ w'.cell? ⟨g2, 5, none⟩ = some (.int .i64 l.rate) ∧ w'.cell? ⟨g2, 6, none⟩ = some (.int .i64 l.fac) ∧ w'.cell? ⟨g2, 7, none⟩ = some (.int .i64 l.lift)) (first | with_reducible exact Tw.cells D0 | with_reducible exact Tw.cells D1 | with_reducible exact Tw.cells D2) (first
      | (go_at_call 61; (with_reducible refine (Ha.out _ _ _ D0.n.a D0.a).mono ?_); rintro e w1 ⟨rfl, hb1⟩; have D1 := D0.below hb1)
      | (go_at_call 61; (with_reducible refine (Hc.out _ _ _ D1.n.a D1.a).mono ?_); rintro e w2 ⟨rfl, hb2⟩; have D2 := D1.below hb2)
      | (go_at_call 61; (with_reducible refine (Hc.out _ _ _ D0.n.a D0.a).mono ?_); rintro e w1 ⟨rfl, hb1⟩; have D1 := D0.below hb1)
      | (go_at_call 61; (with_reducible refine (Ha.out _ _ _ D1.n.a D1.a).mono ?_); rintro e w2 ⟨rfl, hb2⟩; have D2 := D1.below hb2))
    all_goals
      have HB2 := hid (bthen (bthen HB0.out.drew hb1 (Nat.le_refl _)) hb2 (Nat.le_refl _))
      clear hb1 hb2 D0 D1
      obtain ⟨y0, y1, y2, y3, y4, y5, y6, y7, y8, y9, ya, yb, yc, yd⟩ := D2.cells
      go_wp2_with fail
      refine (Ht.out e1 _ _ _ D2.n.a D2.a).mono ?_
      rintro e w3 ⟨r, rfl, hr, hrr, hb⟩
      have HB3 := hid (bthen HB2.out hb (Nat.le_refl _))
      have HE := hid (show Gac a c G1 G2 (-r) from .inr (.inl ⟨e1, r, rfl, hr.out⟩))
      have hw2 : IntKind.i64.wrap (-r) = -r := IntWalk.i64_in _ (by omega)
      have hw3 : IntKind.i64.wrap (0 - r) = -r := by rw [show (0 : Int) - r = -r by omega]; exact hw2
      clear hb hr
      go_wp2
      go_ret
      exact ⟨-r, rfl, HE, HB3.out⟩
end

end Go.Proofs.Ytndcopljjnbkbaa
