/- Networks: Act of the reference at a gate, over the contracts of height and through. Networks: through and Act of the reference. For every network and state that fit each other. Networks: Levels of the reference. Networks: Act of the reference at any link; the walk of WaterFlows. For every case and name. Networks: what a minute and a run of minutes do, in numbers. No program in it. -/
import Derived.Test.YtockfiobhmohnaaGj
import Derived.Test.YtockfiobhmohnaaNt29
import Derived.Test.YtockfiobhmohnaaGg
import Derived.Test.YtockfiobhmohnaaGh
namespace Go.Proofs.Ytockfiobhmohnaa
open Go.RowKit Go.Maps Kb Wb

/-- What a gate between the heights a and c does. -/
def Gac (a c : Int) (G1 G2 : Int → Prop) (r : Int) : Prop := (c < a ∧ G1 r) ∨ (a < c ∧ ∃ r', r = -r' ∧ G2 r') ∨ (a = c ∧ r = 0)
section
variable {w : World} {B0 B1 : Nat} {N : Nd} {W : Wd} {l : Ld}
set_option maxRecDepth 100000 in
set_option maxHeartbeats 8000000 in
theorem Act_gate (G1 G2 : Int → Prop) (a c : Int) (h : Nt w B0 N) (hw : Wt w B1 W) (hk : l.kind = 0)
    (Ha : Hid (∀ (V : World) (B0 B1 : Nat), Nt V B0 N → Wt V B1 W → Calls Try.prog 69 #[.agg #[.slice N.A N.n N.c, .slice N.M N.m N.d, .slice N.K N.k N.e], .agg #[.int .i64 W.min, .slice W.A W.n W.c, .slice W.M W.m W.d], .string l.fr] V fun e w' => e = .returned (.int .i64 a) ∧ Below V.heap.size V w'))
    (Hc : Hid (∀ (V : World) (B0 B1 : Nat), Nt V B0 N → Wt V B1 W → Calls Try.prog 69 #[.agg #[.slice N.A N.n N.c, .slice N.M N.m N.d, .slice N.K N.k N.e], .agg #[.int .i64 W.min, .slice W.A W.n W.c, .slice W.M W.m W.d], .string l.tw] V fun e w' => e = .returned (.int .i64 c) ∧ Below V.heap.size V w'))
    (Hf : Hid (c < a → ∀ (V : World) (B0 B1 : Nat), Nt V B0 N → Wt V B1 W → Calls Try.prog 70 #[.agg #[.slice N.A N.n N.c, .slice N.M N.m N.d, .slice N.K N.k N.e], .agg #[.int .i64 W.min, .slice W.A W.n W.c, .slice W.M W.m W.d], .agg #[.string l.nm, .int .i64 l.kind, .string l.fr, .string l.tw, .int .i64 l.sill, .int .i64 l.rate, .int .i64 l.fac, .int .i64 l.lift], .string l.fr, .string l.tw] V fun e w' => ∃ r : Int, e = .returned (.int .i64 r) ∧ Hid (G1 r) ∧ (0 ≤ r ∧ r ≤ 2000000000) ∧ Below V.heap.size V w'))
    (Ht : Hid (a < c → ∀ (V : World) (B0 B1 : Nat), Nt V B0 N → Wt V B1 W → Calls Try.prog 70 #[.agg #[.slice N.A N.n N.c, .slice N.M N.m N.d, .slice N.K N.k N.e], .agg #[.int .i64 W.min, .slice W.A W.n W.c, .slice W.M W.m W.d], .agg #[.string l.nm, .int .i64 l.kind, .string l.fr, .string l.tw, .int .i64 l.sill, .int .i64 l.rate, .int .i64 l.fac, .int .i64 l.lift], .string l.tw, .string l.fr] V fun e w' => ∃ r : Int, e = .returned (.int .i64 r) ∧ Hid (G2 r) ∧ (0 ≤ r ∧ r ≤ 2000000000) ∧ Below V.heap.size V w')) :
    Calls Try.prog 42 #[.agg #[.slice N.A N.n N.c, .slice N.M N.m N.d, .slice N.K N.k N.e], .agg #[.int .i64 W.min, .slice W.A W.n W.c, .slice W.M W.m W.d], .agg #[.string l.nm, .int .i64 l.kind, .string l.fr, .string l.tw, .int .i64 l.sill, .int .i64 l.rate, .int .i64 l.fac, .int .i64 l.lift]] w fun e w' => ∃ r : Int, e = .returned (.int .i64 r) ∧ Hid (Gac a c G1 G2 r) ∧ Below w.heap.size w w' := by
  obtain ⟨g, hg⟩ : ∃ g, w.heap.size = g := ⟨_, rfl⟩
  obtain ⟨g1, hg1⟩ : ∃ g', g + 1 = g' := ⟨_, rfl⟩
  obtain ⟨g2, hg2⟩ : ∃ g', g1 + 1 = g' := ⟨_, rfl⟩
  have hb0 := (((Below.refl w.heap.size w).alloc (Nat.le_refl _) (.cells #[.slice N.A N.n N.c, .slice N.M N.m N.d, .slice N.K N.k N.e] 26)).alloc (by simp) (.cells #[.int .i64 W.min, .slice W.A W.n W.c, .slice W.M W.m W.d] 30)).alloc (by simp; omega) (.cells #[.string l.nm, .int .i64 l.kind, .string l.fr, .string l.tw, .int .i64 l.sill, .int .i64 l.rate, .int .i64 l.fac, .int .i64 l.lift] 49)
  have D := Tw.new l h hw hg hg1 hg2
  have dk : (l.kind == 0) = true := by rw [beq_iff_eq]; exact hk
  have Hk := hid hk
  clear hk
  go_enter Try.func42, Try.ntmps42
  go_upto_region 1 with fail
  generalize ((w.alloc (.cells #[.slice N.A N.n N.c, .slice N.M N.m N.d, .slice N.K N.k N.e] 26)).alloc (.cells #[.int .i64 W.min, .slice W.A W.n W.c, .slice W.M W.m W.d] 30)).alloc (.cells #[.string l.nm, .int .i64 l.kind, .string l.fr, .string l.tw, .int .i64 l.sill, .int .i64 l.rate, .int .i64 l.fac, .int .i64 l.lift] 49) = W0 at *
  have HB0 := hid hb0
  have D0 := D.below dr0
  clear hb0 hg hg1 hg2 h hw D
  rcases Int.lt_trichotomy c a with e1 | e1 | e1
  · have k1 : decide (c < a) = true := decide_eq_true e1
    go_region_held3 (fun w' => w'.cell? ⟨g, 0, none⟩ = some (.slice N.A N.n N.c) ∧ w'.cell? ⟨g, 1, none⟩ = some (.slice N.M N.m N.d) ∧ w'.cell? ⟨g, 2, none⟩ = some (.slice N.K N.k N.e) ∧ w'.cell? ⟨g1, 0, none⟩ = some (.int .i64 W.min) ∧ w'.cell? ⟨g1, 1, none⟩ = some (.slice W.A W.n W.c) ∧ w'.cell? ⟨g1, 2, none⟩ = some (.slice W.M W.m W.d) ∧ w'.cell? ⟨g2, 0, none⟩ = some (.string l.nm) ∧ w'.cell? ⟨g2, 1, none⟩ = some (.int .i64 l.kind) ∧ w'.cell? ⟨g2, 2, none⟩ = some (.string l.fr) ∧ w'.cell? ⟨g2, 3, none⟩ = some (.string l.tw) ∧ w'.cell? ⟨g2, 4, none⟩ = some (.int .i64 l.sill) ∧ w'.cell? ⟨g2, 5, none⟩ = some (.int .i64 l.rate) ∧ w'.cell? ⟨g2, 6, none⟩ = some (.int .i64 l.fac) ∧ w'.cell? ⟨g2, 7, none⟩ = some (.int .i64 l.lift)) (first | with_reducible exact Tw.cells D0 | with_reducible exact Tw.cells D1 | with_reducible exact Tw.cells D2) (first
      | (go_at_call 69; (with_reducible refine (Ha.out _ _ _ D0.n.a D0.a).mono ?_); rintro e w1 ⟨rfl, hb1⟩; have D1 := D0.below hb1)
      | (go_at_call 69; (with_reducible refine (Hc.out _ _ _ D1.n.a D1.a).mono ?_); rintro e w2 ⟨rfl, hb2⟩; have D2 := D1.below hb2)
      | (go_at_call 69; (with_reducible refine (Hc.out _ _ _ D0.n.a D0.a).mono ?_); rintro e w1 ⟨rfl, hb1⟩; have D1 := D0.below hb1)
      | (go_at_call 69; (with_reducible refine (Ha.out _ _ _ D1.n.a D1.a).mono ?_); rintro e w2 ⟨rfl, hb2⟩; have D2 := D1.below hb2))
    all_goals
      have HB2 := hid (bthen (bthen HB0.out.drew hb1 (Nat.le_refl _)) hb2 (Nat.le_refl _))
      clear hb1 hb2 D0 D1
      obtain ⟨y0, y1, y2, y3, y4, y5, y6, y7, y8, y9, ya, yb, yc, yd⟩ := D2.cells
      go_wp2_with fail
      refine (Hf.out e1 _ _ _ D2.n.a D2.a).mono ?_
      rintro e w3 ⟨r, rfl, hr, -, hb⟩
      have HB3 := hid (bthen HB2.out hb (Nat.le_refl _))
      have HE := hid (show Gac a c G1 G2 r from .inl ⟨e1, hr.out⟩)
      clear hb hr
      go_wp2
      go_ret
      exact ⟨r, rfl, HE, HB3.out⟩
  · subst e1
    have k1 : decide (c < c) = false := decide_eq_false (by omega)
    have HE := hid (show Gac c c G1 G2 0 from .inr (.inr ⟨rfl, rfl⟩))
    go_region_held3 (fun w' => w'.cell? ⟨g, 0, none⟩ = some (.slice N.A N.n N.c) ∧ w'.cell? ⟨g, 1, none⟩ = some (.slice N.M N.m N.d) ∧ w'.cell? ⟨g, 2, none⟩ = some (.slice N.K N.k N.e) ∧ w'.cell? ⟨g1, 0, none⟩ = some (.int .i64 W.min) ∧ w'.cell? ⟨g1, 1, none⟩ = some (.slice W.A W.n W.c) ∧ w'.cell? ⟨g1, 2, none⟩ = some (.slice W.M W.m W.d) ∧ w'.cell? ⟨g2, 0, none⟩ = some (.string l.nm) ∧ w'.cell? ⟨g2, 1, none⟩ = some (.int .i64 l.kind) ∧ w'.cell? ⟨g2, 2, none⟩ = some (.string l.fr) ∧ w'.cell? ⟨g2, 3, none⟩ = some (.string l.tw) ∧ w'.cell? ⟨g2, 4, none⟩ = some (.int .i64 l.sill) ∧ w'.cell? ⟨g2, 5, none⟩ = some (.int .i64 l.rate) ∧ w'.cell? ⟨g2, 6, none⟩ = some (.int .i64 l.fac) ∧ w'.cell? ⟨g2, 7, none⟩ = some (.int .i64 l.lift)) (first | with_reducible exact Tw.cells D0 | with_reducible exact Tw.cells D1 | with_reducible exact Tw.cells D2) (first
      | (go_at_call 69; (with_reducible refine (Ha.out _ _ _ D0.n.a D0.a).mono ?_); rintro e w1 ⟨rfl, hb1⟩; have D1 := D0.below hb1)
      | (go_at_call 69; (with_reducible refine (Hc.out _ _ _ D1.n.a D1.a).mono ?_); rintro e w2 ⟨rfl, hb2⟩; have D2 := D1.below hb2)
      | (go_at_call 69; (with_reducible refine (Hc.out _ _ _ D0.n.a D0.a).mono ?_); rintro e w1 ⟨rfl, hb1⟩; have D1 := D0.below hb1)
      | (go_at_call 69; (with_reducible refine (Ha.out _ _ _ D1.n.a D1.a).mono ?_); rintro e w2 ⟨rfl, hb2⟩; have D2 := D1.below hb2))
    all_goals
      have HB2 := hid (bthen (bthen HB0.out.drew hb1 (Nat.le_refl _)) hb2 (Nat.le_refl _))
      clear hb1 hb2 D0 D1
      obtain ⟨y0, y1, y2, y3, y4, y5, y6, y7, y8, y9, ya, yb, yc, yd⟩ := D2.cells
      go_wp2
      go_ret
      exact ⟨0, rfl, HE, HB2.out⟩
  · have k1 : decide (c < a) = false := decide_eq_false (by omega)
    have k2 : decide (a < c) = true := decide_eq_true e1
    go_region_held3 (fun w' => w'.cell? ⟨g, 0, none⟩ = some (.slice N.A N.n N.c) ∧ w'.cell? ⟨g, 1, none⟩ = some (.slice N.M N.m N.d) ∧ w'.cell? ⟨g, 2, none⟩ = some (.slice N.K N.k N.e) ∧ w'.cell? ⟨g1, 0, none⟩ = some (.int .i64 W.min) ∧ w'.cell? ⟨g1, 1, none⟩ = some (.slice W.A W.n W.c) ∧ w'.cell? ⟨g1, 2, none⟩ = some (.slice W.M W.m W.d) ∧ w'.cell? ⟨g2, 0, none⟩ = some (.string l.nm) ∧ w'.cell? ⟨g2, 1, none⟩ = some (.int .i64 l.kind) ∧ w'.cell? ⟨g2, 2, none⟩ = some (.string l.fr) ∧ w'.cell? ⟨g2, 3, none⟩ = some (.string l.tw) ∧ w'.cell? ⟨g2, 4, none⟩ = some (.int .i64 l.sill) ∧ w'.cell? ⟨g2, 5, none⟩ = some (.int .i64 l.rate) ∧ w'.cell? ⟨g2, 6, none⟩ = some (.int .i64 l.fac) ∧ w'.cell? ⟨g2, 7, none⟩ = some (.int .i64 l.lift)) (first | with_reducible exact Tw.cells D0 | with_reducible exact Tw.cells D1 | with_reducible exact Tw.cells D2) (first
      | (go_at_call 69; (with_reducible refine (Ha.out _ _ _ D0.n.a D0.a).mono ?_); rintro e w1 ⟨rfl, hb1⟩; have D1 := D0.below hb1)
      | (go_at_call 69; (with_reducible refine (Hc.out _ _ _ D1.n.a D1.a).mono ?_); rintro e w2 ⟨rfl, hb2⟩; have D2 := D1.below hb2)
      | (go_at_call 69; (with_reducible refine (Hc.out _ _ _ D0.n.a D0.a).mono ?_); rintro e w1 ⟨rfl, hb1⟩; have D1 := D0.below hb1)
      | (go_at_call 69; (with_reducible refine (Ha.out _ _ _ D1.n.a D1.a).mono ?_); rintro e w2 ⟨rfl, hb2⟩; have D2 := D1.below hb2))
    all_goals
      have HB2 := hid (bthen (bthen HB0.out.drew hb1 (Nat.le_refl _)) hb2 (Nat.le_refl _))
      clear hb1 hb2 D0 D1
      obtain ⟨y0, y1, y2, y3, y4, y5, y6, y7, y8, y9, ya, yb, yc, yd⟩ := D2.cells
      go_wp2_with fail
      refine (Ht.out e1 _ _ _ D2.n.a D2.a).mono ?_
      rintro e w3 ⟨r, rfl, hr, hrr, hb⟩
      have HB3 := hid (bthen HB2.out hb (Nat.le_refl _))
      have HE := hid (show Gac a c G1 G2 (-r) from .inr (.inl ⟨e1, r, rfl, hr.out⟩))
      have hw2 : IntKind.i64.wrap (-r) = -r := IntWalk.i64_in _ (by omega)
      have hw3 : IntKind.i64.wrap (0 - r) = -r := by rw [show (0 : Int) - r = -r by omega]; exact hw2
      clear hb hr
      go_wp2
      go_ret
      exact ⟨-r, rfl, HE, HB3.out⟩
end

end Go.Proofs.Ytockfiobhmohnaa

namespace Go.Proofs.Ytockfiobhmohnaa
open Go.RowKit Go.Maps Kb Wb

set_option maxRecDepth 100000 in
set_option maxHeartbeats 16000000 in
theorem through_low {w : World} {B0 B1 : Nat} {N : Nd} {W : Wd} {l : Ld} {s s2 : ByteArray} (a : Int) (h : Nt w B0 N) (hw : Wt w B1 W) (ha : a ≤ l.sill)
    (Ha : Hid (∀ (V : World) (B0 B1 : Nat), Nt V B0 N → Wt V B1 W → Calls Try.prog 69 #[.agg #[.slice N.A N.n N.c, .slice N.M N.m N.d, .slice N.K N.k N.e], .agg #[.int .i64 W.min, .slice W.A W.n W.c, .slice W.M W.m W.d], .string s] V fun e w' => e = .returned (.int .i64 a) ∧ Below V.heap.size V w')) :
    Calls Try.prog 70 #[.agg #[.slice N.A N.n N.c, .slice N.M N.m N.d, .slice N.K N.k N.e], .agg #[.int .i64 W.min, .slice W.A W.n W.c, .slice W.M W.m W.d], .agg #[.string l.nm, .int .i64 l.kind, .string l.fr, .string l.tw, .int .i64 l.sill, .int .i64 l.rate, .int .i64 l.fac, .int .i64 l.lift], .string s, .string s2] w fun e w' => e = .returned (.int .i64 0) ∧ Below w.heap.size w w' := by
  obtain ⟨g, hg⟩ : ∃ g, w.heap.size = g := ⟨_, rfl⟩
  obtain ⟨g1, hg1⟩ : ∃ g', g + 1 = g' := ⟨_, rfl⟩
  obtain ⟨g2, hg2⟩ : ∃ g', g1 + 1 = g' := ⟨_, rfl⟩
  have hb0 := (((Below.refl w.heap.size w).alloc (Nat.le_refl _) (.cells #[.slice N.A N.n N.c, .slice N.M N.m N.d, .slice N.K N.k N.e] 26)).alloc (by simp) (.cells #[.int .i64 W.min, .slice W.A W.n W.c, .slice W.M W.m W.d] 30)).alloc (by simp; omega) (.cells #[.string l.nm, .int .i64 l.kind, .string l.fr, .string l.tw, .int .i64 l.sill, .int .i64 l.rate, .int .i64 l.fac, .int .i64 l.lift] 49)
  have D := Tw.new l h hw hg hg1 hg2
  have d1 : decide (a ≤ l.sill) = true := decide_eq_true ha
  clear ha
  go_enter Try.func70, Try.ntmps70
  go_upto_region 1 with fail
  generalize ((w.alloc (.cells #[.slice N.A N.n N.c, .slice N.M N.m N.d, .slice N.K N.k N.e] 26)).alloc (.cells #[.int .i64 W.min, .slice W.A W.n W.c, .slice W.M W.m W.d] 30)).alloc (.cells #[.string l.nm, .int .i64 l.kind, .string l.fr, .string l.tw, .int .i64 l.sill, .int .i64 l.rate, .int .i64 l.fac, .int .i64 l.lift] 49) = W0 at *
  have HB0 := hid hb0
  have D0 := D.below dr0
  clear hb0 hg hg1 hg2 h hw D
  go_region_held3 (fun w' => w'.cell? ⟨g, 0, none⟩ = some (.slice N.A N.n N.c) ∧ w'.cell? ⟨g, 1, none⟩ = some (.slice N.M N.m N.d) ∧ w'.cell? ⟨g, 2, none⟩ = some (.slice N.K N.k N.e) ∧ w'.cell? ⟨g1, 0, none⟩ = some (.int .i64 W.min) ∧ w'.cell? ⟨g1, 1, none⟩ = some (.slice W.A W.n W.c) ∧ w'.cell? ⟨g1, 2, none⟩ = some (.slice W.M W.m W.d) ∧ w'.cell? ⟨g2, 0, none⟩ = some (.string l.nm) ∧ w'.cell? ⟨g2, 1, none⟩ = some (.int .i64 l.kind) ∧ w'.cell? ⟨g2, 2, none⟩ = some (.string l.fr) ∧ w'.cell? ⟨g2, 3, none⟩ = some (.string l.tw) ∧ w'.cell? ⟨g2, 4, none⟩ = some (.int .i64 l.sill) ∧ w'.cell? ⟨g2, 5, none⟩ = some (.int .i64 l.rate) ∧ w'.cell? ⟨g2, 6, none⟩ = some (.int .i64 l.fac) ∧ w'.cell? ⟨g2, 7, none⟩ = some (.int .i64 l.lift)) (first | with_reducible exact Tw.cells D0 | with_reducible exact Tw.cells D1) (first
    | (go_at_call 69; (with_reducible refine (Ha.out _ _ _ D0.n.a D0.a).mono ?_); rintro e w1 ⟨rfl, hb1⟩; have D1 := D0.below hb1))
  all_goals
    have HB1 := hid (bthen HB0.out.drew hb1 (Nat.le_refl _))
    clear hb1 D0
    go_wp2
    go_ret
    exact ⟨rfl, HB1.out⟩
theorem through_is {w : World} {B0 B1 : Nat} {N : Nd} {W : Wd} {l : Ld} {s s2 : ByteArray} {q : Bool} {z x : Int} {b : Bd} {q2 : Bool} {z2 x2 : Int} {b2 : Bd} {p p2 : Int} (HS1 : Hid (Sds N W s q z b x)) (HS2 : Hid (Sds N W s2 q2 z2 b2 x2)) (hp : Hid (Ixn N.n N.bnm s p)) (hp2 : Hid (Ixn N.n N.bnm s2 p2)) (Hne : Hid (p ≠ p2)) (HF : Hid (Fit N W)) (Hs : Hid (Nsm N)) (h : Nt w B0 N) (hw : Wt w B1 W) (hm : 0 < W.m)
    (s0' : -1000000 ≤ l.sill) (s1 : l.sill ≤ 1000000) (f0 : 0 ≤ l.fac) (f1 : l.fac ≤ 1000000000) (r0 : 0 ≤ l.rate) (r1 : l.rate ≤ 1000000000) (hlt : slev q2 z2 b2 x2 0 < slev q z b x 0) :
    Calls Try.prog 70 #[.agg #[.slice N.A N.n N.c, .slice N.M N.m N.d, .slice N.K N.k N.e], .agg #[.int .i64 W.min, .slice W.A W.n W.c, .slice W.M W.m W.d], .agg #[.string l.nm, .int .i64 l.kind, .string l.fr, .string l.tw, .int .i64 l.sill, .int .i64 l.rate, .int .i64 l.fac, .int .i64 l.lift], .string s, .string s2] w fun e w' => ∃ r : Int, e = .returned (.int .i64 r) ∧ Hid (Gv l q z b x q2 z2 b2 x2 r) ∧ (0 ≤ r ∧ r ≤ 2000000000) ∧ Below w.heap.size w w' := by
  have k1 := HS1.out.ok HF.out h
  have k2 := HS2.out.ok HF.out h
  have Ha := hid (fun (V : World) (B0 B1 : Nat) (h : Nt V B0 N) (k : Wt V B1 W) => (show Calls Try.prog 69 #[.agg #[.slice N.A N.n N.c, .slice N.M N.m N.d, .slice N.K N.k N.e], .agg #[.int .i64 W.min, .slice W.A W.n W.c, .slice W.M W.m W.d], .string s] V fun e w' => e = .returned (.int .i64 (slev q z b x 0)) ∧ Below V.heap.size V w' from height_is HS1.out HF.out Hs.out h k))
  by_cases hl : slev q z b x 0 ≤ l.sill
  · refine (through_low _ h hw hl Ha).mono ?_
    rintro e w' ⟨rfl, hb⟩
    exact ⟨0, rfl, hid (.inl ⟨by omega, rfl⟩), by omega, hb⟩
  · have hpos : 0 < slev q z b x 0 - max l.sill (slev q2 z2 b2 x2 0) := by omega
    have hz := Okp.zero (l := l) k1 k2 f0 hpos
    refine (through_ok (Okp l (slev q z b x 0 - max l.sill (slev q2 z2 b2 x2 0)) (sabo q b x l.sill) (sroom q2 b2 x2) q z b x q2 z2 b2 x2) _ h hw (by omega) r0 r1 hz (fun i k i0 ik hk => ⟨by have := hk.1; omega, Okp.mono k1 k2 (sabo_le k1 s1) sroom_is i0 ik hk.2⟩) Ha (hid fun V B0 B1 h' k' k h0 h1 => may_any HS1 HS2 hp hp2 Hne HF Hs h' k' hm s0' s1 f0 f1 h0 h1)).mono ?_
    rintro e w' ⟨r, rfl, hr, hb⟩
    have := hr.out.1
    have := hr.out.2.1
    exact ⟨r, rfl, hid (.inr ⟨hpos, hr.out⟩), by omega, hb⟩
/-- What a pump lifts. -/
def Pmp (l : Ld) (q : Bool) (z : Int) (b : Bd) (x : Int) (q2 : Bool) (z2 : Int) (b2 : Bd) (x2 r : Int) : Prop := r = if l.lift < slev q2 z2 b2 x2 0 - slev q z b x 0 then 0 else min (min l.rate (sabo q b x (-1000000))) (sroom q2 b2 x2)
set_option maxRecDepth 100000 in
set_option maxHeartbeats 16000000 in
theorem Act_pump {w : World} {B0 B1 : Nat} {N : Nd} {W : Wd} {l : Ld} {q : Bool} {z x : Int} {b : Bd} {q2 : Bool} {z2 x2 : Int} {b2 : Bd} {p p2 : Int} (HS1 : Hid (Sds N W l.fr q z b x)) (HS2 : Hid (Sds N W l.tw q2 z2 b2 x2)) (hp : Hid (Ixn N.n N.bnm l.fr p)) (hp2 : Hid (Ixn N.n N.bnm l.tw p2)) (Hne : Hid (p ≠ p2)) (HF : Hid (Fit N W)) (Hs : Hid (Nsm N)) (h : Nt w B0 N) (hw : Wt w B1 W) (hk : l.kind = 1) (r0 : 0 ≤ l.rate) (r1 : l.rate ≤ 1000000000) :
    Calls Try.prog 42 #[.agg #[.slice N.A N.n N.c, .slice N.M N.m N.d, .slice N.K N.k N.e], .agg #[.int .i64 W.min, .slice W.A W.n W.c, .slice W.M W.m W.d], .agg #[.string l.nm, .int .i64 l.kind, .string l.fr, .string l.tw, .int .i64 l.sill, .int .i64 l.rate, .int .i64 l.fac, .int .i64 l.lift]] w fun e w' => ∃ r : Int, e = .returned (.int .i64 r) ∧ Hid (Pmp l q z b x q2 z2 b2 x2 r) ∧ Below w.heap.size w w' := by
  have t1 := slev_range (HS1.out.ok HF.out h) (HS1.out.ok HF.out h).v0
  have t2 := slev_range (HS2.out.ok HF.out h) (HS2.out.ok HF.out h).v0
  obtain ⟨a, ha⟩ : ∃ a, slev q z b x 0 = a := ⟨_, rfl⟩
  obtain ⟨c, hc⟩ : ∃ c, slev q2 z2 b2 x2 0 = c := ⟨_, rfl⟩
  obtain ⟨m, hm⟩ : ∃ m, sabo q b x (-1000000) = m := ⟨_, rfl⟩
  obtain ⟨n, hn⟩ : ∃ n, sroom q2 b2 x2 = n := ⟨_, rfl⟩
  rw [ha] at t1
  rw [hc] at t2
  have HP := hid (fun v : Int => (show Pmp l q z b x q2 z2 b2 x2 v ↔ v = (if l.lift < c - a then 0 else min (min l.rate m) n) by unfold Pmp; rw [ha, hc, hm, hn]))
  have Ha := hid (fun (V : World) (B0 B1 : Nat) (h : Nt V B0 N) (k : Wt V B1 W) => (show Calls Try.prog 69 #[.agg #[.slice N.A N.n N.c, .slice N.M N.m N.d, .slice N.K N.k N.e], .agg #[.int .i64 W.min, .slice W.A W.n W.c, .slice W.M W.m W.d], .string l.fr] V fun e w' => e = .returned (.int .i64 a) ∧ Below V.heap.size V w' from ha ▸ height_is HS1.out HF.out Hs.out h k))
  have Hc := hid (fun (V : World) (B0 B1 : Nat) (h : Nt V B0 N) (k : Wt V B1 W) => (show Calls Try.prog 69 #[.agg #[.slice N.A N.n N.c, .slice N.M N.m N.d, .slice N.K N.k N.e], .agg #[.int .i64 W.min, .slice W.A W.n W.c, .slice W.M W.m W.d], .string l.tw] V fun e w' => e = .returned (.int .i64 c) ∧ Below V.heap.size V w' from hc ▸ height_is HS2.out HF.out Hs.out h k))
  have Hm' := hid hm
  have Hn := hid hn
  have hw0 : IntKind.i64.wrap (c - a) = c - a := IntWalk.i64_in _ (by omega)
  have dk : (l.kind == 0) = false := by rw [hk]; rfl
  obtain ⟨g, hg⟩ : ∃ g, w.heap.size = g := ⟨_, rfl⟩
  obtain ⟨g2, hg2⟩ : ∃ g', (g + 1) + 1 = g' := ⟨_, rfl⟩
  have hb0 := (((Below.refl w.heap.size w).alloc (Nat.le_refl _) (.cells #[.slice N.A N.n N.c, .slice N.M N.m N.d, .slice N.K N.k N.e] 26)).alloc (by simp) (.cells #[.int .i64 W.min, .slice W.A W.n W.c, .slice W.M W.m W.d] 30)).alloc (by simp; omega) (.cells #[.string l.nm, .int .i64 l.kind, .string l.fr, .string l.tw, .int .i64 l.sill, .int .i64 l.rate, .int .i64 l.fac, .int .i64 l.lift] 49)
  have D := Tw.new l h hw hg rfl hg2
  clear ha hc hm hn hk
  go_enter Try.func42, Try.ntmps42
  go_upto_region 1 with fail
  generalize ((w.alloc (.cells #[.slice N.A N.n N.c, .slice N.M N.m N.d, .slice N.K N.k N.e] 26)).alloc (.cells #[.int .i64 W.min, .slice W.A W.n W.c, .slice W.M W.m W.d] 30)).alloc (.cells #[.string l.nm, .int .i64 l.kind, .string l.fr, .string l.tw, .int .i64 l.sill, .int .i64 l.rate, .int .i64 l.fac, .int .i64 l.lift] 49) = W0 at *
  have HB0 := hid hb0
  have D0 := D.below dr0
  clear hb0 hg hg2 h hw D
  go_region_held3 (fun w' => w'.cell? ⟨g, 0, none⟩ = some (.slice N.A N.n N.c) ∧ w'.cell? ⟨g, 1, none⟩ = some (.slice N.M N.m N.d) ∧ w'.cell? ⟨g, 2, none⟩ = some (.slice N.K N.k N.e) ∧ w'.cell? ⟨g + 1, 0, none⟩ = some (.int .i64 W.min) ∧ w'.cell? ⟨g + 1, 1, none⟩ = some (.slice W.A W.n W.c) ∧ w'.cell? ⟨g + 1, 2, none⟩ = some (.slice W.M W.m W.d) ∧ w'.cell? ⟨g2, 0, none⟩ = some (.string l.nm) ∧ w'.cell? ⟨g2, 1, none⟩ = some (.int .i64 l.kind) ∧ w'.cell? ⟨g2, 2, none⟩ = some (.string l.fr) ∧ w'.cell? ⟨g2, 3, none⟩ = some (.string l.tw) ∧ w'.cell? ⟨g2, 4, none⟩ = some (.int .i64 l.sill) ∧ w'.cell? ⟨g2, 5, none⟩ = some (.int .i64 l.rate) ∧ w'.cell? ⟨g2, 6, none⟩ = some (.int .i64 l.fac) ∧ w'.cell? ⟨g2, 7, none⟩ = some (.int .i64 l.lift)) (first | with_reducible exact Tw.cells D0 | with_reducible exact Tw.cells D1 | with_reducible exact Tw.cells D2) (first
    | (go_at_call 69; (with_reducible refine (Ha.out _ _ _ D0.n.a D0.a).mono ?_); rintro e w1 ⟨rfl, hb1⟩; have D1 := D0.below hb1)
    | (go_at_call 69; (with_reducible refine (Hc.out _ _ _ D1.n.a D1.a).mono ?_); rintro e w2 ⟨rfl, hb2⟩; have D2 := D1.below hb2))
  have HB2 := hid (bthen (bthen HB0.out.drew hb1 (Nat.le_refl _)) hb2 (Nat.le_refl _))
  clear hb1 hb2 D0 D1
  obtain ⟨z0, z1, z2', z3, z4, z5, z6, z7, z8, z9, za, zb, zc, zd⟩ := D2.cells
  by_cases hl : l.lift < c - a
  · have dl : decide (l.lift < c - a) = true := decide_eq_true hl
    have HE := hid ((HP.out 0).2 (if_pos hl).symm)
    clear hl
    go_wp2
    go_ret
    exact ⟨0, rfl, HE, HB2.out⟩
  · have dl : decide (l.lift < c - a) = false := decide_eq_false hl
    obtain ⟨r, hr⟩ : ∃ r, min (min l.rate m) n = r := ⟨_, rfl⟩
    have HE := hid ((HP.out r).2 (by rw [if_neg hl]; exact hr.symm))
    have hcs : (m < l.rate ∧ n < m ∧ r = n) ∨ (m < l.rate ∧ ¬ n < m ∧ r = m) ∨ (¬ m < l.rate ∧ n < l.rate ∧ r = n) ∨ (¬ m < l.rate ∧ ¬ n < l.rate ∧ r = l.rate) := by omega
    clear hl hr
    go_wp2_with fail
    clear z0 z1 z2' z3 z4 z5 z6 z7 z8 z9 za zb zc zd dl dk hw0
    refine (rBasin_is hp D2.n.a Hs.out).mono ?_
    rintro e w3 ⟨rfl, hb⟩
    have D3 := D2.below hb
    have HB3 := hid (bthen HB2.out hb (Nat.le_refl _))
    clear hb D2
    rcases HS1.out.place hp.out (names_ne HF.out.c) with ⟨rfl, rfl⟩ | ⟨i, rfl, hii, rfl, rfl, rfl⟩
    · have HmX := hid (show m = 9223372036854775807 by rw [← Hm'.out]; rfl)
      have D4 := D3
      have HB4 := HB3
      clear D3
      obtain ⟨z0, z1, z2', z3, z4, z5, z6, z7, z8, z9, za, zb, zc, zd⟩ := D4.cells
      go_wp2_with fail
      clear z0 z1 z2' z3 z4 z5 z6 z7 z8 z9 za zb zc zd
      refine (rBasin_is hp2 D4.n.a Hs.out).mono ?_
      rintro e w5 ⟨rfl, hb⟩
      have D5 := D4.below hb
      have HB5 := hid (bthen HB4.out hb (Nat.le_refl _))
      clear hb D4
      rcases HS2.out.place hp2.out (names_ne HF.out.c) with ⟨rfl, rfl⟩ | ⟨j, rfl, hij, rfl, rfl, rfl⟩
      · have hn' : n = 9223372036854775807 := by rw [← Hn.out]; rfl
        have hX : r = l.rate := by have := HmX.out; omega
        clear hn' hcs
        go_wp2
        go_ret
        exact ⟨_, rfl, by rw [hX] at HE; exact HE, HB5.out⟩
      · have hn' : capB (N.b j) - W.X j = n := Hn.out
        have hjN : (j : Int) < (N.n : Int) := by omega
        have hjw : j < W.n := by have := HF.out.n; omega
        have hjW : (j : Int) < (W.n : Int) := by omega
        obtain ⟨ab, hab, -⟩ := D5.n.a.b.at_ j hij
        obtain ⟨al, hal, -, -⟩ := D5.a.x j hjw
        have E0 : Hi w5.drew g B0 B1 N W al ab j := (Hi.mk D5.n (⟨D5.k, D5.a⟩ : Wx w5 (g + 1) B1 W) hal hab hjw hij).below dr0
        have Bs := HF.out.c.bas hij
        have cr := capB_range Bs
        have hx := HF.out.l j hij
        unfold LitOk at hx
        have hcn : wbelow (N.b j).F (N.b j).S (N.b j).n (N.b j).rim - W.X j = n := hn'
        have hwq : IntKind.i64.wrap n = n := IntWalk.i64_in _ (by omega)
        clear hn' hx cr
        clear hab hal
        by_cases c6 : n < l.rate
        · skip
          have dj : decide (n < l.rate) = true := decide_eq_true c6
          have hX : r = n := by have := HmX.out; omega
          clear hcs
          go_wp2_with fail
          go_region_held3 (fun w' => w'.cell? ⟨g, 0, none⟩ = some (.slice (some ab) N.n N.c) ∧ w'.cell? ⟨g + 1, 1, none⟩ = some (.slice (some al) W.n W.c) ∧ w'.cell? (ab.add (j * 3)) = some (.string (N.b j).nm) ∧ w'.cell? ⟨(ab.add (j * 3)).block, (ab.add (j * 3)).off + 1, none⟩ = some (.slice (N.b j).A (N.b j).n (N.b j).c) ∧ w'.cell? ⟨(ab.add (j * 3)).block, (ab.add (j * 3)).off + 2, none⟩ = some (.int .i64 (N.b j).rim) ∧ w'.cell? (al.add j) = some (.int .i64 (W.X j))) (first | with_reducible exact Hi.cells E0 | with_reducible exact Hi.cells E1) (first
            | (go_at_call 17; (with_reducible refine (rCapacity_any (N.b j).nm E0.pa Bs).mono ?_); rintro e w6 ⟨rfl, hb6⟩; have E1 := E0.below hb6))
          have HB6 := hid (bthen HB5.out.drew hb6 (Nat.le_refl _))
          clear hb6 E0 E1
          go_wp2
          go_ret
          exact ⟨_, rfl, by rw [hX] at HE; exact HE, HB6.out⟩
        · skip
          have dj : decide (n < l.rate) = false := decide_eq_false c6
          have hX : r = l.rate := by have := HmX.out; omega
          clear hcs
          go_wp2_with fail
          go_region_held3 (fun w' => w'.cell? ⟨g, 0, none⟩ = some (.slice (some ab) N.n N.c) ∧ w'.cell? ⟨g + 1, 1, none⟩ = some (.slice (some al) W.n W.c) ∧ w'.cell? (ab.add (j * 3)) = some (.string (N.b j).nm) ∧ w'.cell? ⟨(ab.add (j * 3)).block, (ab.add (j * 3)).off + 1, none⟩ = some (.slice (N.b j).A (N.b j).n (N.b j).c) ∧ w'.cell? ⟨(ab.add (j * 3)).block, (ab.add (j * 3)).off + 2, none⟩ = some (.int .i64 (N.b j).rim) ∧ w'.cell? (al.add j) = some (.int .i64 (W.X j))) (first | with_reducible exact Hi.cells E0 | with_reducible exact Hi.cells E1) (first
            | (go_at_call 17; (with_reducible refine (rCapacity_any (N.b j).nm E0.pa Bs).mono ?_); rintro e w6 ⟨rfl, hb6⟩; have E1 := E0.below hb6))
          have HB6 := hid (bthen HB5.out.drew hb6 (Nat.le_refl _))
          clear hb6 E0 E1
          go_wp2
          go_ret
          exact ⟨_, rfl, by rw [hX] at HE; exact HE, HB6.out⟩
    · have Bi := HF.out.c.bas hii
      have hx0 := HF.out.l i hii
      unfold LitOk at hx0
      have cr0 := capB_range Bi
      have hv0 : volB (N.b i) (-1000000) = 0 := below_floor Bi (Bi.f 0 Bi.pos).1
      have hm' : W.X i - volB (N.b i) (-1000000) = m := Hm'.out
      have HmX := hid (show W.X i = m by omega)
      clear hm' hv0 hx0 cr0
      have hiN : (i : Int) < (N.n : Int) := by omega
      have hiw : i < W.n := by have := HF.out.n; omega
      have hiW : (i : Int) < (W.n : Int) := by omega
      obtain ⟨al, hal, -, hxc⟩ := D3.a.x i hiw
      have D4 := D3
      have HB4 := HB3
      by_cases c5 : W.X i < l.rate
      · have d5 : decide (W.X i < l.rate) = true := decide_eq_true c5
        clear D3
        obtain ⟨z0, z1, z2', z3, z4, z5, z6, z7, z8, z9, za, zb, zc, zd⟩ := D4.cells
        rw [hal] at z4
        have Hal' := hid hal
        clear hal
        go_wp2_with fail
        clear z0 z1 z2' z3 z4 z5 z6 z7 z8 z9 za zb zc zd
        refine (rBasin_is hp2 D4.n.a Hs.out).mono ?_
        rintro e w5 ⟨rfl, hb⟩
        have D5 := D4.below hb
        have HB5 := hid (bthen HB4.out hb (Nat.le_refl _))
        clear hb D4
        rcases HS2.out.place hp2.out (names_ne HF.out.c) with ⟨rfl, rfl⟩ | ⟨j, rfl, hij, rfl, rfl, rfl⟩
        · have hn' : n = 9223372036854775807 := by rw [← Hn.out]; rfl
          have hX : r = W.X i := by have := HmX.out; omega
          clear hn' hcs
          go_wp2
          go_ret
          exact ⟨_, rfl, by rw [hX] at HE; exact HE, HB5.out⟩
        · have hn' : capB (N.b j) - W.X j = n := Hn.out
          have hjN : (j : Int) < (N.n : Int) := by omega
          have hjw : j < W.n := by have := HF.out.n; omega
          have hjW : (j : Int) < (W.n : Int) := by omega
          obtain ⟨ab, hab, -⟩ := D5.n.a.b.at_ j hij
          obtain ⟨al, hal, -, -⟩ := D5.a.x j hjw
          have E0 : Hi w5.drew g B0 B1 N W al ab j := (Hi.mk D5.n (⟨D5.k, D5.a⟩ : Wx w5 (g + 1) B1 W) hal hab hjw hij).below dr0
          have Bs := HF.out.c.bas hij
          have cr := capB_range Bs
          have hx := HF.out.l j hij
          unfold LitOk at hx
          have hcn : wbelow (N.b j).F (N.b j).S (N.b j).n (N.b j).rim - W.X j = n := hn'
          have hwq : IntKind.i64.wrap n = n := IntWalk.i64_in _ (by omega)
          clear hn' hx cr
          clear hab hal
          by_cases c6 : n < W.X i
          · skip
            have dj : decide (n < W.X i) = true := decide_eq_true c6
            have hX : r = n := by have := HmX.out; omega
            clear hcs
            go_wp2_with fail
            go_region_held3 (fun w' => w'.cell? ⟨g, 0, none⟩ = some (.slice (some ab) N.n N.c) ∧ w'.cell? ⟨g + 1, 1, none⟩ = some (.slice (some al) W.n W.c) ∧ w'.cell? (ab.add (j * 3)) = some (.string (N.b j).nm) ∧ w'.cell? ⟨(ab.add (j * 3)).block, (ab.add (j * 3)).off + 1, none⟩ = some (.slice (N.b j).A (N.b j).n (N.b j).c) ∧ w'.cell? ⟨(ab.add (j * 3)).block, (ab.add (j * 3)).off + 2, none⟩ = some (.int .i64 (N.b j).rim) ∧ w'.cell? (al.add j) = some (.int .i64 (W.X j))) (first | with_reducible exact Hi.cells E0 | with_reducible exact Hi.cells E1) (first
              | (go_at_call 17; (with_reducible refine (rCapacity_any (N.b j).nm E0.pa Bs).mono ?_); rintro e w6 ⟨rfl, hb6⟩; have E1 := E0.below hb6))
            have HB6 := hid (bthen HB5.out.drew hb6 (Nat.le_refl _))
            clear hb6 E0 E1
            go_wp2
            go_ret
            exact ⟨_, rfl, by rw [hX] at HE; exact HE, HB6.out⟩
          · skip
            have dj : decide (n < W.X i) = false := decide_eq_false c6
            have hX : r = W.X i := by have := HmX.out; omega
            clear hcs
            go_wp2_with fail
            go_region_held3 (fun w' => w'.cell? ⟨g, 0, none⟩ = some (.slice (some ab) N.n N.c) ∧ w'.cell? ⟨g + 1, 1, none⟩ = some (.slice (some al) W.n W.c) ∧ w'.cell? (ab.add (j * 3)) = some (.string (N.b j).nm) ∧ w'.cell? ⟨(ab.add (j * 3)).block, (ab.add (j * 3)).off + 1, none⟩ = some (.slice (N.b j).A (N.b j).n (N.b j).c) ∧ w'.cell? ⟨(ab.add (j * 3)).block, (ab.add (j * 3)).off + 2, none⟩ = some (.int .i64 (N.b j).rim) ∧ w'.cell? (al.add j) = some (.int .i64 (W.X j))) (first | with_reducible exact Hi.cells E0 | with_reducible exact Hi.cells E1) (first
              | (go_at_call 17; (with_reducible refine (rCapacity_any (N.b j).nm E0.pa Bs).mono ?_); rintro e w6 ⟨rfl, hb6⟩; have E1 := E0.below hb6))
            have HB6 := hid (bthen HB5.out.drew hb6 (Nat.le_refl _))
            clear hb6 E0 E1
            go_wp2
            go_ret
            exact ⟨_, rfl, by rw [hX] at HE; exact HE, HB6.out⟩
      · have d5 : decide (W.X i < l.rate) = false := decide_eq_false c5
        clear D3
        obtain ⟨z0, z1, z2', z3, z4, z5, z6, z7, z8, z9, za, zb, zc, zd⟩ := D4.cells
        rw [hal] at z4
        have Hal' := hid hal
        clear hal
        go_wp2_with fail
        clear z0 z1 z2' z3 z4 z5 z6 z7 z8 z9 za zb zc zd
        refine (rBasin_is hp2 D4.n.a Hs.out).mono ?_
        rintro e w5 ⟨rfl, hb⟩
        have D5 := D4.below hb
        have HB5 := hid (bthen HB4.out hb (Nat.le_refl _))
        clear hb D4
        rcases HS2.out.place hp2.out (names_ne HF.out.c) with ⟨rfl, rfl⟩ | ⟨j, rfl, hij, rfl, rfl, rfl⟩
        · have hn' : n = 9223372036854775807 := by rw [← Hn.out]; rfl
          have hX : r = l.rate := by have := HmX.out; omega
          clear hn' hcs
          go_wp2
          go_ret
          exact ⟨_, rfl, by rw [hX] at HE; exact HE, HB5.out⟩
        · have hn' : capB (N.b j) - W.X j = n := Hn.out
          have hjN : (j : Int) < (N.n : Int) := by omega
          have hjw : j < W.n := by have := HF.out.n; omega
          have hjW : (j : Int) < (W.n : Int) := by omega
          obtain ⟨ab, hab, -⟩ := D5.n.a.b.at_ j hij
          obtain ⟨al, hal, -, -⟩ := D5.a.x j hjw
          have E0 : Hi w5.drew g B0 B1 N W al ab j := (Hi.mk D5.n (⟨D5.k, D5.a⟩ : Wx w5 (g + 1) B1 W) hal hab hjw hij).below dr0
          have Bs := HF.out.c.bas hij
          have cr := capB_range Bs
          have hx := HF.out.l j hij
          unfold LitOk at hx
          have hcn : wbelow (N.b j).F (N.b j).S (N.b j).n (N.b j).rim - W.X j = n := hn'
          have hwq : IntKind.i64.wrap n = n := IntWalk.i64_in _ (by omega)
          clear hn' hx cr
          clear hab hal
          by_cases c6 : n < l.rate
          · skip
            have dj : decide (n < l.rate) = true := decide_eq_true c6
            have hX : r = n := by have := HmX.out; omega
            clear hcs
            go_wp2_with fail
            go_region_held3 (fun w' => w'.cell? ⟨g, 0, none⟩ = some (.slice (some ab) N.n N.c) ∧ w'.cell? ⟨g + 1, 1, none⟩ = some (.slice (some al) W.n W.c) ∧ w'.cell? (ab.add (j * 3)) = some (.string (N.b j).nm) ∧ w'.cell? ⟨(ab.add (j * 3)).block, (ab.add (j * 3)).off + 1, none⟩ = some (.slice (N.b j).A (N.b j).n (N.b j).c) ∧ w'.cell? ⟨(ab.add (j * 3)).block, (ab.add (j * 3)).off + 2, none⟩ = some (.int .i64 (N.b j).rim) ∧ w'.cell? (al.add j) = some (.int .i64 (W.X j))) (first | with_reducible exact Hi.cells E0 | with_reducible exact Hi.cells E1) (first
              | (go_at_call 17; (with_reducible refine (rCapacity_any (N.b j).nm E0.pa Bs).mono ?_); rintro e w6 ⟨rfl, hb6⟩; have E1 := E0.below hb6))
            have HB6 := hid (bthen HB5.out.drew hb6 (Nat.le_refl _))
            clear hb6 E0 E1
            go_wp2
            go_ret
            exact ⟨_, rfl, by rw [hX] at HE; exact HE, HB6.out⟩
          · skip
            have dj : decide (n < l.rate) = false := decide_eq_false c6
            have hX : r = l.rate := by have := HmX.out; omega
            clear hcs
            go_wp2_with fail
            go_region_held3 (fun w' => w'.cell? ⟨g, 0, none⟩ = some (.slice (some ab) N.n N.c) ∧ w'.cell? ⟨g + 1, 1, none⟩ = some (.slice (some al) W.n W.c) ∧ w'.cell? (ab.add (j * 3)) = some (.string (N.b j).nm) ∧ w'.cell? ⟨(ab.add (j * 3)).block, (ab.add (j * 3)).off + 1, none⟩ = some (.slice (N.b j).A (N.b j).n (N.b j).c) ∧ w'.cell? ⟨(ab.add (j * 3)).block, (ab.add (j * 3)).off + 2, none⟩ = some (.int .i64 (N.b j).rim) ∧ w'.cell? (al.add j) = some (.int .i64 (W.X j))) (first | with_reducible exact Hi.cells E0 | with_reducible exact Hi.cells E1) (first
              | (go_at_call 17; (with_reducible refine (rCapacity_any (N.b j).nm E0.pa Bs).mono ?_); rintro e w6 ⟨rfl, hb6⟩; have E1 := E0.below hb6))
            have HB6 := hid (bthen HB5.out.drew hb6 (Nat.le_refl _))
            clear hb6 E0 E1
            go_wp2
            go_ret
            exact ⟨_, rfl, by rw [hX] at HE; exact HE, HB6.out⟩

end Go.Proofs.Ytockfiobhmohnaa

namespace Go.Proofs.Ytockfiobhmohnaa
open Go.RowKit Go.Maps Kb Wb

section
variable {w : World} {B0 B1 : Nat} {N : Nd} {W : Wd}
set_option maxRecDepth 100000 in
set_option maxHeartbeats 8000000 in
theorem rLevels_ok (hF : Hid (Fit N W)) (hs : Nsm N) (h : Nt w B0 N) (hw : Wt w B1 W) :
    Calls Try.prog 47 #[.agg #[.slice N.A N.n N.c, .slice N.M N.m N.d, .slice N.K N.k N.e], .agg #[.int .i64 W.min, .slice W.A W.n W.c, .slice W.M W.m W.d]] w fun e w' => ∃ v : Value, e = .returned v ∧ Hid (w'.ownsRow w.heap.size 3 1 v N.n (ints (fun i => lvB (N.b i) (W.X i)) N.n)) ∧ Below w.heap.size w w' := by
  have hnn := hs.n
  obtain ⟨i0, hi0, hz0, hz1, hz2⟩ := info_parts info_int
  obtain ⟨g, hg⟩ : ∃ g, w.heap.size = g := ⟨_, rfl⟩
  have hb0 := ((Below.refl w.heap.size w).alloc (Nat.le_refl _) (.cells #[.slice N.A N.n N.c, .slice N.M N.m N.d, .slice N.K N.k N.e] 26)).alloc (by simp) (.cells #[.int .i64 W.min, .slice W.A W.n W.c, .slice W.M W.m W.d] 30)
  have K1 := (Nb.new h hg).below (alo (o := .cells #[.int .i64 W.min, .slice W.A W.n W.c, .slice W.M W.m W.d] 30))
  have V1 : Wx _ (g + 1) B1 W := ⟨Bk.of_alloc (w.alloc (.cells #[.slice N.A N.n N.c, .slice N.M N.m N.d, .slice N.K N.k N.e] 26)) (.cells #[.int .i64 W.min, .slice W.A W.n W.c, .slice W.M W.m W.d] 30) (by simp [hg]), hw.below hb0⟩
  go_enter Try.func47, Try.ntmps47
  go_wp2_with fail
  generalize (w.alloc (.cells #[.slice N.A N.n N.c, .slice N.M N.m N.d, .slice N.K N.k N.e] 26)).alloc (.cells #[.int .i64 W.min, .slice W.A W.n W.c, .slice W.M W.m W.d] 30) = W0 at *
  have HB0 := hid hb0
  have Hg := hid hg
  clear hb0 h hg hw
  have hown0 := hid (World.ownsRow_nil W0 W0.heap.size 3 1)
  go_loopw [5, 6] (fun sv iv wr => ∃ (i : Nat), i ≤ N.n ∧ iv = .int .i64 i ∧ Hid (wr.ownsRow W0.heap.size 3 1 sv i (ints (fun i => lvB (N.b i) (W.X i)) i)) ∧ Below W0.heap.size W0 wr) (fun _ iv _ => N.n - (intOf iv).toNat)
  case atStart => exact ⟨0, Nat.zero_le _, rfl, hown0, Below.refl _ _⟩
  case round =>
    obtain ⟨i, hi, rfl, HO, hbel⟩ := hrel
    have K3 := K1.below hbel
    have V3 := V1.below hbel
    have Hbel := hid hbel
    obtain ⟨x0, x1, x2⟩ := K3.cells
    clear hbel
    by_cases hlt : i < N.n
    · have B := hF.out.c.bas hlt
      have iW : i < W.n := by have := hF.out.n; omega
      obtain ⟨ab, hab, -⟩ := K3.a.b.at_ i hlt
      obtain ⟨al, hal, -, -⟩ := V3.a.x i iW
      have D0 : Hi wr.drew g B0 B1 N W al ab i := (Hi.mk K3 V3 hal hab iW hlt).below dr0
      have dlt : decide ((i : Int) < (N.n : Int)) = true := decide_eq_true (by omega)
      have Hlit := hid (show 0 ≤ W.X i ∧ W.X i ≤ capB (N.b i) from hF.out.l i hlt)
      have Hlev := hid (lvB_lev B Hlit.out.1 Hlit.out.2)
      obtain ⟨lv, hlv⟩ : ∃ lv, lvB (N.b i) (W.X i) = lv := ⟨_, rfl⟩
      rw [hlv] at Hlev
      have Hlv := hid hlv
      have Own1 := hid HO.out.drew
      clear hab hal hlv
      have hil : (i : Int) < (W.n : Int) := by omega
      have hin : (i : Int) < (N.n : Int) := by omega
      go_upto_region 5 with (fail)
      clear x0 x1 x2
      obtain ⟨z0, z1, z3, z4, z5, z6⟩ := D0.cells
      go_region_law (first
        | (refine step_append_lies _ (by rfl) _ _ _ (by rfl) W0.heap.size 3 i0 (.int .i64 0) 1 8 Try.underlying27 hi0 hz0 hz1 hz2 rfl (by decide) u5 i _ (by rfl) (Own4.out.alloc _) ⟨w4.heap.size, 0, none⟩ 1 1 [.int .i64 lv] (by rfl) rfl (cell_one_new _ _ _) (one_cell (.int .i64 lv) rfl) (by decide) (by unfold maxLen; omega) (by omega) (by have := HB4.out.size; simp; omega) _ rfl ?_; intro g1 cap1 w5 hown5 hgrow5 hat5 hlt5)
        | (go_simp; go_at_call 72; refine (rLevelOf_any (N.b i).nm D0.pa B Hlit.out.1 Hlev.out).mono ?_; rintro e w4 ⟨rfl, hb4⟩; have HB4 := hid (Hbel.out.drew.trans (hb4.mono Hbel.out.drew.size)); have Own4 := hid (own_below Own1.out hb4)))
      all_goals
        have hb5 := (HB4.out.alloc HB4.out.size (.cells #[.int .i64 lv] 3)).grown hgrow5 (by have := HB4.out.size; simp; omega) (fun k hk => (Own4.out.lt k hk).1)
        rw [← Hlv.out, ints_snoc (fun i => lvB (N.b i) (W.X i)) i] at hown5
        have HO5 := hid hown5
        have HB5 := hid hb5
        clear hb5 hown5 hgrow5 hat5 hlt5 hb4 D0 z0 z1 z3 z4 z5 z6
        go_wp2
        go_roundw
        case rel => exact ⟨i + 1, by omega, by go_num, HO5, HB5.out⟩
        case measure => simp [intOf]; omega
    · have e : i = N.n := by omega
      have dlt : decide ((i : Int) < (N.n : Int)) = false := decide_eq_false (by omega)
      subst e
      have HB := hid (bthen HB0.out Hbel.out (Nat.le_refl _))
      have HO2 := hid (own_base HO.out HB0.out.size)
      go_wp2
      go_ret
      exact ⟨_, rfl, HO2, HB.out⟩
end

end Go.Proofs.Ytockfiobhmohnaa

namespace Go.Proofs.Ytockfiobhmohnaa
open Go.RowKit Go.Maps Kb Wb

theorem link_ne {N : Nd} (h : Cn N 0) {i : Nat} (hi : i < N.k) : (N.l i).fr ≠ (N.l i).tw := fun e3 => by
  have hk := h.zero.2.2
  rcases hk with ⟨_, h⟩ | ⟨_, ⟨j, _, _, h⟩ | ⟨h, _⟩⟩
  · exact absurd h (by decide)
  · rcases h with ⟨_, h⟩ | ⟨_, _, h⟩ | ⟨_, _, _, h⟩
    · exact absurd h (by decide)
    · exact absurd h (by decide)
    · exact h rfl
  · have h := (h i hi).2.2
    have h : lkE N (N.l i) = 0 := h.symm
    unfold lkE at h
    by_cases h1 : endsE N (N.l i) = 0
    · unfold endsE at h1
      by_cases e1 : (N.l i).kind ≠ 0 ∧ (N.l i).kind ≠ 1
      · rw [if_pos e1] at h1; exact absurd h1 (by decide)
      · rw [if_neg e1] at h1
        by_cases e2 : ¬ (endB N (N.l i).fr = true ∧ endB N (N.l i).tw = true)
        · rw [if_pos e2] at h1; exact absurd h1 (by decide)
        · rw [if_neg e2, if_pos e3] at h1; exact absurd h1 (by decide)
    · rw [if_pos h1] at h
      exact absurd h h1
theorem place_ne {N : Nd} {W : Wd} {s s2 : ByteArray} {q q2 : Bool} {z x z2 x2 p p2 : Int} {b b2 : Bd} (h1 : Sds N W s q z b x) (h2 : Sds N W s2 q2 z2 b2 x2) (hp : Ixn N.n N.bnm s p) (hp2 : Ixn N.n N.bnm s2 p2) (hne : s ≠ s2) : p ≠ p2 := fun e => by
  subst e
  rcases hp with ⟨rfl, k1⟩ | ⟨i, hi, _, e1, rfl⟩
  · rcases h1 with ⟨rfl, _⟩ | ⟨_, i, hi, hx, _⟩
    · rcases h2 with ⟨rfl, _⟩ | ⟨_, j, hj, hy, _⟩
      · exact hne rfl
      · have := hp2.same hy; omega
    · have := (show Ixn N.n N.bnm s (-1) from .inl ⟨rfl, k1⟩).same hx; omega
  · rcases hp2 with ⟨e, _⟩ | ⟨j, hj, _, e2, e⟩
    · omega
    · have : i = j := by omega
      subst this
      exact hne (e1.symm.trans e2)
theorem Act_is {w : World} {B0 B1 : Nat} {N : Nd} {W : Wd} {i : Nat} {q : Bool} {z x : Int} {b : Bd} {q2 : Bool} {z2 x2 : Int} {b2 : Bd} (HS1 : Hid (Sds N W (N.l i).fr q z b x)) (HS2 : Hid (Sds N W (N.l i).tw q2 z2 b2 x2)) (HF : Hid (Fit N W)) (Hs : Hid (Nsm N)) (h : Nt w B0 N) (hw : Wt w B1 W) (hi : i < N.k) :
    Calls Try.prog 42 #[.agg #[.slice N.A N.n N.c, .slice N.M N.m N.d, .slice N.K N.k N.e], .agg #[.int .i64 W.min, .slice W.A W.n W.c, .slice W.M W.m W.d], .agg #[.string (N.l i).nm, .int .i64 (N.l i).kind, .string (N.l i).fr, .string (N.l i).tw, .int .i64 (N.l i).sill, .int .i64 (N.l i).rate, .int .i64 (N.l i).fac, .int .i64 (N.l i).lift]] w fun e w' => ∃ r : Int, e = .returned (.int .i64 r) ∧ Hid (Flw (N.l i) true q z b x q2 z2 b2 x2 r) ∧ Below w.heap.size w w' := by
  obtain ⟨p, hp⟩ := Ixn.exists N.n N.bnm (N.l i).fr
  obtain ⟨p2, hp2⟩ := Ixn.exists N.n N.bnm (N.l i).tw
  have hne := place_ne HS1.out HS2.out hp hp2 (link_ne HF.out.c hi)
  obtain ⟨⟨⟨okg, _⟩, r0, r1⟩, hk, _⟩ := link_ok HF.out.c hi
  have hm : 0 < W.m := by rw [HF.out.m]; omega
  rcases hk with hk | hk
  · obtain ⟨⟨s0', s1⟩, f0, f1⟩ := okg hk
    refine (Act_gate (Gv (N.l i) q z b x q2 z2 b2 x2) (Gv (N.l i) q2 z2 b2 x2 q z b x) _ _ h hw hk (hid fun V B0 B1 h k => height_is HS1.out HF.out Hs.out h k) (hid fun V B0 B1 h k => height_is HS2.out HF.out Hs.out h k)
      (hid fun hlt V B0 B1 h k => through_is HS1 HS2 (hid hp) (hid hp2) (hid hne) HF Hs h k hm s0' s1 f0 f1 r0 r1 hlt) (hid fun hlt V B0 B1 h k => through_is HS2 HS1 (hid hp2) (hid hp) (hid fun e => hne e.symm) HF Hs h k hm s0' s1 f0 f1 r0 r1 hlt)).mono ?_
    rintro e w' ⟨r, rfl, hr, hb⟩
    refine ⟨r, rfl, hid (.inr ⟨rfl, .inr ⟨hk, ?_⟩⟩), hb⟩
    rcases hr.out with ⟨h1, h2⟩ | ⟨h1, r', rfl, h2⟩ | ⟨h1, rfl⟩
    · exact .inr ⟨by omega, h2⟩
    · exact .inl ⟨h1, r', rfl, h2⟩
    · exact .inr ⟨by omega, .inl ⟨by omega, rfl⟩⟩
  · refine (Act_pump HS1 HS2 (hid hp) (hid hp2) (hid hne) HF Hs h hw hk r0 r1).mono ?_
    rintro e w' ⟨r, rfl, hr, hb⟩
    exact ⟨r, rfl, hid (.inr ⟨rfl, .inl ⟨hk, hr.out⟩⟩), hb⟩
theorem Gv.same {l : Ld} {q : Bool} {z x : Int} {b : Bd} {q2 : Bool} {z2 x2 : Int} {b2 : Bd} {r t : Int} (h : Gv l q z b x q2 z2 b2 x2 r) (k : Gv l q z b x q2 z2 b2 x2 t) : r = t := by
  rcases h with ⟨h1, rfl⟩ | ⟨h1, h2⟩ <;> rcases k with ⟨k1, rfl⟩ | ⟨k1, k2⟩
  · rfl
  · omega
  · omega
  · exact h2.same k2
theorem Flw.same {l : Ld} {o : Bool} {q : Bool} {z x : Int} {b : Bd} {q2 : Bool} {z2 x2 : Int} {b2 : Bd} {r t : Int} (h : Flw l o q z b x q2 z2 b2 x2 r) (k : Flw l o q z b x q2 z2 b2 x2 t) : r = t := by
  rcases h with ⟨h1, rfl⟩ | ⟨h1, ⟨h2, h3⟩ | ⟨h2, ⟨h3, r', rfl, h4⟩ | ⟨h3, h4⟩⟩⟩ <;> rcases k with ⟨k1, rfl⟩ | ⟨k1, ⟨k2, k3⟩ | ⟨k2, ⟨k3, t', rfl, k4⟩ | ⟨k3, k4⟩⟩⟩
  all_goals first
    | rfl
    | exact absurd (h1.symm.trans k1) (by decide)
    | (exfalso; omega)
    | exact h3.trans k3.symm
    | (rw [h4.same k4])
    | exact h4.same k4
theorem Cn.exists (N : Nd) : ∃ q, Cn N q := by
  obtain ⟨a, ha⟩ := Lsg.exists 8 N.n (fun i => (N.b i).nm) (fun i r => Sz (N.b i).n (N.b i).F (N.b i).S (N.b i).rim r) (fun i => Sz.exists _ _ _ _)
  obtain ⟨b, hb⟩ := Cs.exists N.m N.F N.L
  obtain ⟨c, hc⟩ := Lsg.exists 12 N.k (fun i => (N.l i).nm) (fun i r => r = lkE N (N.l i)) (fun i => ⟨_, rfl⟩)
  exact ⟨_, a, b, c, ha, hb, hc, rfl⟩
theorem We.exists (N : Nd) (W : Wd) : ∃ q, We N W q := by
  obtain ⟨q, hq⟩ := Cn.exists N
  by_cases h0 : q = 0
  · by_cases h1 : 0 ≤ W.min ∧ W.min ≤ 1000000
    · by_cases h2 : W.n = N.n ∧ W.m = N.k
      · by_cases h3 : ∀ i, i < N.n → LitOk N W i
        · exact ⟨0, q, hq, .inr ⟨h0, .inr ⟨h1, .inr ⟨h2, .inr ⟨h3, rfl⟩⟩⟩⟩⟩
        · exact ⟨2, q, hq, .inr ⟨h0, .inr ⟨h1, .inr ⟨h2, .inl ⟨h3, rfl⟩⟩⟩⟩⟩
      · exact ⟨11, q, hq, .inr ⟨h0, .inr ⟨h1, .inl ⟨h2, rfl⟩⟩⟩⟩
    · exact ⟨2, q, hq, .inr ⟨h0, .inl ⟨h1, rfl⟩⟩⟩
  · exact ⟨q, q, hq, .inl ⟨h0, rfl⟩⟩

end Go.Proofs.Ytockfiobhmohnaa

namespace Go.Proofs.Ytockfiobhmohnaa
open Go.RowKit Go.Maps Kb Wb

/-- A state with nothing of it in memory. -/
def Wp (N : Nd) (t : Int) (X : Nat → Int) (Y : Nat → Bool) : Wd := ⟨t, none, N.n, N.n, X, none, N.k, N.k, Y⟩
theorem Sds.same {N : Nd} {W : Wd} {s : ByteArray} {q q2 : Bool} {z x z2 x2 : Int} {b b2 : Bd} (h : Sds N W s q z b x) (k : Sds N W s q2 z2 b2 x2) : q = q2 ∧ z = z2 ∧ b = b2 ∧ x = x2 := by
  rcases h with ⟨e, _, rfl, rfl, rfl, rfl⟩ | ⟨h0, i, hi, hq, rfl, rfl, rfl, rfl⟩ <;> rcases k with ⟨e2, _, rfl, rfl, rfl, rfl⟩ | ⟨k0, j, hj, kq, rfl, rfl, rfl, rfl⟩
  · exact ⟨rfl, rfl, rfl, rfl⟩
  · exact absurd e k0
  · exact absurd e2 h0
  · have := hq.same kq
    have e : i = j := by omega
    subst e
    exact ⟨rfl, rfl, rfl, rfl⟩
/-- Link i, open or not, does r. -/
def FloR (N : Nd) (t : Int) (X : Nat → Int) (o : Bool) (i : Nat) (r : Int) : Prop :=
  ∃ q z b x q2 z2 b2 x2, Sds N (Wp N t X fun _ => o) (N.l i).fr q z b x ∧ Sds N (Wp N t X fun _ => o) (N.l i).tw q2 z2 b2 x2 ∧ Flw (N.l i) o q z b x q2 z2 b2 x2 r
theorem FloR.same {N : Nd} {t : Int} {X : Nat → Int} {o : Bool} {i : Nat} {r s : Int} (h : FloR N t X o i r) (k : FloR N t X o i s) : r = s := by
  obtain ⟨q, z, b, x, q2, z2, b2, x2, h1, h2, h3⟩ := h
  obtain ⟨p, y, c, u, p2, y2, c2, u2, k1, k2, k3⟩ := k
  obtain ⟨rfl, rfl, rfl, rfl⟩ := h1.same k1
  obtain ⟨rfl, rfl, rfl, rfl⟩ := h2.same k2
  exact h3.same k3
/-- What link i does. -/
noncomputable def flo (N : Nd) (t : Int) (X : Nat → Int) (o : Bool) (i : Nat) : Int := @dite _ (∃ r, FloR N t X o i r) (Classical.propDecidable _) (fun h => Classical.choose h) (fun _ => 0)
theorem FloR.is {N : Nd} {t : Int} {X : Nat → Int} {o : Bool} {i : Nat} {r : Int} (h : FloR N t X o i r) : r = flo N t X o i := by
  have hx : ∃ r, FloR N t X o i r := ⟨r, h⟩
  unfold flo
  rw [@dif_pos _ (Classical.propDecidable _) hx]
  exact h.same (Classical.choose_spec hx)
theorem Gre.exists {P : Int → Prop} (h0 : P 0) {rate : Int} (hr : 0 ≤ rate) : ∃ r, Gre P rate r := by
  have h : ∀ n : Nat, ∃ r, Gre P n r := by
    intro n
    induction n with
    | zero => exact ⟨0, Int.le_refl _, Int.le_refl _, h0, fun k h1 h2 => by omega⟩
    | succ n ih =>
      by_cases hp : P ((n + 1 : Nat) : Int)
      · exact ⟨_, by omega, Int.le_refl _, hp, fun k h1 h2 => by omega⟩
      · obtain ⟨r, a, b, c, d⟩ := ih
        refine ⟨r, a, by omega, c, fun k h1 h2 => ?_⟩
        by_cases e : k = ((n + 1 : Nat) : Int)
        · rw [e]; exact hp
        · exact d k h1 (by omega)
  obtain ⟨r, h⟩ := h rate.toNat
  rw [Int.toNat_of_nonneg hr] at h
  exact ⟨r, h⟩
section
variable {w : World} {B0 B1 : Nat} {l : Ld} {q : Bool} {z : Int} {b : Bd} {x : Int} {q2 : Bool} {z2 : Int} {b2 : Bd} {x2 : Int}
theorem Gv.exists (h : Sok w B0 q z b x) (k : Sok w B1 q2 z2 b2 x2) (hf : 0 ≤ l.fac) (hr : 0 ≤ l.rate) : ∃ r, Gv l q z b x q2 z2 b2 x2 r := by
  by_cases hh : 0 < slev q z b x 0 - max l.sill (slev q2 z2 b2 x2 0)
  · obtain ⟨r, hg⟩ := Gre.exists (Okp.zero (l := l) h k hf hh) hr
    exact ⟨r, .inr ⟨hh, hg⟩⟩
  · exact ⟨0, .inl ⟨by omega, rfl⟩⟩
theorem Gv.fits (h : Sok w B0 q z b x) (k : Sok w B1 q2 z2 b2 x2) (s1 : l.sill ≤ 1000000) {r : Int} (hg : Gv l q z b x q2 z2 b2 x2 r) : Fits q b x (-r) ∧ Fits q2 b2 x2 r := by
  rcases hg with ⟨_, rfl⟩ | ⟨_, h0, _, hp, _⟩
  · refine ⟨fun e => ?_, fun e => ?_⟩
    · have := h.x0 e; omega
    · have := k.x0 e; omega
  · exact Okp.fits h k (sabo_le h s1) sroom_is h0 hp.2.1 hp.2.2.1
theorem sabo_floor (h : Sok w B0 q z b x) : q = false → sabo q b x (-1000000) = x := fun e => by
  subst e
  have B := h.bas rfl
  have f := (B.f 0 B.pos).1
  show x - volB b (-1000000) = x
  have : volB b (-1000000) = 0 := below_floor B (by omega)
  omega
theorem Flw.exists (h : Sok w B0 q z b x) (k : Sok w B1 q2 z2 b2 x2) (hk : l.kind = 0 ∨ l.kind = 1) (hf : l.kind = 0 → 0 ≤ l.fac) (hr : 0 ≤ l.rate) (o : Bool) : ∃ r, Flw l o q z b x q2 z2 b2 x2 r := by
  cases o with
  | false => exact ⟨0, .inl ⟨rfl, rfl⟩⟩
  | true =>
    rcases hk with hk | hk
    · by_cases hl : slev q z b x 0 < slev q2 z2 b2 x2 0
      · obtain ⟨r, hg⟩ := Gv.exists (l := l) k h (hf hk) hr
        exact ⟨-r, .inr ⟨rfl, .inr ⟨hk, .inl ⟨hl, r, rfl, hg⟩⟩⟩⟩
      · obtain ⟨r, hg⟩ := Gv.exists (l := l) h k (hf hk) hr
        exact ⟨r, .inr ⟨rfl, .inr ⟨hk, .inr ⟨hl, hg⟩⟩⟩⟩
    · exact ⟨_, .inr ⟨rfl, .inl ⟨hk, rfl⟩⟩⟩
theorem Flw.fits (h : Sok w B0 q z b x) (k : Sok w B1 q2 z2 b2 x2) (hs : l.kind = 0 → l.sill ≤ 1000000) (r0 : 0 ≤ l.rate) (r1 : l.rate ≤ 1000000000) {o : Bool} {r : Int} (hF : Flw l o q z b x q2 z2 b2 x2 r) : (Fits q b x (-r) ∧ Fits q2 b2 x2 r) ∧ -1000000000 ≤ r ∧ r ≤ 1000000000 := by
  have hz : (Fits q b x (-0) ∧ Fits q2 b2 x2 0) ∧ -1000000000 ≤ (0 : Int) ∧ (0 : Int) ≤ 1000000000 := by
    refine ⟨⟨fun e => ?_, fun e => ?_⟩, by omega, by omega⟩
    · have := h.x0 e; omega
    · have := k.x0 e; omega
  rcases hF with ⟨_, rfl⟩ | ⟨_, ⟨_, rfl⟩ | ⟨hk, ⟨_, r', rfl, hg⟩ | ⟨_, hg⟩⟩⟩
  · exact hz
  · by_cases hl : l.lift < slev q2 z2 b2 x2 0 - slev q z b x 0
    · rw [if_pos hl]; exact hz
    · rw [if_neg hl]
      refine ⟨⟨fun e => ?_, fun e => ?_⟩, ?_, by omega⟩
      · have h1 := h.x0 e
        have h2 := sabo_floor h e
        have h3 : 0 ≤ sroom q2 b2 x2 := by
          cases q2 with
          | true => show (0 : Int) ≤ 9223372036854775807; omega
          | false => have := k.x0 rfl; show 0 ≤ capB b2 - x2; omega
        omega
      · have h1 := k.x0 e
        have h2 : sroom q2 b2 x2 = capB b2 - x2 := sroom_is e
        have h3 : 0 ≤ sabo q b x (-1000000) := by
          cases q with
          | true => show (0 : Int) ≤ 9223372036854775807; omega
          | false => have := h.x0 rfl; rw [sabo_floor h rfl]; omega
        omega
      · have h3 : 0 ≤ sroom q2 b2 x2 := by
          cases q2 with
          | true => show (0 : Int) ≤ 9223372036854775807; omega
          | false => have := k.x0 rfl; show 0 ≤ capB b2 - x2; omega
        have h4 : 0 ≤ sabo q b x (-1000000) := by
          cases q with
          | true => show (0 : Int) ≤ 9223372036854775807; omega
          | false => have := h.x0 rfl; rw [sabo_floor h rfl]; omega
        omega
  · have a := hg.fits k h (hs hk)
    have c := hg.range r0 r1
    exact ⟨⟨by rw [Int.neg_neg]; exact a.2, a.1⟩, by omega, by omega⟩
  · have a := hg.fits h k (hs hk)
    have c := hg.range r0 r1
    exact ⟨a, by omega, by omega⟩
end
/-- The litres when r have gone through link i. -/
noncomputable def mvX (N : Nd) (X : Nat → Int) (i : Nat) (r : Int) : Nat → Int := give (take X (ixB N (N.l i).fr) r) (ixB N (N.l i).tw) r
/-- The litres behind the first k links of a minute. -/
noncomputable def stX (N : Nd) (t : Int) (Y : Nat → Bool) (X : Nat → Int) : Nat → Nat → Int
  | 0 => X
  | k + 1 => mvX N (stX N t Y X k) k (flo N t (stX N t Y X k) (Y k) k)
/-- What link k does in that minute. -/
noncomputable def fwX (N : Nd) (t : Int) (Y : Nat → Bool) (X : Nat → Int) (k : Nat) : Int := flo N t (stX N t Y X k) (Y k) k
theorem stX_succ (N : Nd) (t : Int) (Y : Nat → Bool) (X : Nat → Int) (k : Nat) : stX N t Y X (k + 1) = mvX N (stX N t Y X k) k (fwX N t Y X k) := rfl
theorem Fit.wp {N : Nd} {W : Wd} (h : Fit N W) : Fit N (Wp N W.min W.X W.Y) := ⟨h.c, h.t0, h.t1, rfl, rfl, h.l⟩
section
variable {w : World} {B0 : Nat} {N : Nd} {t : Int} {X : Nat → Int} {Y : Nat → Bool}
/-- Link i does something, and its sides keep their bounds. -/
theorem flo_ok (hF : Fit N (Wp N t X Y)) (h : Nt w B0 N) {i : Nat} (hi : i < N.k) (o : Bool) : FloR N t X o i (flo N t X o i) ∧ Fit N (Wp N t (mvX N X i (flo N t X o i)) Y) ∧ (-1000000000 ≤ flo N t X o i ∧ flo N t X o i ≤ 1000000000) := by
  obtain ⟨⟨⟨okg, _⟩, r0, r1⟩, hk, e1, e2, hm⟩ := link_ok hF.c hi
  obtain ⟨q, z, b, x, S1⟩ := Sds.exists (W := Wp N t X fun _ => o) e1 (fun e => hm (.inl e))
  obtain ⟨q2, z2, b2, x2, S2⟩ := Sds.exists (W := Wp N t X fun _ => o) e2 (fun e => hm (.inr e))
  have hF' : Fit N (Wp N t X fun _ => o) := ⟨hF.c, hF.t0, hF.t1, rfl, rfl, hF.l⟩
  have k1 := S1.ok hF' h
  have k2 := S2.ok hF' h
  obtain ⟨r, hr⟩ := Flw.exists (l := N.l i) k1 k2 hk (fun e => (okg e).2.1) r0 o
  have hR : FloR N t X o i r := ⟨q, z, b, x, q2, z2, b2, x2, S1, S2, hr⟩
  obtain rfl := hR.is
  obtain ⟨⟨f1, f2⟩, b0, b1⟩ := hr.fits k1 k2 (fun e => (okg e).1.2) r0 r1
  refine ⟨hR, ⟨hF.c, hF.t0, hF.t1, rfl, rfl, fun j hj => ?_⟩, b0, b1⟩
  have hl := hF.l j hj
  have hne := place_ne S1 S2 (ixB_is N _) (ixB_is N _) (link_ne hF.c hi)
  unfold LitOk at hl ⊢
  show 0 ≤ mvX N X i _ j ∧ mvX N X i _ j ≤ capB (N.b j)
  obtain ⟨r, hrr⟩ : ∃ r, flo N t X o i = r := ⟨_, rfl⟩
  rw [hrr] at f1 f2 ⊢
  unfold mvX
  by_cases c1 : (j : Int) = ixB N (N.l i).fr
  · rw [mv_from c1 hne]
    rcases S1.place (ixB_is N _) (names_ne hF.c) with ⟨e, _⟩ | ⟨j', e, _, eq, eb, ex⟩
    · omega
    · obtain rfl : j = j' := by omega
      have f1 := f1 eq
      rw [eb, ex] at f1
      exact f1
  · by_cases c2 : (j : Int) = ixB N (N.l i).tw
    · rw [mv_to c2 hne]
      rcases S2.place (ixB_is N _) (names_ne hF.c) with ⟨e, _⟩ | ⟨j', e, _, eq, eb, ex⟩
      · omega
      · obtain rfl : j = j' := by omega
        have f2 := f2 eq
        rw [eb, ex] at f2
        exact f2
    · unfold give take
      rw [if_neg c2, if_neg c1]
      exact hl
theorem stX_ok (hF : Fit N (Wp N t X Y)) (h : Nt w B0 N) : ∀ k, k ≤ N.k → Fit N (Wp N t (stX N t Y X k) Y)
  | 0, _ => hF
  | k + 1, hk => (flo_ok (stX_ok hF h k (by omega)) h (show k < N.k by omega) (Y k)).2.1
theorem fwX_ok (hF : Fit N (Wp N t X Y)) (h : Nt w B0 N) {k : Nat} (hk : k < N.k) : FloR N t (stX N t Y X k) (Y k) k (fwX N t Y X k) ∧ (-1000000000 ≤ fwX N t Y X k ∧ fwX N t Y X k ≤ 1000000000) :=
  ⟨(flo_ok (stX_ok hF h k (by omega)) h hk (Y k)).1, (flo_ok (stX_ok hF h k (by omega)) h hk (Y k)).2.2⟩
end

/-- A state behind k minutes. -/
noncomputable def rnS (N : Nd) (T : Tn) (t : Int) (X : Nat → Int) (Y : Nat → Bool) : Nat → (Nat → Int) × (Nat → Bool)
  | 0 => (X, Y)
  | k + 1 => (stX N (t + k) (tuY N T (t + k) (rnS N T t X Y k).2 T.p) (rnS N T t X Y k).1 N.k, tuY N T (t + k) (rnS N T t X Y k).2 T.p)
theorem rnS_add (N : Nd) (T : Tn) (t : Int) (X : Nat → Int) (Y : Nat → Bool) (a : Nat) : ∀ b, rnS N T t X Y (a + b) = rnS N T (t + a) (rnS N T t X Y a).1 (rnS N T t X Y a).2 b
  | 0 => rfl
  | b + 1 => by
    have e : t + ((a + b : Nat) : Int) = t + a + b := by omega
    have ih := rnS_add N T t X Y a b
    show (stX N (t + ((a + b : Nat) : Int)) (tuY N T (t + ((a + b : Nat) : Int)) (rnS N T t X Y (a + b)).2 T.p) (rnS N T t X Y (a + b)).1 N.k, tuY N T (t + ((a + b : Nat) : Int)) (rnS N T t X Y (a + b)).2 T.p) = _
    rw [e, ih]
    rfl
theorem Fit.any {N : Nd} {t t' : Int} {X : Nat → Int} {Y Y' : Nat → Bool} (h : Fit N (Wp N t X Y)) (h0 : 0 ≤ t') (h1 : t' ≤ 1000000) : Fit N (Wp N t' X Y') := ⟨h.c, h0, h1, rfl, rfl, h.l⟩
theorem rnS_ok {w : World} {B0 : Nat} {N : Nd} {T : Tn} {t : Int} {X : Nat → Int} {Y : Nat → Bool} (hF : Fit N (Wp N t X Y)) (h : Nt w B0 N) : ∀ k : Nat, t + k ≤ 1000000 → Fit N (Wp N (t + k) (rnS N T t X Y k).1 (rnS N T t X Y k).2)
  | 0, hk => hF.any (by have := hF.t0; have : 0 ≤ t := this; omega) hk
  | k + 1, hk => by
    have ih := rnS_ok (T := T) hF h k (by omega)
    have h1 := stX_ok (ih.any (Y' := tuY N T (t + k) (rnS N T t X Y k).2 T.p) ih.t0 ih.t1) h N.k (Nat.le_refl _)
    exact h1.any (by have := hF.t0; have : 0 ≤ t := this; omega) hk

end Go.Proofs.Ytockfiobhmohnaa

