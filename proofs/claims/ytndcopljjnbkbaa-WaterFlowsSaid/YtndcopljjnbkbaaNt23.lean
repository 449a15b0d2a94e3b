/- Networks: through of the reference, over the contract of may. -/
import Derived.Test.YtndcopljjnbkbaaNt17
namespace Go.Proofs.Ytndcopljjnbkbaa
open Go.RowKit Go.Maps Kb Wb

/-- A network, a state and a link in boxes. -/
structure Tw (w : World) (g g1 g2 B0 B1 : Nat) (N : Nd) (W : Wd) (l : Ld) : Prop where
  n : Nb w g B0 N
  k : Bk w g1 (.cells #[.int .i64 W.min, .slice W.A W.n W.c, .slice W.M W.m W.d] 33)
  a : Wt w B1 W
  l : Bk w g2 (.cells #[.string l.nm, .int .i64 l.kind, .string l.fr, .string l.tw, .int .i64 l.sill, .int .i64 l.rate, .int .i64 l.fac, .int .i64 l.lift] 59)
structure Vx (w : World) (B1 : Nat) (W : Wd) : Prop where
  a : Wt w B1 W
section
variable {w w' : World} {g g1 g2 B0 B1 : Nat} {N : Nd} {W : Wd} {l : Ld}
theorem Tw.v (h : Tw w g g1 g2 B0 B1 N W l) : Vx w B1 W := ⟨h.a⟩
theorem Tw.below (h : Tw w g g1 g2 B0 B1 N W l) (hb : Below w.heap.size w w') : Tw w' g g1 g2 B0 B1 N W l := ⟨h.n.below hb, h.k.step hb, h.a.below hb, h.l.step hb⟩
theorem Tw.cells (h : Tw w g g1 g2 B0 B1 N W l) : w.cell? ⟨g, 0, none⟩ = some (.slice N.A N.n N.c) ∧ w.cell? ⟨g, 1, none⟩ = some (.slice N.M N.m N.d) ∧ w.cell? ⟨g, 2, none⟩ = some (.slice N.K N.k N.e) ∧ w.cell? ⟨g1, 0, none⟩ = some (.int .i64 W.min) ∧ w.cell? ⟨g1, 1, none⟩ = some (.slice W.A W.n W.c) ∧ w.cell? ⟨g1, 2, none⟩ = some (.slice W.M W.m W.d) ∧ w.cell? ⟨g2, 0, none⟩ = some (.string l.nm) ∧ w.cell? ⟨g2, 1, none⟩ = some (.int .i64 l.kind) ∧ w.cell? ⟨g2, 2, none⟩ = some (.string l.fr) ∧ w.cell? ⟨g2, 3, none⟩ = some (.string l.tw) ∧ w.cell? ⟨g2, 4, none⟩ = some (.int .i64 l.sill) ∧ w.cell? ⟨g2, 5, none⟩ = some (.int .i64 l.rate) ∧ w.cell? ⟨g2, 6, none⟩ = some (.int .i64 l.fac) ∧ w.cell? ⟨g2, 7, none⟩ = some (.int .i64 l.lift) := by
  obtain ⟨a0, a1, a2⟩ := h.n.cells
  obtain ⟨b0, b1, b2⟩ := h.k.c3
  have hh := fun i => cell_of_row w _ i _ _ _ h.l
  exact ⟨a0, a1, a2, b0, b1, b2, hh 0, hh 1, hh 2, hh 3, hh 4, hh 5, hh 6, hh 7⟩
theorem Tw.new (l : Ld) (h : Nt w B0 N) (hw : Wt w B1 W) (hg : w.heap.size = g) (hg1 : g + 1 = g1) (hg2 : g1 + 1 = g2) : Tw (((w.alloc (.cells #[.slice N.A N.n N.c, .slice N.M N.m N.d, .slice N.K N.k N.e] 26)).alloc (.cells #[.int .i64 W.min, .slice W.A W.n W.c, .slice W.M W.m W.d] 33)).alloc (.cells #[.string l.nm, .int .i64 l.kind, .string l.fr, .string l.tw, .int .i64 l.sill, .int .i64 l.rate, .int .i64 l.fac, .int .i64 l.lift] 59)) g g1 g2 B0 B1 N W l := by
  subst hg; subst hg1; subst hg2
  exact ⟨((Nb.new h rfl).below alo).below alo, (Bk.of_alloc _ _ (by simp)).alloc _, ((hw.below alo).below alo).below alo, Bk.of_alloc _ _ (by simp)⟩
end
theorem Bst.small {P : Int → Prop} {q step : Int} (h : Bst P q step) : 0 ≤ step ∧ step ≤ 1073741824 := by
  obtain ⟨_, _, ⟨j, hj, he, _⟩ | ⟨he, _⟩⟩ := h
  · have h1 := pow_ge j
    have h2 : (2 : Int) ^ j * 2 ^ (30 - j) = 2 ^ 30 := by rw [← Int.pow_add]; congr 1; omega
    have h3 := pow_ge (30 - j)
    have h4 : (2 : Int) ^ j * 1 ≤ 2 ^ j * 2 ^ (30 - j) := Int.mul_le_mul_of_nonneg_left h3 (by omega)
    rw [h2] at h4
    have h5 : (2 : Int) ^ 30 = 1073741824 := by decide
    omega
  · omega
section
variable {w : World} {B0 B1 : Nat} {N : Nd} {W : Wd} {l : Ld} {s s2 : ByteArray}
set_option maxRecDepth 100000 in
set_option maxHeartbeats 8000000 in
theorem through_ok (P : Int → Prop) (a : Int) (h : Nt w B0 N) (hw : Wt w B1 W) (ha : l.sill < a) (r0 : 0 ≤ l.rate) (r1 : l.rate ≤ 1000000000) (hP0 : P 0) (hmono : ∀ i k, 0 ≤ i → i ≤ k → Mayp P l.rate k → Mayp P l.rate i)
    (Ha : Hid (∀ (V : World) (B0 B1 : Nat), Nt V B0 N → Wt V B1 W → Calls Try.prog 61 #[.agg #[.slice N.A N.n N.c, .slice N.M N.m N.d, .slice N.K N.k N.e], .agg #[.int .i64 W.min, .slice W.A W.n W.c, .slice W.M W.m W.d], .string s] V fun e w' => e = .returned (.int .i64 a) ∧ Below V.heap.size V w'))
    (Hm : Hid (∀ (V : World) (B0 B1 : Nat), Nt V B0 N → Wt V B1 W → ∀ k : Int, 0 ≤ k → k ≤ 3000000000 → Calls Try.prog 91 #[.agg #[.slice N.A N.n N.c, .slice N.M N.m N.d, .slice N.K N.k N.e], .agg #[.int .i64 W.min, .slice W.A W.n W.c, .slice W.M W.m W.d], .agg #[.string l.nm, .int .i64 l.kind, .string l.fr, .string l.tw, .int .i64 l.sill, .int .i64 l.rate, .int .i64 l.fac, .int .i64 l.lift], .string s, .string s2, .int .i64 k] V fun e w' => ∃ p : Bool, e = .returned (.bool p) ∧ Hid (p = true ↔ Mayp P l.rate k) ∧ Below V.heap.size V w')) :
    Calls Try.prog 62 #[.agg #[.slice N.A N.n N.c, .slice N.M N.m N.d, .slice N.K N.k N.e], .agg #[.int .i64 W.min, .slice W.A W.n W.c, .slice W.M W.m W.d], .agg #[.string l.nm, .int .i64 l.kind, .string l.fr, .string l.tw, .int .i64 l.sill, .int .i64 l.rate, .int .i64 l.fac, .int .i64 l.lift], .string s, .string s2] w fun e w' => ∃ r : Int, e = .returned (.int .i64 r) ∧ Hid (Gre P l.rate r) ∧ Below w.heap.size w w' := by
  obtain ⟨g, hg⟩ : ∃ g, w.heap.size = g := ⟨_, rfl⟩
  obtain ⟨g1, hg1⟩ : ∃ g', g + 1 = g' := ⟨_, rfl⟩
  obtain ⟨g2, hg2⟩ : ∃ g', g1 + 1 = g' := ⟨_, rfl⟩
  have hb0 := (((Below.refl w.heap.size w).alloc (Nat.le_refl _) (.cells #[.slice N.A N.n N.c, .slice N.M N.m N.d, .slice N.K N.k N.e] 26)).alloc (by simp) (.cells #[.int .i64 W.min, .slice W.A W.n W.c, .slice W.M W.m W.d] 33)).alloc (by simp; omega) (.cells #[.string l.nm, .int .i64 l.kind, .string l.fr, .string l.tw, .int .i64 l.sill, .int .i64 l.rate, .int .i64 l.fac, .int .i64 l.lift] 59)
  have D := Tw.new l h hw hg hg1 hg2
  have d1 : decide (a ≤ l.sill) = false := decide_eq_false (by omega)
  have Hmono := hid hmono
  have Hst := hid (show Bst (Mayp P l.rate) 0 1073741824 from Bst.start (rate := l.rate) ⟨r0, hP0⟩ (by omega) (fun k hk => hk.1))
  clear hmono hP0 ha
  go_enter Try.func62, Try.ntmps62
  go_upto_region 1 with fail
  generalize ((w.alloc (.cells #[.slice N.A N.n N.c, .slice N.M N.m N.d, .slice N.K N.k N.e] 26)).alloc (.cells #[.int .i64 W.min, .slice W.A W.n W.c, .slice W.M W.m W.d] 33)).alloc (.cells #[.string l.nm, .int .i64 l.kind, .string l.fr, .string l.tw, .int .i64 l.sill, .int .i64 l.rate, .int .i64 l.fac, .int .i64 l.lift] 59) = W0 at *
  have HB0 := hid hb0
  have D0 := D.below dr0
  clear hb0 hg hg1 hg2 h hw D
  go_region_held3 (fun w' => w'.cell? ⟨g, 0, none⟩ = some (.slice N.A N.n N.c) ∧ w'.cell? ⟨g, 1, none⟩ = some (.slice N.M N.m N.d) ∧ w'.cell? ⟨g, 2, none⟩ = some (.slice N.K N.k N.e) ∧ w'.cell? ⟨g1, 0, none⟩ = some (.int .i64 W.min) ∧ w'.cell? ⟨g1, 1, none⟩ = some (.slice W.A W.n W.c) ∧ w'.cell? ⟨g1, 2, none⟩ = some (.slice W.M W.m W.d) ∧ w'.cell? ⟨g2, 0, none⟩ = some (.string l.nm) ∧ w'.cell? ⟨g2, 1, none⟩ = some (.int .i64 l.kind) ∧ w'.cell? ⟨g2, 2, none⟩ = some (.string l.fr) ∧ w'.cell? ⟨g2, 3, none⟩ = some (.string l.tw) ∧ w'.cell? ⟨g2, 4, none⟩ = some (.int .i64 l.sill) ∧ w'.cell? ⟨g2, 5, none⟩ = some (.int .i64 l.rate) ∧ w'.cell? ⟨g2, 6, none⟩ = some (.int .i64 l.fac) ∧ w'.cell? ⟨g2, 7, none⟩ = some (.int .i64 l.lift)) (first | with_reducible exact Tw.cells D0 | with_reducible exact Tw.cells D1) (first
    | (go_at_call 61; (with_reducible refine (Ha.out _ _ _ D0.n.a D0.v.a).mono ?_); rintro e w1 ⟨rfl, hb1⟩; have D1 := D0.below hb1))
  all_goals
    have HB1 := hid (bthen HB0.out.drew hb1 (Nat.le_refl _))
    clear hb1 D0
    go_wp2_with fail
    go_loopw [11, 12] (fun qv sv wr => ∃ (q step : Int), qv = .int .i64 q ∧ sv = .int .i64 step ∧ Hid (Bst (Mayp P l.rate) q step) ∧ Below w1.heap.size w1 wr) (fun _ sv _ => (intOf sv).toNat)
    case atStart => exact ⟨0, 1073741824, rfl, rfl, Hst, Below.refl _ _⟩
    case round =>
      obtain ⟨q, step, rfl, rfl, HG, hbel⟩ := hrel
      have D3 := D1.below hbel
      have HB3 := hid (bthen HB1.out hbel (Nat.le_refl _))
      have Hbel := hid hbel
      have hs := HG.out.small
      have hq0 := HG.out.1
      have hq1 := HG.out.2.1.1
      clear hbel
      by_cases hlt : 0 < step
      · have dlt : decide (0 < step) = true := decide_eq_true hlt
        have hnx := hid (HG.out.next hlt Hmono.out)
        obtain ⟨d, hd'⟩ : ∃ d, step.tdiv 2 = d := ⟨_, rfl⟩
        have hd2 : step / 2 = d := by rw [← hd']; exact (Int.tdiv_eq_ediv_of_nonneg (by omega)).symm
        have hd3 : 0 ≤ d ∧ d < step := by omega
        have hw1 : IntKind.i64.wrap (q + step) = q + step := IntWalk.i64_in _ (by omega)
        have hw2 : IntKind.i64.wrap (step.tdiv 2) = d := by rw [hd']; exact IntWalk.i64_in _ (by omega)
        have Hd2 := hid hd2
        clear hd2
        obtain ⟨y0, y1, y2, y3, y4, y5, y6, y7, y8, y9, ya, yb, yc, yd⟩ := D3.cells
        go_wp2_with fail
        refine (Hm.out _ _ _ D3.n.a D3.a (q + step) (by omega) (by omega)).mono ?_
        rintro e w4 ⟨p, rfl, hp, hb⟩
        have HB4 := hid (bthen Hbel.out hb (Nat.le_refl _))
        clear hb D3 y0 y1 y2 y3 y4 y5 y6 y7 y8 y9 ya yb yc yd
        cases p with
        | true =>
          have HN := hid (hnx.out.1 (hp.out.1 rfl))
          rw [Hd2.out] at HN
          go_wp2
          go_roundw
          case rel => exact ⟨q + step, d, rfl, rfl, HN, HB4.out⟩
          case measure => simp [intOf]; omega
        | false =>
          have HN := hid (hnx.out.2 (fun hh => absurd (hp.out.2 hh) (by decide)))
          rw [Hd2.out] at HN
          go_wp2
          go_roundw
          case rel => exact ⟨q, d, rfl, rfl, HN, HB4.out⟩
          case measure => simp [intOf]; omega
      · have dlt : decide (0 < step) = false := decide_eq_false hlt
        have e : step = 0 := by omega
        subst e
        have HE := hid HG.out.done
        go_wp2
        go_ret
        exact ⟨q, rfl, HE, HB3.out⟩
end

end Go.Proofs.Ytndcopljjnbkbaa
