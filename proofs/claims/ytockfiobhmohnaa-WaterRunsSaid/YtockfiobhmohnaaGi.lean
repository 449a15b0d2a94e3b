/- Networks: pumped of the program. Networks: what an open gate lets through: the test and the search of the program. Networks: what an open gate lets through: levels rise with litres; the search in steps finds the same number. Two variables made in an open order: its ways, and where they meet. For any worlds. -/
import Derived.Test.YtockfiobhmohnaaGg
import Derived.Test.YtockfiobhmohnaaGf
namespace Go.Proofs.Ytockfiobhmohnaa
open Go.RowKit Go.Maps Kb Wb

theorem slev_range {w : World} {B0 : Nat} {q : Bool} {z : Int} {b : Bd} {x : Int} (h : Sok w B0 q z b x) {v : Int} (hv : q = false → 0 ≤ x + v ∧ x + v ≤ capB b) : -4000000 ≤ slev q z b x v ∧ slev q z b x v ≤ 4000000 := by
  cases q with
  | true => exact h.z
  | false =>
    have := lvB_range (h.bas rfl) (hv rfl).1 (hv rfl).2
    show -4000000 ≤ lvB b (x + v) ∧ lvB b (x + v) ≤ 4000000
    omega
theorem Sok.v0 {w : World} {B0 : Nat} {q : Bool} {z : Int} {b : Bd} {x : Int} (h : Sok w B0 q z b x) : q = false → 0 ≤ x + 0 ∧ x + 0 ≤ capB b := fun e => by
  rw [Int.add_zero]
  exact h.x0 e
/-- A link and two sides in boxes. -/
structure Pw (w : World) (gl g1 g2 B0 B1 : Nat) (l : Ld) (q : Bool) (z : Int) (b : Bd) (x : Int) (q2 : Bool) (z2 : Int) (b2 : Bd) (x2 : Int) : Prop where
  k : Bk w gl (.cells #[.string l.nm, .int .i64 l.kind, .string l.fr, .string l.tw, .int .i64 l.sill, .int .i64 l.rate, .int .i64 l.fac, .int .i64 l.lift] 49)
  f : Sx w g1 B0 q z b x
  t : Sx w g2 B1 q2 z2 b2 x2
section
variable {w w' : World} {gl g1 g2 B0 B1 : Nat} {l : Ld} {q : Bool} {z : Int} {b : Bd} {x : Int} {q2 : Bool} {z2 : Int} {b2 : Bd} {x2 : Int}
theorem Pw.below (h : Pw w gl g1 g2 B0 B1 l q z b x q2 z2 b2 x2) (hb : Below w.heap.size w w') : Pw w' gl g1 g2 B0 B1 l q z b x q2 z2 b2 x2 := ⟨h.k.step hb, h.f.below hb, h.t.below hb⟩
theorem Pw.cells (h : Pw w gl g1 g2 B0 B1 l q z b x q2 z2 b2 x2) : w.cell? ⟨gl, 4, none⟩ = some (.int .i64 l.sill) ∧ w.cell? ⟨gl, 5, none⟩ = some (.int .i64 l.rate) ∧ w.cell? ⟨gl, 6, none⟩ = some (.int .i64 l.fac) ∧ w.cell? ⟨gl, 7, none⟩ = some (.int .i64 l.lift) ∧ w.cell? ⟨g1, 0, none⟩ = some (.bool q) ∧ w.cell? ⟨g1, 1, none⟩ = some (.int .i64 z) ∧ w.cell? ⟨g1, 2, none⟩ = some (.string b.nm) ∧ w.cell? ⟨g1, 3, none⟩ = some (.slice b.A b.n b.c) ∧ w.cell? ⟨g1, 4, none⟩ = some (.int .i64 b.rim) ∧ w.cell? ⟨g1, 5, none⟩ = some (.int .i64 x) ∧ w.cell? ⟨g2, 0, none⟩ = some (.bool q2) ∧ w.cell? ⟨g2, 1, none⟩ = some (.int .i64 z2) ∧ w.cell? ⟨g2, 2, none⟩ = some (.string b2.nm) ∧ w.cell? ⟨g2, 3, none⟩ = some (.slice b2.A b2.n b2.c) ∧ w.cell? ⟨g2, 4, none⟩ = some (.int .i64 b2.rim) ∧ w.cell? ⟨g2, 5, none⟩ = some (.int .i64 x2) := by
  have hh := fun i => cell_of_row w _ i _ _ _ h.k
  obtain ⟨a0, a1, a2, a3, a4, a5⟩ := h.f.cells
  obtain ⟨c0, c1, c2, c3, c4, c5⟩ := h.t.cells
  exact ⟨hh 4, hh 5, hh 6, hh 7, a0, a1, a2, a3, a4, a5, c0, c1, c2, c3, c4, c5⟩
theorem Pw.new (l : Ld) (h : Sok w B0 q z b x) (k : Sok w B1 q2 z2 b2 x2) {gl g1 g2 : Nat} (hg : w.heap.size = gl) (hg1 : gl + 1 = g1) (hg2 : g1 + 1 = g2) : Pw (((w.alloc (.cells #[.string l.nm, .int .i64 l.kind, .string l.fr, .string l.tw, .int .i64 l.sill, .int .i64 l.rate, .int .i64 l.fac, .int .i64 l.lift] 49)).alloc (.cells #[.bool q, .int .i64 z, .string b.nm, .slice b.A b.n b.c, .int .i64 b.rim, .int .i64 x] 118)).alloc (.cells #[.bool q2, .int .i64 z2, .string b2.nm, .slice b2.A b2.n b2.c, .int .i64 b2.rim, .int .i64 x2] 118)) gl g1 g2 B0 B1 l q z b x q2 z2 b2 x2 := by
  subst hg; subst hg1; subst hg2
  exact ⟨((Bk.of_alloc w _ rfl).alloc _).alloc _, (Sx.new (h.below alo) (by simp)).below alo, Sx.new ((k.below alo).below alo) (by simp)⟩
end

section
variable {w : World} {B0 B1 : Nat} {q : Bool} {z : Int} {b : Bd} {x : Int} {q2 : Bool} {z2 : Int} {b2 : Bd} {x2 : Int}
set_option maxRecDepth 100000 in
set_option maxHeartbeats 8000000 in
theorem pumped_any (l : Ld) (h : Sok w B0 q z b x) (k : Sok w B1 q2 z2 b2 x2) :
    Calls Try.prog 82 #[.agg #[.string l.nm, .int .i64 l.kind, .string l.fr, .string l.tw, .int .i64 l.sill, .int .i64 l.rate, .int .i64 l.fac, .int .i64 l.lift], .agg #[.bool q, .int .i64 z, .string b.nm, .slice b.A b.n b.c, .int .i64 b.rim, .int .i64 x], .agg #[.bool q2, .int .i64 z2, .string b2.nm, .slice b2.A b2.n b2.c, .int .i64 b2.rim, .int .i64 x2]] w fun e w' => e = .returned (.int .i64 (if l.lift < slev q2 z2 b2 x2 0 - slev q z b x 0 then 0 else min (min l.rate (sabo q b x (-1000000))) (sroom q2 b2 x2))) ∧ Below w.heap.size w w' := by
  obtain ⟨gl, hg⟩ : ∃ g, w.heap.size = g := ⟨_, rfl⟩
  obtain ⟨g1, hg1⟩ : ∃ g, gl + 1 = g := ⟨_, rfl⟩
  obtain ⟨g2, hg2⟩ : ∃ g, g1 + 1 = g := ⟨_, rfl⟩
  have hb0 := (((Below.refl w.heap.size w).alloc (Nat.le_refl _) (.cells #[.string l.nm, .int .i64 l.kind, .string l.fr, .string l.tw, .int .i64 l.sill, .int .i64 l.rate, .int .i64 l.fac, .int .i64 l.lift] 49)).alloc (by simp) (.cells #[.bool q, .int .i64 z, .string b.nm, .slice b.A b.n b.c, .int .i64 b.rim, .int .i64 x] 118)).alloc (by simp; omega) (.cells #[.bool q2, .int .i64 z2, .string b2.nm, .slice b2.A b2.n b2.c, .int .i64 b2.rim, .int .i64 x2] 118)
  have D := Pw.new l h k hg hg1 hg2
  have r1 := slev_range h h.v0
  have r2 := slev_range k k.v0
  have H0 := hid h.v0
  have K0 := hid k.v0
  obtain ⟨a, ha⟩ : ∃ a, slev q z b x 0 = a := ⟨_, rfl⟩
  obtain ⟨c, hc⟩ : ∃ c, slev q2 z2 b2 x2 0 = c := ⟨_, rfl⟩
  obtain ⟨m, hm⟩ : ∃ m, sabo q b x (-1000000) = m := ⟨_, rfl⟩
  obtain ⟨n, hn⟩ : ∃ n, sroom q2 b2 x2 = n := ⟨_, rfl⟩
  rw [ha] at r1
  rw [hc] at r2
  rw [ha, hc, hm, hn]
  obtain ⟨r, hr⟩ : ∃ r, (if l.lift < c - a then 0 else min (min l.rate m) n) = r := ⟨_, rfl⟩
  rw [hr]
  have Ha := hid (fun (W : World) (B0 : Nat) (h : Sok W B0 q z b x) => (show Calls Try.prog 83 #[.agg #[.bool q, .int .i64 z, .string b.nm, .slice b.A b.n b.c, .int .i64 b.rim, .int .i64 x], .int .i64 0] W fun e w' => e = .returned (.int .i64 a) ∧ Below W.heap.size W w' from ha ▸ slevel_any h 0 h.v0))
  have Hc := hid (fun (W : World) (B0 : Nat) (h : Sok W B0 q2 z2 b2 x2) => (show Calls Try.prog 83 #[.agg #[.bool q2, .int .i64 z2, .string b2.nm, .slice b2.A b2.n b2.c, .int .i64 b2.rim, .int .i64 x2], .int .i64 0] W fun e w' => e = .returned (.int .i64 c) ∧ Below W.heap.size W w' from hc ▸ slevel_any h 0 h.v0))
  have Hm := hid (fun (W : World) (B0 : Nat) (h : Sok W B0 q z b x) => (show Calls Try.prog 95 #[.agg #[.bool q, .int .i64 z, .string b.nm, .slice b.A b.n b.c, .int .i64 b.rim, .int .i64 x], .int .i64 (-1000000)] W fun e w' => e = .returned (.int .i64 m) ∧ Below W.heap.size W w' from hm ▸ sabo_any h (-1000000) (by decide) (by decide)))
  have Hn := hid (fun (W : World) (B0 : Nat) (h : Sok W B0 q2 z2 b2 x2) => (show Calls Try.prog 96 #[.agg #[.bool q2, .int .i64 z2, .string b2.nm, .slice b2.A b2.n b2.c, .int .i64 b2.rim, .int .i64 x2]] W fun e w' => e = .returned (.int .i64 n) ∧ Below W.heap.size W w' from hn ▸ sroom_any h))
  have hw1 : IntKind.i64.wrap (c - a) = c - a := IntWalk.i64_in _ (by omega)
  clear ha hc hm hn
  go_enter Try.func82, Try.ntmps82
  go_upto_region 1 with fail
  generalize ((w.alloc (.cells #[.string l.nm, .int .i64 l.kind, .string l.fr, .string l.tw, .int .i64 l.sill, .int .i64 l.rate, .int .i64 l.fac, .int .i64 l.lift] 49)).alloc (.cells #[.bool q, .int .i64 z, .string b.nm, .slice b.A b.n b.c, .int .i64 b.rim, .int .i64 x] 118)).alloc (.cells #[.bool q2, .int .i64 z2, .string b2.nm, .slice b2.A b2.n b2.c, .int .i64 b2.rim, .int .i64 x2] 118) = W0 at *
  have HB0 := hid hb0
  have D0 := D.below dr0
  clear hb0 hg hg1 hg2 h k D
  by_cases hl : l.lift < c - a
  · have dl : decide (l.lift < c - a) = true := decide_eq_true hl
    rw [if_pos hl] at hr
    subst hr
    clear hl
    go_region_held3 (fun w' => w'.cell? ⟨gl, 4, none⟩ = some (.int .i64 l.sill) ∧ w'.cell? ⟨gl, 5, none⟩ = some (.int .i64 l.rate) ∧ w'.cell? ⟨gl, 6, none⟩ = some (.int .i64 l.fac) ∧ w'.cell? ⟨gl, 7, none⟩ = some (.int .i64 l.lift) ∧ w'.cell? ⟨g1, 0, none⟩ = some (.bool q) ∧ w'.cell? ⟨g1, 1, none⟩ = some (.int .i64 z) ∧ w'.cell? ⟨g1, 2, none⟩ = some (.string b.nm) ∧ w'.cell? ⟨g1, 3, none⟩ = some (.slice b.A b.n b.c) ∧ w'.cell? ⟨g1, 4, none⟩ = some (.int .i64 b.rim) ∧ w'.cell? ⟨g1, 5, none⟩ = some (.int .i64 x) ∧ w'.cell? ⟨g2, 0, none⟩ = some (.bool q2) ∧ w'.cell? ⟨g2, 1, none⟩ = some (.int .i64 z2) ∧ w'.cell? ⟨g2, 2, none⟩ = some (.string b2.nm) ∧ w'.cell? ⟨g2, 3, none⟩ = some (.slice b2.A b2.n b2.c) ∧ w'.cell? ⟨g2, 4, none⟩ = some (.int .i64 b2.rim) ∧ w'.cell? ⟨g2, 5, none⟩ = some (.int .i64 x2)) (first | with_reducible exact Pw.cells D0 | with_reducible exact Pw.cells D1 | with_reducible exact Pw.cells D2) (first
      | (go_at_call 83; with_reducible refine (Ha.out _ _ D0.f.a).mono ?_; rintro e w1 ⟨rfl, hb1⟩; have D1 := D0.below hb1)
      | (go_at_call 83; with_reducible refine (Hc.out _ _ D1.t.a).mono ?_; rintro e w2 ⟨rfl, hb2⟩; have D2 := D1.below hb2)
      | (go_at_call 83; with_reducible refine (Hc.out _ _ D0.t.a).mono ?_; rintro e w1 ⟨rfl, hb1⟩; have D1 := D0.below hb1)
      | (go_at_call 83; with_reducible refine (Ha.out _ _ D1.f.a).mono ?_; rintro e w2 ⟨rfl, hb2⟩; have D2 := D1.below hb2))
    all_goals
      have HB2 := hid (bthen (bthen HB0.out.drew hb1 (Nat.le_refl _)) hb2 (Nat.le_refl _))
      clear hb1 hb2 D0 D1
      go_wp2
      go_ret
      exact ⟨rfl, HB2.out⟩
  · have dl : decide (l.lift < c - a) = false := decide_eq_false hl
    rw [if_neg hl] at hr
    have Hr := hid hr
    clear hl hr
    go_region_held3 (fun w' => w'.cell? ⟨gl, 4, none⟩ = some (.int .i64 l.sill) ∧ w'.cell? ⟨gl, 5, none⟩ = some (.int .i64 l.rate) ∧ w'.cell? ⟨gl, 6, none⟩ = some (.int .i64 l.fac) ∧ w'.cell? ⟨gl, 7, none⟩ = some (.int .i64 l.lift) ∧ w'.cell? ⟨g1, 0, none⟩ = some (.bool q) ∧ w'.cell? ⟨g1, 1, none⟩ = some (.int .i64 z) ∧ w'.cell? ⟨g1, 2, none⟩ = some (.string b.nm) ∧ w'.cell? ⟨g1, 3, none⟩ = some (.slice b.A b.n b.c) ∧ w'.cell? ⟨g1, 4, none⟩ = some (.int .i64 b.rim) ∧ w'.cell? ⟨g1, 5, none⟩ = some (.int .i64 x) ∧ w'.cell? ⟨g2, 0, none⟩ = some (.bool q2) ∧ w'.cell? ⟨g2, 1, none⟩ = some (.int .i64 z2) ∧ w'.cell? ⟨g2, 2, none⟩ = some (.string b2.nm) ∧ w'.cell? ⟨g2, 3, none⟩ = some (.slice b2.A b2.n b2.c) ∧ w'.cell? ⟨g2, 4, none⟩ = some (.int .i64 b2.rim) ∧ w'.cell? ⟨g2, 5, none⟩ = some (.int .i64 x2)) (first | with_reducible exact Pw.cells D0 | with_reducible exact Pw.cells D1 | with_reducible exact Pw.cells D2) (first
      | (go_at_call 83; with_reducible refine (Ha.out _ _ D0.f.a).mono ?_; rintro e w1 ⟨rfl, hb1⟩; have D1 := D0.below hb1)
      | (go_at_call 83; with_reducible refine (Hc.out _ _ D1.t.a).mono ?_; rintro e w2 ⟨rfl, hb2⟩; have D2 := D1.below hb2)
      | (go_at_call 83; with_reducible refine (Hc.out _ _ D0.t.a).mono ?_; rintro e w1 ⟨rfl, hb1⟩; have D1 := D0.below hb1)
      | (go_at_call 83; with_reducible refine (Ha.out _ _ D1.f.a).mono ?_; rintro e w2 ⟨rfl, hb2⟩; have D2 := D1.below hb2))
    all_goals
      have HB2 := hid (bthen (bthen HB0.out.drew hb1 (Nat.le_refl _)) hb2 (Nat.le_refl _))
      clear hb1 hb2 D0 D1
      obtain ⟨_, _, _, _, a0, a1, a2, a3, a4, a5, _⟩ := D2.cells
      go_wp2_with fail
      clear a0 a1 a2 a3 a4 a5
      refine (Hm.out _ _ D2.f.a).mono ?_
      rintro e w3 ⟨rfl, hb3⟩
      have HB3 := hid (bthen HB2.out hb3 (Nat.le_refl _))
      have D3 := (D2.below hb3).below dr0
      clear hb3 D2
      go_wp2_with fail
      have cs : (m < l.rate ∧ n < m ∧ r = n) ∨ (m < l.rate ∧ ¬ n < m ∧ r = m) ∨ (¬ m < l.rate ∧ n < l.rate ∧ r = n) ∨ (¬ m < l.rate ∧ ¬ n < l.rate ∧ r = l.rate) := by have := Hr.out; omega
      clear Hr
      rcases cs with ⟨h1, h2, rfl⟩ | ⟨h1, h2, rfl⟩ | ⟨h1, h2, rfl⟩ | ⟨h1, h2, rfl⟩
      · go_region_held3 (fun w' => w'.cell? ⟨gl, 4, none⟩ = some (.int .i64 l.sill) ∧ w'.cell? ⟨gl, 5, none⟩ = some (.int .i64 l.rate) ∧ w'.cell? ⟨gl, 6, none⟩ = some (.int .i64 l.fac) ∧ w'.cell? ⟨gl, 7, none⟩ = some (.int .i64 l.lift) ∧ w'.cell? ⟨g1, 0, none⟩ = some (.bool q) ∧ w'.cell? ⟨g1, 1, none⟩ = some (.int .i64 z) ∧ w'.cell? ⟨g1, 2, none⟩ = some (.string b.nm) ∧ w'.cell? ⟨g1, 3, none⟩ = some (.slice b.A b.n b.c) ∧ w'.cell? ⟨g1, 4, none⟩ = some (.int .i64 b.rim) ∧ w'.cell? ⟨g1, 5, none⟩ = some (.int .i64 x) ∧ w'.cell? ⟨g2, 0, none⟩ = some (.bool q2) ∧ w'.cell? ⟨g2, 1, none⟩ = some (.int .i64 z2) ∧ w'.cell? ⟨g2, 2, none⟩ = some (.string b2.nm) ∧ w'.cell? ⟨g2, 3, none⟩ = some (.slice b2.A b2.n b2.c) ∧ w'.cell? ⟨g2, 4, none⟩ = some (.int .i64 b2.rim) ∧ w'.cell? ⟨g2, 5, none⟩ = some (.int .i64 x2)) (first | with_reducible exact Pw.cells D3 | with_reducible exact Pw.cells D4) (first
          | (go_at_call 96; with_reducible refine (Hn.out _ _ D3.t.a).mono ?_; rintro e w4 ⟨rfl, hb4⟩; have D4 := D3.below hb4))
        all_goals
          have HB4 := hid (bthen HB3.out.drew hb4 (Nat.le_refl _))
          clear hb4
          go_wp2
          go_ret
          exact ⟨rfl, HB4.out⟩
      · go_region_held3 (fun w' => w'.cell? ⟨gl, 4, none⟩ = some (.int .i64 l.sill) ∧ w'.cell? ⟨gl, 5, none⟩ = some (.int .i64 l.rate) ∧ w'.cell? ⟨gl, 6, none⟩ = some (.int .i64 l.fac) ∧ w'.cell? ⟨gl, 7, none⟩ = some (.int .i64 l.lift) ∧ w'.cell? ⟨g1, 0, none⟩ = some (.bool q) ∧ w'.cell? ⟨g1, 1, none⟩ = some (.int .i64 z) ∧ w'.cell? ⟨g1, 2, none⟩ = some (.string b.nm) ∧ w'.cell? ⟨g1, 3, none⟩ = some (.slice b.A b.n b.c) ∧ w'.cell? ⟨g1, 4, none⟩ = some (.int .i64 b.rim) ∧ w'.cell? ⟨g1, 5, none⟩ = some (.int .i64 x) ∧ w'.cell? ⟨g2, 0, none⟩ = some (.bool q2) ∧ w'.cell? ⟨g2, 1, none⟩ = some (.int .i64 z2) ∧ w'.cell? ⟨g2, 2, none⟩ = some (.string b2.nm) ∧ w'.cell? ⟨g2, 3, none⟩ = some (.slice b2.A b2.n b2.c) ∧ w'.cell? ⟨g2, 4, none⟩ = some (.int .i64 b2.rim) ∧ w'.cell? ⟨g2, 5, none⟩ = some (.int .i64 x2)) (first | with_reducible exact Pw.cells D3 | with_reducible exact Pw.cells D4) (first
          | (go_at_call 96; with_reducible refine (Hn.out _ _ D3.t.a).mono ?_; rintro e w4 ⟨rfl, hb4⟩; have D4 := D3.below hb4))
        all_goals
          have HB4 := hid (bthen HB3.out.drew hb4 (Nat.le_refl _))
          clear hb4
          go_wp2
          go_ret
          exact ⟨rfl, HB4.out⟩
      · go_region_held3 (fun w' => w'.cell? ⟨gl, 4, none⟩ = some (.int .i64 l.sill) ∧ w'.cell? ⟨gl, 5, none⟩ = some (.int .i64 l.rate) ∧ w'.cell? ⟨gl, 6, none⟩ = some (.int .i64 l.fac) ∧ w'.cell? ⟨gl, 7, none⟩ = some (.int .i64 l.lift) ∧ w'.cell? ⟨g1, 0, none⟩ = some (.bool q) ∧ w'.cell? ⟨g1, 1, none⟩ = some (.int .i64 z) ∧ w'.cell? ⟨g1, 2, none⟩ = some (.string b.nm) ∧ w'.cell? ⟨g1, 3, none⟩ = some (.slice b.A b.n b.c) ∧ w'.cell? ⟨g1, 4, none⟩ = some (.int .i64 b.rim) ∧ w'.cell? ⟨g1, 5, none⟩ = some (.int .i64 x) ∧ w'.cell? ⟨g2, 0, none⟩ = some (.bool q2) ∧ w'.cell? ⟨g2, 1, none⟩ = some (.int .i64 z2) ∧ w'.cell? ⟨g2, 2, none⟩ = some (.string b2.nm) ∧ w'.cell? ⟨g2, 3, none⟩ = some (.slice b2.A b2.n b2.c) ∧ w'.cell? ⟨g2, 4, none⟩ = some (.int .i64 b2.rim) ∧ w'.cell? ⟨g2, 5, none⟩ = some (.int .i64 x2)) (first | with_reducible exact Pw.cells D3 | with_reducible exact Pw.cells D4) (first
          | (go_at_call 96; with_reducible refine (Hn.out _ _ D3.t.a).mono ?_; rintro e w4 ⟨rfl, hb4⟩; have D4 := D3.below hb4))
        all_goals
          have HB4 := hid (bthen HB3.out.drew hb4 (Nat.le_refl _))
          clear hb4
          go_wp2
          go_ret
          exact ⟨rfl, HB4.out⟩
      · go_region_held3 (fun w' => w'.cell? ⟨gl, 4, none⟩ = some (.int .i64 l.sill) ∧ w'.cell? ⟨gl, 5, none⟩ = some (.int .i64 l.rate) ∧ w'.cell? ⟨gl, 6, none⟩ = some (.int .i64 l.fac) ∧ w'.cell? ⟨gl, 7, none⟩ = some (.int .i64 l.lift) ∧ w'.cell? ⟨g1, 0, none⟩ = some (.bool q) ∧ w'.cell? ⟨g1, 1, none⟩ = some (.int .i64 z) ∧ w'.cell? ⟨g1, 2, none⟩ = some (.string b.nm) ∧ w'.cell? ⟨g1, 3, none⟩ = some (.slice b.A b.n b.c) ∧ w'.cell? ⟨g1, 4, none⟩ = some (.int .i64 b.rim) ∧ w'.cell? ⟨g1, 5, none⟩ = some (.int .i64 x) ∧ w'.cell? ⟨g2, 0, none⟩ = some (.bool q2) ∧ w'.cell? ⟨g2, 1, none⟩ = some (.int .i64 z2) ∧ w'.cell? ⟨g2, 2, none⟩ = some (.string b2.nm) ∧ w'.cell? ⟨g2, 3, none⟩ = some (.slice b2.A b2.n b2.c) ∧ w'.cell? ⟨g2, 4, none⟩ = some (.int .i64 b2.rim) ∧ w'.cell? ⟨g2, 5, none⟩ = some (.int .i64 x2)) (first | with_reducible exact Pw.cells D3 | with_reducible exact Pw.cells D4) (first
          | (go_at_call 96; with_reducible refine (Hn.out _ _ D3.t.a).mono ?_; rintro e w4 ⟨rfl, hb4⟩; have D4 := D3.below hb4))
        all_goals
          have HB4 := hid (bthen HB3.out.drew hb4 (Nat.le_refl _))
          clear hb4
          go_wp2
          go_ret
          exact ⟨rfl, HB4.out⟩
end

end Go.Proofs.Ytockfiobhmohnaa

namespace Go.Proofs.Ytockfiobhmohnaa
open Go.RowKit Go.Maps Kb Wb

/-- k litres may pass. -/
def Okp (l : Ld) (hd sp rm : Int) (q : Bool) (z : Int) (b : Bd) (x : Int) (q2 : Bool) (z2 : Int) (b2 : Bd) (x2 : Int) (k : Int) : Prop := k ≤ l.fac * hd ∧ k ≤ sp ∧ k ≤ rm ∧ slev q2 z2 b2 x2 k ≤ slev q z b x (-k)
/-- A link, two sides, and three numbers in boxes. -/
structure Gw (w : World) (gl gh gs gr g1 g2 B0 B1 : Nat) (l : Ld) (hd sp rm : Int) (q : Bool) (z : Int) (b : Bd) (x : Int) (q2 : Bool) (z2 : Int) (b2 : Bd) (x2 : Int) : Prop where
  p : Pw w gl g1 g2 B0 B1 l q z b x q2 z2 b2 x2
  h : Bk w gh (.cells #[.int .i64 hd] 3)
  s : Bk w gs (.cells #[.int .i64 sp] 3)
  r : Bk w gr (.cells #[.int .i64 rm] 3)
section
variable {w w' : World} {gl gh gs gr g1 g2 B0 B1 : Nat} {l : Ld} {hd sp rm : Int} {q : Bool} {z : Int} {b : Bd} {x : Int} {q2 : Bool} {z2 : Int} {b2 : Bd} {x2 : Int}
theorem Gw.below (h : Gw w gl gh gs gr g1 g2 B0 B1 l hd sp rm q z b x q2 z2 b2 x2) (hb : Below w.heap.size w w') : Gw w' gl gh gs gr g1 g2 B0 B1 l hd sp rm q z b x q2 z2 b2 x2 := ⟨h.p.below hb, h.h.step hb, h.s.step hb, h.r.step hb⟩
theorem Gw.cells (h : Gw w gl gh gs gr g1 g2 B0 B1 l hd sp rm q z b x q2 z2 b2 x2) : w.cell? ⟨gl, 4, none⟩ = some (.int .i64 l.sill) ∧ w.cell? ⟨gl, 5, none⟩ = some (.int .i64 l.rate) ∧ w.cell? ⟨gl, 6, none⟩ = some (.int .i64 l.fac) ∧ w.cell? ⟨gl, 7, none⟩ = some (.int .i64 l.lift) ∧ w.cell? ⟨g1, 0, none⟩ = some (.bool q) ∧ w.cell? ⟨g1, 1, none⟩ = some (.int .i64 z) ∧ w.cell? ⟨g1, 2, none⟩ = some (.string b.nm) ∧ w.cell? ⟨g1, 3, none⟩ = some (.slice b.A b.n b.c) ∧ w.cell? ⟨g1, 4, none⟩ = some (.int .i64 b.rim) ∧ w.cell? ⟨g1, 5, none⟩ = some (.int .i64 x) ∧ w.cell? ⟨g2, 0, none⟩ = some (.bool q2) ∧ w.cell? ⟨g2, 1, none⟩ = some (.int .i64 z2) ∧ w.cell? ⟨g2, 2, none⟩ = some (.string b2.nm) ∧ w.cell? ⟨g2, 3, none⟩ = some (.slice b2.A b2.n b2.c) ∧ w.cell? ⟨g2, 4, none⟩ = some (.int .i64 b2.rim) ∧ w.cell? ⟨g2, 5, none⟩ = some (.int .i64 x2) ∧ w.cell? ⟨gh, 0, none⟩ = some (.int .i64 hd) ∧ w.cell? ⟨gs, 0, none⟩ = some (.int .i64 sp) ∧ w.cell? ⟨gr, 0, none⟩ = some (.int .i64 rm) := by
  obtain ⟨a0, a1, a2, a3, a4, a5, a6, a7, a8, a9, c0, c1, c2, c3, c4, c5⟩ := h.p.cells
  exact ⟨a0, a1, a2, a3, a4, a5, a6, a7, a8, a9, c0, c1, c2, c3, c4, c5, cell_of_row w _ 0 _ _ _ h.h, cell_of_row w _ 0 _ _ _ h.s, cell_of_row w _ 0 _ _ _ h.r⟩
set_option maxRecDepth 100000 in
set_option maxHeartbeats 8000000 in
theorem passes_any (h : Gw w gl gh gs gr g1 g2 B0 B1 l hd sp rm q z b x q2 z2 b2 x2) {k : Int} (k0 : 0 ≤ k) (k1 : k ≤ 2000000000) (hf : 0 ≤ l.fac * hd ∧ l.fac * hd ≤ 1000000000000000000) (hsp : q = false → sp ≤ x) (hrm : q2 = false → rm = capB b2 - x2) :
    Calls Try.prog 97 #[.int .i64 k, .pointer (some ⟨gl, 0, none⟩), .pointer (some ⟨gh, 0, none⟩), .pointer (some ⟨gs, 0, none⟩), .pointer (some ⟨gr, 0, none⟩), .pointer (some ⟨g1, 0, none⟩), .pointer (some ⟨g2, 0, none⟩)] w fun e w' => ∃ p : Bool, e = .returned (.bool p) ∧ Hid (p = true ↔ Okp l hd sp rm q z b x q2 z2 b2 x2 k) ∧ Below w.heap.size w w' := by
  obtain ⟨v0, v1, v2, v3, a0, a1, a2, a3, a4, a5, c0, c1, c2, c3, c4, c5, d0, d1, d2⟩ := h.cells
  have hw1 : IntKind.i64.wrap (l.fac * hd) = l.fac * hd := IntWalk.i64_in _ (by omega)
  have hw2 : IntKind.i64.wrap (-k) = -k := IntWalk.i64_in _ (by omega)
  have hw3 : IntKind.i64.wrap (0 - k) = -k := by rw [show (0 : Int) - k = -k by omega]; exact hw2
  by_cases e1 : k ≤ l.fac * hd
  · have f1 : decide (k ≤ l.fac * hd) = true := decide_eq_true e1
    by_cases e2 : k ≤ sp
    · have f2 : decide (k ≤ sp) = true := decide_eq_true e2
      by_cases e3 : k ≤ rm
      · have f3 : decide (k ≤ rm) = true := decide_eq_true e3
        have hv1 : q = false → 0 ≤ x + -k ∧ x + -k ≤ capB b := fun e => by
          have := hsp e
          have := h.p.f.a.x0 e
          omega
        have hv2 : q2 = false → 0 ≤ x2 + k ∧ x2 + k ≤ capB b2 := fun e => by
          have := hrm e
          have := h.p.t.a.x0 e
          omega
        obtain ⟨a, ha⟩ : ∃ a, slev q z b x (-k) = a := ⟨_, rfl⟩
        obtain ⟨c, hc⟩ : ∃ c, slev q2 z2 b2 x2 k = c := ⟨_, rfl⟩
        have HE := hid (show decide (c ≤ a) = true ↔ Okp l hd sp rm q z b x q2 z2 b2 x2 k by
          rw [decide_eq_true_iff]
          unfold Okp
          rw [ha, hc]
          exact ⟨fun h => ⟨e1, e2, e3, h⟩, fun h => h.2.2.2⟩)
        have Ha := hid (fun (W : World) (B0 : Nat) (h : Sok W B0 q z b x) => (show Calls Try.prog 83 #[.agg #[.bool q, .int .i64 z, .string b.nm, .slice b.A b.n b.c, .int .i64 b.rim, .int .i64 x], .int .i64 (-k)] W fun e w' => e = .returned (.int .i64 a) ∧ Below W.heap.size W w' from ha ▸ slevel_any h (-k) hv1))
        have Hc := hid (fun (W : World) (B0 : Nat) (h : Sok W B0 q2 z2 b2 x2) => (show Calls Try.prog 83 #[.agg #[.bool q2, .int .i64 z2, .string b2.nm, .slice b2.A b2.n b2.c, .int .i64 b2.rim, .int .i64 x2], .int .i64 k] W fun e w' => e = .returned (.int .i64 c) ∧ Below W.heap.size W w' from hc ▸ slevel_any h k hv2))
        clear ha hc hv1 hv2 e1 e2 e3 v0 v1 v2 v3 a0 a1 a2 a3 a4 a5 c0 c1 c2 c3 c4 c5 d0 d1 d2
        have D0 := h.below dr0
        clear h
        go_enter Try.func97, Try.ntmps97
        go_wp2_with fail
        go_region_held3 (fun w' => w'.cell? ⟨gl, 4, none⟩ = some (.int .i64 l.sill) ∧ w'.cell? ⟨gl, 5, none⟩ = some (.int .i64 l.rate) ∧ w'.cell? ⟨gl, 6, none⟩ = some (.int .i64 l.fac) ∧ w'.cell? ⟨gl, 7, none⟩ = some (.int .i64 l.lift) ∧ w'.cell? ⟨g1, 0, none⟩ = some (.bool q) ∧ w'.cell? ⟨g1, 1, none⟩ = some (.int .i64 z) ∧ w'.cell? ⟨g1, 2, none⟩ = some (.string b.nm) ∧ w'.cell? ⟨g1, 3, none⟩ = some (.slice b.A b.n b.c) ∧ w'.cell? ⟨g1, 4, none⟩ = some (.int .i64 b.rim) ∧ w'.cell? ⟨g1, 5, none⟩ = some (.int .i64 x) ∧ w'.cell? ⟨g2, 0, none⟩ = some (.bool q2) ∧ w'.cell? ⟨g2, 1, none⟩ = some (.int .i64 z2) ∧ w'.cell? ⟨g2, 2, none⟩ = some (.string b2.nm) ∧ w'.cell? ⟨g2, 3, none⟩ = some (.slice b2.A b2.n b2.c) ∧ w'.cell? ⟨g2, 4, none⟩ = some (.int .i64 b2.rim) ∧ w'.cell? ⟨g2, 5, none⟩ = some (.int .i64 x2) ∧ w'.cell? ⟨gh, 0, none⟩ = some (.int .i64 hd) ∧ w'.cell? ⟨gs, 0, none⟩ = some (.int .i64 sp) ∧ w'.cell? ⟨gr, 0, none⟩ = some (.int .i64 rm)) (first | with_reducible exact Gw.cells D0 | with_reducible exact Gw.cells D1 | with_reducible exact Gw.cells D2) (first
          | (go_at_call 83; with_reducible refine (Ha.out _ _ D0.p.f.a).mono ?_; rintro e w1 ⟨rfl, hb1⟩; have D1 := D0.below hb1)
          | (go_at_call 83; with_reducible refine (Hc.out _ _ D1.p.t.a).mono ?_; rintro e w2 ⟨rfl, hb2⟩; have D2 := D1.below hb2)
          | (go_at_call 83; with_reducible refine (Hc.out _ _ D0.p.t.a).mono ?_; rintro e w1 ⟨rfl, hb1⟩; have D1 := D0.below hb1)
          | (go_at_call 83; with_reducible refine (Ha.out _ _ D1.p.f.a).mono ?_; rintro e w2 ⟨rfl, hb2⟩; have D2 := D1.below hb2))
        all_goals
          have HB2 := hid (bthen ((Below.refl w.heap.size w).drew.trans (hb1.mono (Nat.le_refl _))) hb2 (Nat.le_refl _))
          clear hb1 hb2 D0 D1 D2
          go_wp2
          go_ret
          exact ⟨_, rfl, HE, HB2.out⟩
      · have f3 : decide (k ≤ rm) = false := decide_eq_false e3
        have HE := hid (show false = true ↔ Okp l hd sp rm q z b x q2 z2 b2 x2 k from ⟨fun h => (by cases h), fun h => absurd h.2.2.1 e3⟩)
        clear e1 e2 e3
        go_enter Try.func97, Try.ntmps97
        go_wp2_with fail
        go_quiet (fail)
        go_wp2
        go_ret
        exact ⟨_, rfl, HE, below_drewN (Below.refl _ _) nq⟩
    · have f2 : decide (k ≤ sp) = false := decide_eq_false e2
      have HE := hid (show false = true ↔ Okp l hd sp rm q z b x q2 z2 b2 x2 k from ⟨fun h => (by cases h), fun h => absurd h.2.1 e2⟩)
      clear e1 e2
      go_enter Try.func97, Try.ntmps97
      go_wp2_with fail
      go_quiet (fail)
      go_wp2
      go_ret
      exact ⟨_, rfl, HE, below_drewN (Below.refl _ _) nq⟩
  · have f1 : decide (k ≤ l.fac * hd) = false := decide_eq_false e1
    have HE := hid (show false = true ↔ Okp l hd sp rm q z b x q2 z2 b2 x2 k from ⟨fun h => (by cases h), fun h => absurd h.1 e1⟩)
    clear e1
    go_enter Try.func97, Try.ntmps97
    go_wp2_with fail
    go_quiet (fail)
    go_wp2
    go_ret
    exact ⟨_, rfl, HE, below_drewN (Below.refl _ _) nq⟩
/-- Where a search in halves stands. -/
def Gst (P : Int → Prop) (rate lo hi : Int) : Prop := 0 ≤ lo ∧ lo ≤ hi ∧ hi ≤ rate ∧ P lo ∧ ∀ k, hi < k → k ≤ rate → ¬ P k
/-- r is the greatest number from 0 to the bound for which P holds. -/
def Gre (P : Int → Prop) (rate r : Int) : Prop := 0 ≤ r ∧ r ≤ rate ∧ P r ∧ ∀ k, r < k → k ≤ rate → ¬ P k
theorem Gre.same {P : Int → Prop} {rate r s : Int} (h : Gre P rate r) (k : Gre P rate s) : r = s := by
  rcases Int.lt_trichotomy r s with e | e | e
  · exact absurd k.2.2.1 (h.2.2.2 s e k.2.1)
  · exact e
  · exact absurd h.2.2.1 (k.2.2.2 r e h.2.1)
set_option maxRecDepth 100000 in
set_option maxHeartbeats 8000000 in
theorem greatest_any (h : Gw w gl gh gs gr g1 g2 B0 B1 l hd sp rm q z b x q2 z2 b2 x2) {rate : Int} (r0 : 0 ≤ rate) (r1 : rate ≤ 2000000000) (hf : 0 ≤ l.fac * hd ∧ l.fac * hd ≤ 1000000000000000000) (hsp : q = false → sp ≤ x) (hrm : q2 = false → rm = capB b2 - x2)
    (hz : Okp l hd sp rm q z b x q2 z2 b2 x2 0) (hmono : ∀ i k, 0 ≤ i → i ≤ k → k ≤ rate → Okp l hd sp rm q z b x q2 z2 b2 x2 k → Okp l hd sp rm q z b x q2 z2 b2 x2 i) :
    Calls Try.prog 98 #[.int .i64 rate, .func (.func 97) #[] #[.pointer (some ⟨gl, 0, none⟩), .pointer (some ⟨gh, 0, none⟩), .pointer (some ⟨gs, 0, none⟩), .pointer (some ⟨gr, 0, none⟩), .pointer (some ⟨g1, 0, none⟩), .pointer (some ⟨g2, 0, none⟩)]] w fun e w' => ∃ r : Int, e = .returned (.int .i64 r) ∧ Hid (Gre (Okp l hd sp rm q z b x q2 z2 b2 x2) rate r) ∧ Below w.heap.size w w' := by
  have Hp := hid (fun (W : World) (h : Gw W gl gh gs gr g1 g2 B0 B1 l hd sp rm q z b x q2 z2 b2 x2) (k : Int) (k0 : 0 ≤ k) (k1 : k ≤ 2000000000) => passes_any h k0 k1 hf hsp hrm)
  obtain ⟨P, hP⟩ : ∃ P, Okp l hd sp rm q z b x q2 z2 b2 x2 = P := ⟨_, rfl⟩
  rw [hP] at hz hmono Hp ⊢
  have Hmono := hid hmono
  have Hz := hid (show Gst P rate 0 rate from ⟨Int.le_refl _, r0, Int.le_refl _, hz, fun k h1 h2 => by omega⟩)
  have Hh := hid h
  clear hz hmono hP hf hsp hrm h
  go_enter Try.func98, Try.ntmps98
  go_wp2_with fail
  go_loopw [5, 6] (fun lv mv wr => ∃ (lo hi : Int), lv = .int .i64 lo ∧ mv = .int .i64 hi ∧ Hid (Gst P rate lo hi) ∧ Below w.heap.size w wr) (fun lv mv _ => (intOf mv - intOf lv).toNat)
  case atStart => exact ⟨0, rate, rfl, rfl, Hz, Below.refl _ _⟩
  case round =>
    obtain ⟨lo, hi, rfl, rfl, HG, hbel⟩ := hrel
    obtain ⟨g0, g1', g2', gP, gN⟩ := HG.out
    have GP := hid gP
    have GN := hid gN
    have K := Hh.out.below hbel
    have Hbel := hid hbel
    clear gP gN hbel
    by_cases hlt : lo < hi
    · have dlt : decide (lo < hi) = true := decide_eq_true hlt
      obtain ⟨d, hd'⟩ : ∃ d, (hi - lo).tdiv 2 = d := ⟨_, rfl⟩
      have hd2 : d = (hi - lo) / 2 := by rw [← hd']; exact Int.tdiv_eq_ediv_of_nonneg (by omega)
      have hd3 : 0 ≤ d ∧ d < hi - lo + 1 ∧ lo < hi - d := by omega
      have hw1 : IntKind.i64.wrap (hi - lo) = hi - lo := IntWalk.i64_in _ (by omega)
      have hw2 : IntKind.i64.wrap ((hi - lo).tdiv 2) = d := by rw [hd']; exact IntWalk.i64_in _ (by omega)
      have hw3 : IntKind.i64.wrap (hi - d) = hi - d := IntWalk.i64_in _ (by omega)
      have hw4 : IntKind.i64.wrap (hi - d - 1) = hi - d - 1 := IntWalk.i64_in _ (by omega)
      clear hd2
      go_wp2_with fail
      refine (Hp.out _ K (hi - d) (by omega) (by omega)).mono ?_
      rintro e w2 ⟨p, rfl, hp, hb⟩
      have HB2 := hid (bthen Hbel.out hb (Nat.le_refl _))
      clear hb K
      cases p with
      | true =>
        have HN := hid (show Gst P rate (hi - d) hi from ⟨by omega, by omega, g2', hp.out.1 rfl, GN.out⟩)
        go_wp2
        go_roundw
        case rel => exact ⟨hi - d, hi, rfl, rfl, HN, HB2.out⟩
        case measure => simp [intOf]; omega
      | false =>
        have HN := hid (show Gst P rate lo (hi - d - 1) from ⟨g0, by omega, by omega, GP.out, fun k h1 h2 hk => absurd (hp.out.2 (Hmono.out (hi - d) k (by omega) (by omega) h2 hk)) (by decide)⟩)
        go_wp2
        go_roundw
        case rel => exact ⟨lo, hi - d - 1, rfl, rfl, HN, HB2.out⟩
        case measure => simp [intOf]; omega
    · have dlt : decide (lo < hi) = false := decide_eq_false hlt
      have e : lo = hi := by omega
      subst e
      have HE := hid (show Gre P rate lo from ⟨g0, g2', GP.out, GN.out⟩)
      go_wp2
      go_ret
      exact ⟨lo, rfl, HE, Hbel.out⟩
end

end Go.Proofs.Ytockfiobhmohnaa

namespace Go.Proofs.Ytockfiobhmohnaa
open Go.RowKit Go.Maps Kb Wb

theorem lvB_mono {b : Bd} (B : Bas b.F b.S b.n b.rim) {u v : Int} (h0 : 0 ≤ u) (h : u ≤ v) (h1 : v ≤ capB b) : lvB b u ≤ lvB b v := by
  have a := lvB_lev B h0 (by omega)
  have c := lvB_lev B (v := v) (by omega) h1
  rcases Int.lt_or_le (lvB b v) (lvB b u) with e | e
  · have hr := a.hi
    have n1 := c.next (by omega)
    have n2 := below_mono B (show lvB b v + 1 ≤ lvB b u by omega)
    have n3 := a.at_
    omega
  · exact e
/-- The litres v may be moved to or from a side. -/
def Fits (q : Bool) (b : Bd) (x v : Int) : Prop := q = false → 0 ≤ x + v ∧ x + v ≤ capB b
theorem slev_mono {w : World} {B0 : Nat} {q : Bool} {z : Int} {b : Bd} {x : Int} (h : Sok w B0 q z b x) {u v : Int} (hu : Fits q b x u) (hv : Fits q b x v) (huv : u ≤ v) : slev q z b x u ≤ slev q z b x v := by
  cases q with
  | true => exact Int.le_refl _
  | false => exact lvB_mono (h.bas rfl) (hu rfl).1 (by omega) (hv rfl).2
section
variable {w w2 : World} {B0 B1 : Nat} {l : Ld} {hd sp rm : Int} {q : Bool} {z : Int} {b : Bd} {x : Int} {q2 : Bool} {z2 : Int} {b2 : Bd} {x2 : Int}
theorem Okp.fits (h : Sok w B0 q z b x) (k : Sok w2 B1 q2 z2 b2 x2) (hsp : q = false → sp ≤ x) (hrm : q2 = false → rm = capB b2 - x2) {i : Int} (i0 : 0 ≤ i) (h1 : i ≤ sp) (h2 : i ≤ rm) : Fits q b x (-i) ∧ Fits q2 b2 x2 i := by
  refine ⟨fun e => ?_, fun e => ?_⟩
  · have := hsp e
    have := h.x0 e
    omega
  · have := hrm e
    have := k.x0 e
    omega
theorem Okp.mono (h : Sok w B0 q z b x) (k : Sok w2 B1 q2 z2 b2 x2) (hsp : q = false → sp ≤ x) (hrm : q2 = false → rm = capB b2 - x2) {i j : Int} (i0 : 0 ≤ i) (ij : i ≤ j) (hj : Okp l hd sp rm q z b x q2 z2 b2 x2 j) : Okp l hd sp rm q z b x q2 z2 b2 x2 i := by
  obtain ⟨h1, h2, h3, h4⟩ := hj
  obtain ⟨a1, a2⟩ := Okp.fits h k hsp hrm i0 (show i ≤ sp by omega) (show i ≤ rm by omega)
  obtain ⟨c1, c2⟩ := Okp.fits h k hsp hrm (show 0 ≤ j by omega) h2 h3
  have m1 := slev_mono h c1 a1 (show -j ≤ -i by omega)
  have m2 := slev_mono k a2 c2 ij
  exact ⟨by omega, by omega, by omega, by omega⟩
theorem Okp.zero (h : Sok w B0 q z b x) (k : Sok w2 B1 q2 z2 b2 x2) (hf : 0 ≤ l.fac) (hhd : 0 < slev q z b x 0 - max l.sill (slev q2 z2 b2 x2 0)) : Okp l (slev q z b x 0 - max l.sill (slev q2 z2 b2 x2 0)) (sabo q b x l.sill) (sroom q2 b2 x2) q z b x q2 z2 b2 x2 0 := by
  refine ⟨Int.mul_nonneg hf (by omega), ?_, ?_, ?_⟩
  · cases q with
    | true => show (0 : Int) ≤ 9223372036854775807; omega
    | false =>
      show 0 ≤ x - volB b l.sill
      have B := h.bas rfl
      have hx := h.x0 rfl
      have e : slev false z b x 0 = lvB b x := by show lvB b (x + 0) = lvB b x; rw [Int.add_zero]
      rw [e] at hhd
      have a := (lvB_lev B hx.1 hx.2).at_
      have m := below_mono B (show l.sill ≤ lvB b x by omega)
      have : volB b l.sill = wbelow b.F b.S b.n l.sill := rfl
      omega
  · cases q2 with
    | true => show (0 : Int) ≤ 9223372036854775807; omega
    | false =>
      show 0 ≤ capB b2 - x2
      have := k.x0 rfl
      omega
  · rw [Int.neg_zero]
    omega
theorem sabo_le (h : Sok w B0 q z b x) {s : Int} (hs : s ≤ 1000000) : q = false → sabo q b x s ≤ x := fun e => by
  subst e
  have := volB_range (h.bas rfl) hs
  show x - volB b s ≤ x
  omega
theorem sroom_is : q2 = false → sroom q2 b2 x2 = capB b2 - x2 := fun e => by subst e; rfl
end

/-- What a link may carry: the test of the reference. -/
def Mayp (P : Int → Prop) (rate k : Int) : Prop := k ≤ rate ∧ P k
/-- Where the search in steps stands. -/
def Bst (P : Int → Prop) (q step : Int) : Prop := 0 ≤ q ∧ P q ∧ ((∃ j : Nat, j ≤ 30 ∧ step = 2 ^ j ∧ ∀ k, q + 2 * step ≤ k → ¬ P k) ∨ (step = 0 ∧ ∀ k, q + 1 ≤ k → ¬ P k))
theorem Bst.start {P : Int → Prop} {rate : Int} (h0 : P 0) (hr : rate ≤ 2000000000) (h : ∀ k, P k → k ≤ rate) : Bst P 0 1073741824 :=
  ⟨Int.le_refl _, h0, .inl ⟨30, Nat.le_refl _, by decide, fun k hk hp => by have := h k hp; omega⟩⟩
theorem pow_half (j : Nat) : ((2 : Int) ^ (j + 1)) / 2 = 2 ^ j := by
  rw [Int.pow_succ]
  omega
theorem pow_ge (j : Nat) : (1 : Int) ≤ 2 ^ j := by
  have := Int.pow_pos (n := (2 : Int)) (m := j) (by decide)
  omega
theorem Bst.next {P : Int → Prop} {q step : Int} (h : Bst P q step) (hs : 0 < step) (hm : ∀ i k, 0 ≤ i → i ≤ k → P k → P i) : (P (q + step) → Bst P (q + step) (step / 2)) ∧ (¬ P (q + step) → Bst P q (step / 2)) := by
  obtain ⟨h0, hq, ⟨j, hj, he, hn⟩ | ⟨e, _⟩⟩ := h
  · match j, hj, he with
    | 0, _, he =>
      have e1 : step = 1 := by rw [he]; rfl
      subst e1
      exact ⟨fun hp => ⟨by omega, hp, .inr ⟨by decide, fun k hk => hn k (by omega)⟩⟩, fun hp => ⟨h0, hq, .inr ⟨by decide, fun k hk hh => hp (hm (q + 1) k (by omega) hk hh)⟩⟩⟩
    | j + 1, hj, he =>
      have e2 : step / 2 = 2 ^ j := by rw [he]; exact pow_half j
      have e3 : 2 * (step / 2) = step := by rw [e2, he, Int.pow_succ]; omega
      exact ⟨fun hp => ⟨by omega, hp, .inl ⟨j, by omega, e2, fun k hk => hn k (by omega)⟩⟩, fun hp => ⟨h0, hq, .inl ⟨j, by omega, e2, fun k hk hh => hp (hm (q + step) k (by omega) (by omega) hh)⟩⟩⟩
  · omega
theorem Bst.done {P : Int → Prop} {rate q : Int} (h : Bst (Mayp P rate) q 0) : Gre P rate q := by
  obtain ⟨h0, hq, ⟨j, hj, he, hn⟩ | ⟨_, hn⟩⟩ := h
  · have := pow_ge j; omega
  · exact ⟨h0, hq.1, hq.2, fun k h1 h2 hp => hn k (by omega) ⟨h2, hp⟩⟩

end Go.Proofs.Ytockfiobhmohnaa

namespace Go.Proofs.Ytockfiobhmohnaa
open Go.RowKit Go.Maps Kb Wb

theorem below_two_ (w : World) (o1 o2 : Obj) : Below w.heap.size w ((w.alloc o1).alloc o2) := ((Below.refl w.heap.size w).alloc (Nat.le_refl _) o1).alloc (by simp) o2
theorem box1 (w : World) (o1 o2 : Obj) : Bk ((w.alloc o1).alloc o2) w.heap.size o1 := (Bk.of_alloc w o1 rfl).alloc o2
theorem box2 (w : World) (o1 o2 : Obj) : Bk ((w.alloc o1).alloc o2) (w.heap.size + 1) o2 := Bk.of_alloc (w.alloc o1) o2 (by simp)
theorem bth {B : Nat} {w w1 w2 : World} (h1 : Below B w w1) (h2 : Below w1.heap.size w1 w2) (hB : B ≤ w1.heap.size) : Below B w w2 := h1.trans (h2.mono hB)
theorem Bk_grown {w w' : World} {g r : Nat} {o : Obj} (h : Bk w g o) (hb : w.grownBy w' (some r)) (hne : g ≠ r) : Bk w' g o := (hb.block g h.lt (fun e => hne (by injection e))).trans h
/-- A new box, not yet written, at B or behind it. -/
def Nw (o : Obj) (w : World) (g B : Nat) : Prop := Bk w g o ∧ B ≤ g
section
variable {W v w u : World} {o p : Obj} {B g : Nat}
theorem Nw.step (h : Nw o v g B) (hb : Below v.heap.size v u) : Nw o u g B := ⟨h.1.step hb, h.2⟩
theorem Nw.ge (h : Nw o v g B) : B ≤ g := h.2
theorem Nw.bk (h : Nw o v g B) : Bk v g o := h.1
theorem Nw.lt (h : Nw o v g B) : g < v.heap.size := h.1.lt
theorem al1 : Below W.heap.size W (W.alloc o) := (Below.refl _ _).alloc (Nat.le_refl _) o
theorem al2 : Below W.heap.size W ((W.alloc o).alloc p) := below_two_ W o p
theorem dr1 : Below W.heap.size W (W.alloc o).drew := al1.drew
theorem dr2 : Below W.heap.size W ((W.alloc o).alloc p).drew := al2.drew
theorem sd0 (hb : Below W.drew.heap.size W.drew v) : Below W.heap.size W v := bthen dr0 hb (Nat.le_refl _)
theorem sn1 (hN : B ≤ W.heap.size) (hb : Below (W.alloc o).drew.heap.size (W.alloc o).drew v) : Below W.heap.size W v ∧ Nw o v W.heap.size B :=
  ⟨bthen dr1 hb (Nat.le_refl _), Nw.step (v := (W.alloc o).drew) ⟨show Bk (W.alloc o) W.heap.size _ from Bk.of_alloc W _ rfl, hN⟩ hb⟩
theorem sn2 (hN : B ≤ W.heap.size) (hb : Below ((W.alloc o).alloc p).drew.heap.size ((W.alloc o).alloc p).drew v) : Below W.heap.size W v ∧ Nw o v W.heap.size B ∧ Nw p v (W.heap.size + 1) B :=
  ⟨bthen dr2 hb (Nat.le_refl _), Nw.step (v := ((W.alloc o).alloc p).drew) ⟨show Bk ((W.alloc o).alloc p) W.heap.size _ from box1 _ _ _, hN⟩ hb, Nw.step (v := ((W.alloc o).alloc p).drew) ⟨show Bk ((W.alloc o).alloc p) (W.heap.size + 1) _ from box2 _ _ _, Nat.le_succ_of_le hN⟩ hb⟩
theorem tn1 (hN : B ≤ W.heap.size) (hb : Below (W.alloc o).heap.size (W.alloc o) v) : Below W.heap.size W v ∧ Nw o v W.heap.size B :=
  ⟨bthen al1 hb (Nat.le_refl _), Nw.step (v := W.alloc o) ⟨Bk.of_alloc W _ rfl, hN⟩ hb⟩
theorem tn2 (hN : B ≤ W.heap.size) (hb : Below ((W.alloc o).alloc p).heap.size ((W.alloc o).alloc p) v) : Below W.heap.size W v ∧ Nw o v W.heap.size B ∧ Nw p v (W.heap.size + 1) B :=
  ⟨bthen al2 hb (Nat.le_refl _), Nw.step (v := (W.alloc o).alloc p) ⟨box1 _ _ _, hN⟩ hb, Nw.step (v := (W.alloc o).alloc p) ⟨box2 _ _ _, Nat.le_succ_of_le hN⟩ hb⟩
end
/-- Two variables have been made behind B. -/
def Tv (B : Nat) (W0 : World) (o1 o2 : Obj) (s t : Value) (w : World) : Prop :=
  ∃ g h, s = .pointer (some ⟨g, 0, none⟩) ∧ t = .pointer (some ⟨h, 0, none⟩) ∧ B ≤ g ∧ B ≤ h ∧ Bk w g o1 ∧ Bk w h o2 ∧ Below B W0 w
section
variable {W0 w : World} {g h B : Nat} {T : TypeId} {z0 u0 v0 : Value} {o : Obj}
theorem Nw.c1 (h : Nw (.cells #[z0] T (0, 0)) w g B) : w.cell? ⟨g, 0, none⟩ = some z0 ∧ w.frozen? ⟨g, 0, none⟩ = false :=
  ⟨cell_of_row _ _ 0 _ _ _ h.1, Bk.fz h.1 0⟩
theorem gbn1 (w : World) (g : Nat) (u0 : Value) : w.grownBy (w.setCell ⟨g, 0, none⟩ u0) (some g) := gb_set (World.grownBy.refl _ _) 0 u0
theorem bset1 (hM : Below B W0 w) (hg : B ≤ g) : Below B W0 (w.setCell ⟨g, 0, none⟩ u0) := hM.setCell (p := ⟨g, 0, none⟩) hg u0
theorem Nw.set1 (q : Nw o w h B) (hne : h ≠ g) : Nw o (w.setCell ⟨g, 0, none⟩ u0) h B := ⟨Bk_grown q.1 (gbn1 w g u0) hne, q.2⟩
theorem fill1 (q : Bk w g (.cells #[z0] T (0, 0))) : Bk (w.setCell ⟨g, 0, none⟩ u0) g (.cells #[u0] T (0, 0)) := by
  unfold Bk at q ⊢
  simp only [World.setCell, Array.getElem?_modify, q]
  simp
theorem tv1_1 (hM : Below B W0 w) (hN : B ≤ w.heap.size) :
    Tv B W0 (.cells #[u0] T (0, 0)) (.cells #[v0] T (0, 0)) (.pointer (some ⟨w.heap.size, 0, none⟩)) (.pointer (some ⟨w.heap.size + 1, 0, none⟩)) ((w.alloc (.cells #[u0] T)).alloc (.cells #[v0] T)) :=
  ⟨_, _, rfl, rfl, hN, Nat.le_succ_of_le hN, box1 _ _ _, box2 _ _ _, bth hM al2 hN⟩
theorem tv2_1 (hM : Below B W0 w) (hN : B ≤ w.heap.size) :
    Tv B W0 (.cells #[u0] T (0, 0)) (.cells #[v0] T (0, 0)) (.pointer (some ⟨w.heap.size + 1, 0, none⟩)) (.pointer (some ⟨w.heap.size, 0, none⟩)) ((w.alloc (.cells #[v0] T)).alloc (.cells #[u0] T)) :=
  ⟨_, _, rfl, rfl, Nat.le_succ_of_le hN, hN, box2 _ _ _, box1 _ _ _, bth hM al2 hN⟩
theorem tv3_1 (hM : Below B W0 w) (hN : B ≤ w.heap.size) (q : Nw (.cells #[z0] T (0, 0)) w g B) :
    Tv B W0 (.cells #[u0] T (0, 0)) (.cells #[v0] T (0, 0)) (.pointer (some ⟨g, 0, none⟩)) (.pointer (some ⟨w.heap.size, 0, none⟩)) ((w.setCell ⟨g, 0, none⟩ u0).alloc (.cells #[v0] T)) :=
  ⟨_, _, rfl, rfl, q.2, hN, (fill1 q.1).alloc _, Bk.of_alloc _ _ (by simp [World.setCell]), (bset1 hM q.2).alloc (by simpa [World.setCell] using hN) _⟩
theorem tv4_1 (hM : Below B W0 w) (hN : B ≤ w.heap.size) (q : Nw (.cells #[z0] T (0, 0)) w h B) :
    Tv B W0 (.cells #[u0] T (0, 0)) (.cells #[v0] T (0, 0)) (.pointer (some ⟨w.heap.size, 0, none⟩)) (.pointer (some ⟨h, 0, none⟩)) ((w.setCell ⟨h, 0, none⟩ v0).alloc (.cells #[u0] T)) :=
  ⟨_, _, rfl, rfl, hN, q.2, Bk.of_alloc _ _ (by simp [World.setCell]), (fill1 q.1).alloc _, (bset1 hM q.2).alloc (by simpa [World.setCell] using hN) _⟩
theorem tv5_1 (hM : Below B W0 w) (q : Nw (.cells #[z0] T (0, 0)) w g B) (q' : Nw (.cells #[z0] T (0, 0)) w h B) (hne : g ≠ h) :
    Tv B W0 (.cells #[u0] T (0, 0)) (.cells #[v0] T (0, 0)) (.pointer (some ⟨g, 0, none⟩)) (.pointer (some ⟨h, 0, none⟩)) ((w.setCell ⟨g, 0, none⟩ u0).setCell ⟨h, 0, none⟩ v0) :=
  ⟨_, _, rfl, rfl, q.2, q'.2, Bk_grown (fill1 q.1) (gbn1 _ h v0) hne, fill1 (q'.set1 (fun e => hne e.symm)).1, bset1 (bset1 hM q.2) q'.2⟩
end
section
variable {W0 w : World} {g h B : Nat} {T : TypeId} {z0 z1 z2 z3 z4 z5 u0 u1 u2 u3 u4 u5 v0 v1 v2 v3 v4 v5 : Value} {o : Obj}
theorem Nw.c6 (h : Nw (.cells #[z0, z1, z2, z3, z4, z5] T (0, 0)) w g B) : w.cell? ⟨g, 0, none⟩ = some z0 ∧ w.frozen? ⟨g, 0, none⟩ = false ∧ w.cell? ⟨g, 1, none⟩ = some z1 ∧ w.frozen? ⟨g, 1, none⟩ = false ∧ w.cell? ⟨g, 2, none⟩ = some z2 ∧ w.frozen? ⟨g, 2, none⟩ = false ∧ w.cell? ⟨g, 3, none⟩ = some z3 ∧ w.frozen? ⟨g, 3, none⟩ = false ∧ w.cell? ⟨g, 4, none⟩ = some z4 ∧ w.frozen? ⟨g, 4, none⟩ = false ∧ w.cell? ⟨g, 5, none⟩ = some z5 ∧ w.frozen? ⟨g, 5, none⟩ = false :=
  ⟨cell_of_row _ _ 0 _ _ _ h.1, Bk.fz h.1 0, cell_of_row _ _ 1 _ _ _ h.1, Bk.fz h.1 1, cell_of_row _ _ 2 _ _ _ h.1, Bk.fz h.1 2, cell_of_row _ _ 3 _ _ _ h.1, Bk.fz h.1 3, cell_of_row _ _ 4 _ _ _ h.1, Bk.fz h.1 4, cell_of_row _ _ 5 _ _ _ h.1, Bk.fz h.1 5⟩
theorem gbn6 (w : World) (g : Nat) (u0 u1 u2 u3 u4 u5 : Value) : w.grownBy ((((((w.setCell ⟨g, 0, none⟩ u0).setCell ⟨g, 1, none⟩ u1).setCell ⟨g, 2, none⟩ u2).setCell ⟨g, 3, none⟩ u3).setCell ⟨g, 4, none⟩ u4).setCell ⟨g, 5, none⟩ u5) (some g) := gb_set (gb_set (gb_set (gb_set (gb_set (gb_set (World.grownBy.refl _ _) 0 u0) 1 u1) 2 u2) 3 u3) 4 u4) 5 u5
theorem bset6 (hM : Below B W0 w) (hg : B ≤ g) : Below B W0 ((((((w.setCell ⟨g, 0, none⟩ u0).setCell ⟨g, 1, none⟩ u1).setCell ⟨g, 2, none⟩ u2).setCell ⟨g, 3, none⟩ u3).setCell ⟨g, 4, none⟩ u4).setCell ⟨g, 5, none⟩ u5) := (((((hM.setCell (p := ⟨g, 0, none⟩) hg u0).setCell (p := ⟨g, 1, none⟩) hg u1).setCell (p := ⟨g, 2, none⟩) hg u2).setCell (p := ⟨g, 3, none⟩) hg u3).setCell (p := ⟨g, 4, none⟩) hg u4).setCell (p := ⟨g, 5, none⟩) hg u5
theorem Nw.set6 (q : Nw o w h B) (hne : h ≠ g) : Nw o ((((((w.setCell ⟨g, 0, none⟩ u0).setCell ⟨g, 1, none⟩ u1).setCell ⟨g, 2, none⟩ u2).setCell ⟨g, 3, none⟩ u3).setCell ⟨g, 4, none⟩ u4).setCell ⟨g, 5, none⟩ u5) h B := ⟨Bk_grown q.1 (gbn6 w g u0 u1 u2 u3 u4 u5) hne, q.2⟩
theorem fill6 (q : Bk w g (.cells #[z0, z1, z2, z3, z4, z5] T (0, 0))) : Bk ((((((w.setCell ⟨g, 0, none⟩ u0).setCell ⟨g, 1, none⟩ u1).setCell ⟨g, 2, none⟩ u2).setCell ⟨g, 3, none⟩ u3).setCell ⟨g, 4, none⟩ u4).setCell ⟨g, 5, none⟩ u5) g (.cells #[u0, u1, u2, u3, u4, u5] T (0, 0)) := by
  unfold Bk at q ⊢
  simp only [World.setCell, Array.getElem?_modify, q]
  simp
theorem tv1_6 (hM : Below B W0 w) (hN : B ≤ w.heap.size) :
    Tv B W0 (.cells #[u0, u1, u2, u3, u4, u5] T (0, 0)) (.cells #[v0, v1, v2, v3, v4, v5] T (0, 0)) (.pointer (some ⟨w.heap.size, 0, none⟩)) (.pointer (some ⟨w.heap.size + 1, 0, none⟩)) ((w.alloc (.cells #[u0, u1, u2, u3, u4, u5] T)).alloc (.cells #[v0, v1, v2, v3, v4, v5] T)) :=
  ⟨_, _, rfl, rfl, hN, Nat.le_succ_of_le hN, box1 _ _ _, box2 _ _ _, bth hM al2 hN⟩
theorem tv2_6 (hM : Below B W0 w) (hN : B ≤ w.heap.size) :
    Tv B W0 (.cells #[u0, u1, u2, u3, u4, u5] T (0, 0)) (.cells #[v0, v1, v2, v3, v4, v5] T (0, 0)) (.pointer (some ⟨w.heap.size + 1, 0, none⟩)) (.pointer (some ⟨w.heap.size, 0, none⟩)) ((w.alloc (.cells #[v0, v1, v2, v3, v4, v5] T)).alloc (.cells #[u0, u1, u2, u3, u4, u5] T)) :=
  ⟨_, _, rfl, rfl, Nat.le_succ_of_le hN, hN, box2 _ _ _, box1 _ _ _, bth hM al2 hN⟩
theorem tv3_6 (hM : Below B W0 w) (hN : B ≤ w.heap.size) (q : Nw (.cells #[z0, z1, z2, z3, z4, z5] T (0, 0)) w g B) :
    Tv B W0 (.cells #[u0, u1, u2, u3, u4, u5] T (0, 0)) (.cells #[v0, v1, v2, v3, v4, v5] T (0, 0)) (.pointer (some ⟨g, 0, none⟩)) (.pointer (some ⟨w.heap.size, 0, none⟩)) (((((((w.setCell ⟨g, 0, none⟩ u0).setCell ⟨g, 1, none⟩ u1).setCell ⟨g, 2, none⟩ u2).setCell ⟨g, 3, none⟩ u3).setCell ⟨g, 4, none⟩ u4).setCell ⟨g, 5, none⟩ u5).alloc (.cells #[v0, v1, v2, v3, v4, v5] T)) :=
  ⟨_, _, rfl, rfl, q.2, hN, (fill6 q.1).alloc _, Bk.of_alloc _ _ (by simp [World.setCell]), (bset6 hM q.2).alloc (by simpa [World.setCell] using hN) _⟩
theorem tv4_6 (hM : Below B W0 w) (hN : B ≤ w.heap.size) (q : Nw (.cells #[z0, z1, z2, z3, z4, z5] T (0, 0)) w h B) :
    Tv B W0 (.cells #[u0, u1, u2, u3, u4, u5] T (0, 0)) (.cells #[v0, v1, v2, v3, v4, v5] T (0, 0)) (.pointer (some ⟨w.heap.size, 0, none⟩)) (.pointer (some ⟨h, 0, none⟩)) (((((((w.setCell ⟨h, 0, none⟩ v0).setCell ⟨h, 1, none⟩ v1).setCell ⟨h, 2, none⟩ v2).setCell ⟨h, 3, none⟩ v3).setCell ⟨h, 4, none⟩ v4).setCell ⟨h, 5, none⟩ v5).alloc (.cells #[u0, u1, u2, u3, u4, u5] T)) :=
  ⟨_, _, rfl, rfl, hN, q.2, Bk.of_alloc _ _ (by simp [World.setCell]), (fill6 q.1).alloc _, (bset6 hM q.2).alloc (by simpa [World.setCell] using hN) _⟩
theorem tv5_6 (hM : Below B W0 w) (q : Nw (.cells #[z0, z1, z2, z3, z4, z5] T (0, 0)) w g B) (q' : Nw (.cells #[z0, z1, z2, z3, z4, z5] T (0, 0)) w h B) (hne : g ≠ h) :
    Tv B W0 (.cells #[u0, u1, u2, u3, u4, u5] T (0, 0)) (.cells #[v0, v1, v2, v3, v4, v5] T (0, 0)) (.pointer (some ⟨g, 0, none⟩)) (.pointer (some ⟨h, 0, none⟩)) ((((((((((((w.setCell ⟨g, 0, none⟩ u0).setCell ⟨g, 1, none⟩ u1).setCell ⟨g, 2, none⟩ u2).setCell ⟨g, 3, none⟩ u3).setCell ⟨g, 4, none⟩ u4).setCell ⟨g, 5, none⟩ u5).setCell ⟨h, 0, none⟩ v0).setCell ⟨h, 1, none⟩ v1).setCell ⟨h, 2, none⟩ v2).setCell ⟨h, 3, none⟩ v3).setCell ⟨h, 4, none⟩ v4).setCell ⟨h, 5, none⟩ v5) :=
  ⟨_, _, rfl, rfl, q.2, q'.2, Bk_grown (fill6 q.1) (gbn6 _ h v0 v1 v2 v3 v4 v5) hne, fill6 (q'.set6 (fun e => hne e.symm)).1, bset6 (bset6 hM q.2) q'.2⟩
end

end Go.Proofs.Ytockfiobhmohnaa

