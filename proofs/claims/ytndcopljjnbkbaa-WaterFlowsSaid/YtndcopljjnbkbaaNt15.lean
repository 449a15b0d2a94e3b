/- Networks: pumped of the program. -/
import Derived.Test.YtndcopljjnbkbaaNt14
namespace Go.Proofs.Ytndcopljjnbkbaa
open Go.RowKit Go.Maps Kb Wb

theorem slev_range {w : World} {B0 : Nat} {q : Bool} {z : Int} {b : Bd} {x : Int} (h : Sok w B0 q z b x) {v : Int} (hv : q = false → 0 ≤ x + v ∧ x + v ≤ capB b) : -4000000 ≤ slev q z b x v ∧ slev q z b x v ≤ 4000000 := by
  cases q with
  | true => exact h.z
  | false =>
    have := lvB_range (h.bas rfl) (hv rfl).1 (hv rfl).2
    show -4000000 ≤ lvB b (x + v) ∧ lvB b (x + v) ≤ 4000000
    omega
theorem Sok.v0 {w : World} {B0 : Nat} {q : Bool} {z : Int} {b : Bd} {x : Int} (h : Sok w B0 q z b x) : q = false → 0 ≤ x + 0 ∧ x + 0 ≤ capB b := fun e => by
  rw [Int.add_zero]
  exact h.x0 e
/-- A link and two sides in boxes. -/
structure Pw (w : World) (gl g1 g2 B0 B1 : Nat) (l : Ld) (q : Bool) (z : Int) (b : Bd) (x : Int) (q2 : Bool) (z2 : Int) (b2 : Bd) (x2 : Int) : Prop where
  k : Bk w gl (.cells #[.string l.nm, .int .i64 l.kind, .string l.fr, .string l.tw, .int .i64 l.sill, .int .i64 l.rate, .int .i64 l.fac, .int .i64 l.lift] 59)
  f : Sx w g1 B0 q z b x
  t : Sx w g2 B1 q2 z2 b2 x2
section
variable {w w' : World} {gl g1 g2 B0 B1 : Nat} {l : Ld} {q : Bool} {z : Int} {b : Bd} {x : Int} {q2 : Bool} {z2 : Int} {b2 : Bd} {x2 : Int}
theorem Pw.below (h : Pw w gl g1 g2 B0 B1 l q z b x q2 z2 b2 x2) (hb : Below w.heap.size w w') : Pw w' gl g1 g2 B0 B1 l q z b x q2 z2 b2 x2 := ⟨h.k.step hb, h.f.below hb, h.t.below hb⟩
theorem Pw.cells (h : Pw w gl g1 g2 B0 B1 l q z b x q2 z2 b2 x2) : w.cell? ⟨gl, 4, none⟩ = some (.int .i64 l.sill) ∧ w.cell? ⟨gl, 5, none⟩ = some (.int .i64 l.rate) ∧ w.cell? ⟨gl, 6, none⟩ = some (.int .i64 l.fac) ∧ w.cell? ⟨gl, 7, none⟩ = some (.int .i64 l.lift) ∧ w.cell? ⟨g1, 0, none⟩ = some (.bool q) ∧ w.cell? ⟨g1, 1, none⟩ = some (.int .i64 z) ∧ w.cell? ⟨g1, 2, none⟩ = some (.string b.nm) ∧ w.cell? ⟨g1, 3, none⟩ = some (.slice b.A b.n b.c) ∧ w.cell? ⟨g1, 4, none⟩ = some (.int .i64 b.rim) ∧ w.cell? ⟨g1, 5, none⟩ = some (.int .i64 x) ∧ w.cell? ⟨g2, 0, none⟩ = some (.bool q2) ∧ w.cell? ⟨g2, 1, none⟩ = some (.int .i64 z2) ∧ w.cell? ⟨g2, 2, none⟩ = some (.string b2.nm) ∧ w.cell? ⟨g2, 3, none⟩ = some (.slice b2.A b2.n b2.c) ∧ w.cell? ⟨g2, 4, none⟩ = some (.int .i64 b2.rim) ∧ w.cell? ⟨g2, 5, none⟩ = some (.int .i64 x2) := by
  have hh := fun i => cell_of_row w _ i _ _ _ h.k
  obtain ⟨a0, a1, a2, a3, a4, a5⟩ := h.f.cells
  obtain ⟨c0, c1, c2, c3, c4, c5⟩ := h.t.cells
  exact ⟨hh 4, hh 5, hh 6, hh 7, a0, a1, a2, a3, a4, a5, c0, c1, c2, c3, c4, c5⟩
theorem Pw.new (l : Ld) (h : Sok w B0 q z b x) (k : Sok w B1 q2 z2 b2 x2) {gl g1 g2 : Nat} (hg : w.heap.size = gl) (hg1 : gl + 1 = g1) (hg2 : g1 + 1 = g2) : Pw (((w.alloc (.cells #[.string l.nm, .int .i64 l.kind, .string l.fr, .string l.tw, .int .i64 l.sill, .int .i64 l.rate, .int .i64 l.fac, .int .i64 l.lift] 59)).alloc (.cells #[.bool q, .int .i64 z, .string b.nm, .slice b.A b.n b.c, .int .i64 b.rim, .int .i64 x] 127)).alloc (.cells #[.bool q2, .int .i64 z2, .string b2.nm, .slice b2.A b2.n b2.c, .int .i64 b2.rim, .int .i64 x2] 127)) gl g1 g2 B0 B1 l q z b x q2 z2 b2 x2 := by
  subst hg; subst hg1; subst hg2
  exact ⟨((Bk.of_alloc w _ rfl).alloc _).alloc _, (Sx.new (h.below alo) (by simp)).below alo, Sx.new ((k.below alo).below alo) (by simp)⟩
end

section
variable {w : World} {B0 B1 : Nat} {q : Bool} {z : Int} {b : Bd} {x : Int} {q2 : Bool} {z2 : Int} {b2 : Bd} {x2 : Int}
set_option maxRecDepth 100000 in
set_option maxHeartbeats 8000000 in
theorem pumped_any (l : Ld) (h : Sok w B0 q z b x) (k : Sok w B1 q2 z2 b2 x2) :
    Calls Try.prog 88 #[.agg #[.string l.nm, .int .i64 l.kind, .string l.fr, .string l.tw, .int .i64 l.sill, .int .i64 l.rate, .int .i64 l.fac, .int .i64 l.lift], .agg #[.bool q, .int .i64 z, .string b.nm, .slice b.A b.n b.c, .int .i64 b.rim, .int .i64 x], .agg #[.bool q2, .int .i64 z2, .string b2.nm, .slice b2.A b2.n b2.c, .int .i64 b2.rim, .int .i64 x2]] w fun e w' => e = .returned (.int .i64 (if l.lift < slev q2 z2 b2 x2 0 - slev q z b x 0 then 0 else min (min l.rate (sabo q b x (-1000000))) (sroom q2 b2 x2))) ∧ Below w.heap.size w w' := by
  obtain ⟨gl, hg⟩ : ∃ g, w.heap.size = g := ⟨_, rfl⟩
  obtain ⟨g1, hg1⟩ : ∃ g, gl + 1 = g := ⟨_, rfl⟩
  obtain ⟨g2, hg2⟩ : ∃ g, g1 + 1 = g := ⟨_, rfl⟩
  have hb0 := (((Below.refl w.heap.size w).alloc (Nat.le_refl _) (.cells #[.string l.nm, .int .i64 l.kind, .string l.fr, .string l.tw, .int .i64 l.sill, .int .i64 l.rate, .int .i64 l.fac, .int .i64 l.lift] 59)).alloc (by simp) (.cells #[.bool q, .int .i64 z, .string b.nm, .slice b.A b.n b.c, .int .i64 b.rim, .int .i64 x] 127)).alloc (by simp; omega) (.cells #[.bool q2, .int .i64 z2, .string b2.nm, .slice b2.A b2.n b2.c, .int .i64 b2.rim, .int .i64 x2] 127)
  have D := Pw.new l h k hg hg1 hg2
  have r1 := slev_range h h.v0
  have r2 := slev_range k k.v0
  have H0 := hid h.v0
  have K0 := hid k.v0
  obtain ⟨a, ha⟩ : ∃ a, slev q z b x 0 = a := ⟨_, rfl⟩
  obtain ⟨c, hc⟩ : ∃ c, slev q2 z2 b2 x2 0 = c := ⟨_, rfl⟩
  obtain ⟨m, hm⟩ : ∃ m, sabo q b x (-1000000) = m := ⟨_, rfl⟩
  obtain ⟨n, hn⟩ : ∃ n, sroom q2 b2 x2 = n := ⟨_, rfl⟩
  rw [ha] at r1
  rw [hc] at r2
  rw [ha, hc, hm, hn]
  obtain ⟨r, hr⟩ : ∃ r, (if l.lift < c - a then 0 else min (min l.rate m) n) = r := ⟨_, rfl⟩
  rw [hr]
  have Ha := hid (fun (W : World) (B0 : Nat) (h : Sok W B0 q z b x) => (show Calls Try.prog 89 #[.agg #[.bool q, .int .i64 z, .string b.nm, .slice b.A b.n b.c, .int .i64 b.rim, .int .i64 x], .int .i64 0] W fun e w' => e = .returned (.int .i64 a) ∧ Below W.heap.size W w' from ha ▸ slevel_any h 0 h.v0))
  have Hc := hid (fun (W : World) (B0 : Nat) (h : Sok W B0 q2 z2 b2 x2) => (show Calls Try.prog 89 #[.agg #[.bool q2, .int .i64 z2, .string b2.nm, .slice b2.A b2.n b2.c, .int .i64 b2.rim, .int .i64 x2], .int .i64 0] W fun e w' => e = .returned (.int .i64 c) ∧ Below W.heap.size W w' from hc ▸ slevel_any h 0 h.v0))
  have Hm := hid (fun (W : World) (B0 : Nat) (h : Sok W B0 q z b x) => (show Calls Try.prog 102 #[.agg #[.bool q, .int .i64 z, .string b.nm, .slice b.A b.n b.c, .int .i64 b.rim, .int .i64 x], .int .i64 (-1000000)] W fun e w' => e = .returned (.int .i64 m) ∧ Below W.heap.size W w' from hm ▸ sabo_any h (-1000000) (by decide) (by decide)))
  have Hn := hid (fun (W : World) (B0 : Nat) (h : Sok W B0 q2 z2 b2 x2) => (show Calls Try.prog 103 #[.agg #[.bool q2, .int .i64 z2, .string b2.nm, .slice b2.A b2.n b2.c, .int .i64 b2.rim, .int .i64 x2]] W fun e w' => e = .returned (.int .i64 n) ∧ Below W.heap.size W w' from hn ▸ sroom_any h))
  have hw1 : IntKind.i64.wrap (c - a) = c - a := IntWalk.i64_in _ (by omega)
  clear ha hc hm hn
  go_enter Try.func88, Try.ntmps88
  go_upto_region 1 with fail
  generalize ((w.alloc (.cells #[.string l.nm, .int .i64 l.kind, .string l.fr, .string l.tw, .int .i64 l.sill, .int .i64 l.rate, .int .i64 l.fac, .int .i64 l.lift] 59)).alloc (.cells #[.bool q, .int .i64 z, .string b.nm, .slice b.A b.n b.c, .int .i64 b.rim, .int .i64 x] 127)).alloc (.cells #[.bool q2, .int .i64 z2, .string b2.nm, .slice b2.A b2.n b2.c, .int .i64 b2.rim, .int .i64 x2] 127) = W0 at *
  have HB0 := hid hb0
  have D0 := D.below dr0
  clear hb0 hg hg1 hg2 h k D
  by_cases hl : l.lift < c - a
  · have dl : decide (l.lift < c - a) = true := decide_eq_true hl
    rw [if_pos hl] at hr
    subst hr
    clear hl
    go_region_held3 (fun w' => w'.cell? ⟨gl, 4, none⟩ = some (.int .i64 l.sill) ∧ w'.cell? ⟨gl, 5, none⟩ = some (.int .i64 l.rate) ∧ w'.cell? ⟨gl, 6, none⟩ = some (.int .i64 l.fac) ∧ w'.cell? ⟨gl, 7, none⟩ = some (.int .i64 l.lift) ∧ w'.cell? ⟨g1, 0, none⟩ = some (.bool q) ∧ w'.cell? ⟨g1, 1, none⟩ = some (.int .i64 z) ∧ w'.cell? ⟨g1, 2, none⟩ = some (.string b.nm) ∧ w'.cell? ⟨g1, 3, none⟩ = some (.slice b.A b.n b.c) ∧ w'.cell? ⟨g1, 4, none⟩ = some (.int .i64 b.rim) ∧ w'.cell? ⟨g1, 5, none⟩ = some (.int .i64 x) ∧ w'.cell? ⟨g2, 0, none⟩ = some (.bool q2) ∧ w'.cell? ⟨g2, 1, none⟩ = some (.int .i64 z2) ∧ w'.cell? ⟨g2, 2, none⟩ = some (.string b2.nm) ∧ w'.cell? ⟨g2, 3, none⟩ = some (.slice b2.A b2.n b2.c) ∧ w'.cell? ⟨g2, 4, none⟩ = some (.int .i64 b2.rim) ∧ w'.cell? ⟨g2, 5, none⟩ = some (.int .i64 x2)) (first | with_reducible exact Pw.cells D0 | with_reducible exact Pw.cells D1 | with_reducible exact Pw.cells D2) (first
      | (go_at_call 89; with_reducible refine (Ha.out _ _ D0.f.a).mono ?_; rintro e w1 ⟨rfl, hb1⟩; have D1 := D0.below hb1)
      | (go_at_call 89; with_reducible refine (Hc.out _ _ D1.t.a).mono ?_; rintro e w2 ⟨rfl, hb2⟩; have D2 := D1.below hb2)
      | (go_at_call 89; with_reducible refine (Hc.out _ _ D0.t.a).mono ?_; rintro e w1 ⟨rfl, hb1⟩; have D1 := D0.below hb1)
      | (go_at_call 89; with_reducible refine (Ha.out _ _ D1.f.a).mono ?_; rintro e w2 ⟨rfl, hb2⟩; have D2 := D1.below hb2))
    all_goals
      have HB2 := hid (bthen (bthen HB0.out.drew hb1 (Nat.le_refl _)) hb2 (Nat.le_refl _))
      clear hb1 hb2 D0 D1
      go_wp2
      go_ret
      exact ⟨rfl, HB2.out⟩
  · have dl : decide (l.lift < c - a) = false := decide_eq_false hl
    rw [if_neg hl] at hr
    have Hr := hid hr
    clear hl hr
    go_region_held3 (fun w' => w'.cell? ⟨gl, 4, none⟩ = some (.int .i64 l.sill) ∧ w'.cell? ⟨gl, 5, none⟩ = some (.int .i64 l.rate) ∧ w'.cell? ⟨gl, 6, none⟩ = some (.int .i64 l.fac) ∧ w'.cell? ⟨gl, 7, none⟩ = some (.int .i64 l.lift) ∧ w'.cell? ⟨g1, 0, none⟩ = some (.bool q) ∧ w'.cell? ⟨g1, 1, none⟩ = some (.int .i64 z) ∧ w'.cell? ⟨g1, 2, none⟩ = some (.string b.nm) ∧ w'.cell? ⟨g1, 3, none⟩ = some (.slice b.A b.n b.c) ∧ w'.cell? ⟨g1, 4, none⟩ = some (.int .i64 b.rim) ∧ w'.cell? ⟨g1, 5, none⟩ = some (.int .i64 x) ∧ w'.cell? ⟨g2, 0, none⟩ = some (.bool q2) ∧ w'.cell? ⟨g2, 1, none⟩ = some (.int .i64 z2) ∧ w'.cell? ⟨g2, 2, none⟩ = some (.string b2.nm) ∧ w'.cell? ⟨g2, 3, none⟩ = some (.slice b2.A b2.n b2.c) ∧ w'.cell? ⟨g2, 4, none⟩ = some (.int .i64 b2.rim) ∧ w'.cell? ⟨g2, 5, none⟩ = some (.int .i64 x2)) (first | with_reducible exact Pw.cells D0 | with_reducible exact Pw.cells D1 | with_reducible exact Pw.cells D2) (first
      | (go_at_call 89; with_reducible refine (Ha.out _ _ D0.f.a).mono ?_; rintro e w1 ⟨rfl, hb1⟩; have D1 := D0.below hb1)
      | (go_at_call 89; with_reducible refine (Hc.out _ _ D1.t.a).mono ?_; rintro e w2 ⟨rfl, hb2⟩; have D2 := D1.below hb2)
      | (go_at_call 89; with_reducible refine (Hc.out _ _ D0.t.a).mono ?_; rintro e w1 ⟨rfl, hb1⟩; have D1 := D0.below hb1)
      | (go_at_call 89; with_reducible refine (Ha.out _ _ D1.f.a).mono ?_; rintro e w2 ⟨rfl, hb2⟩; have D2 := D1.below hb2))
    all_goals
      have HB2 := hid (bthen (bthen HB0.out.drew hb1 (Nat.le_refl _)) hb2 (Nat.le_refl _))
      clear hb1 hb2 D0 D1
      obtain ⟨_, _, _, _, a0, a1, a2, a3, a4, a5, _⟩ := D2.cells
      go_wp2_with fail
      clear a0 a1 a2 a3 a4 a5
      refine (Hm.out _ _ D2.f.a).mono ?_
      rintro e w3 ⟨rfl, hb3⟩
      have HB3 := hid (bthen HB2.out hb3 (Nat.le_refl _))
      have D3 := (D2.below hb3).below dr0
      clear hb3 D2
      go_wp2_with fail
      have cs : (m < l.rate ∧ n < m ∧ r = n) ∨ (m < l.rate ∧ ¬ n < m ∧ r = m) ∨ (¬ m < l.rate ∧ n < l.rate ∧ r = n) ∨ (¬ m < l.rate ∧ ¬ n < l.rate ∧ r = l.rate) := by have := Hr.out; omega
      clear Hr
      rcases cs with ⟨h1, h2, rfl⟩ | ⟨h1, h2, rfl⟩ | ⟨h1, h2, rfl⟩ | ⟨h1, h2, rfl⟩
      · go_region_held3 (fun w' => w'.cell? ⟨gl, 4, none⟩ = some (.int .i64 l.sill) ∧ w'.cell? ⟨gl, 5, none⟩ = some (.int .i64 l.rate) ∧ w'.cell? ⟨gl, 6, none⟩ = some (.int .i64 l.fac) ∧ w'.cell? ⟨gl, 7, none⟩ = some (.int .i64 l.lift) ∧ w'.cell? ⟨g1, 0, none⟩ = some (.bool q) ∧ w'.cell? ⟨g1, 1, none⟩ = some (.int .i64 z) ∧ w'.cell? ⟨g1, 2, none⟩ = some (.string b.nm) ∧ w'.cell? ⟨g1, 3, none⟩ = some (.slice b.A b.n b.c) ∧ w'.cell? ⟨g1, 4, none⟩ = some (.int .i64 b.rim) ∧ w'.cell? ⟨g1, 5, none⟩ = some (.int .i64 x) ∧ w'.cell? ⟨g2, 0, none⟩ = some (.bool q2) ∧ w'.cell? ⟨g2, 1, none⟩ = some (.int .i64 z2) ∧ w'.cell? ⟨g2, 2, none⟩ = some (.string b2.nm) ∧ w'.cell? ⟨g2, 3, none⟩ = some (.slice b2.A b2.n b2.c) ∧ w'.cell? ⟨g2, 4, none⟩ = some (.int .i64 b2.rim) ∧ w'.cell? ⟨g2, 5, none⟩ = some (.int .i64 x2)) (first | with_reducible exact Pw.cells D3 | with_reducible exact Pw.cells D4) (first
          | (go_at_call 103; with_reducible refine (Hn.out _ _ D3.t.a).mono ?_; rintro e w4 ⟨rfl, hb4⟩; have D4 := D3.below hb4))
        all_goals
          have HB4 := hid (bthen HB3.out.drew hb4 (Nat.le_refl _))
          clear hb4
          go_wp2
          go_ret
          exact ⟨rfl, HB4.out⟩
      · go_region_held3 (fun w' => w'.cell? ⟨gl, 4, none⟩ = some (.int .i64 l.sill) ∧ w'.cell? ⟨gl, 5, none⟩ = some (.int .i64 l.rate) ∧ w'.cell? ⟨gl, 6, none⟩ = some (.int .i64 l.fac) ∧ w'.cell? ⟨gl, 7, none⟩ = some (.int .i64 l.lift) ∧ w'.cell? ⟨g1, 0, none⟩ = some (.bool q) ∧ w'.cell? ⟨g1, 1, none⟩ = some (.int .i64 z) ∧ w'.cell? ⟨g1, 2, none⟩ = some (.string b.nm) ∧ w'.cell? ⟨g1, 3, none⟩ = some (.slice b.A b.n b.c) ∧ w'.cell? ⟨g1, 4, none⟩ = some (.int .i64 b.rim) ∧ w'.cell? ⟨g1, 5, none⟩ = some (.int .i64 x) ∧ w'.cell? ⟨g2, 0, none⟩ = some (.bool q2) ∧ w'.cell? ⟨g2, 1, none⟩ = some (.int .i64 z2) ∧ w'.cell? ⟨g2, 2, none⟩ = some (.string b2.nm) ∧ w'.cell? ⟨g2, 3, none⟩ = some (.slice b2.A b2.n b2.c) ∧ w'.cell? ⟨g2, 4, none⟩ = some (.int .i64 b2.rim) ∧ w'.cell? ⟨g2, 5, none⟩ = some (.int .i64 x2)) (first | with_reducible exact Pw.cells D3 | with_reducible exact Pw.cells D4) (first
          | (go_at_call 103; with_reducible refine (Hn.out _ _ D3.t.a).mono ?_; rintro e w4 ⟨rfl, hb4⟩; have D4 := D3.below hb4))
        all_goals
          have HB4 := hid (bthen HB3.out.drew hb4 (Nat.le_refl _))
          clear hb4
          go_wp2
          go_ret
          exact ⟨rfl, HB4.out⟩
      · go_region_held3 (fun w' => w'.cell? ⟨gl, 4, none⟩ = some (.int .i64 l.sill) ∧ w'.cell? ⟨gl, 5, none⟩ = some (.int .i64 l.rate) ∧ w'.cell? ⟨gl, 6, none⟩ = some (.int .i64 l.fac) ∧ w'.cell? ⟨gl, 7, none⟩ = some (.int .i64 l.lift) ∧ w'.cell? ⟨g1, 0, none⟩ = some (.bool q) ∧ w'.cell? ⟨g1, 1, none⟩ = some (.int .i64 z) ∧ w'.cell? ⟨g1, 2, none⟩ = some (.string b.nm) ∧ w'.cell? ⟨g1, 3, none⟩ = some (.slice b.A b.n b.c) ∧ w'.cell? ⟨g1, 4, none⟩ = some (.int .i64 b.rim) ∧ w'.cell? ⟨g1, 5, none⟩ = some (.int .i64 x) ∧ w'.cell? ⟨g2, 0, none⟩ = some (.bool q2) ∧ w'.cell? ⟨g2, 1, none⟩ = some (.int .i64 z2) ∧ w'.cell? ⟨g2, 2, none⟩ = some (.string b2.nm) ∧ w'.cell? ⟨g2, 3, none⟩ = some (.slice b2.A b2.n b2.c) ∧ w'.cell? ⟨g2, 4, none⟩ = some (.int .i64 b2.rim) ∧ w'.cell? ⟨g2, 5, none⟩ = some (.int .i64 x2)) (first | with_reducible exact Pw.cells D3 | with_reducible exact Pw.cells D4) (first
          | (go_at_call 103; with_reducible refine (Hn.out _ _ D3.t.a).mono ?_; rintro e w4 ⟨rfl, hb4⟩; have D4 := D3.below hb4))
        all_goals
          have HB4 := hid (bthen HB3.out.drew hb4 (Nat.le_refl _))
          clear hb4
          go_wp2
          go_ret
          exact ⟨rfl, HB4.out⟩
      · go_region_held3 (fun w' => w'.cell? ⟨gl, 4, none⟩ = some (.int .i64 l.sill) ∧ w'.cell? ⟨gl, 5, none⟩ = some (.int .i64 l.rate) ∧ w'.cell? ⟨gl, 6, none⟩ = some (.int .i64 l.fac) ∧ w'.cell? ⟨gl, 7, none⟩ = some (.int .i64 l.lift) ∧ w'.cell? ⟨g1, 0, none⟩ = some (.bool q) ∧ w'.cell? ⟨g1, 1, none⟩ = some (.int .i64 z) ∧ w'.cell? ⟨g1, 2, none⟩ = some (.string b.nm) ∧ w'.cell? ⟨g1, 3, none⟩ = some (.slice b.A b.n b.c) ∧ w'.cell? ⟨g1, 4, none⟩ = some (.int .i64 b.rim) ∧ w'.cell? ⟨g1, 5, none⟩ = some (.int .i64 x) ∧ w'.cell? ⟨g2, 0, none⟩ = some (.bool q2) ∧ w'.cell? ⟨g2, 1, none⟩ = some (.int .i64 z2) ∧ w'.cell? ⟨g2, 2, none⟩ = some (.string b2.nm) ∧ w'.cell? ⟨g2, 3, none⟩ = some (.slice b2.A b2.n b2.c) ∧ w'.cell? ⟨g2, 4, none⟩ = some (.int .i64 b2.rim) ∧ w'.cell? ⟨g2, 5, none⟩ = some (.int .i64 x2)) (first | with_reducible exact Pw.cells D3 | with_reducible exact Pw.cells D4) (first
          | (go_at_call 103; with_reducible refine (Hn.out _ _ D3.t.a).mono ?_; rintro e w4 ⟨rfl, hb4⟩; have D4 := D3.below hb4))
        all_goals
          have HB4 := hid (bthen HB3.out.drew hb4 (Nat.le_refl _))
          clear hb4
          go_wp2
          go_ret
          exact ⟨rfl, HB4.out⟩
end

end Go.Proofs.Ytndcopljjnbkbaa
