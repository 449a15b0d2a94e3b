/- Networks: passed of the program. Networks: through of the reference, over the contract of may. -/
import Derived.Test.YtockfiobhmohnaaGi
import Derived.Deep.RegionLaw
import Derived.Deep.DeepCutAuto
namespace Go.Proofs.Ytockfiobhmohnaa
open Go.RowKit Go.Maps Kb Wb

section
variable {w : World} {B0 B1 : Nat} {q : Bool} {z : Int} {b : Bd} {x : Int} {q2 : Bool} {z2 : Int} {b2 : Bd} {x2 : Int}
/-- What an open gate lets through from the first side to the second. -/
def Gv (l : Ld) (q : Bool) (z : Int) (b : Bd) (x : Int) (q2 : Bool) (z2 : Int) (b2 : Bd) (x2 : Int) (r : Int) : Prop :=
  (slev q z b x 0 - max l.sill (slev q2 z2 b2 x2 0) ≤ 0 ∧ r = 0) ∨ (0 < slev q z b x 0 - max l.sill (slev q2 z2 b2 x2 0) ∧ Gre (Okp l (slev q z b x 0 - max l.sill (slev q2 z2 b2 x2 0)) (sabo q b x l.sill) (sroom q2 b2 x2) q z b x q2 z2 b2 x2) l.rate r)
theorem Bk.put1 {w : World} {g : Nat} {a : Value} {T : TypeId} (h : Bk w g (.cells #[a] T (0, 0))) (x : Value) : Bk (w.setCell ⟨g, 0, none⟩ x) g (.cells #[x] T (0, 0)) := by
  unfold Bk at h ⊢
  simp only [World.setCell, Array.getElem?_modify, h]
  simp
set_option maxRecDepth 100000 in
set_option maxHeartbeats 16000000 in
theorem passed_any (l : Ld) (h : Sok w B0 q z b x) (k : Sok w B1 q2 z2 b2 x2) (s0' : -1000000 ≤ l.sill) (s1 : l.sill ≤ 1000000) (f0 : 0 ≤ l.fac) (f1 : l.fac ≤ 1000000000) (r0 : 0 ≤ l.rate) (r1 : l.rate ≤ 1000000000) :
    Calls Try.prog 84 #[.agg #[.string l.nm, .int .i64 l.kind, .string l.fr, .string l.tw, .int .i64 l.sill, .int .i64 l.rate, .int .i64 l.fac, .int .i64 l.lift], .agg #[.bool q, .int .i64 z, .string b.nm, .slice b.A b.n b.c, .int .i64 b.rim, .int .i64 x], .agg #[.bool q2, .int .i64 z2, .string b2.nm, .slice b2.A b2.n b2.c, .int .i64 b2.rim, .int .i64 x2]] w fun e w' => ∃ r : Int, e = .returned (.int .i64 r) ∧ Hid (Gv l q z b x q2 z2 b2 x2 r) ∧ Below w.heap.size w w' := by
  obtain ⟨gl, hg⟩ : ∃ g, w.heap.size = g := ⟨_, rfl⟩
  obtain ⟨g1, hg1⟩ : ∃ g, gl + 1 = g := ⟨_, rfl⟩
  obtain ⟨g2, hg2⟩ : ∃ g, g1 + 1 = g := ⟨_, rfl⟩
  have hb0 := (((Below.refl w.heap.size w).alloc (Nat.le_refl _) (.cells #[.string l.nm, .int .i64 l.kind, .string l.fr, .string l.tw, .int .i64 l.sill, .int .i64 l.rate, .int .i64 l.fac, .int .i64 l.lift] 49)).alloc (by simp) (.cells #[.bool q, .int .i64 z, .string b.nm, .slice b.A b.n b.c, .int .i64 b.rim, .int .i64 x] 118)).alloc (by simp; omega) (.cells #[.bool q2, .int .i64 z2, .string b2.nm, .slice b2.A b2.n b2.c, .int .i64 b2.rim, .int .i64 x2] 118)
  have D := Pw.new l h k hg hg1 hg2
  have t1 := slev_range h h.v0
  have t2 := slev_range k k.v0
  obtain ⟨a, ha⟩ : ∃ a, slev q z b x 0 = a := ⟨_, rfl⟩
  obtain ⟨c, hc⟩ : ∃ c, slev q2 z2 b2 x2 0 = c := ⟨_, rfl⟩
  obtain ⟨m, hm⟩ : ∃ m, sabo q b x l.sill = m := ⟨_, rfl⟩
  obtain ⟨n, hn⟩ : ∃ n, sroom q2 b2 x2 = n := ⟨_, rfl⟩
  rw [ha] at t1
  rw [hc] at t2
  obtain ⟨hd, hhd⟩ : ∃ hd, a - max l.sill c = hd := ⟨_, rfl⟩
  have Hg0 := hid (show ∀ r, Gv l q z b x q2 z2 b2 x2 r ↔ (hd ≤ 0 ∧ r = 0) ∨ (0 < hd ∧ Gre (Okp l hd m n q z b x q2 z2 b2 x2) l.rate r) from fun r => by unfold Gv; rw [ha, hc, hm, hn, hhd])
  have Hz := hid (fun (e : 0 < hd) => (show Okp l hd m n q z b x q2 z2 b2 x2 0 by
    have := Okp.zero (l := l) h k f0 (by rw [ha, hc, hhd]; exact e)
    rw [ha, hc, hm, hn, hhd] at this
    exact this))
  have hsp : q = false → m ≤ x := hm ▸ sabo_le h s1
  have hrm : q2 = false → n = capB b2 - x2 := hn ▸ sroom_is
  have Hmono := hid (fun i j (i0 : 0 ≤ i) (ij : i ≤ j) (_ : j ≤ l.rate) (hj : Okp l hd m n q z b x q2 z2 b2 x2 j) => Okp.mono h k hsp hrm i0 ij hj)
  have Ha := hid (fun (W : World) (B0 : Nat) (h : Sok W B0 q z b x) => (show Calls Try.prog 83 #[.agg #[.bool q, .int .i64 z, .string b.nm, .slice b.A b.n b.c, .int .i64 b.rim, .int .i64 x], .int .i64 0] W fun e w' => e = .returned (.int .i64 a) ∧ Below W.heap.size W w' from ha ▸ slevel_any h 0 h.v0))
  have Hc := hid (fun (W : World) (B0 : Nat) (h : Sok W B0 q2 z2 b2 x2) => (show Calls Try.prog 83 #[.agg #[.bool q2, .int .i64 z2, .string b2.nm, .slice b2.A b2.n b2.c, .int .i64 b2.rim, .int .i64 x2], .int .i64 0] W fun e w' => e = .returned (.int .i64 c) ∧ Below W.heap.size W w' from hc ▸ slevel_any h 0 h.v0))
  have Hm := hid (fun (W : World) (B0 : Nat) (h : Sok W B0 q z b x) => (show Calls Try.prog 95 #[.agg #[.bool q, .int .i64 z, .string b.nm, .slice b.A b.n b.c, .int .i64 b.rim, .int .i64 x], .int .i64 l.sill] W fun e w' => e = .returned (.int .i64 m) ∧ Below W.heap.size W w' from hm ▸ sabo_any h l.sill s0' s1))
  have Hn := hid (fun (W : World) (B0 : Nat) (h : Sok W B0 q2 z2 b2 x2) => (show Calls Try.prog 96 #[.agg #[.bool q2, .int .i64 z2, .string b2.nm, .slice b2.A b2.n b2.c, .int .i64 b2.rim, .int .i64 x2]] W fun e w' => e = .returned (.int .i64 n) ∧ Below W.heap.size W w' from hn ▸ sroom_any h))
  have Hsp := hid hsp
  have Hrm := hid hrm
  have hhb : -10000000 ≤ hd ∧ hd ≤ 10000000 := by omega
  have Hhd := hid hhd
  have hw0 : IntKind.i64.wrap hd = hd := IntWalk.i64_in _ (by omega)
  clear ha hc hm hn hsp hrm hhd
  go_enter Try.func84, Try.ntmps84
  go_upto_region 1 with fail
  generalize ((w.alloc (.cells #[.string l.nm, .int .i64 l.kind, .string l.fr, .string l.tw, .int .i64 l.sill, .int .i64 l.rate, .int .i64 l.fac, .int .i64 l.lift] 49)).alloc (.cells #[.bool q, .int .i64 z, .string b.nm, .slice b.A b.n b.c, .int .i64 b.rim, .int .i64 x] 118)).alloc (.cells #[.bool q2, .int .i64 z2, .string b2.nm, .slice b2.A b2.n b2.c, .int .i64 b2.rim, .int .i64 x2] 118) = W0 at *
  have HB0 := hid hb0
  have D0 := D.below dr0
  clear hb0 hg hg1 hg2 h k
  go_cut [7] from 8 to 31 (fun p7 wx => ∃ gh, p7 = .pointer (some ⟨gh, 0, none⟩) ∧ Bk wx gh (.cells #[.int .i64 hd] 3 (0, 0)) ∧ Below W0.heap.size W0 wx)
  case first =>
    rcases (show (l.sill < c ∧ hd = a - c) ∨ (¬ l.sill < c ∧ hd = a - l.sill) by have := Hhd.out; omega) with ⟨e1, e2⟩ | ⟨e1, e2⟩
    · have hw1 : IntKind.i64.wrap (a - c) = a - c := IntWalk.i64_in _ (by omega)
      have DA := (D.below (alo (o := (.cells #[.int .i64 0] 3)))).below dr0
      go_region_held3 (fun w' => w'.cell? ⟨gl, 4, none⟩ = some (.int .i64 l.sill) ∧ w'.cell? ⟨gl, 5, none⟩ = some (.int .i64 l.rate) ∧ w'.cell? ⟨gl, 6, none⟩ = some (.int .i64 l.fac) ∧ w'.cell? ⟨gl, 7, none⟩ = some (.int .i64 l.lift) ∧ w'.cell? ⟨g1, 0, none⟩ = some (.bool q) ∧ w'.cell? ⟨g1, 1, none⟩ = some (.int .i64 z) ∧ w'.cell? ⟨g1, 2, none⟩ = some (.string b.nm) ∧ w'.cell? ⟨g1, 3, none⟩ = some (.slice b.A b.n b.c) ∧ w'.cell? ⟨g1, 4, none⟩ = some (.int .i64 b.rim) ∧ w'.cell? ⟨g1, 5, none⟩ = some (.int .i64 x) ∧ w'.cell? ⟨g2, 0, none⟩ = some (.bool q2) ∧ w'.cell? ⟨g2, 1, none⟩ = some (.int .i64 z2) ∧ w'.cell? ⟨g2, 2, none⟩ = some (.string b2.nm) ∧ w'.cell? ⟨g2, 3, none⟩ = some (.slice b2.A b2.n b2.c) ∧ w'.cell? ⟨g2, 4, none⟩ = some (.int .i64 b2.rim) ∧ w'.cell? ⟨g2, 5, none⟩ = some (.int .i64 x2)) (first | with_reducible exact Pw.cells D0 | with_reducible exact Pw.cells DA | with_reducible exact Pw.cells D1 | with_reducible exact Pw.cells (D1.below (alo (o := (.cells #[.int .i64 0] 3)))) | with_reducible exact Pw.cells D2 | with_reducible exact Pw.cells (D2.below (alo (o := (.cells #[.int .i64 0] 3)))) | with_reducible exact Pw.cells (D2.below alo) | with_reducible exact Pw.cells (DS _)) (first
        | (go_at_call 83; (with_reducible refine (Ha.out _ _ D0.f.a).mono ?_); rintro e w1 ⟨rfl, hb1⟩; have D1 := D0.below hb1; have HB1 := hid (bthen (Below.refl W0.heap.size W0).drew hb1 (Nat.le_refl _)))
        | (go_at_call 83; (with_reducible refine (Ha.out _ _ DA.f.a).mono ?_); rintro e w1 ⟨rfl, hb1⟩; have D1 := DA.below hb1; have HB1 := hid (bthen ((Below.refl W0.heap.size W0).alloc (Nat.le_refl _) (.cells #[.int .i64 0] 3)).drew hb1 (Nat.le_refl _)); have E1 : Bk w1 W0.heap.size (.cells #[.int .i64 0] 3 (0, 0)) := Bk.step (W := (W0.alloc (.cells #[.int .i64 0] 3)).drew) (Bk.of_alloc W0 (.cells #[.int .i64 0] 3) rfl) hb1)
        | (go_at_call 83; (with_reducible refine (Hc.out _ _ D1.t.a).mono ?_); rintro e w2 ⟨rfl, hb2⟩; have HB2 := hid (bthen HB1.out hb2 (Nat.le_refl _)); have D2 := D1.below hb2; try (have E2 : Bk w2 W0.heap.size (.cells #[.int .i64 0] 3 (0, 0)) := Bk.step E1 hb2; have DS := fun v => D.below (HB2.out.setCell (p := ⟨W0.heap.size, 0, none⟩) (Nat.le_refl _) v); have E3 := cell_of_row w2 _ 0 _ _ _ E2; have E4 := Bk.fz E2 0))
        | (go_at_call 83; (with_reducible refine (Hc.out _ _ (D1.below (alo (o := (.cells #[.int .i64 0] 3)))).t.a).mono ?_); rintro e w2 ⟨rfl, hb2⟩; have HB2 := hid (bthen (HB1.out.alloc HB1.out.size (.cells #[.int .i64 0] 3)) hb2 (Nat.le_refl _)); have D2 := (D1.below (alo (o := (.cells #[.int .i64 0] 3)))).below hb2; have E2 : Bk w2 w1.heap.size (.cells #[.int .i64 0] 3 (0, 0)) := Bk.step (Bk.of_alloc w1 (.cells #[.int .i64 0] 3) rfl) hb2; have DS := fun v => D.below (HB2.out.setCell (p := ⟨w1.heap.size, 0, none⟩) HB1.out.size v); have E3 := cell_of_row w2 _ 0 _ _ _ E2; have E4 := Bk.fz E2 0)
        | (go_at_call 83; (with_reducible refine (Hc.out _ _ D0.t.a).mono ?_); rintro e w1 ⟨rfl, hb1⟩; have D1 := D0.below hb1; have HB1 := hid (bthen (Below.refl W0.heap.size W0).drew hb1 (Nat.le_refl _)))
        | (go_at_call 83; (with_reducible refine (Hc.out _ _ DA.t.a).mono ?_); rintro e w1 ⟨rfl, hb1⟩; have D1 := DA.below hb1; have HB1 := hid (bthen ((Below.refl W0.heap.size W0).alloc (Nat.le_refl _) (.cells #[.int .i64 0] 3)).drew hb1 (Nat.le_refl _)); have E1 : Bk w1 W0.heap.size (.cells #[.int .i64 0] 3 (0, 0)) := Bk.step (W := (W0.alloc (.cells #[.int .i64 0] 3)).drew) (Bk.of_alloc W0 (.cells #[.int .i64 0] 3) rfl) hb1)
        | (go_at_call 83; (with_reducible refine (Ha.out _ _ D1.f.a).mono ?_); rintro e w2 ⟨rfl, hb2⟩; have HB2 := hid (bthen HB1.out hb2 (Nat.le_refl _)); have D2 := D1.below hb2; try (have E2 : Bk w2 W0.heap.size (.cells #[.int .i64 0] 3 (0, 0)) := Bk.step E1 hb2; have DS := fun v => D.below (HB2.out.setCell (p := ⟨W0.heap.size, 0, none⟩) (Nat.le_refl _) v); have E3 := cell_of_row w2 _ 0 _ _ _ E2; have E4 := Bk.fz E2 0))
        | (go_at_call 83; (with_reducible refine (Ha.out _ _ (D1.below (alo (o := (.cells #[.int .i64 0] 3)))).f.a).mono ?_); rintro e w2 ⟨rfl, hb2⟩; have HB2 := hid (bthen (HB1.out.alloc HB1.out.size (.cells #[.int .i64 0] 3)) hb2 (Nat.le_refl _)); have D2 := (D1.below (alo (o := (.cells #[.int .i64 0] 3)))).below hb2; have E2 : Bk w2 w1.heap.size (.cells #[.int .i64 0] 3 (0, 0)) := Bk.step (Bk.of_alloc w1 (.cells #[.int .i64 0] 3) rfl) hb2; have DS := fun v => D.below (HB2.out.setCell (p := ⟨w1.heap.size, 0, none⟩) HB1.out.size v); have E3 := cell_of_row w2 _ 0 _ _ _ E2; have E4 := Bk.fz E2 0))
      all_goals
        go_wp2_with fail
        go_meet
        case rel =>
          rw [e2]
          first
          | exact ⟨_, rfl, Bk.of_alloc w2 _ rfl, HB2.out.alloc HB2.out.size _⟩
          | exact ⟨_, rfl, Bk.put1 E2 _, HB2.out.setCell (p := ⟨W0.heap.size, 0, none⟩) (Nat.le_refl _) _⟩
          | exact ⟨_, rfl, Bk.put1 E2 _, HB2.out.setCell (p := ⟨w1.heap.size, 0, none⟩) HB1.out.size _⟩
    · have hw1 : IntKind.i64.wrap (a - l.sill) = a - l.sill := IntWalk.i64_in _ (by omega)
      have DA := (D.below (alo (o := (.cells #[.int .i64 0] 3)))).below dr0
      go_region_held3 (fun w' => w'.cell? ⟨gl, 4, none⟩ = some (.int .i64 l.sill) ∧ w'.cell? ⟨gl, 5, none⟩ = some (.int .i64 l.rate) ∧ w'.cell? ⟨gl, 6, none⟩ = some (.int .i64 l.fac) ∧ w'.cell? ⟨gl, 7, none⟩ = some (.int .i64 l.lift) ∧ w'.cell? ⟨g1, 0, none⟩ = some (.bool q) ∧ w'.cell? ⟨g1, 1, none⟩ = some (.int .i64 z) ∧ w'.cell? ⟨g1, 2, none⟩ = some (.string b.nm) ∧ w'.cell? ⟨g1, 3, none⟩ = some (.slice b.A b.n b.c) ∧ w'.cell? ⟨g1, 4, none⟩ = some (.int .i64 b.rim) ∧ w'.cell? ⟨g1, 5, none⟩ = some (.int .i64 x) ∧ w'.cell? ⟨g2, 0, none⟩ = some (.bool q2) ∧ w'.cell? ⟨g2, 1, none⟩ = some (.int .i64 z2) ∧ w'.cell? ⟨g2, 2, none⟩ = some (.string b2.nm) ∧ w'.cell? ⟨g2, 3, none⟩ = some (.slice b2.A b2.n b2.c) ∧ w'.cell? ⟨g2, 4, none⟩ = some (.int .i64 b2.rim) ∧ w'.cell? ⟨g2, 5, none⟩ = some (.int .i64 x2)) (first | with_reducible exact Pw.cells D0 | with_reducible exact Pw.cells DA | with_reducible exact Pw.cells D1 | with_reducible exact Pw.cells (D1.below (alo (o := (.cells #[.int .i64 0] 3)))) | with_reducible exact Pw.cells D2 | with_reducible exact Pw.cells (D2.below (alo (o := (.cells #[.int .i64 0] 3)))) | with_reducible exact Pw.cells (D2.below alo) | with_reducible exact Pw.cells (DS _)) (first
        | (go_at_call 83; (with_reducible refine (Ha.out _ _ D0.f.a).mono ?_); rintro e w1 ⟨rfl, hb1⟩; have D1 := D0.below hb1; have HB1 := hid (bthen (Below.refl W0.heap.size W0).drew hb1 (Nat.le_refl _)))
        | (go_at_call 83; (with_reducible refine (Ha.out _ _ DA.f.a).mono ?_); rintro e w1 ⟨rfl, hb1⟩; have D1 := DA.below hb1; have HB1 := hid (bthen ((Below.refl W0.heap.size W0).alloc (Nat.le_refl _) (.cells #[.int .i64 0] 3)).drew hb1 (Nat.le_refl _)); have E1 : Bk w1 W0.heap.size (.cells #[.int .i64 0] 3 (0, 0)) := Bk.step (W := (W0.alloc (.cells #[.int .i64 0] 3)).drew) (Bk.of_alloc W0 (.cells #[.int .i64 0] 3) rfl) hb1)
        | (go_at_call 83; (with_reducible refine (Hc.out _ _ D1.t.a).mono ?_); rintro e w2 ⟨rfl, hb2⟩; have HB2 := hid (bthen HB1.out hb2 (Nat.le_refl _)); have D2 := D1.below hb2; try (have E2 : Bk w2 W0.heap.size (.cells #[.int .i64 0] 3 (0, 0)) := Bk.step E1 hb2; have DS := fun v => D.below (HB2.out.setCell (p := ⟨W0.heap.size, 0, none⟩) (Nat.le_refl _) v); have E3 := cell_of_row w2 _ 0 _ _ _ E2; have E4 := Bk.fz E2 0))
        | (go_at_call 83; (with_reducible refine (Hc.out _ _ (D1.below (alo (o := (.cells #[.int .i64 0] 3)))).t.a).mono ?_); rintro e w2 ⟨rfl, hb2⟩; have HB2 := hid (bthen (HB1.out.alloc HB1.out.size (.cells #[.int .i64 0] 3)) hb2 (Nat.le_refl _)); have D2 := (D1.below (alo (o := (.cells #[.int .i64 0] 3)))).below hb2; have E2 : Bk w2 w1.heap.size (.cells #[.int .i64 0] 3 (0, 0)) := Bk.step (Bk.of_alloc w1 (.cells #[.int .i64 0] 3) rfl) hb2; have DS := fun v => D.below (HB2.out.setCell (p := ⟨w1.heap.size, 0, none⟩) HB1.out.size v); have E3 := cell_of_row w2 _ 0 _ _ _ E2; have E4 := Bk.fz E2 0)
        | (go_at_call 83; (with_reducible refine (Hc.out _ _ D0.t.a).mono ?_); rintro e w1 ⟨rfl, hb1⟩; have D1 := D0.below hb1; have HB1 := hid (bthen (Below.refl W0.heap.size W0).drew hb1 (Nat.le_refl _)))
        | (go_at_call 83; (with_reducible refine (Hc.out _ _ DA.t.a).mono ?_); rintro e w1 ⟨rfl, hb1⟩; have D1 := DA.below hb1; have HB1 := hid (bthen ((Below.refl W0.heap.size W0).alloc (Nat.le_refl _) (.cells #[.int .i64 0] 3)).drew hb1 (Nat.le_refl _)); have E1 : Bk w1 W0.heap.size (.cells #[.int .i64 0] 3 (0, 0)) := Bk.step (W := (W0.alloc (.cells #[.int .i64 0] 3)).drew) (Bk.of_alloc W0 (.cells #[.int .i64 0] 3) rfl) hb1)
        | (go_at_call 83; (with_reducible refine (Ha.out _ _ D1.f.a).mono ?_); rintro e w2 ⟨rfl, hb2⟩; have HB2 := hid (bthen HB1.out hb2 (Nat.le_refl _)); have D2 := D1.below hb2; try (have E2 : Bk w2 W0.heap.size (.cells #[.int .i64 0] 3 (0, 0)) := Bk.step E1 hb2; have DS := fun v => D.below (HB2.out.setCell (p := ⟨W0.heap.size, 0, none⟩) (Nat.le_refl _) v); have E3 := cell_of_row w2 _ 0 _ _ _ E2; have E4 := Bk.fz E2 0))
        | (go_at_call 83; (with_reducible refine (Ha.out _ _ (D1.below (alo (o := (.cells #[.int .i64 0] 3)))).f.a).mono ?_); rintro e w2 ⟨rfl, hb2⟩; have HB2 := hid (bthen (HB1.out.alloc HB1.out.size (.cells #[.int .i64 0] 3)) hb2 (Nat.le_refl _)); have D2 := (D1.below (alo (o := (.cells #[.int .i64 0] 3)))).below hb2; have E2 : Bk w2 w1.heap.size (.cells #[.int .i64 0] 3 (0, 0)) := Bk.step (Bk.of_alloc w1 (.cells #[.int .i64 0] 3) rfl) hb2; have DS := fun v => D.below (HB2.out.setCell (p := ⟨w1.heap.size, 0, none⟩) HB1.out.size v); have E3 := cell_of_row w2 _ 0 _ _ _ E2; have E4 := Bk.fz E2 0))
      all_goals
        go_wp2_with fail
        go_meet
        case rel =>
          rw [e2]
          first
          | exact ⟨_, rfl, Bk.of_alloc w2 _ rfl, HB2.out.alloc HB2.out.size _⟩
          | exact ⟨_, rfl, Bk.put1 E2 _, HB2.out.setCell (p := ⟨W0.heap.size, 0, none⟩) (Nat.le_refl _) _⟩
          | exact ⟨_, rfl, Bk.put1 E2 _, HB2.out.setCell (p := ⟨w1.heap.size, 0, none⟩) HB1.out.size _⟩
  case rest =>
    obtain ⟨gh, rfl, H1, hbc⟩ := hcut
    have D1 := D.below hbc
    have HB1 := hid (bthen HB0.out hbc (Nat.le_refl _))
    have h0 := cell_of_row wc _ 0 _ _ _ H1
    clear D0 hbc
    by_cases hh : hd ≤ 0
    · have dh : decide (hd ≤ 0) = true := decide_eq_true hh
      have HE := hid ((Hg0.out 0).2 (.inl ⟨hh, rfl⟩))
      go_wp2_with fail
      go_ret
      exact ⟨0, rfl, HE, HB1.out⟩
    · have dh : decide (hd ≤ 0) = false := decide_eq_false hh
      generalize wc = W1 at *
      have Hh1 := hid H1
      clear Ha Hc
      go_upto_region 4 with fail
      clear h0 H1 dh
      go_cut [8, 9] from 10 to 31 (fun p8 p9 wx => Tv W1.heap.size W1 (.cells #[.int .i64 m] 3 (0, 0)) (.cells #[.int .i64 n] 3 (0, 0)) p8 p9 wx)
      case first =>
        go_region_held3 (fun w' => w'.cell? ⟨gl, 4, none⟩ = some (.int .i64 l.sill) ∧ w'.cell? ⟨gl, 5, none⟩ = some (.int .i64 l.rate) ∧ w'.cell? ⟨gl, 6, none⟩ = some (.int .i64 l.fac) ∧ w'.cell? ⟨gl, 7, none⟩ = some (.int .i64 l.lift) ∧ w'.cell? ⟨g1, 0, none⟩ = some (.bool q) ∧ w'.cell? ⟨g1, 1, none⟩ = some (.int .i64 z) ∧ w'.cell? ⟨g1, 2, none⟩ = some (.string b.nm) ∧ w'.cell? ⟨g1, 3, none⟩ = some (.slice b.A b.n b.c) ∧ w'.cell? ⟨g1, 4, none⟩ = some (.int .i64 b.rim) ∧ w'.cell? ⟨g1, 5, none⟩ = some (.int .i64 x) ∧ w'.cell? ⟨g2, 0, none⟩ = some (.bool q2) ∧ w'.cell? ⟨g2, 1, none⟩ = some (.int .i64 z2) ∧ w'.cell? ⟨g2, 2, none⟩ = some (.string b2.nm) ∧ w'.cell? ⟨g2, 3, none⟩ = some (.slice b2.A b2.n b2.c) ∧ w'.cell? ⟨g2, 4, none⟩ = some (.int .i64 b2.rim) ∧ w'.cell? ⟨g2, 5, none⟩ = some (.int .i64 x2)) (first
          | with_reducible exact Pw.cells (D1.below dr0)
          | with_reducible exact Pw.cells (D1.below dr1)
          | with_reducible exact Pw.cells (D1.below dr2)
          | with_reducible exact Pw.cells (D1.below HB1.out)
          | with_reducible exact Pw.cells (D1.below (bth HB1.out al1 HB1.out.size))
          | with_reducible exact Pw.cells (D1.below (bth HB1.out al2 HB1.out.size))
          | with_reducible exact Pw.cells (D1.below HB2.out)
          | with_reducible exact Pw.cells (D1.below (bth HB2.out al1 HB2.out.size))
          | with_reducible exact Pw.cells (D1.below (bth HB2.out al2 HB2.out.size))
          | with_reducible exact Pw.cells (D1.below (bset1 HB2.out qa.ge))
          | with_reducible exact Pw.cells (D1.below (bset1 HB2.out qb.ge))
          | with_reducible exact Pw.cells (D1.below ((bset1 HB2.out qa.ge).alloc (by simpa [World.setCell] using HB2.out.size) _))
          | with_reducible exact Pw.cells (D1.below (bset1 (bset1 HB2.out qa.ge) qb.ge))
          | with_reducible exact Pw.cells (D1.below (bset1 (bset1 HB2.out qb.ge) qa.ge))) (first
          | (go_at_call 95; (first | with_reducible refine (Hm.out _ _ (D1.below dr0).f.a).mono ?_ | with_reducible refine (Hm.out _ _ (D1.below dr1).f.a).mono ?_ | with_reducible refine (Hm.out _ _ (D1.below dr2).f.a).mono ?_); rintro e y1 ⟨rfl, hb1⟩; (first | ((with_reducible have H := sn2 (Nat.le_refl _) hb1); obtain ⟨hc1, qa, qb⟩ := H; have nab := (Nat.ne_of_lt (Nat.lt_succ_self W1.heap.size)); have nba := fun e => nab (Eq.symm e)) | ((with_reducible have H := sn1 (Nat.le_refl _) hb1); obtain ⟨hc1, qa⟩ := H) | (with_reducible have hc1 := sd0 hb1)); have HB1 := hid hc1)
          | (go_at_call 96; (first | with_reducible refine (Hn.out _ _ (D1.below HB1.out).t.a).mono ?_ | with_reducible refine (Hn.out _ _ (D1.below (bth HB1.out al1 HB1.out.size)).t.a).mono ?_ | with_reducible refine (Hn.out _ _ (D1.below (bth HB1.out al2 HB1.out.size)).t.a).mono ?_); rintro e y2 ⟨rfl, hb2⟩; (first | ((with_reducible have H := tn2 HB1.out.size hb2); obtain ⟨hc2, qa, qb⟩ := H; have nab := (Nat.ne_of_lt (Nat.lt_succ_self y1.heap.size)); have nba := fun e => nab (Eq.symm e)) | ((with_reducible have H := tn1 HB1.out.size hb2); obtain ⟨hc2, q⟩ := H; (first | (have nab := Nat.ne_of_lt qa.lt; have nba := fun e => nab (Eq.symm e); have qb := q; replace qa := qa.step hc2) | have qa := q)) | (have hc2 := hb2; (try replace qa := qa.step hc2); (try replace qb := qb.step hc2))); have HB2 := hid (bth HB1.out hc2 HB1.out.size); (try (have lqa := qa.lt; have ea0 := cell_of_row _ _ 0 _ _ _ qa.bk; have fa0 := Bk.fz qa.bk 0)); (try (have lqb := qb.lt; have eb0 := cell_of_row _ _ 0 _ _ _ qb.bk; have fb0 := Bk.fz qb.bk 0))))
        all_goals
          (try clear lqa)
          (try clear lqb)
          go_wp2_with fail
          go_meet
          case rel =>
            first
            | with_reducible exact tv1_1 HB2.out HB2.out.size
            | with_reducible exact tv2_1 HB2.out HB2.out.size
            | with_reducible exact tv3_1 HB2.out HB2.out.size qa
            | with_reducible exact tv4_1 HB2.out HB2.out.size qa
            | with_reducible exact tv5_1 HB2.out qa qb nab
            | with_reducible exact tv5_1 HB2.out qb qa nba
      case rest =>
        obtain ⟨gs, gr, rfl, rfl, -, -, S1, R1, hbx⟩ := hcut
        have D2 := D1.below hbx
        have G : Gw wc gl gh gs gr g1 g2 B0 B1 l hd m n q z b x q2 z2 b2 x2 := ⟨D2, Hh1.out.step hbx, S1, R1⟩
        have HB2 := hid (bthen HB1.out hbx (Nat.le_refl _))
        have hpos : 0 < hd := by omega
        have hf : 0 ≤ l.fac * hd ∧ l.fac * hd ≤ 1000000000000000000 := by
          refine ⟨Int.mul_nonneg f0 (by omega), ?_⟩
          have := Int.mul_le_mul f1 (show hd ≤ 10000000 by omega) (by omega) (by decide)
          omega
        clear hbx S1 R1 D1 hh
        obtain ⟨v0, v1, v2, v3, -⟩ := D2.cells
        go_wp2_with fail
        refine (greatest_any G r0 (by omega) hf Hsp.out Hrm.out (Hz.out hpos) Hmono.out).mono ?_
        rintro e w5 ⟨r, rfl, hr, hb⟩
        have HE := hid ((Hg0.out r).2 (.inr ⟨hpos, hr.out⟩))
        have HB5 := hid (bthen HB2.out hb (Nat.le_refl _))
        clear hb v0 v1 v2 v3 G D2 hf
        go_wp2
        go_ret
        exact ⟨r, rfl, HE, HB5.out⟩
end

end Go.Proofs.Ytockfiobhmohnaa

namespace Go.Proofs.Ytockfiobhmohnaa
open Go.RowKit Go.Maps Kb Wb

/-- A network, a state and a link in boxes. -/
structure Tw (w : World) (g g1 g2 B0 B1 : Nat) (N : Nd) (W : Wd) (l : Ld) : Prop where
  n : Nb w g B0 N
  k : Bk w g1 (.cells #[.int .i64 W.min, .slice W.A W.n W.c, .slice W.M W.m W.d] 30)
  a : Wt w B1 W
  l : Bk w g2 (.cells #[.string l.nm, .int .i64 l.kind, .string l.fr, .string l.tw, .int .i64 l.sill, .int .i64 l.rate, .int .i64 l.fac, .int .i64 l.lift] 49)
structure Vx (w : World) (B1 : Nat) (W : Wd) : Prop where
  a : Wt w B1 W
section
variable {w w' : World} {g g1 g2 B0 B1 : Nat} {N : Nd} {W : Wd} {l : Ld}
theorem Tw.v (h : Tw w g g1 g2 B0 B1 N W l) : Vx w B1 W := ⟨h.a⟩
theorem Tw.below (h : Tw w g g1 g2 B0 B1 N W l) (hb : Below w.heap.size w w') : Tw w' g g1 g2 B0 B1 N W l := ⟨h.n.below hb, h.k.step hb, h.a.below hb, h.l.step hb⟩
theorem Tw.cells (h : Tw w g g1 g2 B0 B1 N W l) : w.cell? ⟨g, 0, none⟩ = some (.slice N.A N.n N.c) ∧ w.cell? ⟨g, 1, none⟩ = some (.slice N.M N.m N.d) ∧ w.cell? ⟨g, 2, none⟩ = some (.slice N.K N.k N.e) ∧ w.cell? ⟨g1, 0, none⟩ = some (.int .i64 W.min) ∧ w.cell? ⟨g1, 1, none⟩ = some (.slice W.A W.n W.c) ∧ w.cell? ⟨g1, 2, none⟩ = some (.slice W.M W.m W.d) ∧ w.cell? ⟨g2, 0, none⟩ = some (.string l.nm) ∧ w.cell? ⟨g2, 1, none⟩ = some (.int .i64 l.kind) ∧ w.cell? ⟨g2, 2, none⟩ = some (.string l.fr) ∧ w.cell? ⟨g2, 3, none⟩ = some (.string l.tw) ∧ w.cell? ⟨g2, 4, none⟩ = some (.int .i64 l.sill) ∧ w.cell? ⟨g2, 5, none⟩ = some (.int .i64 l.rate) ∧ w.cell? ⟨g2, 6, none⟩ = some (.int .i64 l.fac) ∧ w.cell? ⟨g2, 7, none⟩ = some (.int .i64 l.lift) := by
  obtain ⟨a0, a1, a2⟩ := h.n.cells
  obtain ⟨b0, b1, b2⟩ := h.k.c3
  have hh := fun i => cell_of_row w _ i _ _ _ h.l
  exact ⟨a0, a1, a2, b0, b1, b2, hh 0, hh 1, hh 2, hh 3, hh 4, hh 5, hh 6, hh 7⟩
theorem Tw.new (l : Ld) (h : Nt w B0 N) (hw : Wt w B1 W) (hg : w.heap.size = g) (hg1 : g + 1 = g1) (hg2 : g1 + 1 = g2) : Tw (((w.alloc (.cells #[.slice N.A N.n N.c, .slice N.M N.m N.d, .slice N.K N.k N.e] 26)).alloc (.cells #[.int .i64 W.min, .slice W.A W.n W.c, .slice W.M W.m W.d] 30)).alloc (.cells #[.string l.nm, .int .i64 l.kind, .string l.fr, .string l.tw, .int .i64 l.sill, .int .i64 l.rate, .int .i64 l.fac, .int .i64 l.lift] 49)) g g1 g2 B0 B1 N W l := by
  subst hg; subst hg1; subst hg2
  exact ⟨((Nb.new h rfl).below alo).below alo, (Bk.of_alloc _ _ (by simp)).alloc _, ((hw.below alo).below alo).below alo, Bk.of_alloc _ _ (by simp)⟩
end
theorem Bst.small {P : Int → Prop} {q step : Int} (h : Bst P q step) : 0 ≤ step ∧ step ≤ 1073741824 := by
  obtain ⟨_, _, ⟨j, hj, he, _⟩ | ⟨he, _⟩⟩ := h
  · have h1 := pow_ge j
    have h2 : (2 : Int) ^ j * 2 ^ (30 - j) = 2 ^ 30 := by rw [← Int.pow_add]; congr 1; omega
    have h3 := pow_ge (30 - j)
    have h4 : (2 : Int) ^ j * 1 ≤ 2 ^ j * 2 ^ (30 - j) := Int.mul_le_mul_of_nonneg_left h3 (by omega)
    rw [h2] at h4
    have h5 : (2 : Int) ^ 30 = 1073741824 := by decide
    omega
  · omega
section
variable {w : World} {B0 B1 : Nat} {N : Nd} {W : Wd} {l : Ld} {s s2 : ByteArray}
set_option maxRecDepth 100000 in
set_option maxHeartbeats 8000000 in
theorem through_ok (P : Int → Prop) (a : Int) (h : Nt w B0 N) (hw : Wt w B1 W) (ha : l.sill < a) (r0 : 0 ≤ l.rate) (r1 : l.rate ≤ 1000000000) (hP0 : P 0) (hmono : ∀ i k, 0 ≤ i → i ≤ k → Mayp P l.rate k → Mayp P l.rate i)
    (Ha : Hid (∀ (V : World) (B0 B1 : Nat), Nt V B0 N → Wt V B1 W → Calls Try.prog 69 #[.agg #[.slice N.A N.n N.c, .slice N.M N.m N.d, .slice N.K N.k N.e], .agg #[.int .i64 W.min, .slice W.A W.n W.c, .slice W.M W.m W.d], .string s] V fun e w' => e = .returned (.int .i64 a) ∧ Below V.heap.size V w'))
    (Hm : Hid (∀ (V : World) (B0 B1 : Nat), Nt V B0 N → Wt V B1 W → ∀ k : Int, 0 ≤ k → k ≤ 3000000000 → Calls Try.prog 86 #[.agg #[.slice N.A N.n N.c, .slice N.M N.m N.d, .slice N.K N.k N.e], .agg #[.int .i64 W.min, .slice W.A W.n W.c, .slice W.M W.m W.d], .agg #[.string l.nm, .int .i64 l.kind, .string l.fr, .string l.tw, .int .i64 l.sill, .int .i64 l.rate, .int .i64 l.fac, .int .i64 l.lift], .string s, .string s2, .int .i64 k] V fun e w' => ∃ p : Bool, e = .returned (.bool p) ∧ Hid (p = true ↔ Mayp P l.rate k) ∧ Below V.heap.size V w')) :
    Calls Try.prog 70 #[.agg #[.slice N.A N.n N.c, .slice N.M N.m N.d, .slice N.K N.k N.e], .agg #[.int .i64 W.min, .slice W.A W.n W.c, .slice W.M W.m W.d], .agg #[.string l.nm, .int .i64 l.kind, .string l.fr, .string l.tw, .int .i64 l.sill, .int .i64 l.rate, .int .i64 l.fac, .int .i64 l.lift], .string s, .string s2] w fun e w' => ∃ r : Int, e = .returned (.int .i64 r) ∧ Hid (Gre P l.rate r) ∧ Below w.heap.size w w' := by
  obtain ⟨g, hg⟩ : ∃ g, w.heap.size = g := ⟨_, rfl⟩
  obtain ⟨g1, hg1⟩ : ∃ g', g + 1 = g' := ⟨_, rfl⟩
  obtain ⟨g2, hg2⟩ : ∃ g', g1 + 1 = g' := ⟨_, rfl⟩
  have hb0 := (((Below.refl w.heap.size w).alloc (Nat.le_refl _) (.cells #[.slice N.A N.n N.c, .slice N.M N.m N.d, .slice N.K N.k N.e] 26)).alloc (by simp) (.cells #[.int .i64 W.min, .slice W.A W.n W.c, .slice W.M W.m W.d] 30)).alloc (by simp; omega) (.cells #[.string l.nm, .int .i64 l.kind, .string l.fr, .string l.tw, .int .i64 l.sill, .int .i64 l.rate, .int .i64 l.fac, .int .i64 l.lift] 49)
  have D := Tw.new l h hw hg hg1 hg2
  have d1 : decide (a ≤ l.sill) = false := decide_eq_false (by omega)
  have Hmono := hid hmono
  have Hst := hid (show Bst (Mayp P l.rate) 0 1073741824 from Bst.start (rate := l.rate) ⟨r0, hP0⟩ (by omega) (fun k hk => hk.1))
  clear hmono hP0 ha
  go_enter Try.func70, Try.ntmps70
  go_upto_region 1 with fail
  generalize ((w.alloc (.cells #[.slice N.A N.n N.c, .slice N.M N.m N.d, .slice N.K N.k N.e] 26)).alloc (.cells #[.int .i64 W.min, .slice W.A W.n W.c, .slice W.M W.m W.d] 30)).alloc (.cells #[.string l.nm, .int .i64 l.kind, .string l.fr, .string l.tw, .int .i64 l.sill, .int .i64 l.rate, .int .i64 l.fac, .int .i64 l.lift] 49) = W0 at *
  have HB0 := hid hb0
  have D0 := D.below dr0
  clear hb0 hg hg1 hg2 h hw D
  go_region_held3 (fun w' => w'.cell? ⟨g, 0, none⟩ = some (.slice N.A N.n N.c) ∧ w'.cell? ⟨g, 1, none⟩ = some (.slice N.M N.m N.d) ∧ w'.cell? ⟨g, 2, none⟩ = some (.slice N.K N.k N.e) ∧ w'.cell? ⟨g1, 0, none⟩ = some (.int .i64 W.min) ∧ w'.cell? ⟨g1, 1, none⟩ = some (.slice W.A W.n W.c) ∧ w'.cell? ⟨g1, 2, none⟩ = some (.slice W.M W.m W.d) ∧ w'.cell? ⟨g2, 0, none⟩ = some (.string l.nm) ∧ w'.cell? ⟨g2, 1, none⟩ = some (.int .i64 l.kind) ∧ w'.cell? ⟨g2, 2, none⟩ = some (.string l.fr) ∧ w'.cell? ⟨g2, 3, none⟩ = some (.string l.tw) ∧ w'.cell? ⟨g2, 4, none⟩ = some (.int .i64 l.sill) ∧ w'.cell? ⟨g2, 5, none⟩ = some (.int .i64 l.rate) ∧ w'.cell? ⟨g2, 6, none⟩ = some (.int .i64 l.fac) ∧ w'.cell? ⟨g2, 7, none⟩ = some (.int .i64 l.lift)) (first | with_reducible exact Tw.cells D0 | with_reducible exact Tw.cells D1) (first
    | (go_at_call 69; (with_reducible refine (Ha.out _ _ _ D0.n.a D0.v.a).mono ?_); rintro e w1 ⟨rfl, hb1⟩; have D1 := D0.below hb1))
  all_goals
    have HB1 := hid (bthen HB0.out.drew hb1 (Nat.le_refl _))
    clear hb1 D0
    go_wp2_with fail
    go_loopw [11, 12] (fun qv sv wr => ∃ (q step : Int), qv = .int .i64 q ∧ sv = .int .i64 step ∧ Hid (Bst (Mayp P l.rate) q step) ∧ Below w1.heap.size w1 wr) (fun _ sv _ => (intOf sv).toNat)
    case atStart => exact ⟨0, 1073741824, rfl, rfl, Hst, Below.refl _ _⟩
    case round =>
      obtain ⟨q, step, rfl, rfl, HG, hbel⟩ := hrel
      have D3 := D1.below hbel
      have HB3 := hid (bthen HB1.out hbel (Nat.le_refl _))
      have Hbel := hid hbel
      have hs := HG.out.small
      have hq0 := HG.out.1
      have hq1 := HG.out.2.1.1
      clear hbel
      by_cases hlt : 0 < step
      · have dlt : decide (0 < step) = true := decide_eq_true hlt
        have hnx := hid (HG.out.next hlt Hmono.out)
        obtain ⟨d, hd'⟩ : ∃ d, step.tdiv 2 = d := ⟨_, rfl⟩
        have hd2 : step / 2 = d := by rw [← hd']; exact (Int.tdiv_eq_ediv_of_nonneg (by omega)).symm
        have hd3 : 0 ≤ d ∧ d < step := by omega
        have hw1 : IntKind.i64.wrap (q + step) = q + step := IntWalk.i64_in _ (by omega)
        have hw2 : IntKind.i64.wrap (step.tdiv 2) = d := by rw [hd']; exact IntWalk.i64_in _ (by omega)
        have Hd2 := hid hd2
        clear hd2
        obtain ⟨y0, y1, y2, y3, y4, y5, y6, y7, y8, y9, ya, yb, yc, yd⟩ := D3.cells
        go_wp2_with fail
        refine (Hm.out _ _ _ D3.n.a D3.a (q + step) (by omega) (by omega)).mono ?_
        rintro e w4 ⟨p, rfl, hp, hb⟩
        have HB4 := hid (bthen Hbel.out hb (Nat.le_refl _))
        clear hb D3 y0 y1 y2 y3 y4 y5 y6 y7 y8 y9 ya yb yc yd
        cases p with
        | true =>
          have HN := hid (hnx.out.1 (hp.out.1 rfl))
          rw [Hd2.out] at HN
          go_wp2
          go_roundw
          case rel => exact ⟨q + step, d, rfl, rfl, HN, HB4.out⟩
          case measure => simp [intOf]; omega
        | false =>
          have HN := hid (hnx.out.2 (fun hh => absurd (hp.out.2 hh) (by decide)))
          rw [Hd2.out] at HN
          go_wp2
          go_roundw
          case rel => exact ⟨q, d, rfl, rfl, HN, HB4.out⟩
          case measure => simp [intOf]; omega
      · have dlt : decide (0 < step) = false := decide_eq_false hlt
        have e : step = 0 := by omega
        subst e
        have HE := hid HG.out.done
        go_wp2
        go_ret
        exact ⟨q, rfl, HE, HB3.out⟩
end

end Go.Proofs.Ytockfiobhmohnaa

