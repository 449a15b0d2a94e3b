/- Networks: passed of the program. -/
import Derived.Test.YtndcopljjnbkbaaNt17
import Derived.Test.YtndcopljjnbkbaaNtT
import Derived.Deep.RegionLaw
import Derived.Deep.DeepCutAuto
namespace Go.Proofs.Ytndcopljjnbkbaa
open Go.RowKit Go.Maps Kb Wb

section
variable {w : World} {B0 B1 : Nat} {q : Bool} {z : Int} {b : Bd} {x : Int} {q2 : Bool} {z2 : Int} {b2 : Bd} {x2 : Int}
/-- What an open gate lets through from the first side to the second. -/
def Gv (l : Ld) (q : Bool) (z : Int) (b : Bd) (x : Int) (q2 : Bool) (z2 : Int) (b2 : Bd) (x2 : Int) (r : Int) : Prop :=
  (slev q z b x 0 - max l.sill (slev q2 z2 b2 x2 0) ≤ 0 ∧ r = 0) ∨ (0 < slev q z b x 0 - max l.sill (slev q2 z2 b2 x2 0) ∧ Gre (Okp l (slev q z b x 0 - max l.sill (slev q2 z2 b2 x2 0)) (sabo q b x l.sill) (sroom q2 b2 x2) q z b x q2 z2 b2 x2) l.rate r)
theorem Bk.put1 {w : World} {g : Nat} {a : Value} {T : TypeId} (h : Bk w g (.cells #[a] T (0, 0))) (x : Value) : Bk (w.setCell ⟨g, 0, none⟩ x) g (.cells #[x] T (0, 0)) := by
  unfold Bk at h ⊢
  simp only [World.setCell, Array.getElem?_modify, h]
  simp
set_option maxRecDepth 100000 in
set_option maxHeartbeats 16000000 in
theorem passed_any (l : Ld) (h : Sok w B0 q z b x) (k : Sok w B1 q2 z2 b2 x2) (s0' : -1000000 ≤ l.sill) (s1 : l.sill ≤ 1000000) (f0 : 0 ≤ l.fac) (f1 : l.fac ≤ 1000000000) (r0 : 0 ≤ l.rate) (r1 : l.rate ≤ 1000000000) :
    Calls Try.prog 90 #[.agg #[.string l.nm, .int .i64 l.kind, .string l.fr, .string l.tw, .int .i64 l.sill, .int .i64 l.rate, .int .i64 l.fac, .int .i64 l.lift], .agg #[.bool q, .int .i64 z, .string b.nm, .slice b.A b.n b.c, .int .i64 b.rim, .int .i64 x], .agg #[.bool q2, .int .i64 z2, .string b2.nm, .slice b2.A b2.n b2.c, .int .i64 b2.rim, .int .i64 x2]] w fun e w' => ∃ r : Int, e = .returned (.int .i64 r) ∧ Hid (Gv l q z b x q2 z2 b2 x2 r) ∧ Below w.heap.size w w' := by
  obtain ⟨gl, hg⟩ : ∃ g, w.heap.size = g := ⟨_, rfl⟩
  obtain ⟨g1, hg1⟩ : ∃ g, gl + 1 = g := ⟨_, rfl⟩
  obtain ⟨g2, hg2⟩ : ∃ g, g1 + 1 = g := ⟨_, rfl⟩
  have hb0 := (((Below.refl w.heap.size w).alloc (Nat.le_refl _) (.cells #[.string l.nm, .int .i64 l.kind, .string l.fr, .string l.tw, .int .i64 l.sill, .int .i64 l.rate, .int .i64 l.fac, .int .i64 l.lift] 59)).alloc (by simp) (.cells #[.bool q, .int .i64 z, .string b.nm, .slice b.A b.n b.c, .int .i64 b.rim, .int .i64 x] 127)).alloc (by simp; omega) (.cells #[.bool q2, .int .i64 z2, .string b2.nm, .slice b2.A b2.n b2.c, .int .i64 b2.rim, .int .i64 x2] 127)
  have D := Pw.new l h k hg hg1 hg2
  have t1 := slev_range h h.v0
  have t2 := slev_range k k.v0
  obtain ⟨a, ha⟩ : ∃ a, slev q z b x 0 = a := ⟨_, rfl⟩
  obtain ⟨c, hc⟩ : ∃ c, slev q2 z2 b2 x2 0 = c := ⟨_, rfl⟩
  obtain ⟨m, hm⟩ : ∃ m, sabo q b x l.sill = m := ⟨_, rfl⟩
  obtain ⟨n, hn⟩ : ∃ n, sroom q2 b2 x2 = n := ⟨_, rfl⟩
  rw [ha] at t1
  rw [hc] at t2
  obtain ⟨hd, hhd⟩ : ∃ hd, a - max l.sill c = hd := ⟨_, rfl⟩
  have Hg0 := hid (show ∀ r, Gv l q z b x q2 z2 b2 x2 r ↔ (hd ≤ 0 ∧ r = 0) ∨ (0 < hd ∧ Gre (Okp l hd m n q z b x q2 z2 b2 x2) l.rate r) from fun r => by unfold Gv; rw [ha, hc, hm, hn, hhd])
  have Hz := hid (fun (e : 0 < hd) => (show Okp l hd m n q z b x q2 z2 b2 x2 0 by
    have := Okp.zero (l := l) h k f0 (by rw [ha, hc, hhd]; exact e)
    rw [ha, hc, hm, hn, hhd] at this
    exact this))
  have hsp : q = false → m ≤ x := hm ▸ sabo_le h s1
  have hrm : q2 = false → n = capB b2 - x2 := hn ▸ sroom_is
  have Hmono := hid (fun i j (i0 : 0 ≤ i) (ij : i ≤ j) (_ : j ≤ l.rate) (hj : Okp l hd m n q z b x q2 z2 b2 x2 j) => Okp.mono h k hsp hrm i0 ij hj)
  have Ha := hid (fun (W : World) (B0 : Nat) (h : Sok W B0 q z b x) => (show Calls Try.prog 89 #[.agg #[.bool q, .int .i64 z, .string b.nm, .slice b.A b.n b.c, .int .i64 b.rim, .int .i64 x], .int .i64 0] W fun e w' => e = .returned (.int .i64 a) ∧ Below W.heap.size W w' from ha ▸ slevel_any h 0 h.v0))
  have Hc := hid (fun (W : World) (B0 : Nat) (h : Sok W B0 q2 z2 b2 x2) => (show Calls Try.prog 89 #[.agg #[.bool q2, .int .i64 z2, .string b2.nm, .slice b2.A b2.n b2.c, .int .i64 b2.rim, .int .i64 x2], .int .i64 0] W fun e w' => e = .returned (.int .i64 c) ∧ Below W.heap.size W w' from hc ▸ slevel_any h 0 h.v0))
  have Hm := hid (fun (W : World) (B0 : Nat) (h : Sok W B0 q z b x) => (show Calls Try.prog 102 #[.agg #[.bool q, .int .i64 z, .string b.nm, .slice b.A b.n b.c, .int .i64 b.rim, .int .i64 x], .int .i64 l.sill] W fun e w' => e = .returned (.int .i64 m) ∧ Below W.heap.size W w' from hm ▸ sabo_any h l.sill s0' s1))
  have Hn := hid (fun (W : World) (B0 : Nat) (h : Sok W B0 q2 z2 b2 x2) => (show Calls Try.prog 103 #[.agg #[.bool q2, .int .i64 z2, .string b2.nm, .slice b2.A b2.n b2.c, .int .i64 b2.rim, .int .i64 x2]] W fun e w' => e = .returned (.int .i64 n) ∧ Below W.heap.size W w' from hn ▸ sroom_any h))
  have Hsp := hid hsp
  have Hrm := hid hrm
  have hhb : -10000000 ≤ hd ∧ hd ≤ 10000000 := by omega
  have Hhd := hid hhd
  have hw0 : IntKind.i64.wrap hd = hd := IntWalk.i64_in _ (by omega)
  clear ha hc hm hn hsp hrm hhd
  go_enter Try.func90, Try.ntmps90
  go_upto_region 1 with fail
  generalize ((w.alloc (.cells #[.string l.nm, .int .i64 l.kind, .string l.fr, .string l.tw, .int .i64 l.sill, .int .i64 l.rate, .int .i64 l.fac, .int .i64 l.lift] 59)).alloc (.cells #[.bool q, .int .i64 z, .string b.nm, .slice b.A b.n b.c, .int .i64 b.rim, .int .i64 x] 127)).alloc (.cells #[.bool q2, .int .i64 z2, .string b2.nm, .slice b2.A b2.n b2.c, .int .i64 b2.rim, .int .i64 x2] 127) = W0 at *
  have HB0 := hid hb0
  have D0 := D.below dr0
  clear hb0 hg hg1 hg2 h k
  go_cut [7] from 8 to 31 (fun p7 wx => ∃ gh, p7 = .pointer (some ⟨gh, 0, none⟩) ∧ Bk wx gh (.cells #[.int .i64 hd] 3 (0, 0)) ∧ Below W0.heap.size W0 wx)
  case first =>
    rcases (show (l.sill < c ∧ hd = a - c) ∨ (¬ l.sill < c ∧ hd = a - l.sill) by have := Hhd.out; omega) with ⟨e1, e2⟩ | ⟨e1, e2⟩
    · have hw1 : IntKind.i64.wrap (a - c) = a - c := IntWalk.i64_in _ (by omega)
      have DA := (D.below (alo (o := (.cells #[.int .i64 0] 3)))).below dr0
      go_region_held3 (fun w' => w'.cell? ⟨gl, 4, none⟩ = some (.int .i64 l.sill) ∧ w'.cell? ⟨gl, 5, none⟩ = some (.int .i64 l.rate) ∧ w'.cell? ⟨gl, 6, none⟩ = some (.int .i64 l.fac) ∧ w'.cell? ⟨gl, 7, none⟩ = some (.int .i64 l.lift) ∧ w'.cell? ⟨g1, 0, none⟩ = some (.bool q) ∧ w'.cell? ⟨g1, 1, none⟩ = some (.int .i64 z) ∧ w'.cell? ⟨g1, 2, none⟩ = some (.string b.nm) ∧ w'.cell? ⟨g1, 3, none⟩ = some (.slice b.A b.n b.c) ∧ w'.cell? ⟨g1, 4, none⟩ = some (.int .i64 b.rim) ∧ w'.cell? ⟨g1, 5, none⟩ = some (.int .i64 x) ∧ w'.cell? ⟨g2, 0, none⟩ = some (.bool q2) ∧ w'.cell? ⟨g2, 1, none⟩ = some (.int .i64 z2) ∧ w'.cell? ⟨g2, 2, none⟩ = some (.string b2.nm) ∧ w'.cell? ⟨g2, 3, none⟩ = some (.slice b2.A b2.n b2.c) ∧ w'.cell? ⟨g2, 4, none⟩ = some (.int .i64 b2.rim) ∧ w'.cell? ⟨g2, 5, none⟩ = some (.int .i64 x2)) (first | with_reducible exact Pw.cells D0 | with_reducible exact Pw.cells DA | with_reducible exact Pw.cells D1 | with_reducible exact Pw.cells (D1.below (alo (o := (.cells #[.int .i64 0] 3)))) | with_reducible exact Pw.cells D2 | with_reducible exact Pw.cells (D2.below (alo (o := (.cells #[.int .i64 0] 3)))) | with_reducible exact Pw.cells (D2.below alo) | with_reducible exact Pw.cells (DS _)) (first
        | (go_at_call 89; (with_reducible refine (Ha.out _ _ D0.f.a).mono ?_); rintro e w1 ⟨rfl, hb1⟩; have D1 := D0.below hb1; have HB1 := hid (bthen (Below.refl W0.heap.size W0).drew hb1 (Nat.le_refl _)))
        | (go_at_call 89; (with_reducible refine (Ha.out _ _ DA.f.a).mono ?_); rintro e w1 ⟨rfl, hb1⟩; have D1 := DA.below hb1; have HB1 := hid (bthen ((Below.refl W0.heap.size W0).alloc (Nat.le_refl _) (.cells #[.int .i64 0] 3)).drew hb1 (Nat.le_refl _)); have E1 : Bk w1 W0.heap.size (.cells #[.int .i64 0] 3 (0, 0)) := Bk.step (W := (W0.alloc (.cells #[.int .i64 0] 3)).drew) (Bk.of_alloc W0 (.cells #[.int .i64 0] 3) rfl) hb1)
        | (go_at_call 89; (with_reducible refine (Hc.out _ _ D1.t.a).mono ?_); rintro e w2 ⟨rfl, hb2⟩; have HB2 := hid (bthen HB1.out hb2 (Nat.le_refl _)); have D2 := D1.below hb2; try (have E2 : Bk w2 W0.heap.size (.cells #[.int .i64 0] 3 (0, 0)) := Bk.step E1 hb2; have DS := fun v => D.below (HB2.out.setCell (p := ⟨W0.heap.size, 0, none⟩) (Nat.le_refl _) v); have E3 := cell_of_row w2 _ 0 _ _ _ E2; have E4 := Bk.fz E2 0))
        | (go_at_call 89; (with_reducible refine (Hc.out _ _ (D1.below (alo (o := (.cells #[.int .i64 0] 3)))).t.a).mono ?_); rintro e w2 ⟨rfl, hb2⟩; have HB2 := hid (bthen (HB1.out.alloc HB1.out.size (.cells #[.int .i64 0] 3)) hb2 (Nat.le_refl _)); have D2 := (D1.below (alo (o := (.cells #[.int .i64 0] 3)))).below hb2; have E2 : Bk w2 w1.heap.size (.cells #[.int .i64 0] 3 (0, 0)) := Bk.step (Bk.of_alloc w1 (.cells #[.int .i64 0] 3) rfl) hb2; have DS := fun v => D.below (HB2.out.setCell (p := ⟨w1.heap.size, 0, none⟩) HB1.out.size v); have E3 := cell_of_row w2 _ 0 _ _ _ E2; have E4 := Bk.fz E2 0)
        | (go_at_call 89; (with_reducible refine (Hc.out _ _ D0.t.a).mono ?_); rintro e w1 ⟨rfl, hb1⟩; have D1 := D0.below hb1; have HB1 := hid (bthen (Below.refl W0.heap.size W0).drew hb1 (Nat.le_refl _)))
        | (go_at_call 89; (with_reducible refine (Hc.out _ _ DA.t.a).mono ?_); rintro e w1 ⟨rfl, hb1⟩; have D1 := DA.below hb1; have HB1 := hid (bthen ((Below.refl W0.heap.size W0).alloc (Nat.le_refl _) (.cells #[.int .i64 0] 3)).drew hb1 (Nat.le_refl _)); have E1 : Bk w1 W0.heap.size (.cells #[.int .i64 0] 3 (0, 0)) := Bk.step (W := (W0.alloc (.cells #[.int .i64 0] 3)).drew) (Bk.of_alloc W0 (.cells #[.int .i64 0] 3) rfl) hb1)
        | (go_at_call 89; (with_reducible refine (Ha.out _ _ D1.f.a).mono ?_); rintro e w2 ⟨rfl, hb2⟩; have HB2 := hid (bthen HB1.out hb2 (Nat.le_refl _)); have D2 := D1.below hb2; try (have E2 : Bk w2 W0.heap.size (.cells #[.int .i64 0] 3 (0, 0)) := Bk.step E1 hb2; have DS := fun v => D.below (HB2.out.setCell (p := ⟨W0.heap.size, 0, none⟩) (Nat.le_refl _) v); have E3 := cell_of_row w2 _ 0 _ _ _ E2; have E4 := Bk.fz E2 0))
        | (go_at_call 89; (with_reducible refine (Ha.out _ _ (D1.below (alo (o := (.cells #[.int .i64 0] 3)))).f.a).mono ?_); rintro e w2 ⟨rfl, hb2⟩; have HB2 := hid (bthen (HB1.out.alloc HB1.out.size (.cells #[.int .i64 0] 3)) hb2 (Nat.le_refl _)); have D2 := (D1.below (alo (o := (.cells #[.int .i64 0] 3)))).below hb2; have E2 : Bk w2 w1.heap.size (.cells #[.int .i64 0] 3 (0, 0)) := Bk.step (Bk.of_alloc w1 (.cells #[.int .i64 0] 3) rfl) hb2; have DS := fun v => D.below (HB2.out.setCell (p := ⟨w1.heap.size, 0, none⟩) HB1.out.size v); have E3 := cell_of_row w2 _ 0 _ _ _ E2; have E4 := Bk.fz E2 0))
      all_goals
        go_wp2_with fail
        go_meet
        case rel =>
          rw [e2]
          first
          | exact ⟨_, rfl, Bk.of_alloc w2 _ rfl, HB2.out.alloc HB2.out.size _⟩
          | exact ⟨_, rfl, Bk.put1 E2 _, HB2.out.setCell (p := ⟨W0.heap.size, 0, none⟩) (Nat.le_refl _) _⟩
          | exact ⟨_, rfl, Bk.put1 E2 _, HB2.out.setCell (p := ⟨w1.heap.size, 0, none⟩) HB1.out.size _⟩
    · have hw1 : IntKind.i64.wrap (a - l.sill) = a - l.sill := IntWalk.i64_in _ (by omega)
      have DA := (D.below (alo (o := (.cells #[.int .i64 0] 3)))).below dr0
      go_region_held3 (fun w' => w'.cell? ⟨gl, 4, none⟩ = some (.int .i64 l.sill) ∧ w'.cell? ⟨gl, 5, none⟩ = some (.int .i64 l.rate) ∧ w'.cell? ⟨gl, 6, none⟩ = some (.int .i64 l.fac) ∧ w'.cell? ⟨gl, 7, none⟩ = some (.int .i64 l.lift) ∧ w'.cell? ⟨g1, 0, none⟩ = some (.bool q) ∧ w'.cell? ⟨g1, 1, none⟩ = some (.int .i64 z) ∧ w'.cell? ⟨g1, 2, none⟩ = some (.string b.nm) ∧ w'.cell? ⟨g1, 3, none⟩ = some (.slice b.A b.n b.c) ∧ w'.cell? ⟨g1, 4, none⟩ = some (.int .i64 b.rim) ∧ w'.cell? ⟨g1, 5, none⟩ = some (.int .i64 x) ∧ w'.cell? ⟨g2, 0, none⟩ = some (.bool q2) ∧ w'.cell? ⟨g2, 1, none⟩ = some (.int .i64 z2) ∧ w'.cell? ⟨g2, 2, none⟩ = some (.string b2.nm) ∧ w'.cell? ⟨g2, 3, none⟩ = some (.slice b2.A b2.n b2.c) ∧ w'.cell? ⟨g2, 4, none⟩ = some (.int .i64 b2.rim) ∧ w'.cell? ⟨g2, 5, none⟩ = some (.int .i64 x2)) (first | with_reducible exact Pw.cells D0 | with_reducible exact Pw.cells DA | with_reducible exact Pw.cells D1 | with_reducible exact Pw.cells (D1.below (alo (o := (.cells #[.int .i64 0] 3)))) | with_reducible exact Pw.cells D2 | with_reducible exact Pw.cells (D2.below (alo (o := (.cells #[.int .i64 0] 3)))) | with_reducible exact Pw.cells (D2.below alo) | with_reducible exact Pw.cells (DS _)) (first
        | (go_at_call 89; (with_reducible refine (Ha.out _ _ D0.f.a).mono ?_); rintro e w1 ⟨rfl, hb1⟩; have D1 := D0.below hb1; have HB1 := hid (bthen (Below.refl W0.heap.size W0).drew hb1 (Nat.le_refl _)))
        | (go_at_call 89; (with_reducible refine (Ha.out _ _ DA.f.a).mono ?_); rintro e w1 ⟨rfl, hb1⟩; have D1 := DA.below hb1; have HB1 := hid (bthen ((Below.refl W0.heap.size W0).alloc (Nat.le_refl _) (.cells #[.int .i64 0] 3)).drew hb1 (Nat.le_refl _)); have E1 : Bk w1 W0.heap.size (.cells #[.int .i64 0] 3 (0, 0)) := Bk.step (W := (W0.alloc (.cells #[.int .i64 0] 3)).drew) (Bk.of_alloc W0 (.cells #[.int .i64 0] 3) rfl) hb1)
        | (go_at_call 89; (with_reducible refine (Hc.out _ _ D1.t.a).mono ?_); rintro e w2 ⟨rfl, hb2⟩; have HB2 := hid (bthen HB1.out hb2 (Nat.le_refl _)); have D2 := D1.below hb2; try (have E2 : Bk w2 W0.heap.size (.cells #[.int .i64 0] 3 (0, 0)) := Bk.step E1 hb2; have DS := fun v => D.below (HB2.out.setCell (p := ⟨W0.heap.size, 0, none⟩) (Nat.le_refl _) v); have E3 := cell_of_row w2 _ 0 _ _ _ E2; have E4 := Bk.fz E2 0))
        | (go_at_call 89; (with_reducible refine (Hc.out _ _ (D1.below (alo (o := (.cells #[.int .i64 0] 3)))).t.a).mono ?_); rintro e w2 ⟨rfl, hb2⟩; have HB2 := hid (bthen (HB1.out.alloc HB1.out.size (.cells #[.int .i64 0] 3)) hb2 (Nat.le_refl _)); have D2 := (D1.below (alo (o := (.cells #[.int .i64 0] 3)))).below hb2; have E2 : Bk w2 w1.heap.size (.cells #[.int .i64 0] 3 (0, 0)) := Bk.step (Bk.of_alloc w1 (.cells #[.int .i64 0] 3) rfl) hb2; have DS := fun v => D.below (HB2.out.setCell (p := ⟨w1.heap.size, 0, none⟩) HB1.out.size v); have E3 := cell_of_row w2 _ 0 _ _ _ E2; have E4 := Bk.fz E2 0)
        | (go_at_call 89; (with_reducible refine (Hc.out _ _ D0.t.a).mono ?_); rintro e w1 ⟨rfl, hb1⟩; have D1 := D0.below hb1; have HB1 := hid (bthen (Below.refl W0.heap.size W0).drew hb1 (Nat.le_refl _)))
        | (go_at_call 89; (with_reducible refine (Hc.out _ _ DA.t.a).mono ?_); rintro e w1 ⟨rfl, hb1⟩; have D1 := DA.below hb1; have HB1 := hid (bthen ((Below.refl W0.heap.size W0).alloc (Nat.le_refl _) (.cells #[.int .i64 0] 3)).drew hb1 (Nat.le_refl _)); have E1 : Bk w1 W0.heap.size (.cells #[.int .i64 0] 3 (0, 0)) := Bk.step (W := (W0.alloc (.cells #[.int .i64 0] 3)).drew) (Bk.of_alloc W0 (.cells #[.int .i64 0] 3) rfl) hb1)
        | (go_at_call 89; (with_reducible refine (Ha.out _ _ D1.f.a).mono ?_); rintro e w2 ⟨rfl, hb2⟩; have HB2 := hid (bthen HB1.out hb2 (Nat.le_refl _)); have D2 := D1.below hb2; try (have E2 : Bk w2 W0.heap.size (.cells #[.int .i64 0] 3 (0, 0)) := Bk.step E1 hb2; have DS := fun v => D.below (HB2.out.setCell (p := ⟨W0.heap.size, 0, none⟩) (Nat.le_refl _) v); have E3 := cell_of_row w2 _ 0 _ _ _ E2; have E4 := Bk.fz E2 0))
        | (go_at_call 89; (with_reducible refine (Ha.out _ _ (D1.below (alo (o := (.cells #[.int .i64 0] 3)))).f.a).mono ?_); rintro e w2 ⟨rfl, hb2⟩; have HB2 := hid (bthen (HB1.out.alloc HB1.out.size (.cells #[.int .i64 0] 3)) hb2 (Nat.le_refl _)); have D2 := (D1.below (alo (o := (.cells #[.int .i64 0] 3)))).below hb2; have E2 : Bk w2 w1.heap.size (.cells #[.int .i64 0] 3 (0, 0)) := Bk.step (Bk.of_alloc w1 (.cells #[.int .i64 0] 3) rfl) hb2; have DS := fun v => D.below (HB2.out.setCell (p := ⟨w1.heap.size, 0, none⟩) HB1.out.size v); have E3 := cell_of_row w2 _ 0 _ _ _ E2; have E4 := Bk.fz E2 0))
      all_goals
        go_wp2_with fail
        go_meet
        case rel =>
          rw [e2]
          first
          | exact ⟨_, rfl, Bk.of_alloc w2 _ rfl, HB2.out.alloc HB2.out.size _⟩
          | exact ⟨_, rfl, Bk.put1 E2 _, HB2.out.setCell (p := ⟨W0.heap.size, 0, none⟩) (Nat.le_refl _) _⟩
          | exact ⟨_, rfl, Bk.put1 E2 _, HB2.out.setCell (p := ⟨w1.heap.size, 0, none⟩) HB1.out.size _⟩
  case rest =>
    obtain ⟨gh, rfl, H1, hbc⟩ := hcut
    have D1 := D.below hbc
    have HB1 := hid (bthen HB0.out hbc (Nat.le_refl _))
    have h0 := cell_of_row wc _ 0 _ _ _ H1
    clear D0 hbc
    by_cases hh : hd ≤ 0
    · have dh : decide (hd ≤ 0) = true := decide_eq_true hh
      have HE := hid ((Hg0.out 0).2 (.inl ⟨hh, rfl⟩))
      go_wp2_with fail
      go_ret
      exact ⟨0, rfl, HE, HB1.out⟩
    · have dh : decide (hd ≤ 0) = false := decide_eq_false hh
      generalize wc = W1 at *
      have Hh1 := hid H1
      clear Ha Hc
      go_upto_region 4 with fail
      clear h0 H1 dh
      go_cut [8, 9] from 10 to 31 (fun p8 p9 wx => Tv W1.heap.size W1 (.cells #[.int .i64 m] 3 (0, 0)) (.cells #[.int .i64 n] 3 (0, 0)) p8 p9 wx)
      case first =>
        go_region_held3 (fun w' => w'.cell? ⟨gl, 4, none⟩ = some (.int .i64 l.sill) ∧ w'.cell? ⟨gl, 5, none⟩ = some (.int .i64 l.rate) ∧ w'.cell? ⟨gl, 6, none⟩ = some (.int .i64 l.fac) ∧ w'.cell? ⟨gl, 7, none⟩ = some (.int .i64 l.lift) ∧ w'.cell? ⟨g1, 0, none⟩ = some (.bool q) ∧ w'.cell? ⟨g1, 1, none⟩ = some (.int .i64 z) ∧ w'.cell? ⟨g1, 2, none⟩ = some (.string b.nm) ∧ w'.cell? ⟨g1, 3, none⟩ = some (.slice b.A b.n b.c) ∧ w'.cell? ⟨g1, 4, none⟩ = some (.int .i64 b.rim) ∧ w'.cell? ⟨g1, 5, none⟩ = some (.int .i64 x) ∧ w'.cell? ⟨g2, 0, none⟩ = some (.bool q2) ∧ w'.cell? ⟨g2, 1, none⟩ = some (.int .i64 z2) ∧ w'.cell? ⟨g2, 2, none⟩ = some (.string b2.nm) ∧ w'.cell? ⟨g2, 3, none⟩ = some (.slice b2.A b2.n b2.c) ∧ w'.cell? ⟨g2, 4, none⟩ = some (.int .i64 b2.rim) ∧ w'.cell? ⟨g2, 5, none⟩ = some (.int .i64 x2)) (first
          | with_reducible exact Pw.cells (D1.below dr0)
          | with_reducible exact Pw.cells (D1.below dr1)
          | with_reducible exact Pw.cells (D1.below dr2)
          | with_reducible exact Pw.cells (D1.below HB1.out)
          | with_reducible exact Pw.cells (D1.below (bth HB1.out al1 HB1.out.size))
          | with_reducible exact Pw.cells (D1.below (bth HB1.out al2 HB1.out.size))
          | with_reducible exact Pw.cells (D1.below HB2.out)
          | with_reducible exact Pw.cells (D1.below (bth HB2.out al1 HB2.out.size))
          | with_reducible exact Pw.cells (D1.below (bth HB2.out al2 HB2.out.size))
          | with_reducible exact Pw.cells (D1.below (bset1 HB2.out qa.ge))
          | with_reducible exact Pw.cells (D1.below (bset1 HB2.out qb.ge))
          | with_reducible exact Pw.cells (D1.below ((bset1 HB2.out qa.ge).alloc (by simpa [World.setCell] using HB2.out.size) _))
          | with_reducible exact Pw.cells (D1.below (bset1 (bset1 HB2.out qa.ge) qb.ge))
          | with_reducible exact Pw.cells (D1.below (bset1 (bset1 HB2.out qb.ge) qa.ge))) (first
          | (go_at_call 102; (first | with_reducible refine (Hm.out _ _ (D1.below dr0).f.a).mono ?_ | with_reducible refine (Hm.out _ _ (D1.below dr1).f.a).mono ?_ | with_reducible refine (Hm.out _ _ (D1.below dr2).f.a).mono ?_); rintro e y1 ⟨rfl, hb1⟩; (first | ((with_reducible have H := sn2 (Nat.le_refl _) hb1); obtain ⟨hc1, qa, qb⟩ := H; have nab := (Nat.ne_of_lt (Nat.lt_succ_self W1.heap.size)); have nba := fun e => nab (Eq.symm e)) | ((with_reducible have H := sn1 (Nat.le_refl _) hb1); obtain ⟨hc1, qa⟩ := H) | (with_reducible have hc1 := sd0 hb1)); have HB1 := hid hc1)
          | (go_at_call 103; (first | with_reducible refine (Hn.out _ _ (D1.below HB1.out).t.a).mono ?_ | with_reducible refine (Hn.out _ _ (D1.below (bth HB1.out al1 HB1.out.size)).t.a).mono ?_ | with_reducible refine (Hn.out _ _ (D1.below (bth HB1.out al2 HB1.out.size)).t.a).mono ?_); rintro e y2 ⟨rfl, hb2⟩; (first | ((with_reducible have H := tn2 HB1.out.size hb2); obtain ⟨hc2, qa, qb⟩ := H; have nab := (Nat.ne_of_lt (Nat.lt_succ_self y1.heap.size)); have nba := fun e => nab (Eq.symm e)) | ((with_reducible have H := tn1 HB1.out.size hb2); obtain ⟨hc2, q⟩ := H; (first | (have nab := Nat.ne_of_lt qa.lt; have nba := fun e => nab (Eq.symm e); have qb := q; replace qa := qa.step hc2) | have qa := q)) | (have hc2 := hb2; (try replace qa := qa.step hc2); (try replace qb := qb.step hc2))); have HB2 := hid (bth HB1.out hc2 HB1.out.size); (try (have lqa := qa.lt; have ea0 := cell_of_row _ _ 0 _ _ _ qa.bk; have fa0 := Bk.fz qa.bk 0)); (try (have lqb := qb.lt; have eb0 := cell_of_row _ _ 0 _ _ _ qb.bk; have fb0 := Bk.fz qb.bk 0))))
        all_goals
          (try clear lqa)
          (try clear lqb)
          go_wp2_with fail
          go_meet
          case rel =>
            first
            | with_reducible exact tv1_1 HB2.out HB2.out.size
            | with_reducible exact tv2_1 HB2.out HB2.out.size
            | with_reducible exact tv3_1 HB2.out HB2.out.size qa
            | with_reducible exact tv4_1 HB2.out HB2.out.size qa
            | with_reducible exact tv5_1 HB2.out qa qb nab
            | with_reducible exact tv5_1 HB2.out qb qa nba
      case rest =>
        obtain ⟨gs, gr, rfl, rfl, -, -, S1, R1, hbx⟩ := hcut
        have D2 := D1.below hbx
        have G : Gw wc gl gh gs gr g1 g2 B0 B1 l hd m n q z b x q2 z2 b2 x2 := ⟨D2, Hh1.out.step hbx, S1, R1⟩
        have HB2 := hid (bthen HB1.out hbx (Nat.le_refl _))
        have hpos : 0 < hd := by omega
        have hf : 0 ≤ l.fac * hd ∧ l.fac * hd ≤ 1000000000000000000 := by
          refine ⟨Int.mul_nonneg f0 (by omega), ?_⟩
          have := Int.mul_le_mul f1 (show hd ≤ 10000000 by omega) (by omega) (by decide)
          omega
        clear hbx S1 R1 D1 hh
        obtain ⟨v0, v1, v2, v3, -⟩ := D2.cells
        go_wp2_with fail
        refine (greatest_any G r0 (by omega) hf Hsp.out Hrm.out (Hz.out hpos) Hmono.out).mono ?_
        rintro e w5 ⟨r, rfl, hr, hb⟩
        have HE := hid ((Hg0.out r).2 (.inr ⟨hpos, hr.out⟩))
        have HB5 := hid (bthen HB2.out hb (Nat.le_refl _))
        clear hb v0 v1 v2 v3 G D2 hf
        go_wp2
        go_ret
        exact ⟨r, rfl, HE, HB5.out⟩
end

end Go.Proofs.Ytndcopljjnbkbaa
