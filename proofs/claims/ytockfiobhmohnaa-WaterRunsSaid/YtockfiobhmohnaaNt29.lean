/- Networks: may of the reference. For every network and state that fit each other. -/
import Derived.Test.YtockfiobhmohnaaNt28
import Derived.Test.YtockfiobhmohnaaGh
namespace Go.Proofs.Ytockfiobhmohnaa
open Go.RowKit Go.Maps Kb Wb

/-- A basin's place and a link in a box. -/
structure Hm (w : World) (g g2 B0 B1 : Nat) (N : Nd) (W : Wd) (l : Ld) (al ab : Addr) (i : Nat) : Prop where
  h : Hi w g B0 B1 N W al ab i
  l : Bk w g2 (.cells #[.string l.nm, .int .i64 l.kind, .string l.fr, .string l.tw, .int .i64 l.sill, .int .i64 l.rate, .int .i64 l.fac, .int .i64 l.lift] 49)
section
variable {w w' : World} {g g2 B0 B1 : Nat} {N : Nd} {W : Wd} {l : Ld} {al ab : Addr} {i : Nat}
theorem Hm.below (h : Hm w g g2 B0 B1 N W l al ab i) (hb : Below w.heap.size w w') : Hm w' g g2 B0 B1 N W l al ab i := ⟨h.h.below hb, h.l.step hb⟩
theorem Hm.cells (h : Hm w g g2 B0 B1 N W l al ab i) : w.cell? ⟨g, 0, none⟩ = some (.slice (some ab) N.n N.c) ∧ w.cell? ⟨g + 1, 1, none⟩ = some (.slice (some al) W.n W.c) ∧ w.cell? (ab.add (i * 3)) = some (.string (N.b i).nm) ∧ w.cell? ⟨(ab.add (i * 3)).block, (ab.add (i * 3)).off + 1, none⟩ = some (.slice (N.b i).A (N.b i).n (N.b i).c) ∧ w.cell? ⟨(ab.add (i * 3)).block, (ab.add (i * 3)).off + 2, none⟩ = some (.int .i64 (N.b i).rim) ∧ w.cell? (al.add i) = some (.int .i64 (W.X i)) ∧ w.cell? ⟨g2, 4, none⟩ = some (.int .i64 l.sill) := by
  obtain ⟨a0, a1, a2, a3, a4, a5⟩ := h.h.cells
  exact ⟨a0, a1, a2, a3, a4, a5, cell_of_row w _ 4 _ _ _ h.l⟩
end
/-- A network and a later state in boxes. -/
structure Aw (w : World) (g g8 B0 B1 : Nat) (N : Nd) (W : Wd) : Prop where
  n : Nb w g B0 N
  k : Bk w g8 (.cells #[.int .i64 W.min, .slice W.A W.n W.c, .slice W.M W.m W.d] 30 (0, 0))
  a : Wt w B1 W
theorem Aw.below {w w' : World} {g g8 B0 B1 : Nat} {N : Nd} {W : Wd} (h : Aw w g g8 B0 B1 N W) (hb : Below w.heap.size w w') : Aw w' g g8 B0 B1 N W := ⟨h.n.below hb, h.k.step hb, h.a.below hb⟩
theorem Aw.cells {w : World} {g g8 B0 B1 : Nat} {N : Nd} {W : Wd} (h : Aw w g g8 B0 B1 N W) : w.cell? ⟨g, 0, none⟩ = some (.slice N.A N.n N.c) ∧ w.cell? ⟨g, 1, none⟩ = some (.slice N.M N.m N.d) ∧ w.cell? ⟨g, 2, none⟩ = some (.slice N.K N.k N.e) ∧ w.cell? ⟨g8, 0, none⟩ = some (.int .i64 W.min) ∧ w.cell? ⟨g8, 1, none⟩ = some (.slice W.A W.n W.c) ∧ w.cell? ⟨g8, 2, none⟩ = some (.slice W.M W.m W.d) := by
  obtain ⟨x0, x1, x2⟩ := h.n.cells
  obtain ⟨y0, y1, y2⟩ := h.k.c3
  exact ⟨x0, x1, x2, y0, y1, y2⟩
theorem Aw.cells2 {w : World} {g g8 B0 B1 gl c gm d : Nat} {N : Nd} {W : Wd} {X : Nat → Int} (h : Aw w g g8 B0 B1 N (W.upd gl c gm d X)) : w.cell? ⟨g, 0, none⟩ = some (.slice N.A N.n N.c) ∧ w.cell? ⟨g, 1, none⟩ = some (.slice N.M N.m N.d) ∧ w.cell? ⟨g, 2, none⟩ = some (.slice N.K N.k N.e) ∧ w.cell? ⟨g8, 0, none⟩ = some (.int .i64 W.min) ∧ w.cell? ⟨g8, 1, none⟩ = some (.slice (some ⟨gl, 0, none⟩) W.n c) ∧ w.cell? ⟨g8, 2, none⟩ = some (.slice (some ⟨gm, 0, none⟩) W.m d) := h.cells
/-- The side of a name and its place. -/
theorem Sds.place {N : Nd} {W : Wd} {s : ByteArray} {q : Bool} {z x p : Int} {b : Bd} (h : Sds N W s q z b x) (hp : Ixn N.n N.bnm s p) (hnm : ∀ i, i < N.n → N.bnm i ≠ s0) : (p = -1 ∧ q = true) ∨ ∃ i : Nat, p = i ∧ i < N.n ∧ q = false ∧ b = N.b i ∧ x = W.X i := by
  rcases h with ⟨rfl, _, rfl, _, _, _⟩ | ⟨_, i, hi, hx, rfl, _, rfl, rfl⟩
  · rcases hp with ⟨rfl, _⟩ | ⟨j, hj, _, e, _⟩
    · exact .inl ⟨rfl, rfl⟩
    · exact absurd e (hnm j hj)
  · exact .inr ⟨i, hp.same hx, hi, rfl, rfl, rfl⟩
theorem names_ne {N : Nd} (h : Cn N 0) : ∀ i, i < N.n → N.bnm i ≠ s0 := fun i hi e => by
  have hk := h.zero.1
  rcases hk with ⟨_, h⟩ | ⟨_, ⟨j, _, _, h⟩ | ⟨h, _⟩⟩
  · exact absurd h (by decide)
  · rcases h with ⟨_, h⟩ | ⟨_, _, h⟩ | ⟨_, _, _, h⟩
    · exact absurd h (by decide)
    · exact absurd h (by decide)
    · exact h rfl
  · have h1 := nameB_size (h i hi).1
    have h1 : 1 ≤ (N.bnm i).size ∧ (N.bnm i).size ≤ 12 := h1
    rw [e] at h1
    exact absurd h1.1 (by decide)
theorem mul_bd {a b : Int} (a0 : 0 ≤ a) (a1 : a ≤ 1000000000) (b0 : -10000000 ≤ b) (b1 : b ≤ 10000000) : -10000000000000000 ≤ a * b ∧ a * b ≤ 10000000000000000 := by
  rcases Int.le_total 0 b with h | h
  · have h1 := Int.mul_nonneg a0 h
    have h2 := Int.mul_le_mul a1 b1 h (by decide)
    omega
  · have h1 := Int.mul_nonneg a0 (show 0 ≤ -b by omega)
    have h2 := Int.mul_le_mul a1 (show -b ≤ 10000000 by omega) (by omega) (by decide)
    rw [Int.mul_neg] at h1 h2
    omega
theorem Sds.moved {N : Nd} {W : Wd} {s : ByteArray} {q : Bool} {z x v : Int} {b : Bd} {gl c gm d : Nat} {X' : Nat → Int} (h : Sds N W s q z b x) (hx : ∀ i : Nat, i < N.n → Ixn N.n N.bnm s i → X' i = W.X i + v) : ∃ x', Sds N (W.upd gl c gm d X') s q z b x' ∧ slev q z b x' 0 = slev q z b x v := by
  rcases h with ⟨h1, h2, rfl, h3, h4, h5⟩ | ⟨h1, i, hi, h2, rfl, h3, h4, rfl⟩
  · exact ⟨x, .inl ⟨h1, h2, rfl, h3, h4, h5⟩, rfl⟩
  · refine ⟨X' i, .inr ⟨h1, i, hi, h2, rfl, h3, h4, rfl⟩, ?_⟩
    rw [hx i hi h2]
    unfold slev
    rw [Int.add_zero]
theorem Fit.moved {N : Nd} {W : Wd} {gl c gm d : Nat} {p p2 k : Int} (h : Fit N W) (hne : p ≠ p2) (k0 : 0 ≤ k) (h1 : ∀ i : Nat, i < N.n → (i : Int) = p → k ≤ W.X i) (h2 : ∀ i : Nat, i < N.n → (i : Int) = p2 → W.X i + k ≤ capB (N.b i)) : Fit N (W.upd gl c gm d (give (take W.X p k) p2 k)) := by
  refine ⟨h.c, h.t0, h.t1, h.n, h.m, fun i hi => ?_⟩
  have h3 := h.l i hi
  unfold LitOk at h3 ⊢
  show 0 ≤ give (take W.X p k) p2 k i ∧ give (take W.X p k) p2 k i ≤ capB (N.b i)
  unfold give take
  by_cases e1 : (i : Int) = p
  · have := h1 i hi e1
    rw [if_pos e1, if_neg (fun e => hne (e1.symm.trans e))]
    omega
  · rw [if_neg e1]
    by_cases e2 : (i : Int) = p2
    · have := h2 i hi e2
      rw [if_pos e2]
      omega
    · rw [if_neg e2]; exact h3
theorem mv_from {X : Nat → Int} {i : Nat} {p p2 k : Int} (h : (i : Int) = p) (hne : p ≠ p2) : give (take X p k) p2 k i = X i + -k := by
  unfold give take
  rw [if_neg (fun e => hne (h.symm.trans e)), if_pos h]; omega
theorem mv_to {X : Nat → Int} {i : Nat} {p p2 k : Int} (h : (i : Int) = p2) (hne : p ≠ p2) : give (take X p k) p2 k i = X i + k := by
  unfold give take
  rw [if_pos h, if_neg (fun e => hne (e.symm.trans h))]
set_option maxRecDepth 100000 in
set_option maxHeartbeats 16000000 in
theorem may_any {w : World} {B0 B1 : Nat} {N : Nd} {W : Wd} {l : Ld} {s s2 : ByteArray} {q : Bool} {z x : Int} {b : Bd} {q2 : Bool} {z2 x2 : Int} {b2 : Bd} {p p2 k : Int} (HS1 : Hid (Sds N W s q z b x)) (HS2 : Hid (Sds N W s2 q2 z2 b2 x2)) (hp : Hid (Ixn N.n N.bnm s p)) (hp2 : Hid (Ixn N.n N.bnm s2 p2)) (Hne : Hid (p ≠ p2)) (HF : Hid (Fit N W)) (Hs : Hid (Nsm N)) (h : Nt w B0 N) (hw : Wt w B1 W) (hm : 0 < W.m)
    (s0' : -1000000 ≤ l.sill) (s1 : l.sill ≤ 1000000) (f0 : 0 ≤ l.fac) (f1 : l.fac ≤ 1000000000) (k0 : 0 ≤ k) (k1 : k ≤ 3000000000) :
    Calls Try.prog 86 #[.agg #[.slice N.A N.n N.c, .slice N.M N.m N.d, .slice N.K N.k N.e], .agg #[.int .i64 W.min, .slice W.A W.n W.c, .slice W.M W.m W.d], .agg #[.string l.nm, .int .i64 l.kind, .string l.fr, .string l.tw, .int .i64 l.sill, .int .i64 l.rate, .int .i64 l.fac, .int .i64 l.lift], .string s, .string s2, .int .i64 k] w fun e w' => ∃ t : Bool, e = .returned (.bool t) ∧ Hid (t = true ↔ Mayp (Okp l (slev q z b x 0 - max l.sill (slev q2 z2 b2 x2 0)) (sabo q b x l.sill) (sroom q2 b2 x2) q z b x q2 z2 b2 x2) l.rate k) ∧ Below w.heap.size w w' := by
  have t1 := slev_range (HS1.out.ok HF.out h) (HS1.out.ok HF.out h).v0
  have t2 := slev_range (HS2.out.ok HF.out h) (HS2.out.ok HF.out h).v0
  obtain ⟨a, ha⟩ : ∃ a, slev q z b x 0 = a := ⟨_, rfl⟩
  obtain ⟨c, hc⟩ : ∃ c, slev q2 z2 b2 x2 0 = c := ⟨_, rfl⟩
  obtain ⟨sp, hsp⟩ : ∃ sp, sabo q b x l.sill = sp := ⟨_, rfl⟩
  obtain ⟨rm, hrm⟩ : ∃ rm, sroom q2 b2 x2 = rm := ⟨_, rfl⟩
  rw [ha] at t1
  rw [hc] at t2
  obtain ⟨lo, hlo⟩ : ∃ lo, max l.sill c = lo := ⟨_, rfl⟩
  obtain ⟨hd, hhd⟩ : ∃ hd, a - lo = hd := ⟨_, rfl⟩
  obtain ⟨a', ha'⟩ : ∃ a', slev q z b x (-k) = a' := ⟨_, rfl⟩
  obtain ⟨c', hc'⟩ : ∃ c', slev q2 z2 b2 x2 k = c' := ⟨_, rfl⟩
  have HP := hid (fun t : Bool => (show (t = true ↔ Mayp (Okp l (slev q z b x 0 - max l.sill (slev q2 z2 b2 x2 0)) (sabo q b x l.sill) (sroom q2 b2 x2) q z b x q2 z2 b2 x2) l.rate k) ↔ (t = true ↔ (k ≤ l.rate ∧ k ≤ l.fac * hd ∧ k ≤ sp ∧ k ≤ rm ∧ c' ≤ a')) by
    unfold Mayp Okp
    rw [ha, hc, hsp, hrm, hlo, hhd, ha', hc']))
  have HA' := hid ha'
  have HC' := hid hc'
  clear ha' hc'
  have Ha := hid (fun (V : World) (B0 B1 : Nat) (h : Nt V B0 N) (k : Wt V B1 W) => (show Calls Try.prog 69 #[.agg #[.slice N.A N.n N.c, .slice N.M N.m N.d, .slice N.K N.k N.e], .agg #[.int .i64 W.min, .slice W.A W.n W.c, .slice W.M W.m W.d], .string s] V fun e w' => e = .returned (.int .i64 a) ∧ Below V.heap.size V w' from ha ▸ height_is HS1.out HF.out Hs.out h k))
  have Hc := hid (fun (V : World) (B0 B1 : Nat) (h : Nt V B0 N) (k : Wt V B1 W) => (show Calls Try.prog 69 #[.agg #[.slice N.A N.n N.c, .slice N.M N.m N.d, .slice N.K N.k N.e], .agg #[.int .i64 W.min, .slice W.A W.n W.c, .slice W.M W.m W.d], .string s2] V fun e w' => e = .returned (.int .i64 c) ∧ Below V.heap.size V w' from hc ▸ height_is HS2.out HF.out Hs.out h k))
  have Hsp := hid hsp
  have Hrm := hid hrm
  have Hhd := hid hhd
  have Hlo := hid hlo
  have hrange : -10000000 ≤ hd ∧ hd ≤ 10000000 ∧ -4000000 ≤ lo ∧ lo ≤ 4000000 := by omega
  obtain ⟨hr1, hr2, hr3, hr4⟩ := hrange
  have hmb := mul_bd f0 f1 hr1 hr2
  have hw0 : IntKind.i64.wrap (a - lo) = hd := by rw [hhd]; exact IntWalk.i64_in _ (by omega)
  have hw1 : IntKind.i64.wrap (l.fac * hd) = l.fac * hd := IntWalk.i64_in _ (by omega)
  clear ha hc hsp hrm hhd
  obtain ⟨g, hg⟩ : ∃ g, w.heap.size = g := ⟨_, rfl⟩
  obtain ⟨g2, hg2⟩ : ∃ g', (g + 1) + 1 = g' := ⟨_, rfl⟩
  have hb0 := (((Below.refl w.heap.size w).alloc (Nat.le_refl _) (.cells #[.slice N.A N.n N.c, .slice N.M N.m N.d, .slice N.K N.k N.e] 26)).alloc (by simp) (.cells #[.int .i64 W.min, .slice W.A W.n W.c, .slice W.M W.m W.d] 30)).alloc (by simp; omega) (.cells #[.string l.nm, .int .i64 l.kind, .string l.fr, .string l.tw, .int .i64 l.sill, .int .i64 l.rate, .int .i64 l.fac, .int .i64 l.lift] 49)
  have D := Tw.new l h hw hg rfl hg2
  go_enter Try.func86, Try.ntmps86
  go_upto_region 1 with fail
  generalize ((w.alloc (.cells #[.slice N.A N.n N.c, .slice N.M N.m N.d, .slice N.K N.k N.e] 26)).alloc (.cells #[.int .i64 W.min, .slice W.A W.n W.c, .slice W.M W.m W.d] 30)).alloc (.cells #[.string l.nm, .int .i64 l.kind, .string l.fr, .string l.tw, .int .i64 l.sill, .int .i64 l.rate, .int .i64 l.fac, .int .i64 l.lift] 49) = W0 at *
  have HB0 := hid hb0
  have Hg := hid hg
  have Hg2 := hid hg2
  clear hb0 hg hg2 h hw
  go_cut [13] from 18 to 101 (fun v wx => v = .int .i64 lo ∧ Below W0.heap.size W0 wx)
  case first =>
    have D0 := D.below dr0
    clear D hw0 hw1 hmb
    rcases (show (c < l.sill ∧ ¬ l.sill < c ∧ lo = l.sill) ∨ (¬ c < l.sill ∧ l.sill < c ∧ lo = c) ∨ (¬ c < l.sill ∧ ¬ l.sill < c ∧ lo = c ∧ lo = l.sill) by omega) with ⟨e1, e2, e3⟩ | ⟨e1, e2, e3⟩ | ⟨e1, e2, e3, e4⟩
    all_goals
      go_region_held3 (fun w' => w'.cell? ⟨g, 0, none⟩ = some (.slice N.A N.n N.c) ∧ w'.cell? ⟨g, 1, none⟩ = some (.slice N.M N.m N.d) ∧ w'.cell? ⟨g, 2, none⟩ = some (.slice N.K N.k N.e) ∧ w'.cell? ⟨g + 1, 0, none⟩ = some (.int .i64 W.min) ∧ w'.cell? ⟨g + 1, 1, none⟩ = some (.slice W.A W.n W.c) ∧ w'.cell? ⟨g + 1, 2, none⟩ = some (.slice W.M W.m W.d) ∧ w'.cell? ⟨g2, 0, none⟩ = some (.string l.nm) ∧ w'.cell? ⟨g2, 1, none⟩ = some (.int .i64 l.kind) ∧ w'.cell? ⟨g2, 2, none⟩ = some (.string l.fr) ∧ w'.cell? ⟨g2, 3, none⟩ = some (.string l.tw) ∧ w'.cell? ⟨g2, 4, none⟩ = some (.int .i64 l.sill) ∧ w'.cell? ⟨g2, 5, none⟩ = some (.int .i64 l.rate) ∧ w'.cell? ⟨g2, 6, none⟩ = some (.int .i64 l.fac) ∧ w'.cell? ⟨g2, 7, none⟩ = some (.int .i64 l.lift)) (first | with_reducible exact Tw.cells D0 | with_reducible exact Tw.cells D1) (first
        | (go_at_call 69; (with_reducible refine (Hc.out _ _ _ D0.n.a D0.a).mono ?_); rintro e w1 ⟨rfl, hb1⟩; have D1 := D0.below hb1; have HB1 := hid (bthen (Below.refl W0.heap.size W0).drew hb1 (Nat.le_refl _))))
      all_goals
        go_wp2_with fail
        go_meet
        case rel => first | exact ⟨by rw [e3], HB1.out⟩ | exact ⟨by rw [e4], HB1.out⟩
  case rest =>
    obtain ⟨rfl, hbx⟩ := hcut
    generalize wc = W1 at *
    have D1 := D.below hbx
    have HB1 := hid (bthen HB0.out hbx (Nat.le_refl _))
    clear D hbx
    obtain ⟨z0, z1, z2', z3, z4, z5, z6, z7, z8, z9, za, zb, zc, zd⟩ := D1.cells
    go_wp2_with fail
    clear z0 z1 z2' z3 z4 z5 z6 z7 z8 z9 za zb zc zd
    refine (Ha.out _ _ _ D1.n.a D1.a).mono ?_
    rintro e w2 ⟨rfl, hb⟩
    have D2 := D1.below hb
    have HB2 := hid (bthen HB1.out hb (Nat.le_refl _))
    clear hb D1
    obtain ⟨z0, z1, z2', z3, z4, z5, z6, z7, z8, z9, za, zb, zc, zd⟩ := D2.cells
    by_cases c1 : k ≤ l.rate
    · have d1 : decide (l.rate < k) = false := decide_eq_false (by omega)
      by_cases c2 : k ≤ l.fac * hd
      · have d2 : decide (l.fac * hd < k) = false := decide_eq_false (by omega)
        go_wp2_with fail
        clear z0 z1 z2' z3 z4 z5 z6 z7 z8 z9 za zb zc zd
        refine (rBasin_is hp D2.n.a Hs.out).mono ?_
        rintro e w3 ⟨rfl, hb⟩
        have D3 := D2.below hb
        have HB3 := hid (bthen HB2.out hb (Nat.le_refl _))
        clear hb D2 d1 d2
        rcases HS1.out.place hp.out (names_ne HF.out.c) with ⟨rfl, rfl⟩ | ⟨i, rfl, hii, rfl, rfl, rfl⟩
        · have hks : k ≤ sp := by have := Hsp.out; simp only [sabo] at this; omega
          have Hfr := hid (show ∀ i : Nat, i < N.n → (i : Int) = -1 → k ≤ W.X i from fun i _ e => by omega)
          go_wp2_with fail
          go_quiet (fail)
          have D4 := D3.below (below_drewN (Below.refl w3.heap.size w3) nq)
          have HB4 := hid (HB3.out.drewN' nq)
          generalize w3.drewN nq = w4 at *
          clear D3
          obtain ⟨z0, z1, z2', z3, z4, z5, z6, z7, z8, z9, za, zb, zc, zd⟩ := D4.cells
          go_wp2_with fail
          clear z0 z1 z2' z3 z4 z5 z6 z7 z8 z9 za zb zc zd
          refine (rBasin_is hp2 D4.n.a Hs.out).mono ?_
          rintro e w5 ⟨rfl, hb⟩
          have D5 := D4.below hb
          have HB5 := hid (bthen HB4.out hb (Nat.le_refl _))
          clear hb D4
          rcases HS2.out.place hp2.out (names_ne HF.out.c) with ⟨rfl, rfl⟩ | ⟨j, rfl, hij, rfl, rfl, rfl⟩
          · exact absurd rfl Hne.out
          · skip
            have hiN : (j : Int) < (N.n : Int) := by omega
            have hiw : j < W.n := by have := HF.out.n; omega
            have hiW : (j : Int) < (W.n : Int) := by omega
            obtain ⟨ab, hab, -⟩ := D5.n.a.b.at_ j hij
            obtain ⟨al, hal, -, -⟩ := D5.a.x j hiw
            have E0 : Hm w5.drew g g2 B0 B1 N W l al ab j := (⟨Hi.mk D5.n ⟨D5.k, D5.a⟩ hal hab hiw hij, D5.l⟩ : Hm w5 g g2 B0 B1 N W l al ab j).below dr0
            have Bs := HF.out.c.bas hij
            have hx := HF.out.l j hij
            have vr := volB_range Bs s1
            have cr := capB_range Bs
            unfold LitOk at hx
            have Habj := hid hab
            have Halj := hid hal
            clear hab hal
            have hrm : capB (N.b j) - W.X j = rm := Hrm.out
            have hvv : wbelow (N.b j).F (N.b j).S (N.b j).n (N.b j).rim = capB (N.b j) := rfl
            have hwj : IntKind.i64.wrap (W.X j + k) = W.X j + k := IntWalk.i64_in _ (by omega)
            by_cases c4 : k ≤ rm
            · have djj : decide (wbelow (N.b j).F (N.b j).S (N.b j).n (N.b j).rim < W.X j + k) = false := decide_eq_false (by omega)
              clear hvv
              go_wp2_with fail
              go_region_held3 (fun w' => w'.cell? ⟨g, 0, none⟩ = some (.slice (some ab) N.n N.c) ∧ w'.cell? ⟨g + 1, 1, none⟩ = some (.slice (some al) W.n W.c) ∧ w'.cell? (ab.add (j * 3)) = some (.string (N.b j).nm) ∧ w'.cell? ⟨(ab.add (j * 3)).block, (ab.add (j * 3)).off + 1, none⟩ = some (.slice (N.b j).A (N.b j).n (N.b j).c) ∧ w'.cell? ⟨(ab.add (j * 3)).block, (ab.add (j * 3)).off + 2, none⟩ = some (.int .i64 (N.b j).rim) ∧ w'.cell? (al.add j) = some (.int .i64 (W.X j)) ∧ w'.cell? ⟨g2, 4, none⟩ = some (.int .i64 l.sill)) (first | with_reducible exact Hm.cells E0 | with_reducible exact Hm.cells E1) (first
                | (go_at_call 17; (with_reducible refine (rCapacity_any (N.b j).nm E0.h.pa Bs).mono ?_); rintro e w6 ⟨rfl, hbq⟩; have E1 := E0.below hbq))
              have HB6 := hid (bthen HB5.out.drew hbq (Nat.le_refl _))
              have D6 := D5.below (bthen dr0 hbq (Nat.le_refl _))
              clear hbq E0 E1 D5 Bs
              have Hto := hid (show ∀ i : Nat, i < N.n → (i : Int) = (j : Int) → W.X i + k ≤ capB (N.b i) from fun i _ e => by have : i = j := (by omega); subst this; omega)
              have hkr := c4
              clear hwj hx hrm
              have hmm9 : W.m ≤ 1000 := by rw [HF.out.m]; exact Hs.out.k
              have hXb : ∀ i, i < W.n → 0 ≤ W.X i ∧ W.X i ≤ 9000000000000000000 := fun i hi => by
                have hi' : i < N.n := by rw [← HF.out.n]; exact hi
                have h1 := HF.out.l i hi'
                have h2 := capB_range (HF.out.c.bas hi')
                unfold LitOk at h1
                omega
              have hn0 : 0 < W.n := by omega
              obtain ⟨z0, z1, z2', z3, z4, z5, z6, z7, z8, z9, za, zb, zc, zd⟩ := D6.cells
              go_wp2_with fail
              try rw [← Habj.out]
              try rw [← Halj.out]
              clear z0 z1 z2' z3 z4 z5 z6 z7 z8 z9 za zb zc zd
              refine (moved_any hp hp2 Hne.out D6.n.a Hs.out D6.a HF.out.n hn0 hm hmm9 k0 k1 hXb).mono ?_
              rintro e w7 ⟨gl, cc, gm, dd, rfl, hWt, hb⟩
              have D7 := D6.below hb
              have HB7 := hid (bthen HB6.out hb (Nat.le_refl _))
              clear hb D6 hXb
              obtain ⟨g8, hg8⟩ : ∃ g', w7.heap.size = g' := ⟨_, rfl⟩
              have hba := alo (W := w7) (o := .cells #[.int .i64 W.min, .slice (some ⟨gl, 0, none⟩) W.n cc, .slice (some ⟨gm, 0, none⟩) W.m dd] 30)
              have F8 : Aw _ g g8 B0 w7.heap.size N (W.upd gl cc gm dd (give (take W.X (-1) k) (j : Int) k)) := ⟨D7.n.below hba, Bk.of_alloc w7 (.cells #[.int .i64 W.min, .slice (some ⟨gl, 0, none⟩) W.n cc, .slice (some ⟨gm, 0, none⟩) W.m dd] 30) hg8, hWt.below hba⟩
              have HB8 := hid (bthen HB7.out hba (Nat.le_refl _))
              obtain ⟨x', hS1', ev1⟩ := HS1.out.moved (gl := gl) (c := cc) (gm := gm) (d := dd) (v := -k) (fun i _ hx => mv_from (hx.same hp.out) Hne.out)
              obtain ⟨x2', hS2', ev2⟩ := HS2.out.moved (gl := gl) (c := cc) (gm := gm) (d := dd) (v := k) (fun i _ hx => mv_to (hx.same hp2.out) Hne.out)
              have hF' : Fit N (W.upd gl cc gm dd (give (take W.X (-1) k) (j : Int) k)) := HF.out.moved Hne.out k0 Hfr.out Hto.out
              have Ha' := hid (fun (V : World) (B0 B1 : Nat) (h : Nt V B0 N) (k : Wt V B1 (W.upd gl cc gm dd (give (take W.X (-1) k) (j : Int) k))) => (show Calls Try.prog 69 #[.agg #[.slice N.A N.n N.c, .slice N.M N.m N.d, .slice N.K N.k N.e], .agg #[.int .i64 W.min, .slice (some ⟨gl, 0, none⟩) W.n cc, .slice (some ⟨gm, 0, none⟩) W.m dd], .string s] V fun e w' => e = .returned (.int .i64 a') ∧ Below V.heap.size V w' from by have h9 := height_is hS1' hF' Hs.out h k; rw [ev1.trans HA'.out] at h9; exact h9))
              have Hc' := hid (fun (V : World) (B0 B1 : Nat) (h : Nt V B0 N) (k : Wt V B1 (W.upd gl cc gm dd (give (take W.X (-1) k) (j : Int) k))) => (show Calls Try.prog 69 #[.agg #[.slice N.A N.n N.c, .slice N.M N.m N.d, .slice N.K N.k N.e], .agg #[.int .i64 W.min, .slice (some ⟨gl, 0, none⟩) W.n cc, .slice (some ⟨gm, 0, none⟩) W.m dd], .string s2] V fun e w' => e = .returned (.int .i64 c') ∧ Below V.heap.size V w' from by have h9 := height_is hS2' hF' Hs.out h k; rw [ev2.trans HC'.out] at h9; exact h9))
              have HPf := hid (fun (t : Bool) (ht : t = true ↔ c' ≤ a') => (HP.out t).2 (ht.trans ⟨fun e => ⟨c1, c2, hks, hkr, e⟩, fun e => e.2.2.2.2⟩))
              clear hS1' hS2' hF' ev1 ev2 hWt hn0
              obtain ⟨u0', u1', u2', u3', u4', u5'⟩ := F8.cells
              go_upto_region 12 with fail
              clear u0' u1' u2' u3' u4' u5'
              generalize w7.alloc (.cells #[.int .i64 W.min, .slice (some ⟨gl, 0, none⟩) W.n cc, .slice (some ⟨gm, 0, none⟩) W.m dd] 30) = w8 at *
              have Hg8 := hid hg8
              clear hg8 hba D7
              have G0 := F8.below dr0
              by_cases c5 : c' ≤ a'
              · have d5 : decide (c' ≤ a') = true := decide_eq_true c5
                have HE := hid ((HPf.out true ⟨fun _ => c5, fun _ => rfl⟩).1 rfl)
                clear c5
                go_region_held3 (fun w' => w'.cell? ⟨g, 0, none⟩ = some (.slice N.A N.n N.c) ∧ w'.cell? ⟨g, 1, none⟩ = some (.slice N.M N.m N.d) ∧ w'.cell? ⟨g, 2, none⟩ = some (.slice N.K N.k N.e) ∧ w'.cell? ⟨g8, 0, none⟩ = some (.int .i64 W.min) ∧ w'.cell? ⟨g8, 1, none⟩ = some (.slice (some ⟨gl, 0, none⟩) W.n cc) ∧ w'.cell? ⟨g8, 2, none⟩ = some (.slice (some ⟨gm, 0, none⟩) W.m dd)) (first | with_reducible exact Aw.cells2 G0 | with_reducible exact Aw.cells2 G1 | with_reducible exact Aw.cells2 G2) (first
                  | (go_at_call 69; (with_reducible refine (Ha'.out _ _ _ G0.n.a G0.a).mono ?_); rintro e w9 ⟨rfl, hb9⟩; have G1 := G0.below hb9)
                  | (go_at_call 69; (with_reducible refine (Hc'.out _ _ _ G1.n.a G1.a).mono ?_); rintro e w10 ⟨rfl, hb10⟩; have G2 := G1.below hb10))
                have HBz := hid (bthen (bthen HB8.out.drew hb9 (Nat.le_refl _)) hb10 (Nat.le_refl _))
                go_wp2
                go_ret
                exact ⟨true, rfl, hid ⟨fun _ => HE.out, fun _ => rfl⟩, HBz.out⟩
              · have d5 : decide (c' ≤ a') = false := decide_eq_false c5
                have HE := hid (HPf.out false ⟨(fun e => by cases e), fun e => absurd e c5⟩)
                clear c5
                go_region_held3 (fun w' => w'.cell? ⟨g, 0, none⟩ = some (.slice N.A N.n N.c) ∧ w'.cell? ⟨g, 1, none⟩ = some (.slice N.M N.m N.d) ∧ w'.cell? ⟨g, 2, none⟩ = some (.slice N.K N.k N.e) ∧ w'.cell? ⟨g8, 0, none⟩ = some (.int .i64 W.min) ∧ w'.cell? ⟨g8, 1, none⟩ = some (.slice (some ⟨gl, 0, none⟩) W.n cc) ∧ w'.cell? ⟨g8, 2, none⟩ = some (.slice (some ⟨gm, 0, none⟩) W.m dd)) (first | with_reducible exact Aw.cells2 G0 | with_reducible exact Aw.cells2 G1 | with_reducible exact Aw.cells2 G2) (first
                  | (go_at_call 69; (with_reducible refine (Ha'.out _ _ _ G0.n.a G0.a).mono ?_); rintro e w9 ⟨rfl, hb9⟩; have G1 := G0.below hb9)
                  | (go_at_call 69; (with_reducible refine (Hc'.out _ _ _ G1.n.a G1.a).mono ?_); rintro e w10 ⟨rfl, hb10⟩; have G2 := G1.below hb10))
                have HBz := hid (bthen (bthen HB8.out.drew hb9 (Nat.le_refl _)) hb10 (Nat.le_refl _))
                go_wp2
                go_ret
                exact ⟨false, rfl, HE, HBz.out⟩
            · have djj : decide (wbelow (N.b j).F (N.b j).S (N.b j).n (N.b j).rim < W.X j + k) = true := decide_eq_true (by omega)
              clear hvv
              go_wp2_with fail
              go_region_held3 (fun w' => w'.cell? ⟨g, 0, none⟩ = some (.slice (some ab) N.n N.c) ∧ w'.cell? ⟨g + 1, 1, none⟩ = some (.slice (some al) W.n W.c) ∧ w'.cell? (ab.add (j * 3)) = some (.string (N.b j).nm) ∧ w'.cell? ⟨(ab.add (j * 3)).block, (ab.add (j * 3)).off + 1, none⟩ = some (.slice (N.b j).A (N.b j).n (N.b j).c) ∧ w'.cell? ⟨(ab.add (j * 3)).block, (ab.add (j * 3)).off + 2, none⟩ = some (.int .i64 (N.b j).rim) ∧ w'.cell? (al.add j) = some (.int .i64 (W.X j)) ∧ w'.cell? ⟨g2, 4, none⟩ = some (.int .i64 l.sill)) (first | with_reducible exact Hm.cells E0 | with_reducible exact Hm.cells E1) (first
                | (go_at_call 17; (with_reducible refine (rCapacity_any (N.b j).nm E0.h.pa Bs).mono ?_); rintro e w6 ⟨rfl, hbq⟩; have E1 := E0.below hbq))
              have HB6 := hid (bthen HB5.out.drew hbq (Nat.le_refl _))
              clear hbq E0 E1
              have HE := hid ((HP.out false).2 ⟨(fun e => by cases e), fun e => absurd e.2.2.2.1 (by omega)⟩)
              go_wp2
              go_ret
              exact ⟨false, rfl, HE, HB6.out⟩
        · skip
          have hiN : (i : Int) < (N.n : Int) := by omega
          have hiw : i < W.n := by have := HF.out.n; omega
          have hiW : (i : Int) < (W.n : Int) := by omega
          obtain ⟨ab, hab, -⟩ := D3.n.a.b.at_ i hii
          obtain ⟨al, hal, -, -⟩ := D3.a.x i hiw
          have E0 : Hm w3.drew g g2 B0 B1 N W l al ab i := (⟨Hi.mk D3.n ⟨D3.k, D3.a⟩ hal hab hiw hii, D3.l⟩ : Hm w3 g g2 B0 B1 N W l al ab i).below dr0
          have Bs := HF.out.c.bas hii
          have hx := HF.out.l i hii
          have vr := volB_range Bs s1
          have cr := capB_range Bs
          unfold LitOk at hx
          have Habi := hid hab
          have Hali := hid hal
          clear hab hal
          have hsp : W.X i - volB (N.b i) l.sill = sp := Hsp.out
          have hvi : wbelow (N.b i).F (N.b i).S (N.b i).n l.sill = volB (N.b i) l.sill := rfl
          have hwi : IntKind.i64.wrap (W.X i - k) = W.X i - k := IntWalk.i64_in _ (by omega)
          by_cases c3 : k ≤ sp
          · have dii : decide (W.X i - k < wbelow (N.b i).F (N.b i).S (N.b i).n l.sill) = false := decide_eq_false (by omega)
            clear hvi
            go_wp2_with fail
            go_region_held3 (fun w' => w'.cell? ⟨g, 0, none⟩ = some (.slice (some ab) N.n N.c) ∧ w'.cell? ⟨g + 1, 1, none⟩ = some (.slice (some al) W.n W.c) ∧ w'.cell? (ab.add (i * 3)) = some (.string (N.b i).nm) ∧ w'.cell? ⟨(ab.add (i * 3)).block, (ab.add (i * 3)).off + 1, none⟩ = some (.slice (N.b i).A (N.b i).n (N.b i).c) ∧ w'.cell? ⟨(ab.add (i * 3)).block, (ab.add (i * 3)).off + 2, none⟩ = some (.int .i64 (N.b i).rim) ∧ w'.cell? (al.add i) = some (.int .i64 (W.X i)) ∧ w'.cell? ⟨g2, 4, none⟩ = some (.int .i64 l.sill)) (first | with_reducible exact Hm.cells E0 | with_reducible exact Hm.cells E1) (first
              | (go_at_call 45; (with_reducible refine (rBelow_any (N.b i).nm E0.h.pa Bs s0' s1).mono ?_); rintro e w4 ⟨rfl, hbq⟩; have E1 := E0.below hbq))
            have HB4 := hid (bthen HB3.out.drew hbq (Nat.le_refl _))
            have D4 := D3.below (bthen dr0 hbq (Nat.le_refl _))
            clear hbq E0 E1 D3 Bs
            have Hfr := hid (show ∀ m : Nat, m < N.n → (m : Int) = (i : Int) → k ≤ W.X m from fun m _ e => by have : m = i := (by omega); subst this; omega)
            have hks := c3
            clear hwi hx hsp hiN hiW
            obtain ⟨z0, z1, z2', z3, z4, z5, z6, z7, z8, z9, za, zb, zc, zd⟩ := D4.cells
            go_wp2_with fail
            try rw [← Habi.out]
            try rw [← Hali.out]
            clear z0 z1 z2' z3 z4 z5 z6 z7 z8 z9 za zb zc zd
            refine (rBasin_is hp2 D4.n.a Hs.out).mono ?_
            rintro e w5 ⟨rfl, hb⟩
            have D5 := D4.below hb
            have HB5 := hid (bthen HB4.out hb (Nat.le_refl _))
            clear hb D4
            rcases HS2.out.place hp2.out (names_ne HF.out.c) with ⟨rfl, rfl⟩ | ⟨j, rfl, hij, rfl, rfl, rfl⟩
            · have hkr : k ≤ rm := by have := Hrm.out; simp only [sroom] at this; omega
              have Hto := hid (show ∀ i : Nat, i < N.n → (i : Int) = -1 → W.X i + k ≤ capB (N.b i) from fun i _ e => by omega)
              go_wp2_with fail
              go_quiet (fail)
              have D6 := D5.below (below_drewN (Below.refl w5.heap.size w5) nq)
              have HB6 := hid (HB5.out.drewN' nq)
              generalize w5.drewN nq = w6 at *
              clear D5
              have hmm9 : W.m ≤ 1000 := by rw [HF.out.m]; exact Hs.out.k
              have hXb : ∀ i, i < W.n → 0 ≤ W.X i ∧ W.X i ≤ 9000000000000000000 := fun i hi => by
                have hi' : i < N.n := by rw [← HF.out.n]; exact hi
                have h1 := HF.out.l i hi'
                have h2 := capB_range (HF.out.c.bas hi')
                unfold LitOk at h1
                omega
              have hn0 : 0 < W.n := by omega
              obtain ⟨z0, z1, z2', z3, z4, z5, z6, z7, z8, z9, za, zb, zc, zd⟩ := D6.cells
              go_wp2_with fail
              clear z0 z1 z2' z3 z4 z5 z6 z7 z8 z9 za zb zc zd
              refine (moved_any hp hp2 Hne.out D6.n.a Hs.out D6.a HF.out.n hn0 hm hmm9 k0 k1 hXb).mono ?_
              rintro e w7 ⟨gl, cc, gm, dd, rfl, hWt, hb⟩
              have D7 := D6.below hb
              have HB7 := hid (bthen HB6.out hb (Nat.le_refl _))
              clear hb D6 hXb
              obtain ⟨g8, hg8⟩ : ∃ g', w7.heap.size = g' := ⟨_, rfl⟩
              have hba := alo (W := w7) (o := .cells #[.int .i64 W.min, .slice (some ⟨gl, 0, none⟩) W.n cc, .slice (some ⟨gm, 0, none⟩) W.m dd] 30)
              have F8 : Aw _ g g8 B0 w7.heap.size N (W.upd gl cc gm dd (give (take W.X (i : Int) k) (-1) k)) := ⟨D7.n.below hba, Bk.of_alloc w7 (.cells #[.int .i64 W.min, .slice (some ⟨gl, 0, none⟩) W.n cc, .slice (some ⟨gm, 0, none⟩) W.m dd] 30) hg8, hWt.below hba⟩
              have HB8 := hid (bthen HB7.out hba (Nat.le_refl _))
              obtain ⟨x', hS1', ev1⟩ := HS1.out.moved (gl := gl) (c := cc) (gm := gm) (d := dd) (v := -k) (fun i _ hx => mv_from (hx.same hp.out) Hne.out)
              obtain ⟨x2', hS2', ev2⟩ := HS2.out.moved (gl := gl) (c := cc) (gm := gm) (d := dd) (v := k) (fun i _ hx => mv_to (hx.same hp2.out) Hne.out)
              have hF' : Fit N (W.upd gl cc gm dd (give (take W.X (i : Int) k) (-1) k)) := HF.out.moved Hne.out k0 Hfr.out Hto.out
              have Ha' := hid (fun (V : World) (B0 B1 : Nat) (h : Nt V B0 N) (k : Wt V B1 (W.upd gl cc gm dd (give (take W.X (i : Int) k) (-1) k))) => (show Calls Try.prog 69 #[.agg #[.slice N.A N.n N.c, .slice N.M N.m N.d, .slice N.K N.k N.e], .agg #[.int .i64 W.min, .slice (some ⟨gl, 0, none⟩) W.n cc, .slice (some ⟨gm, 0, none⟩) W.m dd], .string s] V fun e w' => e = .returned (.int .i64 a') ∧ Below V.heap.size V w' from by have h9 := height_is hS1' hF' Hs.out h k; rw [ev1.trans HA'.out] at h9; exact h9))
              have Hc' := hid (fun (V : World) (B0 B1 : Nat) (h : Nt V B0 N) (k : Wt V B1 (W.upd gl cc gm dd (give (take W.X (i : Int) k) (-1) k))) => (show Calls Try.prog 69 #[.agg #[.slice N.A N.n N.c, .slice N.M N.m N.d, .slice N.K N.k N.e], .agg #[.int .i64 W.min, .slice (some ⟨gl, 0, none⟩) W.n cc, .slice (some ⟨gm, 0, none⟩) W.m dd], .string s2] V fun e w' => e = .returned (.int .i64 c') ∧ Below V.heap.size V w' from by have h9 := height_is hS2' hF' Hs.out h k; rw [ev2.trans HC'.out] at h9; exact h9))
              have HPf := hid (fun (t : Bool) (ht : t = true ↔ c' ≤ a') => (HP.out t).2 (ht.trans ⟨fun e => ⟨c1, c2, hks, hkr, e⟩, fun e => e.2.2.2.2⟩))
              clear hS1' hS2' hF' ev1 ev2 hWt hn0
              obtain ⟨u0', u1', u2', u3', u4', u5'⟩ := F8.cells
              go_upto_region 12 with fail
              clear u0' u1' u2' u3' u4' u5'
              generalize w7.alloc (.cells #[.int .i64 W.min, .slice (some ⟨gl, 0, none⟩) W.n cc, .slice (some ⟨gm, 0, none⟩) W.m dd] 30) = w8 at *
              have Hg8 := hid hg8
              clear hg8 hba D7
              have G0 := F8.below dr0
              by_cases c5 : c' ≤ a'
              · have d5 : decide (c' ≤ a') = true := decide_eq_true c5
                have HE := hid ((HPf.out true ⟨fun _ => c5, fun _ => rfl⟩).1 rfl)
                clear c5
                go_region_held3 (fun w' => w'.cell? ⟨g, 0, none⟩ = some (.slice N.A N.n N.c) ∧ w'.cell? ⟨g, 1, none⟩ = some (.slice N.M N.m N.d) ∧ w'.cell? ⟨g, 2, none⟩ = some (.slice N.K N.k N.e) ∧ w'.cell? ⟨g8, 0, none⟩ = some (.int .i64 W.min) ∧ w'.cell? ⟨g8, 1, none⟩ = some (.slice (some ⟨gl, 0, none⟩) W.n cc) ∧ w'.cell? ⟨g8, 2, none⟩ = some (.slice (some ⟨gm, 0, none⟩) W.m dd)) (first | with_reducible exact Aw.cells2 G0 | with_reducible exact Aw.cells2 G1 | with_reducible exact Aw.cells2 G2) (first
                  | (go_at_call 69; (with_reducible refine (Ha'.out _ _ _ G0.n.a G0.a).mono ?_); rintro e w9 ⟨rfl, hb9⟩; have G1 := G0.below hb9)
                  | (go_at_call 69; (with_reducible refine (Hc'.out _ _ _ G1.n.a G1.a).mono ?_); rintro e w10 ⟨rfl, hb10⟩; have G2 := G1.below hb10))
                have HBz := hid (bthen (bthen HB8.out.drew hb9 (Nat.le_refl _)) hb10 (Nat.le_refl _))
                go_wp2
                go_ret
                exact ⟨true, rfl, hid ⟨fun _ => HE.out, fun _ => rfl⟩, HBz.out⟩
              · have d5 : decide (c' ≤ a') = false := decide_eq_false c5
                have HE := hid (HPf.out false ⟨(fun e => by cases e), fun e => absurd e c5⟩)
                clear c5
                go_region_held3 (fun w' => w'.cell? ⟨g, 0, none⟩ = some (.slice N.A N.n N.c) ∧ w'.cell? ⟨g, 1, none⟩ = some (.slice N.M N.m N.d) ∧ w'.cell? ⟨g, 2, none⟩ = some (.slice N.K N.k N.e) ∧ w'.cell? ⟨g8, 0, none⟩ = some (.int .i64 W.min) ∧ w'.cell? ⟨g8, 1, none⟩ = some (.slice (some ⟨gl, 0, none⟩) W.n cc) ∧ w'.cell? ⟨g8, 2, none⟩ = some (.slice (some ⟨gm, 0, none⟩) W.m dd)) (first | with_reducible exact Aw.cells2 G0 | with_reducible exact Aw.cells2 G1 | with_reducible exact Aw.cells2 G2) (first
                  | (go_at_call 69; (with_reducible refine (Ha'.out _ _ _ G0.n.a G0.a).mono ?_); rintro e w9 ⟨rfl, hb9⟩; have G1 := G0.below hb9)
                  | (go_at_call 69; (with_reducible refine (Hc'.out _ _ _ G1.n.a G1.a).mono ?_); rintro e w10 ⟨rfl, hb10⟩; have G2 := G1.below hb10))
                have HBz := hid (bthen (bthen HB8.out.drew hb9 (Nat.le_refl _)) hb10 (Nat.le_refl _))
                go_wp2
                go_ret
                exact ⟨false, rfl, HE, HBz.out⟩
            · skip
              have hiN : (j : Int) < (N.n : Int) := by omega
              have hiw : j < W.n := by have := HF.out.n; omega
              have hiW : (j : Int) < (W.n : Int) := by omega
              obtain ⟨ab, hab, -⟩ := D5.n.a.b.at_ j hij
              obtain ⟨al, hal, -, -⟩ := D5.a.x j hiw
              have E0 : Hm w5.drew g g2 B0 B1 N W l al ab j := (⟨Hi.mk D5.n ⟨D5.k, D5.a⟩ hal hab hiw hij, D5.l⟩ : Hm w5 g g2 B0 B1 N W l al ab j).below dr0
              have Bs := HF.out.c.bas hij
              have hx := HF.out.l j hij
              have vr := volB_range Bs s1
              have cr := capB_range Bs
              unfold LitOk at hx
              have Habj := hid hab
              have Halj := hid hal
              clear hab hal
              have hrm : capB (N.b j) - W.X j = rm := Hrm.out
              have hvv : wbelow (N.b j).F (N.b j).S (N.b j).n (N.b j).rim = capB (N.b j) := rfl
              have hwj : IntKind.i64.wrap (W.X j + k) = W.X j + k := IntWalk.i64_in _ (by omega)
              by_cases c4 : k ≤ rm
              · have djj : decide (wbelow (N.b j).F (N.b j).S (N.b j).n (N.b j).rim < W.X j + k) = false := decide_eq_false (by omega)
                clear hvv
                go_wp2_with fail
                go_region_held3 (fun w' => w'.cell? ⟨g, 0, none⟩ = some (.slice (some ab) N.n N.c) ∧ w'.cell? ⟨g + 1, 1, none⟩ = some (.slice (some al) W.n W.c) ∧ w'.cell? (ab.add (j * 3)) = some (.string (N.b j).nm) ∧ w'.cell? ⟨(ab.add (j * 3)).block, (ab.add (j * 3)).off + 1, none⟩ = some (.slice (N.b j).A (N.b j).n (N.b j).c) ∧ w'.cell? ⟨(ab.add (j * 3)).block, (ab.add (j * 3)).off + 2, none⟩ = some (.int .i64 (N.b j).rim) ∧ w'.cell? (al.add j) = some (.int .i64 (W.X j)) ∧ w'.cell? ⟨g2, 4, none⟩ = some (.int .i64 l.sill)) (first | with_reducible exact Hm.cells E0 | with_reducible exact Hm.cells E1) (first
                  | (go_at_call 17; (with_reducible refine (rCapacity_any (N.b j).nm E0.h.pa Bs).mono ?_); rintro e w6 ⟨rfl, hbq⟩; have E1 := E0.below hbq))
                have HB6 := hid (bthen HB5.out.drew hbq (Nat.le_refl _))
                have D6 := D5.below (bthen dr0 hbq (Nat.le_refl _))
                clear hbq E0 E1 D5 Bs
                have Hto := hid (show ∀ i : Nat, i < N.n → (i : Int) = (j : Int) → W.X i + k ≤ capB (N.b i) from fun i _ e => by have : i = j := (by omega); subst this; omega)
                have hkr := c4
                clear hwj hx hrm
                have hmm9 : W.m ≤ 1000 := by rw [HF.out.m]; exact Hs.out.k
                have hXb : ∀ i, i < W.n → 0 ≤ W.X i ∧ W.X i ≤ 9000000000000000000 := fun i hi => by
                  have hi' : i < N.n := by rw [← HF.out.n]; exact hi
                  have h1 := HF.out.l i hi'
                  have h2 := capB_range (HF.out.c.bas hi')
                  unfold LitOk at h1
                  omega
                have hn0 : 0 < W.n := by omega
                obtain ⟨z0, z1, z2', z3, z4, z5, z6, z7, z8, z9, za, zb, zc, zd⟩ := D6.cells
                go_wp2_with fail
                try rw [← Habj.out]
                try rw [← Halj.out]
                clear z0 z1 z2' z3 z4 z5 z6 z7 z8 z9 za zb zc zd
                refine (moved_any hp hp2 Hne.out D6.n.a Hs.out D6.a HF.out.n hn0 hm hmm9 k0 k1 hXb).mono ?_
                rintro e w7 ⟨gl, cc, gm, dd, rfl, hWt, hb⟩
                have D7 := D6.below hb
                have HB7 := hid (bthen HB6.out hb (Nat.le_refl _))
                clear hb D6 hXb
                obtain ⟨g8, hg8⟩ : ∃ g', w7.heap.size = g' := ⟨_, rfl⟩
                have hba := alo (W := w7) (o := .cells #[.int .i64 W.min, .slice (some ⟨gl, 0, none⟩) W.n cc, .slice (some ⟨gm, 0, none⟩) W.m dd] 30)
                have F8 : Aw _ g g8 B0 w7.heap.size N (W.upd gl cc gm dd (give (take W.X (i : Int) k) (j : Int) k)) := ⟨D7.n.below hba, Bk.of_alloc w7 (.cells #[.int .i64 W.min, .slice (some ⟨gl, 0, none⟩) W.n cc, .slice (some ⟨gm, 0, none⟩) W.m dd] 30) hg8, hWt.below hba⟩
                have HB8 := hid (bthen HB7.out hba (Nat.le_refl _))
                obtain ⟨x', hS1', ev1⟩ := HS1.out.moved (gl := gl) (c := cc) (gm := gm) (d := dd) (v := -k) (fun i _ hx => mv_from (hx.same hp.out) Hne.out)
                obtain ⟨x2', hS2', ev2⟩ := HS2.out.moved (gl := gl) (c := cc) (gm := gm) (d := dd) (v := k) (fun i _ hx => mv_to (hx.same hp2.out) Hne.out)
                have hF' : Fit N (W.upd gl cc gm dd (give (take W.X (i : Int) k) (j : Int) k)) := HF.out.moved Hne.out k0 Hfr.out Hto.out
                have Ha' := hid (fun (V : World) (B0 B1 : Nat) (h : Nt V B0 N) (k : Wt V B1 (W.upd gl cc gm dd (give (take W.X (i : Int) k) (j : Int) k))) => (show Calls Try.prog 69 #[.agg #[.slice N.A N.n N.c, .slice N.M N.m N.d, .slice N.K N.k N.e], .agg #[.int .i64 W.min, .slice (some ⟨gl, 0, none⟩) W.n cc, .slice (some ⟨gm, 0, none⟩) W.m dd], .string s] V fun e w' => e = .returned (.int .i64 a') ∧ Below V.heap.size V w' from by have h9 := height_is hS1' hF' Hs.out h k; rw [ev1.trans HA'.out] at h9; exact h9))
                have Hc' := hid (fun (V : World) (B0 B1 : Nat) (h : Nt V B0 N) (k : Wt V B1 (W.upd gl cc gm dd (give (take W.X (i : Int) k) (j : Int) k))) => (show Calls Try.prog 69 #[.agg #[.slice N.A N.n N.c, .slice N.M N.m N.d, .slice N.K N.k N.e], .agg #[.int .i64 W.min, .slice (some ⟨gl, 0, none⟩) W.n cc, .slice (some ⟨gm, 0, none⟩) W.m dd], .string s2] V fun e w' => e = .returned (.int .i64 c') ∧ Below V.heap.size V w' from by have h9 := height_is hS2' hF' Hs.out h k; rw [ev2.trans HC'.out] at h9; exact h9))
                have HPf := hid (fun (t : Bool) (ht : t = true ↔ c' ≤ a') => (HP.out t).2 (ht.trans ⟨fun e => ⟨c1, c2, hks, hkr, e⟩, fun e => e.2.2.2.2⟩))
                clear hS1' hS2' hF' ev1 ev2 hWt hn0
                obtain ⟨u0', u1', u2', u3', u4', u5'⟩ := F8.cells
                go_upto_region 12 with fail
                clear u0' u1' u2' u3' u4' u5'
                generalize w7.alloc (.cells #[.int .i64 W.min, .slice (some ⟨gl, 0, none⟩) W.n cc, .slice (some ⟨gm, 0, none⟩) W.m dd] 30) = w8 at *
                have Hg8 := hid hg8
                clear hg8 hba D7
                have G0 := F8.below dr0
                by_cases c5 : c' ≤ a'
                · have d5 : decide (c' ≤ a') = true := decide_eq_true c5
                  have HE := hid ((HPf.out true ⟨fun _ => c5, fun _ => rfl⟩).1 rfl)
                  clear c5
                  go_region_held3 (fun w' => w'.cell? ⟨g, 0, none⟩ = some (.slice N.A N.n N.c) ∧ w'.cell? ⟨g, 1, none⟩ = some (.slice N.M N.m N.d) ∧ w'.cell? ⟨g, 2, none⟩ = some (.slice N.K N.k N.e) ∧ w'.cell? ⟨g8, 0, none⟩ = some (.int .i64 W.min) ∧ w'.cell? ⟨g8, 1, none⟩ = some (.slice (some ⟨gl, 0, none⟩) W.n cc) ∧ w'.cell? ⟨g8, 2, none⟩ = some (.slice (some ⟨gm, 0, none⟩) W.m dd)) (first | with_reducible exact Aw.cells2 G0 | with_reducible exact Aw.cells2 G1 | with_reducible exact Aw.cells2 G2) (first
                    | (go_at_call 69; (with_reducible refine (Ha'.out _ _ _ G0.n.a G0.a).mono ?_); rintro e w9 ⟨rfl, hb9⟩; have G1 := G0.below hb9)
                    | (go_at_call 69; (with_reducible refine (Hc'.out _ _ _ G1.n.a G1.a).mono ?_); rintro e w10 ⟨rfl, hb10⟩; have G2 := G1.below hb10))
                  have HBz := hid (bthen (bthen HB8.out.drew hb9 (Nat.le_refl _)) hb10 (Nat.le_refl _))
                  go_wp2
                  go_ret
                  exact ⟨true, rfl, hid ⟨fun _ => HE.out, fun _ => rfl⟩, HBz.out⟩
                · have d5 : decide (c' ≤ a') = false := decide_eq_false c5
                  have HE := hid (HPf.out false ⟨(fun e => by cases e), fun e => absurd e c5⟩)
                  clear c5
                  go_region_held3 (fun w' => w'.cell? ⟨g, 0, none⟩ = some (.slice N.A N.n N.c) ∧ w'.cell? ⟨g, 1, none⟩ = some (.slice N.M N.m N.d) ∧ w'.cell? ⟨g, 2, none⟩ = some (.slice N.K N.k N.e) ∧ w'.cell? ⟨g8, 0, none⟩ = some (.int .i64 W.min) ∧ w'.cell? ⟨g8, 1, none⟩ = some (.slice (some ⟨gl, 0, none⟩) W.n cc) ∧ w'.cell? ⟨g8, 2, none⟩ = some (.slice (some ⟨gm, 0, none⟩) W.m dd)) (first | with_reducible exact Aw.cells2 G0 | with_reducible exact Aw.cells2 G1 | with_reducible exact Aw.cells2 G2) (first
                    | (go_at_call 69; (with_reducible refine (Ha'.out _ _ _ G0.n.a G0.a).mono ?_); rintro e w9 ⟨rfl, hb9⟩; have G1 := G0.below hb9)
                    | (go_at_call 69; (with_reducible refine (Hc'.out _ _ _ G1.n.a G1.a).mono ?_); rintro e w10 ⟨rfl, hb10⟩; have G2 := G1.below hb10))
                  have HBz := hid (bthen (bthen HB8.out.drew hb9 (Nat.le_refl _)) hb10 (Nat.le_refl _))
                  go_wp2
                  go_ret
                  exact ⟨false, rfl, HE, HBz.out⟩
              · have djj : decide (wbelow (N.b j).F (N.b j).S (N.b j).n (N.b j).rim < W.X j + k) = true := decide_eq_true (by omega)
                clear hvv
                go_wp2_with fail
                go_region_held3 (fun w' => w'.cell? ⟨g, 0, none⟩ = some (.slice (some ab) N.n N.c) ∧ w'.cell? ⟨g + 1, 1, none⟩ = some (.slice (some al) W.n W.c) ∧ w'.cell? (ab.add (j * 3)) = some (.string (N.b j).nm) ∧ w'.cell? ⟨(ab.add (j * 3)).block, (ab.add (j * 3)).off + 1, none⟩ = some (.slice (N.b j).A (N.b j).n (N.b j).c) ∧ w'.cell? ⟨(ab.add (j * 3)).block, (ab.add (j * 3)).off + 2, none⟩ = some (.int .i64 (N.b j).rim) ∧ w'.cell? (al.add j) = some (.int .i64 (W.X j)) ∧ w'.cell? ⟨g2, 4, none⟩ = some (.int .i64 l.sill)) (first | with_reducible exact Hm.cells E0 | with_reducible exact Hm.cells E1) (first
                  | (go_at_call 17; (with_reducible refine (rCapacity_any (N.b j).nm E0.h.pa Bs).mono ?_); rintro e w6 ⟨rfl, hbq⟩; have E1 := E0.below hbq))
                have HB6 := hid (bthen HB5.out.drew hbq (Nat.le_refl _))
                clear hbq E0 E1
                have HE := hid ((HP.out false).2 ⟨(fun e => by cases e), fun e => absurd e.2.2.2.1 (by omega)⟩)
                go_wp2
                go_ret
                exact ⟨false, rfl, HE, HB6.out⟩
          · have dii : decide (W.X i - k < wbelow (N.b i).F (N.b i).S (N.b i).n l.sill) = true := decide_eq_true (by omega)
            clear hvi
            go_wp2_with fail
            go_region_held3 (fun w' => w'.cell? ⟨g, 0, none⟩ = some (.slice (some ab) N.n N.c) ∧ w'.cell? ⟨g + 1, 1, none⟩ = some (.slice (some al) W.n W.c) ∧ w'.cell? (ab.add (i * 3)) = some (.string (N.b i).nm) ∧ w'.cell? ⟨(ab.add (i * 3)).block, (ab.add (i * 3)).off + 1, none⟩ = some (.slice (N.b i).A (N.b i).n (N.b i).c) ∧ w'.cell? ⟨(ab.add (i * 3)).block, (ab.add (i * 3)).off + 2, none⟩ = some (.int .i64 (N.b i).rim) ∧ w'.cell? (al.add i) = some (.int .i64 (W.X i)) ∧ w'.cell? ⟨g2, 4, none⟩ = some (.int .i64 l.sill)) (first | with_reducible exact Hm.cells E0 | with_reducible exact Hm.cells E1) (first
              | (go_at_call 45; (with_reducible refine (rBelow_any (N.b i).nm E0.h.pa Bs s0' s1).mono ?_); rintro e w4 ⟨rfl, hbq⟩; have E1 := E0.below hbq))
            have HB4 := hid (bthen HB3.out.drew hbq (Nat.le_refl _))
            clear hbq E0 E1
            have HE := hid ((HP.out false).2 ⟨(fun e => by cases e), fun e => absurd e.2.2.1 (by omega)⟩)
            go_wp2
            go_ret
            exact ⟨false, rfl, HE, HB4.out⟩
      · have d2 : decide (l.fac * hd < k) = true := decide_eq_true (by omega)
        have HE := hid ((HP.out false).2 ⟨(fun e => by cases e), fun e => absurd e.2.1 c2⟩)
        clear c1 c2
        go_wp2
        go_ret
        exact ⟨false, rfl, HE, HB2.out⟩
    · have d1 : decide (l.rate < k) = true := decide_eq_true (by omega)
      have HE := hid ((HP.out false).2 ⟨(fun e => by cases e), fun e => absurd e.1 c1⟩)
      clear c1
      go_wp2
      go_ret
      exact ⟨false, rfl, HE, HB2.out⟩

end Go.Proofs.Ytockfiobhmohnaa

