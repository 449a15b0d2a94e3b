/- Networks: flow of the program. For every network and state that fit each other. Networks: Flow of the program. For every network, state and name. -/
import Derived.Test.YtockfiobhmohnaaGj
import Derived.Test.YtockfiobhmohnaaGe
namespace Go.Proofs.Ytockfiobhmohnaa
open Go.RowKit Go.Maps Kb Wb

/-- A network, a state, a link and its two sides in boxes. -/
structure Fw (w : World) (g g1 g2 gs gr B0 B1 : Nat) (N : Nd) (W : Wd) (l : Ld) (q : Bool) (z : Int) (b : Bd) (x : Int) (q2 : Bool) (z2 : Int) (b2 : Bd) (x2 : Int) : Prop where
  t : Tw w g g1 g2 B0 B1 N W l
  s : Bk w gs (.cells #[.bool q, .int .i64 z, .string b.nm, .slice b.A b.n b.c, .int .i64 b.rim, .int .i64 x] 118 (0, 0))
  r : Bk w gr (.cells #[.bool q2, .int .i64 z2, .string b2.nm, .slice b2.A b2.n b2.c, .int .i64 b2.rim, .int .i64 x2] 118 (0, 0))
section
variable {w w' : World} {g g1 g2 gs gr B0 B1 : Nat} {N : Nd} {W : Wd} {l : Ld} {q : Bool} {z : Int} {b : Bd} {x : Int} {q2 : Bool} {z2 : Int} {b2 : Bd} {x2 : Int}
theorem Tw.cells8 (h : Tw w g g1 g2 B0 B1 N W l) : w.cell? ⟨g, 0, none⟩ = some (.slice N.A N.n N.c) ∧ w.cell? ⟨g, 1, none⟩ = some (.slice N.M N.m N.d) ∧ w.cell? ⟨g, 2, none⟩ = some (.slice N.K N.k N.e) ∧ w.cell? ⟨g1, 0, none⟩ = some (.int .i64 W.min) ∧ w.cell? ⟨g1, 1, none⟩ = some (.slice W.A W.n W.c) ∧ w.cell? ⟨g1, 2, none⟩ = some (.slice W.M W.m W.d) ∧ w.cell? ⟨g2, 2, none⟩ = some (.string l.fr) ∧ w.cell? ⟨g2, 3, none⟩ = some (.string l.tw) := by
  obtain ⟨z0, z1, z2, z3, z4, z5, z6, z7, z8, z9, -⟩ := h.cells
  exact ⟨z0, z1, z2, z3, z4, z5, z8, z9⟩
theorem Fw.below (h : Fw w g g1 g2 gs gr B0 B1 N W l q z b x q2 z2 b2 x2) (hb : Below w.heap.size w w') : Fw w' g g1 g2 gs gr B0 B1 N W l q z b x q2 z2 b2 x2 := ⟨h.t.below hb, h.s.step hb, h.r.step hb⟩
theorem Fw.cells (h : Fw w g g1 g2 gs gr B0 B1 N W l q z b x q2 z2 b2 x2) : w.cell? ⟨gs, 0, none⟩ = some (.bool q) ∧ w.cell? ⟨gs, 1, none⟩ = some (.int .i64 z) ∧ w.cell? ⟨gs, 2, none⟩ = some (.string b.nm) ∧ w.cell? ⟨gs, 3, none⟩ = some (.slice b.A b.n b.c) ∧ w.cell? ⟨gs, 4, none⟩ = some (.int .i64 b.rim) ∧ w.cell? ⟨gs, 5, none⟩ = some (.int .i64 x) ∧ w.cell? ⟨gr, 0, none⟩ = some (.bool q2) ∧ w.cell? ⟨gr, 1, none⟩ = some (.int .i64 z2) ∧ w.cell? ⟨gr, 2, none⟩ = some (.string b2.nm) ∧ w.cell? ⟨gr, 3, none⟩ = some (.slice b2.A b2.n b2.c) ∧ w.cell? ⟨gr, 4, none⟩ = some (.int .i64 b2.rim) ∧ w.cell? ⟨gr, 5, none⟩ = some (.int .i64 x2) := by
  have hh := fun i => cell_of_row w _ i _ _ _ h.s
  have kk := fun i => cell_of_row w _ i _ _ _ h.r
  exact ⟨hh 0, hh 1, hh 2, hh 3, hh 4, hh 5, kk 0, kk 1, kk 2, kk 3, kk 4, kk 5⟩
end
/-- What a link that is right has: numbers within the limits. -/
theorem link_ok {N : Nd} (h : Cn N 0) {i : Nat} (hi : i < N.k) : rateOk (N.l i) ∧ ((N.l i).kind = 0 ∨ (N.l i).kind = 1) ∧ endB N (N.l i).fr = true ∧ endB N (N.l i).tw = true ∧ (((N.l i).fr = s0 ∨ (N.l i).tw = s0) → 0 < N.m) := by
  have hk := h.zero.2.2
  rcases hk with ⟨_, h⟩ | ⟨_, ⟨j, _, _, h⟩ | ⟨h, _⟩⟩
  · exact absurd h (by decide)
  · exfalso
    rcases h with ⟨_, h⟩ | ⟨_, _, h⟩ | ⟨_, _, _, h⟩
    · exact absurd h (by decide)
    · exact absurd h (by decide)
    · exact h rfl
  · have h := (h i hi).2.2
    have h : lkE N (N.l i) = 0 := h.symm
    unfold lkE at h
    by_cases h1 : endsE N (N.l i) = 0
    · rw [if_neg (fun e => e h1)] at h
      refine ⟨?_, ?_⟩
      · unfold rateE at h
        by_cases h2 : rateOk (N.l i)
        · exact h2
        · rw [if_neg h2] at h; exact absurd h (by decide)
      · unfold endsE at h1
        by_cases e1 : (N.l i).kind ≠ 0 ∧ (N.l i).kind ≠ 1
        · rw [if_pos e1] at h1; exact absurd h1 (by decide)
        · rw [if_neg e1] at h1
          by_cases e2 : ¬ (endB N (N.l i).fr = true ∧ endB N (N.l i).tw = true)
          · rw [if_pos e2] at h1; exact absurd h1 (by decide)
          · rw [if_neg e2] at h1
            have e2 := Classical.not_not.1 e2
            by_cases e3 : (N.l i).fr = (N.l i).tw
            · rw [if_pos e3] at h1; exact absurd h1 (by decide)
            · rw [if_neg e3] at h1
              refine ⟨by omega, e2.1, e2.2, fun e => ?_⟩
              by_cases e4 : ((N.l i).fr = s0 ∨ (N.l i).tw = s0) ∧ N.m = 0
              · rw [if_pos e4] at h1; exact absurd h1 (by decide)
              · exact Nat.pos_of_ne_zero fun h => e4 ⟨e, h⟩
    · rw [if_pos h1] at h
      exact absurd h h1
/-- What a link does: r litres, given its two sides. -/
def Flw (l : Ld) (o : Bool) (q : Bool) (z : Int) (b : Bd) (x : Int) (q2 : Bool) (z2 : Int) (b2 : Bd) (x2 : Int) (r : Int) : Prop :=
  (o = false ∧ r = 0) ∨ (o = true ∧ ((l.kind = 1 ∧ r = if l.lift < slev q2 z2 b2 x2 0 - slev q z b x 0 then 0 else min (min l.rate (sabo q b x (-1000000))) (sroom q2 b2 x2)) ∨ (l.kind = 0 ∧ ((slev q z b x 0 < slev q2 z2 b2 x2 0 ∧ ∃ r', r = -r' ∧ Gv l q2 z2 b2 x2 q z b x r') ∨ (¬ slev q z b x 0 < slev q2 z2 b2 x2 0 ∧ Gv l q z b x q2 z2 b2 x2 r)))))
theorem Gv.range {l : Ld} {q : Bool} {z : Int} {b : Bd} {x : Int} {q2 : Bool} {z2 : Int} {b2 : Bd} {x2 : Int} {r : Int} (h : Gv l q z b x q2 z2 b2 x2 r) (h1 : 0 ≤ l.rate) (h2 : l.rate ≤ 1000000000) : 0 ≤ r ∧ r ≤ 1000000000 := by
  rcases h with ⟨_, rfl⟩ | ⟨_, h⟩
  · omega
  · have := h.1; have := h.2.1; omega
set_option maxRecDepth 100000 in
set_option maxHeartbeats 16000000 in
theorem flow_any {w : World} {B0 B1 : Nat} {N : Nd} {W : Wd} {i : Nat} {q : Bool} {z : Int} {b : Bd} {x : Int} {q2 : Bool} {z2 : Int} {b2 : Bd} {x2 : Int} (HS1 : Hid (Sds N W (N.l i).fr q z b x)) (HS2 : Hid (Sds N W (N.l i).tw q2 z2 b2 x2)) (HF : Hid (Fit N W)) (Hs : Hid (Nsm N)) (h : Nt w B0 N) (hw : Wt w B1 W) (hi : i < N.k) :
    Calls Try.prog 63 #[.agg #[.slice N.A N.n N.c, .slice N.M N.m N.d, .slice N.K N.k N.e], .agg #[.int .i64 W.min, .slice W.A W.n W.c, .slice W.M W.m W.d], .int .i64 i] w fun e w' => ∃ r : Int, e = .returned (.int .i64 r) ∧ Hid (Flw (N.l i) (W.Y i) q z b x q2 z2 b2 x2 r) ∧ Below w.heap.size w w' := by
  have hm := HF.out.m
  have hkk := Hs.out.k
  have him : i < W.m := by omega
  clear hm
  obtain ⟨g, hg⟩ : ∃ g, w.heap.size = g := ⟨_, rfl⟩
  obtain ⟨g1, hg1⟩ : ∃ g', g + 1 = g' := ⟨_, rfl⟩
  have hb0 := ((Below.refl w.heap.size w).alloc (Nat.le_refl _) (.cells #[.slice N.A N.n N.c, .slice N.M N.m N.d, .slice N.K N.k N.e] 26)).alloc (by simp) (.cells #[.int .i64 W.min, .slice W.A W.n W.c, .slice W.M W.m W.d] 30)
  have n1 := (Nb.new h hg).below (alo (o := .cells #[.int .i64 W.min, .slice W.A W.n W.c, .slice W.M W.m W.d] 30))
  have k1 : Bk _ g1 _ := Bk.of_alloc (w.alloc (.cells #[.slice N.A N.n N.c, .slice N.M N.m N.d, .slice N.K N.k N.e] 26)) (.cells #[.int .i64 W.min, .slice W.A W.n W.c, .slice W.M W.m W.d] 30) (by simp [hg, hg1])
  have a1 := (hw.below (alo (o := .cells #[.slice N.A N.n N.c, .slice N.M N.m N.d, .slice N.K N.k N.e] 26))).below (alo (o := .cells #[.int .i64 W.min, .slice W.A W.n W.c, .slice W.M W.m W.d] 30))
  go_enter Try.func63, Try.ntmps63
  go_upto_region 0 with fail
  go_cut [3, 4, 6] from 7 to 53 (fun p3 p4 p6 wx => p3 = .pointer (some ⟨g, 0, none⟩) ∧ p4 = .pointer (some ⟨g1, 0, none⟩) ∧ p6 = .int .i64 0 ∧ Nb wx g B0 N ∧ Bk wx g1 (.cells #[.int .i64 W.min, .slice W.A W.n W.c, .slice W.M W.m W.d] 30 (0, 0)) ∧ Wt wx B1 W ∧ Below w.heap.size w wx)
  case first =>
    go_wp2_with fail
    go_meet
    case rel => exact ⟨by first | rfl | rw [hg], by first | rfl | (rw [← hg1, ← hg]), rfl, n1, k1, a1, by first | exact hb0 | (rw [← hg]; exact hb0)⟩
  case rest =>
    obtain ⟨rfl, rfl, rfl, n2, k2, a2, hbx⟩ := hcut
    generalize wc = W0 at *
    have HB0 := hid hbx
    clear hb0 hg hg1 h hw n1 k1 a1 hbx
    obtain ⟨ay, hay, hlay, hy⟩ := a2.y i him
    obtain ⟨al, hal, hlal, p0, p1, p2, p3, p4, p5, p6, p7⟩ := n2.a.l.at_ i hi
    obtain ⟨x0, x1, x2'⟩ := n2.cells
    obtain ⟨y0, y1, y2⟩ := k2.c3
    have Hay := hid hay
    have Hal := hid hal
    rw [hay] at y2
    rw [hal] at x2'
    clear hay hal
    cases ho : W.Y i
    case false =>
      rw [ho] at hy
      go_wp2_with fail
      go_ret
      exact ⟨0, rfl, hid (.inl ⟨ho, rfl⟩), HB0.out⟩
    case true =>
      rw [ho] at hy
      obtain ⟨l, hl⟩ : ∃ l, N.l i = l := ⟨_, rfl⟩
      have Hok := hid (link_ok HF.out.c hi)
      rw [hl] at p0 p1 p2 p3 p4 p5 p6 p7 HS1 HS2 Hok
      have Hl := hid hl
      have hb1 := alo (W := W0) (o := .cells #[.string l.nm, .int .i64 l.kind, .string l.fr, .string l.tw, .int .i64 l.sill, .int .i64 l.rate, .int .i64 l.fac, .int .i64 l.lift] 49)
      obtain ⟨g2, hg2⟩ : ∃ g', W0.heap.size = g' := ⟨_, rfl⟩
      have D : Tw (W0.alloc (.cells #[.string l.nm, .int .i64 l.kind, .string l.fr, .string l.tw, .int .i64 l.sill, .int .i64 l.rate, .int .i64 l.fac, .int .i64 l.lift] 49)) g g1 g2 B0 B1 N W l := ⟨n2.below hb1, k2.step hb1, a2.below hb1, Bk.of_alloc _ _ hg2⟩
      have HBw := hid (bthen HB0.out hb1 (Nat.le_refl _))
      clear hl hb1 n2 k2 a2
      go_upto_region 4 with fail
      generalize W0.alloc (.cells #[.string l.nm, .int .i64 l.kind, .string l.fr, .string l.tw, .int .i64 l.sill, .int .i64 l.rate, .int .i64 l.fac, .int .i64 l.lift] 49) = W1 at *
      have Hg2 := hid hg2
      clear hg2 x0 x1 x2' y0 y1 y2 p0 p1 p2 p3 p4 p5 p6 p7 hy
      have D1 := D
      clear D
      go_cut [8, 9] from 10 to 53 (fun p8 p9 wx => Tv W1.heap.size W1 (.cells #[.bool q, .int .i64 z, .string b.nm, .slice b.A b.n b.c, .int .i64 b.rim, .int .i64 x] 118 (0, 0)) (.cells #[.bool q2, .int .i64 z2, .string b2.nm, .slice b2.A b2.n b2.c, .int .i64 b2.rim, .int .i64 x2] 118 (0, 0)) p8 p9 wx)
      case first =>
        clear Hl Hok Hay Hal him hkk hi ho HBw HB0
        go_region_held3 (fun w' => w'.cell? ⟨g, 0, none⟩ = some (.slice N.A N.n N.c) ∧ w'.cell? ⟨g, 1, none⟩ = some (.slice N.M N.m N.d) ∧ w'.cell? ⟨g, 2, none⟩ = some (.slice N.K N.k N.e) ∧ w'.cell? ⟨g1, 0, none⟩ = some (.int .i64 W.min) ∧ w'.cell? ⟨g1, 1, none⟩ = some (.slice W.A W.n W.c) ∧ w'.cell? ⟨g1, 2, none⟩ = some (.slice W.M W.m W.d) ∧ w'.cell? ⟨g2, 2, none⟩ = some (.string l.fr) ∧ w'.cell? ⟨g2, 3, none⟩ = some (.string l.tw)) (with_reducible refine Tw.cells8 (D1.below ?_); repeat' (first | with_reducible exact dr0 | with_reducible exact dr1 | with_reducible exact dr2 | with_reducible exact HB1.out | with_reducible exact HB2.out | with_reducible exact qa.ge | with_reducible exact qb.ge | with_reducible apply Below.setCell | (with_reducible refine Below.alloc ?_ ?_ _) | (simpa using HB2.out.size) | (simpa [World.setCell] using HB2.out.size) | (have hz := HB2.out.size; simp; omega) | (simpa using HB1.out.size) | (simpa [World.setCell] using HB1.out.size) | (have hz := HB1.out.size; simp; omega) | (simp; omega))) (first
          | (go_at_call 81; (first | with_reducible refine (sideOf_is HS1.out HF.out Hs.out (D1.below dr0).n.a (D1.below dr0).a).mono ?_ | with_reducible refine (sideOf_is HS1.out HF.out Hs.out (D1.below dr1).n.a (D1.below dr1).a).mono ?_ | with_reducible refine (sideOf_is HS1.out HF.out Hs.out (D1.below dr2).n.a (D1.below dr2).a).mono ?_); rintro e y1 ⟨rfl, hb1⟩; (first | ((with_reducible have H := sn2 (Nat.le_refl _) hb1); obtain ⟨hc1, qa, qb⟩ := H; have nab := (Nat.ne_of_lt (Nat.lt_succ_self W1.heap.size)); have nba := fun e => nab (Eq.symm e)) | ((with_reducible have H := sn1 (Nat.le_refl _) hb1); obtain ⟨hc1, qa⟩ := H) | (with_reducible have hc1 := sd0 hb1)); have HB1 := hid hc1)
          | (go_at_call 81; (first | with_reducible refine (sideOf_is HS2.out HF.out Hs.out (D1.below HB1.out).n.a (D1.below HB1.out).a).mono ?_ | with_reducible refine (sideOf_is HS2.out HF.out Hs.out (D1.below (bth HB1.out al1 HB1.out.size)).n.a (D1.below (bth HB1.out al1 HB1.out.size)).a).mono ?_ | with_reducible refine (sideOf_is HS2.out HF.out Hs.out (D1.below (bth HB1.out al2 HB1.out.size)).n.a (D1.below (bth HB1.out al2 HB1.out.size)).a).mono ?_); rintro e y2 ⟨rfl, hb2⟩; (first | ((with_reducible have H := tn2 HB1.out.size hb2); obtain ⟨hc2, qa, qb⟩ := H; have nab := (Nat.ne_of_lt (Nat.lt_succ_self y1.heap.size)); have nba := fun e => nab (Eq.symm e)) | ((with_reducible have H := tn1 HB1.out.size hb2); obtain ⟨hc2, q⟩ := H; (first | (have nab := Nat.ne_of_lt qa.lt; have nba := fun e => nab (Eq.symm e); have qb := q; replace qa := qa.step hc2) | have qa := q)) | (have hc2 := hb2; (try replace qa := qa.step hc2); (try replace qb := qb.step hc2))); have HB2 := hid (bth HB1.out hc2 HB1.out.size); (try (have lqa := qa.lt; obtain ⟨_, _, _, _, _, _, _, _, _, _, _, _⟩ := Nw.c6 qa)); (try (have lqb := qb.lt; obtain ⟨_, _, _, _, _, _, _, _, _, _, _, _⟩ := Nw.c6 qb))))
        all_goals
          (try clear lqa)
          (try clear lqb)
          go_wp2_with fail
          go_meet
          case rel =>
            first
            | with_reducible exact tv1_6 HB2.out HB2.out.size
            | with_reducible exact tv2_6 HB2.out HB2.out.size
            | with_reducible exact tv3_6 HB2.out HB2.out.size qa
            | with_reducible exact tv4_6 HB2.out HB2.out.size qa
            | with_reducible exact tv5_6 HB2.out qa qb nab
            | with_reducible exact tv5_6 HB2.out qb qa nba

      case rest =>
        obtain ⟨gs, gr, rfl, rfl, -, -, S1, R1, hbx⟩ := hcut
        have D2 : Fw wc g g1 g2 gs gr B0 B1 N W l q z b x q2 z2 b2 x2 := ⟨D1.below hbx, S1, R1⟩
        have HB2 := hid (bthen HBw.out hbx (Nat.le_refl _))
        generalize wc = W2 at *
        clear S1 R1 hbx D1
        rcases Hok.out.2.1 with k0 | k0
        · have k1 : (l.kind == 1) = false := by rw [k0]; rfl
          obtain ⟨a, ha⟩ : ∃ a, slev q z b x 0 = a := ⟨_, rfl⟩
          obtain ⟨c, hc⟩ : ∃ c, slev q2 z2 b2 x2 0 = c := ⟨_, rfl⟩
          have Ha := hid (fun (V : World) (B : Nat) (h : Sok V B q z b x) => (show Calls Try.prog 83 #[.agg #[.bool q, .int .i64 z, .string b.nm, .slice b.A b.n b.c, .int .i64 b.rim, .int .i64 x], .int .i64 0] V fun e w' => e = .returned (.int .i64 a) ∧ Below V.heap.size V w' from ha ▸ slevel_any h 0 h.v0))
          have Hc := hid (fun (V : World) (B : Nat) (h : Sok V B q2 z2 b2 x2) => (show Calls Try.prog 83 #[.agg #[.bool q2, .int .i64 z2, .string b2.nm, .slice b2.A b2.n b2.c, .int .i64 b2.rim, .int .i64 x2], .int .i64 0] V fun e w' => e = .returned (.int .i64 c) ∧ Below V.heap.size V w' from hc ▸ slevel_any h 0 h.v0))
          have ok := Hok.out.1
          obtain ⟨⟨okg, _⟩, r0, r1⟩ := ok
          obtain ⟨⟨s0', s1⟩, f0, f1⟩ := okg k0
          by_cases hac : a < c
          · have dac : decide (a < c) = true := decide_eq_true hac
            have HFl := hid (fun (r : Int) (h : Gv l q2 z2 b2 x2 q z b x r) => show Flw l true q z b x q2 z2 b2 x2 (-r) from .inr ⟨rfl, .inr ⟨k0, .inl ⟨by rw [ha, hc]; exact hac, r, rfl, h⟩⟩⟩)
            have K0 := hid k0
            clear hac ha hc k0 okg
            obtain ⟨z0, z1, z2', z3, z4, z5, z6, z7, z8, z9, za, zb, zc, zd⟩ := D2.t.cells
            go_upto_region 7 with fail
            clear z0 z1 z2' z3 z4 z5 z6 z7 z8 z9 za zb zc zd
            have E0 := D2.below dr0
            go_region_held3 (fun w' => w'.cell? ⟨gs, 0, none⟩ = some (.bool q) ∧ w'.cell? ⟨gs, 1, none⟩ = some (.int .i64 z) ∧ w'.cell? ⟨gs, 2, none⟩ = some (.string b.nm) ∧ w'.cell? ⟨gs, 3, none⟩ = some (.slice b.A b.n b.c) ∧ w'.cell? ⟨gs, 4, none⟩ = some (.int .i64 b.rim) ∧ w'.cell? ⟨gs, 5, none⟩ = some (.int .i64 x) ∧ w'.cell? ⟨gr, 0, none⟩ = some (.bool q2) ∧ w'.cell? ⟨gr, 1, none⟩ = some (.int .i64 z2) ∧ w'.cell? ⟨gr, 2, none⟩ = some (.string b2.nm) ∧ w'.cell? ⟨gr, 3, none⟩ = some (.slice b2.A b2.n b2.c) ∧ w'.cell? ⟨gr, 4, none⟩ = some (.int .i64 b2.rim) ∧ w'.cell? ⟨gr, 5, none⟩ = some (.int .i64 x2)) (first | with_reducible exact Fw.cells E0 | with_reducible exact Fw.cells E1 | with_reducible exact Fw.cells E2) (first
              | (go_at_call 83; (with_reducible refine (Ha.out _ _ (Sds.ok HS1.out HF.out E0.t.n.a)).mono ?_); rintro e w1 ⟨rfl, hb1⟩; have E1 := E0.below hb1)
              | (go_at_call 83; (with_reducible refine (Hc.out _ _ (Sds.ok HS2.out HF.out E1.t.n.a)).mono ?_); rintro e w2 ⟨rfl, hb2⟩; have E2 := E1.below hb2)
              | (go_at_call 83; (with_reducible refine (Hc.out _ _ (Sds.ok HS2.out HF.out E0.t.n.a)).mono ?_); rintro e w1 ⟨rfl, hb1⟩; have E1 := E0.below hb1)
              | (go_at_call 83; (with_reducible refine (Ha.out _ _ (Sds.ok HS1.out HF.out E1.t.n.a)).mono ?_); rintro e w2 ⟨rfl, hb2⟩; have E2 := E1.below hb2))
            all_goals
              have HB5 := hid (bthen (bthen HB2.out.drew hb1 (Nat.le_refl _)) hb2 (Nat.le_refl _))
              clear hb1 hb2 E0 E1
              obtain ⟨z0, z1, z2', z3, z4, z5, z6, z7, z8, z9, za, zb, zc, zd⟩ := E2.t.cells
              obtain ⟨u0', u1', u2', u3', u4', u5', v0', v1', v2', v3', v4', v5'⟩ := E2.cells
              go_wp2_with fail
              refine (passed_any l (Sds.ok HS2.out HF.out E2.t.n.a) (Sds.ok HS1.out HF.out E2.t.n.a) s0' s1 f0 f1 r0 r1).mono ?_
              rintro e w6 ⟨r, rfl, hr, hb⟩
              have HB6 := hid (bthen HB5.out hb (Nat.le_refl _))
              have HE := hid (HFl.out r hr.out)
              have hrr := Gv.range hr.out r0 r1
              have hw2 : IntKind.i64.wrap (-r) = -r := IntWalk.i64_in _ (by omega)
              have hw3 : IntKind.i64.wrap (0 - r) = -r := by rw [show (0 : Int) - r = -r by omega]; exact hw2
              clear hb hr E2 z0 z1 z2' z3 z4 z5 z6 z7 z8 z9 za zb zc zd u0' u1' u2' u3' u4' u5' v0' v1' v2' v3' v4' v5'
              go_wp2
              go_ret
              exact ⟨-r, rfl, by rw [Hl.out, ho]; exact HE, HB6.out⟩
          · have dac : decide (a < c) = false := decide_eq_false hac
            have HFl := hid (fun (r : Int) (h : Gv l q z b x q2 z2 b2 x2 r) => show Flw l true q z b x q2 z2 b2 x2 r from .inr ⟨rfl, .inr ⟨k0, .inr ⟨by rw [ha, hc]; exact hac, h⟩⟩⟩)
            have K0 := hid k0
            clear hac ha hc k0 okg
            obtain ⟨z0, z1, z2', z3, z4, z5, z6, z7, z8, z9, za, zb, zc, zd⟩ := D2.t.cells
            go_upto_region 7 with fail
            clear z0 z1 z2' z3 z4 z5 z6 z7 z8 z9 za zb zc zd
            have E0 := D2.below dr0
            go_region_held3 (fun w' => w'.cell? ⟨gs, 0, none⟩ = some (.bool q) ∧ w'.cell? ⟨gs, 1, none⟩ = some (.int .i64 z) ∧ w'.cell? ⟨gs, 2, none⟩ = some (.string b.nm) ∧ w'.cell? ⟨gs, 3, none⟩ = some (.slice b.A b.n b.c) ∧ w'.cell? ⟨gs, 4, none⟩ = some (.int .i64 b.rim) ∧ w'.cell? ⟨gs, 5, none⟩ = some (.int .i64 x) ∧ w'.cell? ⟨gr, 0, none⟩ = some (.bool q2) ∧ w'.cell? ⟨gr, 1, none⟩ = some (.int .i64 z2) ∧ w'.cell? ⟨gr, 2, none⟩ = some (.string b2.nm) ∧ w'.cell? ⟨gr, 3, none⟩ = some (.slice b2.A b2.n b2.c) ∧ w'.cell? ⟨gr, 4, none⟩ = some (.int .i64 b2.rim) ∧ w'.cell? ⟨gr, 5, none⟩ = some (.int .i64 x2)) (first | with_reducible exact Fw.cells E0 | with_reducible exact Fw.cells E1 | with_reducible exact Fw.cells E2) (first
              | (go_at_call 83; (with_reducible refine (Ha.out _ _ (Sds.ok HS1.out HF.out E0.t.n.a)).mono ?_); rintro e w1 ⟨rfl, hb1⟩; have E1 := E0.below hb1)
              | (go_at_call 83; (with_reducible refine (Hc.out _ _ (Sds.ok HS2.out HF.out E1.t.n.a)).mono ?_); rintro e w2 ⟨rfl, hb2⟩; have E2 := E1.below hb2)
              | (go_at_call 83; (with_reducible refine (Hc.out _ _ (Sds.ok HS2.out HF.out E0.t.n.a)).mono ?_); rintro e w1 ⟨rfl, hb1⟩; have E1 := E0.below hb1)
              | (go_at_call 83; (with_reducible refine (Ha.out _ _ (Sds.ok HS1.out HF.out E1.t.n.a)).mono ?_); rintro e w2 ⟨rfl, hb2⟩; have E2 := E1.below hb2))
            all_goals
              have HB5 := hid (bthen (bthen HB2.out.drew hb1 (Nat.le_refl _)) hb2 (Nat.le_refl _))
              clear hb1 hb2 E0 E1
              obtain ⟨z0, z1, z2', z3, z4, z5, z6, z7, z8, z9, za, zb, zc, zd⟩ := E2.t.cells
              obtain ⟨u0', u1', u2', u3', u4', u5', v0', v1', v2', v3', v4', v5'⟩ := E2.cells
              go_wp2_with fail
              refine (passed_any l (Sds.ok HS1.out HF.out E2.t.n.a) (Sds.ok HS2.out HF.out E2.t.n.a) s0' s1 f0 f1 r0 r1).mono ?_
              rintro e w6 ⟨r, rfl, hr, hb⟩
              have HB6 := hid (bthen HB5.out hb (Nat.le_refl _))
              have HE := hid (HFl.out r hr.out)
              clear hb hr E2 z0 z1 z2' z3 z4 z5 z6 z7 z8 z9 za zb zc zd u0' u1' u2' u3' u4' u5' v0' v1' v2' v3' v4' v5'
              go_wp2
              go_ret
              exact ⟨r, rfl, by rw [Hl.out, ho]; exact HE, HB6.out⟩
        · have k1 : (l.kind == 1) = true := by rw [k0]; rfl
          have HFl := hid (show Flw l true q z b x q2 z2 b2 x2 (if l.lift < slev q2 z2 b2 x2 0 - slev q z b x 0 then 0 else min (min l.rate (sabo q b x (-1000000))) (sroom q2 b2 x2)) from .inr ⟨rfl, .inl ⟨k0, rfl⟩⟩)
          have K0 := hid k0
          clear k0
          obtain ⟨z0, z1, z2', z3, z4, z5, z6, z7, z8, z9, za, zb, zc, zd⟩ := D2.t.cells
          obtain ⟨u0', u1', u2', u3', u4', u5', v0', v1', v2', v3', v4', v5'⟩ := D2.cells
          go_wp2_with fail
          refine (pumped_any l (Sds.ok HS1.out HF.out D2.t.n.a) (Sds.ok HS2.out HF.out D2.t.n.a)).mono ?_
          rintro e w6 ⟨rfl, hb⟩
          have HB6 := hid (bthen HB2.out hb (Nat.le_refl _))
          clear hb D2 z0 z1 z2' z3 z4 z5 z6 z7 z8 z9 za zb zc zd u0' u1' u2' u3' u4' u5' v0' v1' v2' v3' v4' v5'
          generalize (if l.lift < slev q2 z2 b2 x2 0 - slev q z b x 0 then 0 else min (min l.rate (sabo q b x (-1000000))) (sroom q2 b2 x2)) = r at *
          go_wp2
          go_ret
          exact ⟨r, rfl, by rw [Hl.out, ho]; exact HFl, HB6.out⟩

end Go.Proofs.Ytockfiobhmohnaa

namespace Go.Proofs.Ytockfiobhmohnaa
open Go.RowKit Go.Maps Kb Wb

/-- r is what link i does. -/
def Fli (N : Nd) (W : Wd) (i : Nat) (r : Int) : Prop := ∃ q z b x q2 z2 b2 x2, Sds N W (N.l i).fr q z b x ∧ Sds N W (N.l i).tw q2 z2 b2 x2 ∧ Flw (N.l i) (W.Y i) q z b x q2 z2 b2 x2 r
/-- r and c are what Flow answers, q being the error of the state, p the place of the link. -/
def Flq (N : Nd) (W : Wd) (q p r c : Int) : Prop := (q ≠ 0 ∧ r = 0 ∧ c = q) ∨ (q = 0 ∧ p = -1 ∧ r = 0 ∧ c = 6) ∨ (q = 0 ∧ c = 0 ∧ ∃ i : Nat, p = i ∧ i < N.k ∧ Fli N W i r)
theorem sides_of {N : Nd} {W : Wd} (h : Cn N 0) {i : Nat} (hi : i < N.k) : ∃ q z b x q2 z2 b2 x2, Sds N W (N.l i).fr q z b x ∧ Sds N W (N.l i).tw q2 z2 b2 x2 := by
  obtain ⟨_, _, e1, e2, e3⟩ := link_ok h hi
  obtain ⟨q, z, b, x, h1⟩ := Sds.exists (W := W) e1 (fun e => e3 (.inl e))
  obtain ⟨q2, z2, b2, x2, h2⟩ := Sds.exists (W := W) e2 (fun e => e3 (.inr e))
  exact ⟨q, z, b, x, q2, z2, b2, x2, h1, h2⟩
end Go.Proofs.Ytockfiobhmohnaa

