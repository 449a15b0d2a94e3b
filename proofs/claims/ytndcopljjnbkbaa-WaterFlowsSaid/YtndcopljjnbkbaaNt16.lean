/- Networks: what an open gate lets through: the test and the search of the program. -/
import Derived.Test.YtndcopljjnbkbaaNt15
namespace Go.Proofs.Ytndcopljjnbkbaa
open Go.RowKit Go.Maps Kb Wb

/-- k litres may pass. -/
def Okp (l : Ld) (hd sp rm : Int) (q : Bool) (z : Int) (b : Bd) (x : Int) (q2 : Bool) (z2 : Int) (b2 : Bd) (x2 : Int) (k : Int) : Prop := k ≤ l.fac * hd ∧ k ≤ sp ∧ k ≤ rm ∧ slev q2 z2 b2 x2 k ≤ slev q z b x (-k)
/-- A link, two sides, and three numbers in boxes. -/
structure Gw (w : World) (gl gh gs gr g1 g2 B0 B1 : Nat) (l : Ld) (hd sp rm : Int) (q : Bool) (z : Int) (b : Bd) (x : Int) (q2 : Bool) (z2 : Int) (b2 : Bd) (x2 : Int) : Prop where
  p : Pw w gl g1 g2 B0 B1 l q z b x q2 z2 b2 x2
  h : Bk w gh (.cells #[.int .i64 hd] 3)
  s : Bk w gs (.cells #[.int .i64 sp] 3)
  r : Bk w gr (.cells #[.int .i64 rm] 3)
section
variable {w w' : World} {gl gh gs gr g1 g2 B0 B1 : Nat} {l : Ld} {hd sp rm : Int} {q : Bool} {z : Int} {b : Bd} {x : Int} {q2 : Bool} {z2 : Int} {b2 : Bd} {x2 : Int}
theorem Gw.below (h : Gw w gl gh gs gr g1 g2 B0 B1 l hd sp rm q z b x q2 z2 b2 x2) (hb : Below w.heap.size w w') : Gw w' gl gh gs gr g1 g2 B0 B1 l hd sp rm q z b x q2 z2 b2 x2 := ⟨h.p.below hb, h.h.step hb, h.s.step hb, h.r.step hb⟩
theorem Gw.cells (h : Gw w gl gh gs gr g1 g2 B0 B1 l hd sp rm q z b x q2 z2 b2 x2) : w.cell? ⟨gl, 4, none⟩ = some (.int .i64 l.sill) ∧ w.cell? ⟨gl, 5, none⟩ = some (.int .i64 l.rate) ∧ w.cell? ⟨gl, 6, none⟩ = some (.int .i64 l.fac) ∧ w.cell? ⟨gl, 7, none⟩ = some (.int .i64 l.lift) ∧ w.cell? ⟨g1, 0, none⟩ = some (.bool q) ∧ w.cell? ⟨g1, 1, none⟩ = some (.int .i64 z) ∧ w.cell? ⟨g1, 2, none⟩ = some (.string b.nm) ∧ w.cell? ⟨g1, 3, none⟩ = some (.slice b.A b.n b.c) ∧ w.cell? ⟨g1, 4, none⟩ = some (.int .i64 b.rim) ∧ w.cell? ⟨g1, 5, none⟩ = some (.int .i64 x) ∧ w.cell? ⟨g2, 0, none⟩ = some (.bool q2) ∧ w.cell? ⟨g2, 1, none⟩ = some (.int .i64 z2) ∧ w.cell? ⟨g2, 2, none⟩ = some (.string b2.nm) ∧ w.cell? ⟨g2, 3, none⟩ = some (.slice b2.A b2.n b2.c) ∧ w.cell? ⟨g2, 4, none⟩ = some (.int .i64 b2.rim) ∧ w.cell? ⟨g2, 5, none⟩ = some (.int .i64 x2) ∧ w.cell? ⟨gh, 0, none⟩ = some (.int .i64 hd) ∧ w.cell? ⟨gs, 0, none⟩ = some (.int .i64 sp) ∧ w.cell? ⟨gr, 0, none⟩ = some (.int .i64 rm) := by
  obtain ⟨a0, a1, a2, a3, a4, a5, a6, a7, a8, a9, c0, c1, c2, c3, c4, c5⟩ := h.p.cells
  exact ⟨a0, a1, a2, a3, a4, a5, a6, a7, a8, a9, c0, c1, c2, c3, c4, c5, cell_of_row w _ 0 _ _ _ h.h, cell_of_row w _ 0 _ _ _ h.s, cell_of_row w _ 0 _ _ _ h.r⟩
set_option maxRecDepth 100000 in
set_option maxHeartbeats 8000000 in
theorem passes_any (h : Gw w gl gh gs gr g1 g2 B0 B1 l hd sp rm q z b x q2 z2 b2 x2) {k : Int} (k0 : 0 ≤ k) (k1 : k ≤ 2000000000) (hf : 0 ≤ l.fac * hd ∧ l.fac * hd ≤ 1000000000000000000) (hsp : q = false → sp ≤ x) (hrm : q2 = false → rm = capB b2 - x2) :
    Calls Try.prog 104 #[.int .i64 k, .pointer (some ⟨gl, 0, none⟩), .pointer (some ⟨gh, 0, none⟩), .pointer (some ⟨gs, 0, none⟩), .pointer (some ⟨gr, 0, none⟩), .pointer (some ⟨g1, 0, none⟩), .pointer (some ⟨g2, 0, none⟩)] w fun e w' => ∃ p : Bool, e = .returned (.bool p) ∧ Hid (p = true ↔ Okp l hd sp rm q z b x q2 z2 b2 x2 k) ∧ Below w.heap.size w w' := by
  obtain ⟨v0, v1, v2, v3, a0, a1, a2, a3, a4, a5, c0, c1, c2, c3, c4, c5, d0, d1, d2⟩ := h.cells
  have hw1 : IntKind.i64.wrap (l.fac * hd) = l.fac * hd := IntWalk.i64_in _ (by omega)
  have hw2 : IntKind.i64.wrap (-k) = -k := IntWalk.i64_in _ (by omega)
  have hw3 : IntKind.i64.wrap (0 - k) = -k := by rw [show (0 : Int) - k = -k by omega]; exact hw2
  by_cases e1 : k ≤ l.fac * hd
  · have f1 : decide (k ≤ l.fac * hd) = true := decide_eq_true e1
    by_cases e2 : k ≤ sp
    · have f2 : decide (k ≤ sp) = true := decide_eq_true e2
      by_cases e3 : k ≤ rm
      · have f3 : decide (k ≤ rm) = true := decide_eq_true e3
        have hv1 : q = false → 0 ≤ x + -k ∧ x + -k ≤ capB b := fun e => by
          have := hsp e
          have := h.p.f.a.x0 e
          omega
        have hv2 : q2 = false → 0 ≤ x2 + k ∧ x2 + k ≤ capB b2 := fun e => by
          have := hrm e
          have := h.p.t.a.x0 e
          omega
        obtain ⟨a, ha⟩ : ∃ a, slev q z b x (-k) = a := ⟨_, rfl⟩
        obtain ⟨c, hc⟩ : ∃ c, slev q2 z2 b2 x2 k = c := ⟨_, rfl⟩
        have HE := hid (show decide (c ≤ a) = true ↔ Okp l hd sp rm q z b x q2 z2 b2 x2 k by
          rw [decide_eq_true_iff]
          unfold Okp
          rw [ha, hc]
          exact ⟨fun h => ⟨e1, e2, e3, h⟩, fun h => h.2.2.2⟩)
        have Ha := hid (fun (W : World) (B0 : Nat) (h : Sok W B0 q z b x) => (show Calls Try.prog 89 #[.agg #[.bool q, .int .i64 z, .string b.nm, .slice b.A b.n b.c, .int .i64 b.rim, .int .i64 x], .int .i64 (-k)] W fun e w' => e = .returned (.int .i64 a) ∧ Below W.heap.size W w' from ha ▸ slevel_any h (-k) hv1))
        have Hc := hid (fun (W : World) (B0 : Nat) (h : Sok W B0 q2 z2 b2 x2) => (show Calls Try.prog 89 #[.agg #[.bool q2, .int .i64 z2, .string b2.nm, .slice b2.A b2.n b2.c, .int .i64 b2.rim, .int .i64 x2], .int .i64 k] W fun e w' => e = .returned (.int .i64 c) ∧ Below W.heap.size W w' from hc ▸ slevel_any h k hv2))
        clear ha hc hv1 hv2 e1 e2 e3 v0 v1 v2 v3 a0 a1 a2 a3 a4 a5 c0 c1 c2 c3 c4 c5 d0 d1 d2
        have D0 := h.below dr0
        clear h
        go_enter Try.func104, Try.ntmps104
        go_wp2_with fail
        go_region_held3 (fun w' => w'.cell? ⟨gl, 4, none⟩ = some (.int .i64 l.sill) ∧ w'.cell? ⟨gl, 5, none⟩ = some (.int .i64 l.rate) ∧ w'.cell? ⟨gl, 6, none⟩ = some (.int .i64 l.fac) ∧ w'.cell? ⟨gl, 7, none⟩ = some (.int .i64 l.lift) ∧ w'.cell? ⟨g1, 0, none⟩ = some (.bool q) ∧ w'.cell? ⟨g1, 1, none⟩ = some (.int .i64 z) ∧ w'.cell? ⟨g1, 2, none⟩ = some (.string b.nm) ∧ w'.cell? ⟨g1, 3, none⟩ = some (.slice b.A b.n b.c) ∧ w'.cell? ⟨g1, 4, none⟩ = some (.int .i64 b.rim) ∧ w'.cell? ⟨g1, 5, none⟩ = some (.int .i64 x) ∧ w'.cell? ⟨g2, 0, none⟩ = some (.bool q2) ∧ w'.cell? ⟨g2, 1, none⟩ = some (.int .i64 z2) ∧ w'.cell? ⟨g2, 2, none⟩ = some (.string b2.nm) ∧ w'.cell? ⟨g2, 3, none⟩ = some (.slice b2.A b2.n b2.c) ∧ w'.cell? ⟨g2, 4, none⟩ = some (.int .i64 b2.rim) ∧ w'.cell? ⟨g2, 5, none⟩ = some (.int .i64 x2) ∧ w'.cell? ⟨gh, 0, none⟩ = some (.int .i64 hd) ∧ w'.cell? ⟨gs, 0, none⟩ = some (.int .i64 sp) ∧ w'.cell? ⟨gr, 0, none⟩ = some (.int .i64 rm)) (first | with_reducible exact Gw.cells D0 | with_reducible exact Gw.cells D1 | with_reducible exact Gw.cells D2) (first
          | (go_at_call 89; with_reducible refine (Ha.out _ _ D0.p.f.a).mono ?_; rintro e w1 ⟨rfl, hb1⟩; have D1 := D0.below hb1)
          | (go_at_call 89; with_reducible refine (Hc.out _ _ D1.p.t.a).mono ?_; rintro e w2 ⟨rfl, hb2⟩; have D2 := D1.below hb2)
          | (go_at_call 89; with_reducible refine (Hc.out _ _ D0.p.t.a).mono ?_; rintro e w1 ⟨rfl, hb1⟩; have D1 := D0.below hb1)
          | (go_at_call 89; with_reducible refine (Ha.out _ _ D1.p.f.a).mono ?_; rintro e w2 ⟨rfl, hb2⟩; have D2 := D1.below hb2))
        all_goals
          have HB2 := hid (bthen ((Below.refl w.heap.size w).drew.trans (hb1.mono (Nat.le_refl _))) hb2 (Nat.le_refl _))
          clear hb1 hb2 D0 D1 D2
          go_wp2
          go_ret
          exact ⟨_, rfl, HE, HB2.out⟩
      · have f3 : decide (k ≤ rm) = false := decide_eq_false e3
        have HE := hid (show false = true ↔ Okp l hd sp rm q z b x q2 z2 b2 x2 k from ⟨fun h => (by cases h), fun h => absurd h.2.2.1 e3⟩)
        clear e1 e2 e3
        go_enter Try.func104, Try.ntmps104
        go_wp2_with fail
        go_quiet (fail)
        go_wp2
        go_ret
        exact ⟨_, rfl, HE, below_drewN (Below.refl _ _) nq⟩
    · have f2 : decide (k ≤ sp) = false := decide_eq_false e2
      have HE := hid (show false = true ↔ Okp l hd sp rm q z b x q2 z2 b2 x2 k from ⟨fun h => (by cases h), fun h => absurd h.2.1 e2⟩)
      clear e1 e2
      go_enter Try.func104, Try.ntmps104
      go_wp2_with fail
      go_quiet (fail)
      go_wp2
      go_ret
      exact ⟨_, rfl, HE, below_drewN (Below.refl _ _) nq⟩
  · have f1 : decide (k ≤ l.fac * hd) = false := decide_eq_false e1
    have HE := hid (show false = true ↔ Okp l hd sp rm q z b x q2 z2 b2 x2 k from ⟨fun h => (by cases h), fun h => absurd h.1 e1⟩)
    clear e1
    go_enter Try.func104, Try.ntmps104
    go_wp2_with fail
    go_quiet (fail)
    go_wp2
    go_ret
    exact ⟨_, rfl, HE, below_drewN (Below.refl _ _) nq⟩
/-- Where a search in halves stands. -/
def Gst (P : Int → Prop) (rate lo hi : Int) : Prop := 0 ≤ lo ∧ lo ≤ hi ∧ hi ≤ rate ∧ P lo ∧ ∀ k, hi < k → k ≤ rate → ¬ P k
/-- r is the greatest number from 0 to the bound for which P holds. -/
def Gre (P : Int → Prop) (rate r : Int) : Prop := 0 ≤ r ∧ r ≤ rate ∧ P r ∧ ∀ k, r < k → k ≤ rate → ¬ P k
theorem Gre.same {P : Int → Prop} {rate r s : Int} (h : Gre P rate r) (k : Gre P rate s) : r = s := by
  rcases Int.lt_trichotomy r s with e | e | e
  · exact absurd k.2.2.1 (h.2.2.2 s e k.2.1)
  · exact e
  · exact absurd h.2.2.1 (k.2.2.2 r e h.2.1)
set_option maxRecDepth 100000 in
set_option maxHeartbeats 8000000 in
theorem greatest_any (h : Gw w gl gh gs gr g1 g2 B0 B1 l hd sp rm q z b x q2 z2 b2 x2) {rate : Int} (r0 : 0 ≤ rate) (r1 : rate ≤ 2000000000) (hf : 0 ≤ l.fac * hd ∧ l.fac * hd ≤ 1000000000000000000) (hsp : q = false → sp ≤ x) (hrm : q2 = false → rm = capB b2 - x2)
    (hz : Okp l hd sp rm q z b x q2 z2 b2 x2 0) (hmono : ∀ i k, 0 ≤ i → i ≤ k → k ≤ rate → Okp l hd sp rm q z b x q2 z2 b2 x2 k → Okp l hd sp rm q z b x q2 z2 b2 x2 i) :
    Calls Try.prog 105 #[.int .i64 rate, .func (.func 104) #[] #[.pointer (some ⟨gl, 0, none⟩), .pointer (some ⟨gh, 0, none⟩), .pointer (some ⟨gs, 0, none⟩), .pointer (some ⟨gr, 0, none⟩), .pointer (some ⟨g1, 0, none⟩), .pointer (some ⟨g2, 0, none⟩)]] w fun e w' => ∃ r : Int, e = .returned (.int .i64 r) ∧ Hid (Gre (Okp l hd sp rm q z b x q2 z2 b2 x2) rate r) ∧ Below w.heap.size w w' := by
  have Hp := hid (fun (W : World) (h : Gw W gl gh gs gr g1 g2 B0 B1 l hd sp rm q z b x q2 z2 b2 x2) (k : Int) (k0 : 0 ≤ k) (k1 : k ≤ 2000000000) => passes_any h k0 k1 hf hsp hrm)
  obtain ⟨P, hP⟩ : ∃ P, Okp l hd sp rm q z b x q2 z2 b2 x2 = P := ⟨_, rfl⟩
  rw [hP] at hz hmono Hp ⊢
  have Hmono := hid hmono
  have Hz := hid (show Gst P rate 0 rate from ⟨Int.le_refl _, r0, Int.le_refl _, hz, fun k h1 h2 => by omega⟩)
  have Hh := hid h
  clear hz hmono hP hf hsp hrm h
  go_enter Try.func105, Try.ntmps105
  go_wp2_with fail
  go_loopw [5, 6] (fun lv mv wr => ∃ (lo hi : Int), lv = .int .i64 lo ∧ mv = .int .i64 hi ∧ Hid (Gst P rate lo hi) ∧ Below w.heap.size w wr) (fun lv mv _ => (intOf mv - intOf lv).toNat)
  case atStart => exact ⟨0, rate, rfl, rfl, Hz, Below.refl _ _⟩
  case round =>
    obtain ⟨lo, hi, rfl, rfl, HG, hbel⟩ := hrel
    obtain ⟨g0, g1', g2', gP, gN⟩ := HG.out
    have GP := hid gP
    have GN := hid gN
    have K := Hh.out.below hbel
    have Hbel := hid hbel
    clear gP gN hbel
    by_cases hlt : lo < hi
    · have dlt : decide (lo < hi) = true := decide_eq_true hlt
      obtain ⟨d, hd'⟩ : ∃ d, (hi - lo).tdiv 2 = d := ⟨_, rfl⟩
      have hd2 : d = (hi - lo) / 2 := by rw [← hd']; exact Int.tdiv_eq_ediv_of_nonneg (by omega)
      have hd3 : 0 ≤ d ∧ d < hi - lo + 1 ∧ lo < hi - d := by omega
      have hw1 : IntKind.i64.wrap (hi - lo) = hi - lo := IntWalk.i64_in _ (by omega)
      have hw2 : IntKind.i64.wrap ((hi - lo).tdiv 2) = d := by rw [hd']; exact IntWalk.i64_in _ (by omega)
      have hw3 : IntKind.i64.wrap (hi - d) = hi - d := IntWalk.i64_in _ (by omega)
      have hw4 : IntKind.i64.wrap (hi - d - 1) = hi - d - 1 := IntWalk.i64_in _ (by omega)
      clear hd2
      go_wp2_with fail
      refine (Hp.out _ K (hi - d) (by omega) (by omega)).mono ?_
      rintro e w2 ⟨p, rfl, hp, hb⟩
      have HB2 := hid (bthen Hbel.out hb (Nat.le_refl _))
      clear hb K
      cases p with
      | true =>
        have HN := hid (show Gst P rate (hi - d) hi from ⟨by omega, by omega, g2', hp.out.1 rfl, GN.out⟩)
        go_wp2
        go_roundw
        case rel => exact ⟨hi - d, hi, rfl, rfl, HN, HB2.out⟩
        case measure => simp [intOf]; omega
      | false =>
        have HN := hid (show Gst P rate lo (hi - d - 1) from ⟨g0, by omega, by omega, GP.out, fun k h1 h2 hk => absurd (hp.out.2 (Hmono.out (hi - d) k (by omega) (by omega) h2 hk)) (by decide)⟩)
        go_wp2
        go_roundw
        case rel => exact ⟨lo, hi - d - 1, rfl, rfl, HN, HB2.out⟩
        case measure => simp [intOf]; omega
    · have dlt : decide (lo < hi) = false := decide_eq_false hlt
      have e : lo = hi := by omega
      subst e
      have HE := hid (show Gre P rate lo from ⟨g0, g2', GP.out, GN.out⟩)
      go_wp2
      go_ret
      exact ⟨lo, rfl, HE, Hbel.out⟩
end

end Go.Proofs.Ytndcopljjnbkbaa
