/- The contracts of combine and SubRat at equal denominators. For all fractions with positive denominators whose limbs fit into memory, given the contract of commonDivisor at the numbers. -/
import Derived.Test.YtlfeendebbidhaaDoorProd
namespace Go.Proofs.YtlfeendebbidhaaDoor
open Go.RowKit Kb

/-- The numerator of a fraction in lowest terms. -/
def rn (z : Int) (b : Nat) : Int := toZ (decide (z < 0)) (z.natAbs / Nat.gcd z.natAbs b)
theorem fraction_any (p : Bool) (A B : Option Addr) (n c m d a b : Nat) (w : World) (h : Raw w A n c a) (k : Raw w B m d b) (hT : Tb w) (hC : CD a b) (hb0 : b ≠ 0) (ha : (dig a).length ≤ 400000000) (hb : (dig b).length ≤ 400000000) :
    Calls Tryd.prog 60 #[.agg #[.bool p, .slice A n c], .agg #[.bool false, .slice B m d]] w fun e w' => ∃ v, e = .returned v ∧ Rz w' v (toZ p (a / Nat.gcd a b)) ((b / Nat.gcd a b : Nat)) ∧ Below w.heap.size w w' := by
  have e1 : (p != false) = p := by cases p <;> rfl
  by_cases hg : Nat.gcd a b = 1
  · have := fraction_one p false A B n c m d a b w h k hT hC hg
    rw [e1] at this
    rw [hg, Nat.div_one, Nat.div_one]; exact this
  · have := fraction_div p false A B n c m d a b w h k hT hC hg hb0 ha hb
    rwa [e1] at this

/-- A contract whose result is a fraction, its fields written out. -/
theorem rz_open {P : Program} {f : FuncId} {args : Array Value} {w : World} {x y : Int} (h : Calls P f args w fun e w' => ∃ v, e = .returned v ∧ Rz w' v x y ∧ Below w.heap.size w w') :
    Calls P f args w fun e w' => ∃ s1 A1 n1 c1 s2 A2 n2 c2, e = .returned (.agg #[.bool s1, .slice A1 n1 c1, .bool s2, .slice A2 n2 c2]) ∧ Hid (s1 = decide (x < 0)) ∧ Hid (s2 = decide (y < 0)) ∧ Nm w' (.slice A1 n1 c1) x.natAbs ∧ Nm w' (.slice A2 n2 c2) y.natAbs ∧ Below w.heap.size w w' := by
  refine h.mono ?_
  rintro e w' ⟨v, rfl, ⟨s1, A1, n1, c1, s2, A2, n2, c2, rfl, h1, h2, h3, h4⟩, hb⟩
  exact ⟨s1, A1, n1, c1, s2, A2, n2, c2, rfl, h1, h2, h3, h4, hb⟩
theorem fraction_nz (s1 s2 : Bool) (A1 A2 : Option Addr) (n1 c1 n2 c2 : Nat) (z : Int) (b : Nat) {w : World} (h : Nm w (.slice A1 n1 c1) z.natAbs) (k : Nm w (.slice A2 n2 c2) (toZ false b).natAbs) (hs1 : Hid (s1 = decide (z < 0))) (hs2 : Hid (s2 = decide (toZ false b < 0))) (hT : Tb w) (hC : CD z.natAbs b) (hb0 : b ≠ 0) (ha : (dig z.natAbs).length ≤ 400000000) (hb : (dig b).length ≤ 400000000) :
    Calls Tryd.prog 60 #[.agg #[.bool s1, .slice A1 n1 c1], .agg #[.bool s2, .slice A2 n2 c2]] w fun e w' => ∃ v, e = .returned v ∧ Rz w' v (rn z b) ((b / Nat.gcd z.natAbs b : Nat)) ∧ Below w.heap.size w w' := by
  have e2 : s2 = false := by rw [hs2.out]; unfold toZ; rw [if_neg (by decide), decide_eq_false (by omega)]
  subst e2
  rw [natAbs_toZ] at k
  have := fraction_any s1 A1 A2 n1 c1 n2 c2 z.natAbs b w h.raw k.raw hT hC hb0 ha hb
  rw [hs1.out] at this ⊢
  exact this

theorem dig_natAbs {p q : Bool} {a b K : Nat} (ha : (dig a).length ≤ K) (hb : (dig b).length ≤ K) : (dig (toZ p a - toZ q b).natAbs).length ≤ K + 1 := by
  have h1 : a < 65536 ^ K := Nat.lt_of_lt_of_le (by have := val_lt (lim_dig a); rwa [val_dig] at this) (Nat.pow_le_pow_right (by decide) ha)
  have h2 : b < 65536 ^ K := Nat.lt_of_lt_of_le (by have := val_lt (lim_dig b); rwa [val_dig] at this) (Nat.pow_le_pow_right (by decide) hb)
  apply dig_length_le
  rw [Nat.pow_succ]
  have h3 : (toZ p a - toZ q b).natAbs ≤ a + b := by unfold toZ; cases p <;> cases q <;> simp <;> omega
  omega

set_option maxRecDepth 100000 in
set_option maxHeartbeats 4000000 in
theorem combine_same (p q : Bool) (A B C D : Option Addr) (n c m d n' c' m' d' a b a' b' : Nat) (w : World) (h : Fr w p A n c a B m d b) (k : Fr w q C n' c' a' D m' d' b') (hT : Tb w) (hbb : b = b') (hC : CD (toZ p a - toZ q a').natAbs b) :
    Calls Tryd.prog 61 #[.agg #[.bool p, .slice A n c, .bool false, .slice B m d], .agg #[.bool q, .slice C n' c', .bool false, .slice D m' d'], .func (.func 20) #[] #[]] w fun e w' => ∃ v, e = .returned v ∧ Rz w' v (rn (toZ p a - toZ q a') b) (b / Nat.gcd (toZ p a - toZ q a').natAbs b : Nat) ∧ Below w.heap.size w w' := by
  subst hbb
  have b0 := three_new w (.cells #[.bool p, .slice A n c, .bool false, .slice B m d] 42) (.cells #[.bool q, .slice C n' c', .bool false, .slice D m' d'] 42) (.cells #[.bool false, .slice none 0 0, .bool false, .slice none 0 0] 42)
  have hB := (((Below.refl w.heap.size w).alloc (Nat.le_refl _) (.cells #[.bool p, .slice A n c, .bool false, .slice B m d] 42)).alloc (by simp) (.cells #[.bool q, .slice C n' c', .bool false, .slice D m' d'] 42)).alloc (by simp; omega) (.cells #[.bool false, .slice none 0 0, .bool false, .slice none 0 0] 42)
  obtain ⟨g, hg⟩ : ∃ g, w.heap.size = g := ⟨_, rfl⟩
  go_enter Tryd.func61, Tryd.ntmps61
  go_wp2_with fail
  rw [hg] at b0
  generalize ((w.alloc (.cells #[.bool p, .slice A n c, .bool false, .slice B m d] 42)).alloc (.cells #[.bool q, .slice C n' c', .bool false, .slice D m' d'] 42)).alloc (.cells #[.bool false, .slice none 0 0, .bool false, .slice none 0 0] 42) = W0 at *
  have h0 := h.below hB
  have k0 := k.below hB
  have T0 := hT.below hB
  have HB := hid hB
  have Hg := hid hg
  obtain ⟨a0, a1, a2⟩ := b0
  obtain ⟨x0, x1, x2, x3, -, -, -, -⟩ := a0.c4
  clear hB hg h k hT
  go_wp2_with fail
  refine (parts_pos p A B n c m d b _ h0.den h0.pos).mono ?_
  rintro e w1 ⟨rfl, hb1⟩
  replace a0 := a0.step hb1
  replace a1 := a1.step hb1
  replace a2 := a2.step hb1
  clear x0 x1 x2 x3
  obtain ⟨x0, x1, x2, x3, -, -, -, -⟩ := a1.c4
  have l1 := a2.lt
  have hB1 := hid (bthen HB.out hb1 (Nat.le_refl _))
  have k1 := k0.below hb1
  have T1 := T0.below hb1
  have h1 := h0.below hb1
  have hBn := ((Below.refl w1.heap.size w1).alloc (Nat.le_refl _) (.cells #[.bool p, .slice A n c] 24)).alloc (by simp) (.cells #[.bool false, .slice B m d] 24)
  have k2 := k1.below hBn
  have T2 := T1.below hBn
  have h2 := h1.below hBn
  have c1 := Bk.of_alloc w1 (.cells #[.bool p, .slice A n c] 24) rfl
  replace c1 := c1.alloc (.cells #[.bool false, .slice B m d] 24)
  have c2 := Bk.of_alloc (w1.alloc (.cells #[.bool p, .slice A n c] 24)) (.cells #[.bool false, .slice B m d] 24) (g := w1.heap.size + 1) (by simp)
  replace a0 := (a0.alloc (.cells #[.bool p, .slice A n c] 24)).alloc (.cells #[.bool false, .slice B m d] 24)
  replace a1 := (a1.alloc (.cells #[.bool p, .slice A n c] 24)).alloc (.cells #[.bool false, .slice B m d] 24)
  replace a2 := (a2.alloc (.cells #[.bool p, .slice A n c] 24)).alloc (.cells #[.bool false, .slice B m d] 24)
  clear x0 x1 x2 x3
  obtain ⟨x0, x1, x2, x3, -, -, -, -⟩ := a1.c4
  have hBn' := hid hBn
  have l1' := hid l1
  clear hb1 h0 k0 k1 h1 hBn T0 T1
  go_wp2_with fail
  refine (parts_pos q C D n' c' m' d' b _ k2.den k2.pos).mono ?_
  rintro e w2 ⟨rfl, hb2⟩
  clear x0 x1 x2 x3
  replace a2 := a2.step hb2
  replace c1 := c1.step hb2
  replace c2 := c2.step hb2
  have hB2 := hid (bthen (bthen hB1.out hBn'.out (Nat.le_refl _)) hb2 (Nat.le_refl _))
  have hBm := hid (below_two w2 (.cells #[.bool q, .slice C n' c'] 24) (.cells #[.bool false, .slice D m' d'] 24))
  have h3 := (h2.below hb2).below hBm.out
  have k3 := (k2.below hb2).below hBm.out
  have T3 := (T2.below hb2).below hBm.out
  have e1 := box1 w2 (.cells #[.bool q, .slice C n' c'] 24) (.cells #[.bool false, .slice D m' d'] 24)
  have e2 := box2 w2 (.cells #[.bool q, .slice C n' c'] 24) (.cells #[.bool false, .slice D m' d'] 24)
  replace a2 := a2.alloc2 (.cells #[.bool q, .slice C n' c'] 24) (.cells #[.bool false, .slice D m' d'] 24)
  replace c1 := c1.alloc2 (.cells #[.bool q, .slice C n' c'] 24) (.cells #[.bool false, .slice D m' d'] 24)
  replace c2 := c2.alloc2 (.cells #[.bool q, .slice C n' c'] 24) (.cells #[.bool false, .slice D m' d'] 24)
  have hB3 := hid (bthen hB2.out hBm.out (Nat.le_refl _))
  obtain ⟨u0, u1, -, -⟩ := c1.c2
  obtain ⟨u2, u3, -, -⟩ := c2.c2
  obtain ⟨u4, u5, -, -⟩ := e1.c2
  obtain ⟨u6, u7, -, -⟩ := e2.c2
  clear h2 k2 T2
  go_wp2_with fail
  have hsz : w1.heap.size + 1 < w2.heap.size := by have := e1.lt; have := hb2.size; simp at this; omega
  clear hb2
  generalize (w2.alloc (.cells #[.bool q, .slice C n' c'] 24)).alloc (.cells #[.bool false, .slice D m' d'] 24) = W3 at *
  generalize w1.heap.size = g1 at *
  generalize w2.heap.size = g2 at *
  replace hB3 := hid hB3.out.drew
  have h4 : Fr W3.drew p A n c a B m d b := h3.below (Below.refl _ _).drew
  have k4 : Fr W3.drew q C n' c' a' D m' d' b := k3.below (Below.refl _ _).drew
  have T4 : Tb W3.drew := T3.below (Below.refl _ _).drew
  have j2 : Bk W3.drew (g + 1 + 1) _ := a2
  have j3 : Bk W3.drew g1 _ := c1
  have j4 : Bk W3.drew (g1 + 1) _ := c2
  have j5 : Bk W3.drew g2 _ := e1
  have j6 : Bk W3.drew (g2 + 1) _ := e2
  clear h3 k3 a2 c1 c2 e1 e2 T3
  go_region_held3 (fun w' => w'.cell? ⟨g1, 0, none⟩ = some (.bool p) ∧ w'.cell? ⟨g1, 1, none⟩ = some (.slice A n c) ∧ w'.cell? ⟨g1 + 1, 0, none⟩ = some (.bool false) ∧ w'.cell? ⟨g1 + 1, 1, none⟩ = some (.slice B m d) ∧ w'.cell? ⟨g2, 0, none⟩ = some (.bool q) ∧ w'.cell? ⟨g2, 1, none⟩ = some (.slice C n' c') ∧ w'.cell? ⟨g2 + 1, 0, none⟩ = some (.bool false) ∧ w'.cell? ⟨g2 + 1, 1, none⟩ = some (.slice D m' d')) (first | exact ⟨u0, u1, u2, u3, u4, u5, u6, u7⟩ | exact ⟨v0, v1, v2, v3, v4, v5, v6, v7⟩ | exact ⟨x0, x1, x2, x3, x4, x5, x6, x7⟩ | exact ⟨y0, y1, y2, y3, y4, y5, y6, y7⟩) (first
    | (go_at_call 39; with_reducible refine (size_any false B m d b W3.drew h4.den).mono ?_; rintro e w4 ⟨r1, rfl, hr1, hb4⟩; replace j2 := j2.step hb4; replace j3 := j3.step hb4; replace j4 := j4.step hb4; replace j5 := j5.step hb4; replace j6 := j6.step hb4; obtain ⟨v0, v1, -, -⟩ := j3.c2; obtain ⟨v2, v3, -, -⟩ := j4.c2; obtain ⟨v4, v5, -, -⟩ := j5.c2; obtain ⟨v6, v7, -, -⟩ := j6.c2)
    | (go_at_call 39; with_reducible refine (size_any false D m' d' b w4 (k4.below hb4).den).mono ?_; rintro e w5 ⟨r2, rfl, hr2, hb5⟩; replace j2 := j2.step hb5; replace j3 := j3.step hb5; replace j4 := j4.step hb5; replace j5 := j5.step hb5; replace j6 := j6.step hb5; obtain ⟨x0, x1, -, -⟩ := j3.c2; obtain ⟨x2, x3, -, -⟩ := j4.c2; obtain ⟨x4, x5, -, -⟩ := j5.c2; obtain ⟨x6, x7, -, -⟩ := j6.c2)
    | (go_at_call 50; with_reducible refine (compareLimbs_nm (hr1.below hb5) hr2).mono ?_; rintro e w6 ⟨rfl, hq6⟩; have hb6 := hq6.below w5.heap.size; replace j2 := j2.step hb6; replace j3 := j3.step hb6; replace j4 := j4.step hb6; replace j5 := j5.step hb6; replace j6 := j6.step hb6; obtain ⟨y0, y1, -, -⟩ := j3.c2; obtain ⟨y2, y3, -, -⟩ := j4.c2; obtain ⟨y4, y5, -, -⟩ := j5.c2; obtain ⟨y6, y7, -, -⟩ := j6.c2))
  rw [sgn_eq]
  have h6 := ((h4.below hb4).below hb5).below hb6
  have k6 := ((k4.below hb4).below hb5).below hb6
  have T6 := ((T4.below hb4).below hb5).below hb6
  have hB6 := hid (bthen (bthen (bthen hB3.out hb4 (Nat.le_refl _)) hb5 (Nat.le_refl _)) hb6 (Nat.le_refl _))
  clear u0 u1 u2 u3 u4 u5 u6 u7 v0 v1 v2 v3 v4 v5 v6 v7 x0 x1 x2 x3 x4 x5 x6 x7 h4 k4 T4 hb4 hb5 hb6 hq6 hr1 hr2 j6 y6 y7 a0 a1 hBn' hBm
  have h7 : Fr w6.drew p A n c a B m d b := h6.below (Below.refl _ _).drew
  have k7 : Fr w6.drew q C n' c' a' D m' d' b := k6.below (Below.refl _ _).drew
  have T7 : Tb w6.drew := T6.below (Below.refl _ _).drew
  have hB7 := hid hB6.out.drew
  have Hl := hid (dig_natAbs (p := p) (q := q) h6.ln k6.ln)
  go_wp2_with fail
  replace j2 : Bk w6.drew (g + 1 + 1) _ := j2
  replace j3 : Bk w6.drew g1 _ := j3
  replace j4 : Bk w6.drew (g1 + 1) _ := j4
  replace j5 : Bk w6.drew g2 _ := j5
  go_region_held3 (fun w' => w'.cell? ⟨g1, 0, none⟩ = some (.bool p) ∧ w'.cell? ⟨g1, 1, none⟩ = some (.slice A n c) ∧ w'.cell? ⟨g1 + 1, 0, none⟩ = some (.bool false) ∧ w'.cell? ⟨g1 + 1, 1, none⟩ = some (.slice B m d) ∧ w'.cell? ⟨g2, 0, none⟩ = some (.bool q) ∧ w'.cell? ⟨g2, 1, none⟩ = some (.slice C n' c')) (first | exact ⟨y0, y1, y2, y3, y4, y5⟩ | exact ⟨v0, v1, v2, v3, v4, v5⟩ | exact ⟨x0, x1, x2, x3, x4, x5⟩ | exact ⟨z0, z1, z2, z3, z4, z5⟩ | exact ⟨off_four (by omega) z0, off_four (by omega) z1, off_four (by omega) z2, off_four (by omega) z3, off_four (by omega) z4, off_four (by omega) z5⟩) (first
    | (go_at_call 20; with_reducible refine (nz_openb (Sub_any p q A C n c n' c' a a' w6.drew h7.num k7.num (by have := h7.ln; omega) (by have := k7.ln; omega))).mono ?_; rintro e w8 ⟨s1, A1, n1, c1, rfl, hs1, hn1, hb8⟩; replace j2 := j2.step hb8; replace j3 := j3.step hb8; replace j4 := j4.step hb8; replace j5 := j5.step hb8; obtain ⟨v0, v1, -, -⟩ := j3.c2; obtain ⟨v2, v3, -, -⟩ := j4.c2; obtain ⟨v4, v5, -, -⟩ := j5.c2)
    | (go_at_call 63; with_reducible refine (nz_openb (duplicate_any false B m d b w8 (h7.below hb8).den (by have := h7.ld; omega))).mono ?_; rintro e w9 ⟨s2, A2, n2, c2, rfl, hs2, hn2, hb9⟩; replace j2 := j2.step hb9; replace j3 := j3.step hb9; replace j4 := j4.step hb9; replace j5 := j5.step hb9; obtain ⟨x0, x1, -, -⟩ := j3.c2; obtain ⟨x2, x3, -, -⟩ := j4.c2; obtain ⟨x4, x5, -, -⟩ := j5.c2)
    | (go_at_call 60; with_reducible refine (rz_open (fraction_nz s1 s2 A1 A2 n1 c1 n2 c2 _ b (hn1.below hb9) hn2 hs1 hs2 ((T7.below hb8).below hb9) hC h7.pos (by have := Hl.out; omega) (by have := h7.ld; omega))).mono ?_; rintro e w10 ⟨t1, A3, n3, c3, t2, A4, n4, c4, rfl, ht1, ht2, hn3, hn4, hb10⟩; replace j2 := j2.step hb10; replace j3 := j3.step hb10; replace j4 := j4.step hb10; replace j5 := j5.step hb10; obtain ⟨z0, z1, -, -⟩ := j3.c2; obtain ⟨z2, z3, -, -⟩ := j4.c2; obtain ⟨z4, z5, -, -⟩ := j5.c2; have hl10 := j2.lt; obtain ⟨i0, i1, i2, i3, i4, i5, i6, i7⟩ := j2.c4))
  have h10 := bthen (bthen (bthen hB7.out hb8 (Nat.le_refl _)) hb9 (Nat.le_refl _)) hb10 (Nat.le_refl _)
  have hgl := Hg.out
  have h11 := hid (below4 h10 (show w.heap.size ≤ g + 1 + 1 by omega) (.bool t1) (.slice A3 n3 c3) (.bool t2) (.slice A4 n4 c4))
  have m1 := hid (hn3.offbox j2 (noInt_four _ _ _ _ _ _ _ _) (gb4 _ _ (.bool t1) (.slice A3 n3 c3) (.bool t2) (.slice A4 n4 c4)))
  have m2 := hid (hn4.offbox j2 (noInt_four _ _ _ _ _ _ _ _) (gb4 _ _ (.bool t1) (.slice A3 n3 c3) (.bool t2) (.slice A4 n4 c4)))
  clear y0 y1 y2 y3 y4 y5 v0 v1 v2 v3 v4 v5 x0 x1 x2 x3 x4 x5 z0 z1 z2 z3 z4 z5 hgl h10 hn1 hn2 hn3 hn4 j2 j3 j4 j5 hb8 hb9 hb10 h7 k7 T7 h6 k6 T6
  go_wp2
  exact bodyPost_ret (v := .agg #[.bool t1, .slice A3 n3 c3, .bool t2, .slice A4 n4 c4]) (by simp [results, Tryd.results61, go_sem, i0, i1, i2, i3]) rfl ⟨_, rfl, ⟨t1, A3, n3, c3, t2, A4, n4, c4, rfl, ht1, ht2, m1.out, m2.out⟩, h11.out⟩

set_option maxRecDepth 100000 in
set_option maxHeartbeats 4000000 in
theorem SubRat_same (p q : Bool) (A B C D : Option Addr) (n c m d n' c' m' d' a b a' b' : Nat) (w : World) (h : Fr w p A n c a B m d b) (k : Fr w q C n' c' a' D m' d' b') (hT : Tb w) (hbb : b = b') (hC : CD (toZ p a - toZ q a').natAbs b) :
    Calls Tryd.prog 29 #[.agg #[.bool p, .slice A n c, .bool false, .slice B m d], .agg #[.bool q, .slice C n' c', .bool false, .slice D m' d']] w fun e w' => ∃ v, e = .returned v ∧ Rz w' v (rn (toZ p a - toZ q a') b) (b / Nat.gcd (toZ p a - toZ q a').natAbs b : Nat) ∧ Below w.heap.size w w' := by
  have b0 := three_new w (.cells #[.bool p, .slice A n c, .bool false, .slice B m d] 42) (.cells #[.bool q, .slice C n' c', .bool false, .slice D m' d'] 42) (.cells #[.bool false, .slice none 0 0, .bool false, .slice none 0 0] 42)
  have hB := (((Below.refl w.heap.size w).alloc (Nat.le_refl _) (.cells #[.bool p, .slice A n c, .bool false, .slice B m d] 42)).alloc (by simp) (.cells #[.bool q, .slice C n' c', .bool false, .slice D m' d'] 42)).alloc (by simp; omega) (.cells #[.bool false, .slice none 0 0, .bool false, .slice none 0 0] 42)
  obtain ⟨g, hg⟩ : ∃ g, w.heap.size = g := ⟨_, rfl⟩
  go_enter Tryd.func29, Tryd.ntmps29
  go_wp2_with fail
  rw [hg] at b0
  generalize ((w.alloc (.cells #[.bool p, .slice A n c, .bool false, .slice B m d] 42)).alloc (.cells #[.bool q, .slice C n' c', .bool false, .slice D m' d'] 42)).alloc (.cells #[.bool false, .slice none 0 0, .bool false, .slice none 0 0] 42) = W0 at *
  refine (rz_open (combine_same p q A B C D n c m d n' c' m' d' a b a' b' _ (h.below hB) (k.below hB) (hT.below hB) hbb hC)).mono ?_
  rintro e w1 ⟨t1, A3, n3, c3, t2, A4, n4, c4, rfl, ht1, ht2, hn3, hn4, hb1⟩
  have h1 := bthen hB hb1 (Nat.le_refl _)
  have j2 := b0.2.2.step hb1
  have h11 := hid (below4 h1 (show w.heap.size ≤ g + 1 + 1 by omega) (.bool t1) (.slice A3 n3 c3) (.bool t2) (.slice A4 n4 c4))
  have m1 := hid (hn3.offbox j2 (noInt_four _ _ _ _ _ _ _ _) (gb4 _ _ (.bool t1) (.slice A3 n3 c3) (.bool t2) (.slice A4 n4 c4)))
  have m2 := hid (hn4.offbox j2 (noInt_four _ _ _ _ _ _ _ _) (gb4 _ _ (.bool t1) (.slice A3 n3 c3) (.bool t2) (.slice A4 n4 c4)))
  have hl := j2.lt
  obtain ⟨i0, i1, i2, i3, i4, i5, i6, i7⟩ := j2.c4
  clear hn3 hn4 j2 hb1 hB h1 h k hT b0 hg
  go_wp2
  exact bodyPost_ret (v := .agg #[.bool t1, .slice A3 n3 c3, .bool t2, .slice A4 n4 c4]) (by simp [results, Tryd.results29, go_sem, i0, i1, i2, i3]) rfl ⟨_, rfl, ⟨t1, A3, n3, c3, t2, A4, n4, c4, rfl, ht1, ht2, m1.out, m2.out⟩, h11.out⟩

end Go.Proofs.YtlfeendebbidhaaDoor
