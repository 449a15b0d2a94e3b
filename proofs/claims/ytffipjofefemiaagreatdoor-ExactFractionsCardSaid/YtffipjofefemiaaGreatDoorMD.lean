/- The contracts of combine, Ratio, and of the curve of the examples, first part. -/
import Derived.Test.YtffipjofefemiaaGreatDoorMC
namespace Go.Proofs.YtffipjofefemiaaGreatDoor
open Go.RowKit Kb

/-- The numerator of a fraction in lowest terms. -/
def rn (z : Int) (b : Nat) : Int := toZ (decide (z < 0)) (z.natAbs / Nat.gcd z.natAbs b)
theorem fraction_any (p : Bool) (A B : Option Addr) (n c m d a b : Nat) (w : World) (h : Raw w A n c a) (k : Raw w B m d b) (hT : Tb w) (hC : CD a b) (hb0 : b ≠ 0) (ha : (dig a).length ≤ 400000000) (hb : (dig b).length ≤ 400000000) :
    Calls Tryz.prog 58 #[.agg #[.bool p, .slice A n c], .agg #[.bool false, .slice B m d]] w fun e w' => ∃ v, e = .returned v ∧ Rz w' v (toZ p (a / Nat.gcd a b)) ((b / Nat.gcd a b : Nat)) ∧ Below w.heap.size w w' := by
  have e1 : (p != false) = p := by cases p <;> rfl
  by_cases hg : Nat.gcd a b = 1
  · have := fraction_one p false A B n c m d a b w h k hT hC hg
    rw [e1] at this
    rw [hg, Nat.div_one, Nat.div_one]; exact this
  · have := fraction_div p false A B n c m d a b w h k hT hC hg hb0 ha hb
    rwa [e1] at this

/-- A contract whose result is a fraction, its fields written out. -/
theorem rz_open {P : Program} {f : FuncId} {args : Array Value} {w : World} {x y : Int} (h : Calls P f args w fun e w' => ∃ v, e = .returned v ∧ Rz w' v x y ∧ Below w.heap.size w w') :
    Calls P f args w fun e w' => ∃ s1 A1 n1 c1 s2 A2 n2 c2, e = .returned (.agg #[.bool s1, .slice A1 n1 c1, .bool s2, .slice A2 n2 c2]) ∧ Hid (s1 = decide (x < 0)) ∧ Hid (s2 = decide (y < 0)) ∧ Nm w' (.slice A1 n1 c1) x.natAbs ∧ Nm w' (.slice A2 n2 c2) y.natAbs ∧ Below w.heap.size w w' := by
  refine h.mono ?_
  rintro e w' ⟨v, rfl, ⟨s1, A1, n1, c1, s2, A2, n2, c2, rfl, h1, h2, h3, h4⟩, hb⟩
  exact ⟨s1, A1, n1, c1, s2, A2, n2, c2, rfl, h1, h2, h3, h4, hb⟩
theorem fraction_nz (s1 s2 : Bool) (A1 A2 : Option Addr) (n1 c1 n2 c2 : Nat) (z : Int) (b : Nat) {w : World} (h : Nm w (.slice A1 n1 c1) z.natAbs) (k : Nm w (.slice A2 n2 c2) (toZ false b).natAbs) (hs1 : Hid (s1 = decide (z < 0))) (hs2 : Hid (s2 = decide (toZ false b < 0))) (hT : Tb w) (hC : CD z.natAbs b) (hb0 : b ≠ 0) (ha : (dig z.natAbs).length ≤ 400000000) (hb : (dig b).length ≤ 400000000) :
    Calls Tryz.prog 58 #[.agg #[.bool s1, .slice A1 n1 c1], .agg #[.bool s2, .slice A2 n2 c2]] w fun e w' => ∃ v, e = .returned v ∧ Rz w' v (rn z b) ((b / Nat.gcd z.natAbs b : Nat)) ∧ Below w.heap.size w w' := by
  have e2 : s2 = false := by rw [hs2.out]; unfold toZ; rw [if_neg (by decide), decide_eq_false (by omega)]
  subst e2
  rw [natAbs_toZ] at k
  have := fraction_any s1 A1 A2 n1 c1 n2 c2 z.natAbs b w h.raw k.raw hT hC hb0 ha hb
  rw [hs1.out] at this ⊢
  exact this

theorem dig_natAbs {p q : Bool} {a b K : Nat} (ha : (dig a).length ≤ K) (hb : (dig b).length ≤ K) : (dig (toZ p a - toZ q b).natAbs).length ≤ K + 1 := by
  have h1 : a < 65536 ^ K := Nat.lt_of_lt_of_le (by have := val_lt (lim_dig a); rwa [val_dig] at this) (Nat.pow_le_pow_right (by decide) ha)
  have h2 : b < 65536 ^ K := Nat.lt_of_lt_of_le (by have := val_lt (lim_dig b); rwa [val_dig] at this) (Nat.pow_le_pow_right (by decide) hb)
  apply dig_length_le
  rw [Nat.pow_succ]
  have h3 : (toZ p a - toZ q b).natAbs ≤ a + b := by unfold toZ; cases p <;> cases q <;> simp <;> omega
  omega

set_option maxRecDepth 100000 in
set_option maxHeartbeats 4000000 in
theorem combine_same (p q : Bool) (A B C D : Option Addr) (n c m d n' c' m' d' a b a' b' : Nat) (w : World) (h : Fr w p A n c a B m d b) (k : Fr w q C n' c' a' D m' d' b') (hT : Tb w) (hbb : b = b') (hC : CD (toZ p a - toZ q a').natAbs b) :
    Calls Tryz.prog 67 #[.agg #[.bool p, .slice A n c, .bool false, .slice B m d], .agg #[.bool q, .slice C n' c', .bool false, .slice D m' d'], .func (.func 70) #[] #[]] w fun e w' => ∃ v, e = .returned v ∧ Rz w' v (rn (toZ p a - toZ q a') b) (b / Nat.gcd (toZ p a - toZ q a').natAbs b : Nat) ∧ Below w.heap.size w w' := by
  subst hbb
  have b0 := three_new w (.cells #[.bool p, .slice A n c, .bool false, .slice B m d] 26) (.cells #[.bool q, .slice C n' c', .bool false, .slice D m' d'] 26) (.cells #[.bool false, .slice none 0 0, .bool false, .slice none 0 0] 26)
  have hB := (((Below.refl w.heap.size w).alloc (Nat.le_refl _) (.cells #[.bool p, .slice A n c, .bool false, .slice B m d] 26)).alloc (by simp) (.cells #[.bool q, .slice C n' c', .bool false, .slice D m' d'] 26)).alloc (by simp; omega) (.cells #[.bool false, .slice none 0 0, .bool false, .slice none 0 0] 26)
  obtain ⟨g, hg⟩ : ∃ g, w.heap.size = g := ⟨_, rfl⟩
  go_enter Tryz.func67, Tryz.ntmps67
  go_wp2_with fail
  rw [hg] at b0
  generalize ((w.alloc (.cells #[.bool p, .slice A n c, .bool false, .slice B m d] 26)).alloc (.cells #[.bool q, .slice C n' c', .bool false, .slice D m' d'] 26)).alloc (.cells #[.bool false, .slice none 0 0, .bool false, .slice none 0 0] 26) = W0 at *
  have h0 := h.below hB
  have k0 := k.below hB
  have T0 := hT.below hB
  have HB := hid hB
  have Hg := hid hg
  obtain ⟨a0, a1, a2⟩ := b0
  obtain ⟨x0, x1, x2, x3, -, -, -, -⟩ := a0.c4
  clear hB hg h k hT
  go_wp2_with fail
  refine (parts_pos p A B n c m d b _ h0.den h0.pos).mono ?_
  rintro e w1 ⟨rfl, hb1⟩
  replace a0 := a0.step hb1
  replace a1 := a1.step hb1
  replace a2 := a2.step hb1
  clear x0 x1 x2 x3
  obtain ⟨x0, x1, x2, x3, -, -, -, -⟩ := a1.c4
  have l1 := a2.lt
  have hB1 := hid (bthen HB.out hb1 (Nat.le_refl _))
  have k1 := k0.below hb1
  have T1 := T0.below hb1
  have h1 := h0.below hb1
  have hBn := ((Below.refl w1.heap.size w1).alloc (Nat.le_refl _) (.cells #[.bool p, .slice A n c] 24)).alloc (by simp) (.cells #[.bool false, .slice B m d] 24)
  have k2 := k1.below hBn
  have T2 := T1.below hBn
  have h2 := h1.below hBn
  have c1 := Bk.of_alloc w1 (.cells #[.bool p, .slice A n c] 24) rfl
  replace c1 := c1.alloc (.cells #[.bool false, .slice B m d] 24)
  have c2 := Bk.of_alloc (w1.alloc (.cells #[.bool p, .slice A n c] 24)) (.cells #[.bool false, .slice B m d] 24) (g := w1.heap.size + 1) (by simp)
  replace a0 := (a0.alloc (.cells #[.bool p, .slice A n c] 24)).alloc (.cells #[.bool false, .slice B m d] 24)
  replace a1 := (a1.alloc (.cells #[.bool p, .slice A n c] 24)).alloc (.cells #[.bool false, .slice B m d] 24)
  replace a2 := (a2.alloc (.cells #[.bool p, .slice A n c] 24)).alloc (.cells #[.bool false, .slice B m d] 24)
  clear x0 x1 x2 x3
  obtain ⟨x0, x1, x2, x3, -, -, -, -⟩ := a1.c4
  have hBn' := hid hBn
  have l1' := hid l1
  clear hb1 h0 k0 k1 h1 hBn T0 T1
  go_wp2_with fail
  refine (parts_pos q C D n' c' m' d' b _ k2.den k2.pos).mono ?_
  rintro e w2 ⟨rfl, hb2⟩
  clear x0 x1 x2 x3
  replace a2 := a2.step hb2
  replace c1 := c1.step hb2
  replace c2 := c2.step hb2
  have hB2 := hid (bthen (bthen hB1.out hBn'.out (Nat.le_refl _)) hb2 (Nat.le_refl _))
  have hBm := hid (below_two w2 (.cells #[.bool q, .slice C n' c'] 24) (.cells #[.bool false, .slice D m' d'] 24))
  have h3 := (h2.below hb2).below hBm.out
  have k3 := (k2.below hb2).below hBm.out
  have T3 := (T2.below hb2).below hBm.out
  have e1 := box1 w2 (.cells #[.bool q, .slice C n' c'] 24) (.cells #[.bool false, .slice D m' d'] 24)
  have e2 := box2 w2 (.cells #[.bool q, .slice C n' c'] 24) (.cells #[.bool false, .slice D m' d'] 24)
  replace a2 := a2.alloc2 (.cells #[.bool q, .slice C n' c'] 24) (.cells #[.bool false, .slice D m' d'] 24)
  replace c1 := c1.alloc2 (.cells #[.bool q, .slice C n' c'] 24) (.cells #[.bool false, .slice D m' d'] 24)
  replace c2 := c2.alloc2 (.cells #[.bool q, .slice C n' c'] 24) (.cells #[.bool false, .slice D m' d'] 24)
  have hB3 := hid (bthen hB2.out hBm.out (Nat.le_refl _))
  obtain ⟨u0, u1, -, -⟩ := c1.c2
  obtain ⟨u2, u3, -, -⟩ := c2.c2
  obtain ⟨u4, u5, -, -⟩ := e1.c2
  obtain ⟨u6, u7, -, -⟩ := e2.c2
  clear h2 k2 T2
  go_wp2_with fail
  have hsz : w1.heap.size + 1 < w2.heap.size := by have := e1.lt; have := hb2.size; simp at this; omega
  clear hb2
  generalize (w2.alloc (.cells #[.bool q, .slice C n' c'] 24)).alloc (.cells #[.bool false, .slice D m' d'] 24) = W3 at *
  generalize w1.heap.size = g1 at *
  generalize w2.heap.size = g2 at *
  replace hB3 := hid hB3.out.drew
  have h4 : Fr W3.drew p A n c a B m d b := h3.below (Below.refl _ _).drew
  have k4 : Fr W3.drew q C n' c' a' D m' d' b := k3.below (Below.refl _ _).drew
  have T4 : Tb W3.drew := T3.below (Below.refl _ _).drew
  have j2 : Bk W3.drew (g + 1 + 1) _ := a2
  have j3 : Bk W3.drew g1 _ := c1
  have j4 : Bk W3.drew (g1 + 1) _ := c2
  have j5 : Bk W3.drew g2 _ := e1
  have j6 : Bk W3.drew (g2 + 1) _ := e2
  clear h3 k3 a2 c1 c2 e1 e2 T3
  go_region_held3 (fun w' => w'.cell? ⟨g1, 0, none⟩ = some (.bool p) ∧ w'.cell? ⟨g1, 1, none⟩ = some (.slice A n c) ∧ w'.cell? ⟨g1 + 1, 0, none⟩ = some (.bool false) ∧ w'.cell? ⟨g1 + 1, 1, none⟩ = some (.slice B m d) ∧ w'.cell? ⟨g2, 0, none⟩ = some (.bool q) ∧ w'.cell? ⟨g2, 1, none⟩ = some (.slice C n' c') ∧ w'.cell? ⟨g2 + 1, 0, none⟩ = some (.bool false) ∧ w'.cell? ⟨g2 + 1, 1, none⟩ = some (.slice D m' d')) (first | exact ⟨u0, u1, u2, u3, u4, u5, u6, u7⟩ | exact ⟨v0, v1, v2, v3, v4, v5, v6, v7⟩ | exact ⟨x0, x1, x2, x3, x4, x5, x6, x7⟩ | exact ⟨y0, y1, y2, y3, y4, y5, y6, y7⟩) (first
    | (go_at_call 76; with_reducible refine (size_any false B m d b W3.drew h4.den).mono ?_; rintro e w4 ⟨r1, rfl, hr1, hb4⟩; replace j2 := j2.step hb4; replace j3 := j3.step hb4; replace j4 := j4.step hb4; replace j5 := j5.step hb4; replace j6 := j6.step hb4; obtain ⟨v0, v1, -, -⟩ := j3.c2; obtain ⟨v2, v3, -, -⟩ := j4.c2; obtain ⟨v4, v5, -, -⟩ := j5.c2; obtain ⟨v6, v7, -, -⟩ := j6.c2)
    | (go_at_call 76; with_reducible refine (size_any false D m' d' b w4 (k4.below hb4).den).mono ?_; rintro e w5 ⟨r2, rfl, hr2, hb5⟩; replace j2 := j2.step hb5; replace j3 := j3.step hb5; replace j4 := j4.step hb5; replace j5 := j5.step hb5; replace j6 := j6.step hb5; obtain ⟨x0, x1, -, -⟩ := j3.c2; obtain ⟨x2, x3, -, -⟩ := j4.c2; obtain ⟨x4, x5, -, -⟩ := j5.c2; obtain ⟨x6, x7, -, -⟩ := j6.c2)
    | (go_at_call 75; with_reducible refine (compareLimbs_nm (hr1.below hb5) hr2).mono ?_; rintro e w6 ⟨rfl, hq6⟩; have hb6 := hq6.below w5.heap.size; replace j2 := j2.step hb6; replace j3 := j3.step hb6; replace j4 := j4.step hb6; replace j5 := j5.step hb6; replace j6 := j6.step hb6; obtain ⟨y0, y1, -, -⟩ := j3.c2; obtain ⟨y2, y3, -, -⟩ := j4.c2; obtain ⟨y4, y5, -, -⟩ := j5.c2; obtain ⟨y6, y7, -, -⟩ := j6.c2))
  rw [sgn_eq]
  have h6 := ((h4.below hb4).below hb5).below hb6
  have k6 := ((k4.below hb4).below hb5).below hb6
  have T6 := ((T4.below hb4).below hb5).below hb6
  have hB6 := hid (bthen (bthen (bthen hB3.out hb4 (Nat.le_refl _)) hb5 (Nat.le_refl _)) hb6 (Nat.le_refl _))
  clear u0 u1 u2 u3 u4 u5 u6 u7 v0 v1 v2 v3 v4 v5 v6 v7 x0 x1 x2 x3 x4 x5 x6 x7 h4 k4 T4 hb4 hb5 hb6 hq6 hr1 hr2 j6 y6 y7 a0 a1 hBn' hBm
  have h7 : Fr w6.drew p A n c a B m d b := h6.below (Below.refl _ _).drew
  have k7 : Fr w6.drew q C n' c' a' D m' d' b := k6.below (Below.refl _ _).drew
  have T7 : Tb w6.drew := T6.below (Below.refl _ _).drew
  have hB7 := hid hB6.out.drew
  have Hl := hid (dig_natAbs (p := p) (q := q) h6.ln k6.ln)
  go_wp2_with fail
  replace j2 : Bk w6.drew (g + 1 + 1) _ := j2
  replace j3 : Bk w6.drew g1 _ := j3
  replace j4 : Bk w6.drew (g1 + 1) _ := j4
  replace j5 : Bk w6.drew g2 _ := j5
  go_region_held3 (fun w' => w'.cell? ⟨g1, 0, none⟩ = some (.bool p) ∧ w'.cell? ⟨g1, 1, none⟩ = some (.slice A n c) ∧ w'.cell? ⟨g1 + 1, 0, none⟩ = some (.bool false) ∧ w'.cell? ⟨g1 + 1, 1, none⟩ = some (.slice B m d) ∧ w'.cell? ⟨g2, 0, none⟩ = some (.bool q) ∧ w'.cell? ⟨g2, 1, none⟩ = some (.slice C n' c')) (first | exact ⟨y0, y1, y2, y3, y4, y5⟩ | exact ⟨v0, v1, v2, v3, v4, v5⟩ | exact ⟨x0, x1, x2, x3, x4, x5⟩ | exact ⟨z0, z1, z2, z3, z4, z5⟩ | exact ⟨off_four (by omega) z0, off_four (by omega) z1, off_four (by omega) z2, off_four (by omega) z3, off_four (by omega) z4, off_four (by omega) z5⟩) (first
    | (go_at_call 70; with_reducible refine (nz_openb (Sub_any p q A C n c n' c' a a' w6.drew h7.num k7.num (by have := h7.ln; omega) (by have := k7.ln; omega))).mono ?_; rintro e w8 ⟨s1, A1, n1, c1, rfl, hs1, hn1, hb8⟩; replace j2 := j2.step hb8; replace j3 := j3.step hb8; replace j4 := j4.step hb8; replace j5 := j5.step hb8; obtain ⟨v0, v1, -, -⟩ := j3.c2; obtain ⟨v2, v3, -, -⟩ := j4.c2; obtain ⟨v4, v5, -, -⟩ := j5.c2)
    | (go_at_call 73; with_reducible refine (nz_openb (duplicate_any false B m d b w8 (h7.below hb8).den (by have := h7.ld; omega))).mono ?_; rintro e w9 ⟨s2, A2, n2, c2, rfl, hs2, hn2, hb9⟩; replace j2 := j2.step hb9; replace j3 := j3.step hb9; replace j4 := j4.step hb9; replace j5 := j5.step hb9; obtain ⟨x0, x1, -, -⟩ := j3.c2; obtain ⟨x2, x3, -, -⟩ := j4.c2; obtain ⟨x4, x5, -, -⟩ := j5.c2)
    | (go_at_call 58; with_reducible refine (rz_open (fraction_nz s1 s2 A1 A2 n1 c1 n2 c2 _ b (hn1.below hb9) hn2 hs1 hs2 ((T7.below hb8).below hb9) hC h7.pos (by have := Hl.out; omega) (by have := h7.ld; omega))).mono ?_; rintro e w10 ⟨t1, A3, n3, c3, t2, A4, n4, c4, rfl, ht1, ht2, hn3, hn4, hb10⟩; replace j2 := j2.step hb10; replace j3 := j3.step hb10; replace j4 := j4.step hb10; replace j5 := j5.step hb10; obtain ⟨z0, z1, -, -⟩ := j3.c2; obtain ⟨z2, z3, -, -⟩ := j4.c2; obtain ⟨z4, z5, -, -⟩ := j5.c2; have hl10 := j2.lt; obtain ⟨i0, i1, i2, i3, i4, i5, i6, i7⟩ := j2.c4))
  have h10 := bthen (bthen (bthen hB7.out hb8 (Nat.le_refl _)) hb9 (Nat.le_refl _)) hb10 (Nat.le_refl _)
  have hgl := Hg.out
  have h11 := hid (below4 h10 (show w.heap.size ≤ g + 1 + 1 by omega) (.bool t1) (.slice A3 n3 c3) (.bool t2) (.slice A4 n4 c4))
  have m1 := hid (hn3.offbox j2 (noInt_four _ _ _ _ _ _ _ _) (gb4 _ _ (.bool t1) (.slice A3 n3 c3) (.bool t2) (.slice A4 n4 c4)))
  have m2 := hid (hn4.offbox j2 (noInt_four _ _ _ _ _ _ _ _) (gb4 _ _ (.bool t1) (.slice A3 n3 c3) (.bool t2) (.slice A4 n4 c4)))
  clear y0 y1 y2 y3 y4 y5 v0 v1 v2 v3 v4 v5 x0 x1 x2 x3 x4 x5 z0 z1 z2 z3 z4 z5 hgl h10 hn1 hn2 hn3 hn4 j2 j3 j4 j5 hb8 hb9 hb10 h7 k7 T7 h6 k6 T6
  go_wp2
  exact bodyPost_ret (v := .agg #[.bool t1, .slice A3 n3 c3, .bool t2, .slice A4 n4 c4]) (by simp [results, Tryz.results67, go_sem, i0, i1, i2, i3]) rfl ⟨_, rfl, ⟨t1, A3, n3, c3, t2, A4, n4, c4, rfl, ht1, ht2, m1.out, m2.out⟩, h11.out⟩

set_option maxRecDepth 100000 in
set_option maxHeartbeats 4000000 in
theorem SubRat_same (p q : Bool) (A B C D : Option Addr) (n c m d n' c' m' d' a b a' b' : Nat) (w : World) (h : Fr w p A n c a B m d b) (k : Fr w q C n' c' a' D m' d' b') (hT : Tb w) (hbb : b = b') (hC : CD (toZ p a - toZ q a').natAbs b) :
    Calls Tryz.prog 19 #[.agg #[.bool p, .slice A n c, .bool false, .slice B m d], .agg #[.bool q, .slice C n' c', .bool false, .slice D m' d']] w fun e w' => ∃ v, e = .returned v ∧ Rz w' v (rn (toZ p a - toZ q a') b) (b / Nat.gcd (toZ p a - toZ q a').natAbs b : Nat) ∧ Below w.heap.size w w' := by
  have b0 := three_new w (.cells #[.bool p, .slice A n c, .bool false, .slice B m d] 26) (.cells #[.bool q, .slice C n' c', .bool false, .slice D m' d'] 26) (.cells #[.bool false, .slice none 0 0, .bool false, .slice none 0 0] 26)
  have hB := (((Below.refl w.heap.size w).alloc (Nat.le_refl _) (.cells #[.bool p, .slice A n c, .bool false, .slice B m d] 26)).alloc (by simp) (.cells #[.bool q, .slice C n' c', .bool false, .slice D m' d'] 26)).alloc (by simp; omega) (.cells #[.bool false, .slice none 0 0, .bool false, .slice none 0 0] 26)
  obtain ⟨g, hg⟩ : ∃ g, w.heap.size = g := ⟨_, rfl⟩
  go_enter Tryz.func19, Tryz.ntmps19
  go_wp2_with fail
  rw [hg] at b0
  generalize ((w.alloc (.cells #[.bool p, .slice A n c, .bool false, .slice B m d] 26)).alloc (.cells #[.bool q, .slice C n' c', .bool false, .slice D m' d'] 26)).alloc (.cells #[.bool false, .slice none 0 0, .bool false, .slice none 0 0] 26) = W0 at *
  refine (rz_open (combine_same p q A B C D n c m d n' c' m' d' a b a' b' _ (h.below hB) (k.below hB) (hT.below hB) hbb hC)).mono ?_
  rintro e w1 ⟨t1, A3, n3, c3, t2, A4, n4, c4, rfl, ht1, ht2, hn3, hn4, hb1⟩
  have h1 := bthen hB hb1 (Nat.le_refl _)
  have j2 := b0.2.2.step hb1
  have h11 := hid (below4 h1 (show w.heap.size ≤ g + 1 + 1 by omega) (.bool t1) (.slice A3 n3 c3) (.bool t2) (.slice A4 n4 c4))
  have m1 := hid (hn3.offbox j2 (noInt_four _ _ _ _ _ _ _ _) (gb4 _ _ (.bool t1) (.slice A3 n3 c3) (.bool t2) (.slice A4 n4 c4)))
  have m2 := hid (hn4.offbox j2 (noInt_four _ _ _ _ _ _ _ _) (gb4 _ _ (.bool t1) (.slice A3 n3 c3) (.bool t2) (.slice A4 n4 c4)))
  have hl := j2.lt
  obtain ⟨i0, i1, i2, i3, i4, i5, i6, i7⟩ := j2.c4
  clear hn3 hn4 j2 hb1 hB h1 h k hT b0 hg
  go_wp2
  exact bodyPost_ret (v := .agg #[.bool t1, .slice A3 n3 c3, .bool t2, .slice A4 n4 c4]) (by simp [results, Tryz.results19, go_sem, i0, i1, i2, i3]) rfl ⟨_, rfl, ⟨t1, A3, n3, c3, t2, A4, n4, c4, rfl, ht1, ht2, m1.out, m2.out⟩, h11.out⟩

end Go.Proofs.YtffipjofefemiaaGreatDoor

namespace Go.Proofs.YtffipjofefemiaaGreatDoor
open Go.RowKit Kb

theorem fraction_nz2 (s1 s2 : Bool) (A1 A2 : Option Addr) (n1 c1 n2 c2 : Nat) (z y : Int) {w : World} (h : Nm w (.slice A1 n1 c1) z.natAbs) (k : Nm w (.slice A2 n2 c2) y.natAbs) (hs1 : Hid (s1 = decide (z < 0))) (hs2 : Hid (s2 = decide (y < 0))) (hT : Tb w) (hC : CD z.natAbs y.natAbs) (hb0 : y ≠ 0) (ha : (dig z.natAbs).length ≤ 400000000) (hb : (dig y.natAbs).length ≤ 400000000) :
    Calls Tryz.prog 58 #[.agg #[.bool s1, .slice A1 n1 c1], .agg #[.bool s2, .slice A2 n2 c2]] w fun e w' => ∃ v, e = .returned v ∧ Rz w' v (toZ (decide (z < 0) != decide (y < 0)) (z.natAbs / Nat.gcd z.natAbs y.natAbs)) ((y.natAbs / Nat.gcd z.natAbs y.natAbs : Nat)) ∧ Below w.heap.size w w' := by
  rw [hs1.out, hs2.out]
  by_cases hg : Nat.gcd z.natAbs y.natAbs = 1
  · have := fraction_one (decide (z < 0)) (decide (y < 0)) A1 A2 n1 c1 n2 c2 _ _ w h.raw k.raw hT hC hg
    rw [hg, Nat.div_one, Nat.div_one]; exact this
  · exact fraction_div (decide (z < 0)) (decide (y < 0)) A1 A2 n1 c1 n2 c2 _ _ w h.raw k.raw hT hC hg (by omega) ha hb

set_option maxRecDepth 100000 in
set_option maxHeartbeats 4000000 in
theorem Ratio_any (x y : Int) (w : World) (h1 : -9223372036854775808 ≤ x) (h2 : x ≤ 9223372036854775807) (k1 : -9223372036854775808 ≤ y) (k2 : y ≤ 9223372036854775807) (h0 : y ≠ 0) (hT : Tb w) (hC : CD x.natAbs y.natAbs) :
    Calls Tryz.prog 10 #[.int .i64 x, .int .i64 y] w fun e w' => ∃ v, e = .returned (.tuple #[v, .int .i64 0]) ∧ Rz w' v (toZ (decide (x < 0) != decide (y < 0)) (x.natAbs / Nat.gcd x.natAbs y.natAbs)) ((y.natAbs / Nat.gcd x.natAbs y.natAbs : Nat)) ∧ Below w.heap.size w w' := by
  have hy : (y == 0) = false := by rw [beq_eq_false_iff_ne]; exact h0
  have hB := (Below.refl w.heap.size w).alloc (Nat.le_refl _) (.cells #[.bool false, .slice none 0 0, .bool false, .slice none 0 0] 26)
  have b0 := Bk.of_alloc w (.cells #[.bool false, .slice none 0 0, .bool false, .slice none 0 0] 26) rfl
  obtain ⟨g, hg⟩ : ∃ g, w.heap.size = g := ⟨_, rfl⟩
  have H0 := hid h0
  clear h0
  go_enter Tryz.func10, Tryz.ntmps10
  go_wp2_with fail
  refine (nz_openb (Of_any x _ h1 h2)).mono ?_
  rintro e w1 ⟨s1, A1, n1, c1, rfl, hs1, hn1, hb1⟩
  replace b0 := b0.step hb1
  go_wp2_with fail
  refine (nz_openb (Of_any y _ k1 k2)).mono ?_
  rintro e w2 ⟨s2, A2, n2, c2, rfl, hs2, hn2, hb2⟩
  replace b0 := b0.step hb2
  have l1 : (dig x.natAbs).length ≤ 4 := dig_length_le (by rw [show (65536 : Nat) ^ 4 = 18446744073709551616 from rfl]; omega)
  have l2 : (dig y.natAbs).length ≤ 4 := dig_length_le (by rw [show (65536 : Nat) ^ 4 = 18446744073709551616 from rfl]; omega)
  have hB2 := bthen (bthen hB hb1 (Nat.le_refl _)) hb2 (Nat.le_refl _)
  have T2 := ((hT.below hB).below hb1).below hb2
  go_wp2_with fail
  refine (rz_open (fraction_nz2 s1 s2 A1 A2 n1 c1 n2 c2 x y (hn1.below hb2) hn2 hs1 hs2 T2 hC H0.out (by omega) (by omega))).mono ?_
  rintro e w3 ⟨t1, A3, n3, c3, t2, A4, n4, c4, rfl, ht1, ht2, hn3, hn4, hb3⟩
  replace b0 := b0.step hb3
  rw [hg] at b0
  have h3 := bthen hB2 hb3 (Nat.le_refl _)
  have h11 := hid (below4 h3 (show w.heap.size ≤ g by omega) (.bool t1) (.slice A3 n3 c3) (.bool t2) (.slice A4 n4 c4))
  have m1 := hid (hn3.offbox b0 (noInt_four _ _ _ _ _ _ _ _) (gb4 _ _ (.bool t1) (.slice A3 n3 c3) (.bool t2) (.slice A4 n4 c4)))
  have m2 := hid (hn4.offbox b0 (noInt_four _ _ _ _ _ _ _ _) (gb4 _ _ (.bool t1) (.slice A3 n3 c3) (.bool t2) (.slice A4 n4 c4)))
  have hl := b0.lt
  obtain ⟨i0, i1, i2, i3, i4, i5, i6, i7⟩ := b0.c4
  clear hn3 hn4 b0 hb1 hb2 hb3 hB h3 hB2 T2 hT hn1 hn2 hg
  go_wp2
  exact bodyPost_ret (v := .tuple #[.agg #[.bool t1, .slice A3 n3 c3, .bool t2, .slice A4 n4 c4], .int .i64 0]) (by simp [results, Tryz.results10, go_sem, i0, i1, i2, i3]) rfl ⟨_, rfl, ⟨t1, A3, n3, c3, t2, A4, n4, c4, rfl, ht1, ht2, m1.out, m2.out⟩, h11.out⟩

end Go.Proofs.YtffipjofefemiaaGreatDoor

namespace Go.Proofs.YtffipjofefemiaaGreatDoor
open Go.RowKit Kb

theorem Tryz.info64 : (Tryz.prog.info? 86).map (fun i => (i.zero, i.size, i.bytes)) = some (some (.int .u64 0), 1, 8) := by kernel_rfl

theorem or_zero64 (x : Nat) (hx : x < 18446744073709551616) : bits .or .u64 0 (x : Int) = (x : Int) := by
  rw [show (0 : Int) = ((0 : Nat) : Int) from rfl, u64_or_nat _ _ (by decide) hx, Nat.zero_or]

set_option maxRecDepth 100000 in
set_option maxHeartbeats 4000000 in
theorem pack_one (ad : Addr) (c x : Nat) (w : World) (hc : w.cell? ad = some (.int .u16 x)) (hx : x < 65536) (hl : ad.block < w.heap.size) :
    Calls Tryz.prog 131 #[.slice (some ad) 1 c] w fun e w' => e = .returned (.slice (some ⟨w.heap.size, 0, none⟩) 1 1) ∧ Row w' w.heap.size 86 .u64 [x] ∧ Below w.heap.size w w' := by
  obtain ⟨i0, hi, hz0, hz1, hz2⟩ := info_parts Tryz.info64
  have hmk := fun w => run_make_rowOf (P := Tryz.prog) 131 86 i0 .u64 1 1 w Tryz.underlying131 hi hz0 hz1 rfl (by omega) (by omega)
  go_enter Tryz.func131, Tryz.ntmps131
  go_wp2
  go_loopw [13] (fun iv wr => ∃ (k : Nat), k ≤ 1 ∧ iv = .int .i64 k ∧ Row wr w.heap.size 86 .u64 [if k = 0 then 0 else x] ∧ Below w.heap.size w wr) (fun iv _ => 1 - (intOf iv).toNat)
  case atStart => exact ⟨0, Nat.zero_le _, rfl, Row.new _ _ _ _, (Below.refl _ _).alloc (Nat.le_refl _) _⟩
  case round =>
    obtain ⟨k, hk, rfl, hrow, hbel⟩ := hrel
    by_cases h0 : k = 0
    · subst h0
      have hcell := (hbel.cell hl).trans hc
      have hold := hrow.cell (i := 0) (by simp)
      have hfr := hrow.frozen 0
      rw [if_pos rfl] at hrow hold
      rw [show nth [0] 0 = 0 from rfl] at hold
      have hor := or_zero64 x (by omega)
      go_wp2
      go_region
      all_goals go_wp2
      go_roundw
      case rel => exact ⟨1, Nat.le_refl _, rfl, hrow.set 0 x, (hbel.setCell (p := ⟨w.heap.size, 0, none⟩) (Nat.le_refl _) _).drew⟩
      case measure => simp [intOf]
    · obtain rfl : k = 1 := by omega
      rw [if_neg (by decide)] at hrow
      go_wp2
      go_ret
      exact ⟨rfl, hrow, hbel⟩

set_option maxRecDepth 100000 in
set_option maxHeartbeats 4000000 in
theorem down6 (g : Nat) (w : World) (hp : Row w g 86 .u64 [6]) :
    Calls Tryz.prog 153 #[.slice (some ⟨g, 0, none⟩) 1 1, .int .i64 1] w fun e w' => e = .returned (.slice (some ⟨g, 0, none⟩) 1 1) ∧ Row w' g 86 .u64 [3] ∧ w.grownBy w' (some g) := by
  go_enter Tryz.func153, Tryz.ntmps153
  go_wp2
  go_loopw [15] (fun iv wr => ∃ (k : Nat), k ≤ 1 ∧ iv = .int .i64 k ∧ Row wr g 86 .u64 [if k = 0 then 6 else 3] ∧ w.grownBy wr (some g)) (fun iv _ => 1 - (intOf iv).toNat)
  case atStart => exact ⟨0, Nat.zero_le _, rfl, hp, World.grownBy.refl _ _⟩
  case round =>
    obtain ⟨k, hk, rfl, hrow, hgr⟩ := hrel
    by_cases h0 : k = 0
    · subst h0
      have hold := hrow.cell (i := 0) (by simp)
      have hfr := hrow.frozen 0
      rw [if_pos rfl] at hrow hold
      rw [show ((nth [6] 0 : Nat) : Int) = 6 from rfl] at hold
      go_wp2
      go_roundw
      case rel => exact ⟨1, Nat.le_refl _, rfl, hrow.set 0 3, gb_set hgr 0 _⟩
      case measure => simp [intOf]
    · obtain rfl : k = 1 := by omega
      rw [if_neg (by decide)] at hrow
      go_wp2_with fail
      refine (trimWords_any (some ⟨g, 0, none⟩) 1 1 [3] wr hrow.sl rfl (Nat.le_refl _) (by unfold maxLen; omega)).mono ?_
      rintro e w' ⟨m, rfl, hm, hv, ht, rfl⟩
      obtain rfl : m = 1 := by
        rcases Nat.lt_or_ge m 1 with h | h
        · obtain rfl : m = 0 := by omega
          simp [vw] at ht
        · omega
      go_wp2
      go_ret
      exact ⟨rfl, hrow, hgr⟩

set_option maxRecDepth 100000 in
set_option maxHeartbeats 4000000 in
theorem down4 (g : Nat) (w : World) (hp : Row w g 86 .u64 [4]) :
    Calls Tryz.prog 153 #[.slice (some ⟨g, 0, none⟩) 1 1, .int .i64 2] w fun e w' => e = .returned (.slice (some ⟨g, 0, none⟩) 1 1) ∧ Row w' g 86 .u64 [1] ∧ w.grownBy w' (some g) := by
  go_enter Tryz.func153, Tryz.ntmps153
  go_wp2
  go_loopw [15] (fun iv wr => ∃ (k : Nat), k ≤ 1 ∧ iv = .int .i64 k ∧ Row wr g 86 .u64 [if k = 0 then 4 else 1] ∧ w.grownBy wr (some g)) (fun iv _ => 1 - (intOf iv).toNat)
  case atStart => exact ⟨0, Nat.zero_le _, rfl, hp, World.grownBy.refl _ _⟩
  case round =>
    obtain ⟨k, hk, rfl, hrow, hgr⟩ := hrel
    by_cases h0 : k = 0
    · subst h0
      have hold := hrow.cell (i := 0) (by simp)
      have hfr := hrow.frozen 0
      rw [if_pos rfl] at hrow hold
      rw [show ((nth [4] 0 : Nat) : Int) = 4 from rfl] at hold
      go_wp2
      go_roundw
      case rel => exact ⟨1, Nat.le_refl _, rfl, hrow.set 0 1, gb_set hgr 0 _⟩
      case measure => simp [intOf]
    · obtain rfl : k = 1 := by omega
      rw [if_neg (by decide)] at hrow
      go_wp2_with fail
      refine (trimWords_any (some ⟨g, 0, none⟩) 1 1 [1] wr hrow.sl rfl (Nat.le_refl _) (by unfold maxLen; omega)).mono ?_
      rintro e w' ⟨m, rfl, hm, hv, ht, rfl⟩
      obtain rfl : m = 1 := by
        rcases Nat.lt_or_ge m 1 with h | h
        · obtain rfl : m = 0 := by omega
          simp [vw] at ht
        · omega
      go_wp2
      go_ret
      exact ⟨rfl, hrow, hgr⟩

set_option maxRecDepth 100000 in
set_option maxHeartbeats 4000000 in
theorem up1 (ad : Addr) (c : Nat) (w : World) (hc : w.cell? ad = some (.int .u64 1)) (hl : ad.block < w.heap.size) :
    Calls Tryz.prog 157 #[.slice (some ad) 1 c, .int .i64 1] w fun e w' => e = .returned (.slice (some ⟨w.heap.size, 0, none⟩) 1 2) ∧ Row w' w.heap.size 86 .u64 [2, 0] ∧ Below w.heap.size w w' := by
  obtain ⟨i0, hi, hz0, hz1, hz2⟩ := info_parts Tryz.info64
  have hmk := fun w => run_make_rowOf (P := Tryz.prog) 131 86 i0 .u64 2 2 w Tryz.underlying131 hi hz0 hz1 rfl (by omega) (by omega)
  clear hi hz0 hz1 hz2
  go_enter Tryz.func157, Tryz.ntmps157
  go_wp2
  go_loopw [20] (fun iv wr => ∃ (k : Nat), k ≤ 1 ∧ iv = .int .i64 k ∧ Row wr w.heap.size 86 .u64 [if k = 0 then 0 else 2, 0] ∧ Below w.heap.size w wr) (fun iv _ => 1 - (intOf iv).toNat)
  case atStart => exact ⟨0, Nat.zero_le _, rfl, Row.new _ _ _ [0, 0], (Below.refl _ _).alloc (Nat.le_refl _) _⟩
  case round =>
    obtain ⟨k, hk, rfl, hrow, hbel⟩ := hrel
    by_cases h0 : k = 0
    · subst h0
      have hcell := (hbel.cell hl).trans hc
      have hold := hrow.cell (i := 0) (by simp)
      have hfr := hrow.frozen 0
      rw [if_pos rfl] at hrow hold
      have hr1 : Row (wr.setCell ⟨w.heap.size, 0, none⟩ (.int .u64 2)) w.heap.size 86 .u64 [2, 0] := hrow.set 0 2
      rw [show ((nth [0, 0] 0 : Nat) : Int) = 0 from rfl] at hold
      have hor : bits .or .u64 0 2 = 2 := by decide
      have hor2 : bits .or .u64 0 0 = 0 := by decide
      go_wp2
      go_region
      all_goals go_wp2
      have hb1 := (hbel.setCell (p := ⟨w.heap.size, 0, none⟩) (Nat.le_refl _) (.int .u64 2)).drew
      have hold1 := hr1.cell (i := 1) (by simp)
      rw [show ((nth [2, 0] 1 : Nat) : Int) = 0 from rfl] at hold1
      have hfr1 := hr1.frozen 1
      have hr3 : Row ((wr.setCell ⟨w.heap.size, 0, none⟩ (.int .u64 2)).drew) w.heap.size 86 .u64 [2, 0] := hr1
      replace hold1 : ((wr.setCell ⟨w.heap.size, 0, none⟩ (.int .u64 2)).drew).cell? ⟨w.heap.size, 1, none⟩ = some (.int .u64 0) := hold1
      replace hfr1 : ((wr.setCell ⟨w.heap.size, 0, none⟩ (.int .u64 2)).drew).frozen? ⟨w.heap.size, 1, none⟩ = false := hfr1
      clear hcell hold hfr hrow hr1 hbel
      generalize (wr.setCell ⟨w.heap.size, 0, none⟩ (.int .u64 2)).drew = w1 at *
      go_region
      all_goals go_wp2
      go_roundw
      case rel => exact ⟨1, Nat.le_refl _, rfl, hr3.set 1 0, (hb1.setCell (p := ⟨w.heap.size, 1, none⟩) (Nat.le_refl _) _).drew⟩
      case measure => simp [intOf]
    · obtain rfl : k = 1 := by omega
      rw [if_neg (by decide)] at hrow
      go_wp2_with fail
      refine (trimWords_any (some ⟨w.heap.size, 0, none⟩) 2 2 [2, 0] wr hrow.sl rfl (Nat.le_refl _) (by unfold maxLen; omega)).mono ?_
      rintro e w' ⟨m, rfl, hm, htop, ht, rfl⟩
      obtain rfl : m = 1 := by
        match m, hm, htop, ht with
        | 0, _, _, ht => simp [vw] at ht
        | 1, _, _, _ => rfl
        | 2, _, h, _ => rcases h with h | h <;> simp [nth] at h
      go_wp2
      go_ret
      exact ⟨rfl, hrow, hbel⟩

set_option maxRecDepth 100000 in
set_option maxHeartbeats 4000000 in
theorem unpack2 (ad : Addr) (c : Nat) (w : World) (hc : w.cell? ad = some (.int .u64 2)) (hl : ad.block < w.heap.size) :
    Calls Tryz.prog 129 #[.slice (some ad) 1 c] w fun e w' => ∃ v, e = .returned v ∧ Nm w' v 2 ∧ Below w.heap.size w w' := by
  obtain ⟨i0, hi, hz0, hz1, hz2⟩ := info_parts Tryz.info16
  have hmk := fun w => run_make_rowOf (P := Tryz.prog) 22 92 i0 .u16 4 4 w Tryz.underlying22 hi hz0 hz1 rfl (by omega) (by omega)
  go_enter Tryz.func129, Tryz.ntmps129
  go_wp2
  go_loopw [11] (fun iv wr => ∃ (k : Nat), k ≤ 4 ∧ iv = .int .i64 k ∧ Row wr w.heap.size 92 .u16 [if k = 0 then 0 else 2, 0, 0, 0] ∧ Below w.heap.size w wr) (fun iv _ => 4 - (intOf iv).toNat)
  case atStart => exact ⟨0, Nat.zero_le _, rfl, Row.new _ _ _ [0, 0, 0, 0], (Below.refl _ _).alloc (Nat.le_refl _) _⟩
  case round =>
    obtain ⟨k, hk, rfl, hrow, hbel⟩ := hrel
    have hcell := (hbel.cell hl).trans hc
    have hfr := hrow.frozen
    match k, hk with
    | 0, _ =>
      have hs := hrow.set 0 2
      replace hfr := hfr 0
      have hold := hrow.cell (i := 0) (by simp)
      go_wp2
      go_roundw
      case rel => exact ⟨1, by omega, rfl, hs, hbel.setCell (p := ⟨w.heap.size, 0, none⟩) (Nat.le_refl _) _⟩
      case measure => simp [intOf]
    | 1, _ =>
      have hs := hrow.set 1 0
      replace hfr := hfr 1
      have hold := hrow.cell (i := 1) (by simp)
      go_wp2
      go_roundw
      case rel => exact ⟨2, by omega, rfl, hs, hbel.setCell (p := ⟨w.heap.size, 1, none⟩) (Nat.le_refl _) _⟩
      case measure => simp [intOf]
    | 2, _ =>
      have hs := hrow.set 2 0
      replace hfr := hfr 2
      have hold := hrow.cell (i := 2) (by simp)
      go_wp2
      go_roundw
      case rel => exact ⟨3, by omega, rfl, hs, hbel.setCell (p := ⟨w.heap.size, 2, none⟩) (Nat.le_refl _) _⟩
      case measure => simp [intOf]
    | 3, _ =>
      have hs := hrow.set 3 0
      replace hfr := hfr 3
      have hold := hrow.cell (i := 3) (by simp)
      go_wp2
      go_roundw
      case rel => exact ⟨4, by omega, rfl, hs, hbel.setCell (p := ⟨w.heap.size, 3, none⟩) (Nat.le_refl _) _⟩
      case measure => simp [intOf]
    | 4, _ =>
      go_wp2_with fail
      refine (trim_nm (some ⟨w.heap.size, 0, none⟩) 4 4 [2, 0, 0, 0] wr hrow.sl (by intro x hx; simp at hx; omega) rfl (Nat.le_refl _) (by unfold maxLen; omega)).mono ?_
      rintro e w' ⟨v, rfl, hv, rfl⟩
      rw [show val [2, 0, 0, 0] = 2 from rfl] at hv
      go_wp2
      go_ret
      exact ⟨v, rfl, hv, hbel⟩

theorem Tab.grown {w w' : World} {g : Nat} (h : Tab w) (hb : w.grownBy w' (some g)) (hl : 0 < w.heap.size) (hg : 0 ≠ g) : Tab w' := fun j hj => by
  rw [← h j hj]
  exact World.cell?_of_block (hb.block _ hl (fun e => hg (by injection e)))
theorem Tb.grown {w w' : World} {g : Nat} (h : Tb w) (hb : w.grownBy w' (some g)) (hg : 0 ≠ g) : Tb w' := ⟨h.1.grown hb h.2 hg, Nat.lt_of_lt_of_le h.2 hb.size⟩

theorem dig_small {a : Nat} (h0 : a ≠ 0) (h : a < 65536) : dig a = [a] := by
  rw [dig_pos h0, Nat.mod_eq_of_lt h, Nat.div_eq_of_lt h, dig_zero]
theorem wd31 (w : World) (hT : Tab w) : Calls Tryz.prog 158 #[.int .u64 3, .int .u64 1] w fun e w' => e = .returned (.int .u64 1) ∧ w = w' :=
  wordDivisor_any 3 1 1 0 w (by decide) (by decide) rfl rfl hT
theorem zeroBits6 (g : Nat) (w : World) (hp : Row w g 86 .u64 [6]) (hT : Tb w) :
    Calls Tryz.prog 152 #[.slice (some ⟨g, 0, none⟩) 1 1] w fun e w' => e = .returned (.int .i64 1) ∧ w = w' :=
  (zeroBits_any (some ⟨g, 0, none⟩) 1 1 0 [6] w hp.sl (by intro x hx; simp at hx; omega) rfl (by omega) (fun j hj => by omega) (by omega) (by decide) hT.1).mono fun e w' h => ⟨h.1.trans (by rw [show (64 * 0 + Lib.ctz 64 (nth [6] 0) : Nat) = 1 from by decide]; rfl), h.2⟩
theorem zeroBits4 (g : Nat) (w : World) (hp : Row w g 86 .u64 [4]) (hT : Tb w) :
    Calls Tryz.prog 152 #[.slice (some ⟨g, 0, none⟩) 1 1] w fun e w' => e = .returned (.int .i64 2) ∧ w = w' :=
  (zeroBits_any (some ⟨g, 0, none⟩) 1 1 0 [4] w hp.sl (by intro x hx; simp at hx; omega) rfl (by omega) (fun j hj => by omega) (by omega) (by decide) hT.1).mono fun e w' h => ⟨h.1.trans (by rw [show (64 * 0 + Lib.ctz 64 (nth [4] 0) : Nat) = 2 from by decide]; rfl), h.2⟩

set_option maxRecDepth 100000 in
set_option maxHeartbeats 4000000 in
theorem binary64 (B gx gy : Nat) (w : World) (hx : Row w gx 86 .u64 [6]) (hy : Row w gy 86 .u64 [4]) (hne : gx ≠ gy) (hBx : B ≤ gx) (hBy : B ≤ gy) (hT : Tb w) (hxt : 0 < B) :
    Calls Tryz.prog 130 #[.slice (some ⟨gx, 0, none⟩) 1 1, .slice (some ⟨gy, 0, none⟩) 1 1] w fun e w' => ∃ g, e = .returned (.slice (some ⟨g, 0, none⟩) 1 2) ∧ Row w' g 86 .u64 [2, 0] ∧ Below B w w' := by
  go_enter Tryz.func130, Tryz.ntmps130
  go_wp2_with fail
  refine (zeroBits6 gx w hx hT).mono ?_
  rintro e w1 ⟨rfl, rfl⟩
  go_wp2_with fail
  refine (zeroBits4 gy w hy hT).mono ?_
  rintro e w1 ⟨rfl, rfl⟩
  go_wp2_with fail
  refine (zeroBits6 gx w hx hT).mono ?_
  rintro e w1 ⟨rfl, rfl⟩
  go_wp2_with fail
  have lx := hx.lt
  have ly := hy.lt
  refine (down6 gx w hx).mono ?_
  rintro e w2 ⟨rfl, hx2, hg2⟩
  have hy2 := hy.grown hg2 (by intro e; injection e with e; omega)
  have T2 := hT.grown hg2 (by omega)
  go_wp2_with fail
  refine (zeroBits4 gy w2 hy2 T2).mono ?_
  rintro e w3 ⟨rfl, rfl⟩
  go_wp2_with fail
  refine (down4 gy w2 hy2).mono ?_
  rintro e w4 ⟨rfl, hy4, hg4⟩
  have hx4 := hx2.grown hg4 (by intro e; injection e with e; omega)
  have T4 := T2.grown hg4 (by omega)
  have hB4 := hid (((Below.refl B w).grown hg2 (by omega) (fun k hk => by injection hk with hk; omega)).grown hg4 (by have := hg2.size; omega) (fun k hk => by injection hk with hk; omega))
  clear hx hy hT hx2 hy2 T2 hg2 hg4
  go_wp2_with fail
  go_loopw [0, 1] (fun xv yv wr => xv = .slice (some ⟨gx, 0, none⟩) 1 1 ∧ yv = .slice (some ⟨gy, 0, none⟩) 1 1 ∧ wr = w4) (fun _ _ _ => 0)
  case atStart => exact ⟨rfl, rfl, rfl⟩
  case round =>
    obtain ⟨rfl, rfl, rfl⟩ := hrel
    have cx := hx4.cell (i := 0) (by simp)
    have cy := hy4.cell (i := 0) (by simp)
    rw [show ((nth [3] 0 : Nat) : Int) = 3 from rfl] at cx
    rw [show ((nth [1] 0 : Nat) : Int) = 1 from rfl] at cy
    have T5 : Tab wr.drew := T4.1
    have hB5 := hid hB4.out.drew
    have hal : Below wr.heap.size wr (wr.alloc (.cells #[.int .u64 1] 86)).drew := ((Below.refl _ _).alloc (Nat.le_refl _) _).drew
    have cxa : (wr.alloc (.cells #[.int .u64 1] 86)).drew.cell? ⟨gx, 0, none⟩ = some (.int .u64 3) := (hal.cell hx4.lt).trans cx
    have cya : (wr.alloc (.cells #[.int .u64 1] 86)).drew.cell? ⟨gy, 0, none⟩ = some (.int .u64 1) := (hal.cell hy4.lt).trans cy
    have ca : (wr.alloc (.cells #[.int .u64 1] 86)).drew.cell? ⟨wr.heap.size, 0, none⟩ = some (.int .u64 1) := by
      have h := (Bk.of_alloc wr (.cells #[.int .u64 1] 86) rfl)
      show (wr.alloc (.cells #[.int .u64 1] 86)).cell? _ = _
      rw [cell_of_row _ _ _ _ 86 (0, 0) h]; rfl
    have hlx := hx4.lt
    have hly := hy4.lt
    have hBa := hid (bthen hB4.out hal (by omega))
    have hla : wr.heap.size < (wr.alloc (.cells #[.int .u64 1] 86)).drew.heap.size := by show wr.heap.size < (wr.alloc (.cells #[.int .u64 1] 86)).heap.size; simp
    clear hal
    go_wp2
    rw [show (min 1 2 : Int) = 1 from rfl]
    go_region_held3 (fun w' => w'.cell? ⟨gx, 0, none⟩ = some (.int .u64 3) ∧ w'.cell? ⟨gy, 0, none⟩ = some (.int .u64 1)) (first | exact ⟨cx, cy⟩ | exact ⟨cxa, cya⟩ | exact ⟨cxb, cyb⟩) (first
      | (go_at_call 158; with_reducible refine (wd31 wr.drew T5).mono ?_; rintro e w5 ⟨rfl, rfl⟩)
      | (go_at_call 157; with_reducible refine (up1 ⟨wr.heap.size, 0, none⟩ 1 (wr.alloc (.cells #[.int .u64 1] 86)).drew ca hla).mono ?_; rintro e w6 ⟨rfl, hr6, hb6⟩; have cxb := (hb6.cell (p := ⟨gx, 0, none⟩) (Nat.lt_trans hlx hla)).trans cxa; have cyb := (hb6.cell (p := ⟨gy, 0, none⟩) (Nat.lt_trans hly hla)).trans cya))
    have hB6 := bthen hBa.out hb6 (by omega)
    go_wp2
    go_ret
    refine ⟨_, rfl, ?_, hB6⟩
    have e : (wr.alloc (.cells #[.int .u64 1] 86)).drew.heap.size = wr.heap.size + 1 := by show (wr.alloc (.cells #[.int .u64 1] 86)).heap.size = _; simp
    rwa [e] at hr6

set_option maxRecDepth 100000 in
set_option maxHeartbeats 4000000 in
theorem CD_one (a : Nat) (ha : a ≠ 0) : CD a 1 := by
  intro v u w h k hT
  have hl0 : (dig a).length ≠ 0 := fun e => ha (dig_nil_iff.1 (List.eq_nil_of_length_eq_zero e))
  have d1 : dig 1 = [1] := dig_small (by decide) (by decide)
  have k' := k
  obtain ⟨A, c, rfl, h1, h2, h3⟩ := h
  obtain ⟨B, d, rfl, k1, k2, k3⟩ := k
  rw [d1] at k' k1 k2 ⊢
  have hlt : ¬ ((dig a).length : Int) < (1 : Int) := by omega
  clear ha
  go_enter Tryz.func105, Tryz.ntmps105
  go_wp2_with fail
  refine (isOne_nm k').mono ?_
  rintro e w1 ⟨rfl, rfl⟩
  go_wp2
  go_ret
  refine ⟨_, rfl, ?_, Below.refl _ _⟩
  rw [Nat.gcd_one_right]
  exact k'

set_option maxRecDepth 100000 in
set_option maxHeartbeats 4000000 in
theorem CD_64 : CD 6 4 := by
  intro v u w h k hT
  have d6 : dig 6 = [6] := dig_small (by decide) (by decide)
  have d4 : dig 4 = [4] := dig_small (by decide) (by decide)
  have k' := k
  obtain ⟨A, c, rfl, h1, h2, h3⟩ := h
  obtain ⟨B, d, rfl, k1, k2, k3⟩ := k
  rw [d6] at h1 h2 ⊢
  rw [d4] at k' k1 k2 ⊢
  obtain ⟨ad, rfl, ha1, ha2⟩ := h1 0 (by simp)
  obtain ⟨bd, rfl, hb1, hb2⟩ := k1 0 (by simp)
  rw [addr_zero] at ha2 hb2
  rw [show nth [6] 0 = 6 from rfl] at ha2
  rw [show nth [4] 0 = 4 from rfl] at hb2
  go_enter Tryz.func105, Tryz.ntmps105
  go_wp2_with fail
  refine (isOne_nm k').mono ?_
  rintro e w1 ⟨rfl, rfl⟩
  go_wp2_with fail
  refine (pack_one ad c 6 w ha2 (by decide) ha1).mono ?_
  rintro e w2 ⟨rfl, hx, hB2⟩
  go_wp2_with fail
  refine (pack_one bd d 4 w2 ((hB2.cell hb1).trans hb2) (by decide) (Nat.lt_of_lt_of_le hb1 hB2.size)).mono ?_
  rintro e w3 ⟨rfl, hy, hB3⟩
  have hlx := hx.lt
  have hsz := hB2.size
  have T3 := (hT.below hB2).below hB3
  go_wp2_with fail
  refine (binary64 w.heap.size w.heap.size w2.heap.size w3 (hx.below hB3 hlx) hy (by omega) (Nat.le_refl _) hsz T3 hT.2).mono ?_
  rintro e w4 ⟨g, rfl, hr, hB4⟩
  have hB4' := hid (bthen (Below.refl w.heap.size w) ((hB2.trans (hB3.mono hsz)).trans hB4) (Nat.le_refl _))
  have hc4 := hr.cell (i := 0) (by simp)
  rw [show ((nth [2, 0] 0 : Nat) : Int) = 2 from rfl] at hc4
  have hl4 := hr.lt
  clear hB4 hB2 hB3
  go_wp2_with fail
  refine (unpack2 ⟨g, 0, none⟩ 2 w4 hc4 hl4).mono ?_
  rintro e w5 ⟨v, rfl, hv, hB5⟩
  have hB6 := bthen hB4'.out hB5 (by have := hB4'.out.size; omega)
  go_wp2
  go_ret
  exact ⟨v, rfl, hv, hB6⟩

end Go.Proofs.YtffipjofefemiaaGreatDoor

namespace Go.Proofs.YtffipjofefemiaaGreatDoor
open Go.RowKit Kb

/-- The total at block g is the whole number z. -/
def Tot (w : World) (g : Nat) (z : Int) : Prop :=
  ∃ s1 A1 n1 c1 s2 A2 n2 c2, Bk w g (.cells #[.bool s1, .slice A1 n1 c1, .bool s2, .slice A2 n2 c2] 137 (0, 0)) ∧ Hid (s1 = decide (z < 0)) ∧ Hid (s2 = false) ∧ Nm w (.slice A1 n1 c1) z.natAbs ∧ Nm w (.slice A2 n2 c2) 1

set_option maxRecDepth 100000 in
set_option maxHeartbeats 2000000 in
theorem newTotal_any (w : World) :
    Calls Tryz.prog 119 #[] w fun e w' => ∃ g, e = .returned (.pointer (some ⟨g, 0, none⟩)) ∧ w.heap.size ≤ g ∧ Tot w' g 0 ∧ Below w.heap.size w w' := by
  go_enter Tryz.func119, Tryz.ntmps119
  go_wp2_with fail
  refine (nz_openb (Of_any 1 _ (by decide) (by decide))).mono ?_
  rintro e w1 ⟨s1, A1, n1, c1, rfl, hs1, hn1, hb1⟩
  have hb2 := hb1.alloc hb1.size (.cells #[.bool false, .slice none 0 0, .bool s1, .slice A1 n1 c1] 137)
  have ht : Tot (w1.alloc (.cells #[.bool false, .slice none 0 0, .bool s1, .slice A1 n1 c1] 137)) w1.heap.size 0 := ⟨false, none, 0, 0, s1, A1, n1, c1, Bk.of_alloc _ _ rfl, hid rfl, hid (by rw [hs1.out]; rfl), nm_nil _, hn1.below ((Below.refl _ _).alloc (Nat.le_refl _) _)⟩
  have hsz := hb1.size
  clear hn1 hb1
  go_wp2
  go_ret
  exact ⟨_, rfl, hsz, ht, hb2⟩

theorem rn_one (z : Int) : rn z 1 = z := by unfold rn; rw [Nat.gcd_one_right, Nat.div_one, toZ_of]
theorem Tot.below {w w' : World} {g : Nat} {z : Int} (h : Tot w g z) (hb : Below w.heap.size w w') : Tot w' g z := by
  obtain ⟨s1, A1, n1, c1, s2, A2, n2, c2, h1, h2, h3, h4, h5⟩ := h
  exact ⟨s1, A1, n1, c1, s2, A2, n2, c2, h1.step hb, h2, h3, h4.below hb, h5.below hb⟩
theorem Tot.lt {w : World} {g : Nat} {z : Int} (h : Tot w g z) : g < w.heap.size := by
  obtain ⟨s1, A1, n1, c1, s2, A2, n2, c2, h1, _⟩ := h
  exact h1.lt

set_option maxRecDepth 100000 in
set_option maxHeartbeats 2000000 in
theorem total_value (g : Nat) (z : Int) (w : World) (h : Tot w g z) (hz : z ≠ 0) (hT : Tb w) (hl : (dig z.natAbs).length ≤ 400000000) :
    Calls Tryz.prog 122 #[.pointer (some ⟨g, 0, none⟩)] w fun e w' => ∃ v, e = .returned v ∧ Rz w' v z 1 ∧ Below w.heap.size w w' := by
  have hal := (Below.refl w.heap.size w).alloc (Nat.le_refl _) (.cells #[.bool false, .slice none 0 0, .bool false, .slice none 0 0] 26)
  have j2 := Bk.of_alloc w (.cells #[.bool false, .slice none 0 0, .bool false, .slice none 0 0] 26) rfl
  have Hlt := h.lt
  obtain ⟨s1, A1, n1, c1, s2, A2, n2, c2, hb, hs1, hs2, hn1, hn2⟩ := h.below hal.drew
  have T1 := hT.below hal.drew
  obtain ⟨g2, hg2⟩ : ∃ g2, w.heap.size = g2 := ⟨_, rfl⟩
  obtain rfl : s2 = false := hs2.out
  clear h hT hs2
  go_enter Tryz.func122, Tryz.ntmps122
  go_wp2_with fail
  rw [hg2] at j2 hal
  have hal' := hid hal.drew
  replace j2 : Bk (w.alloc (.cells #[.bool false, .slice none 0 0, .bool false, .slice none 0 0] 26)).drew g2 _ := j2
  have hb' : Bk (w.alloc (.cells #[.bool false, .slice none 0 0, .bool false, .slice none 0 0] 26)) g _ := hb
  have hj' : Bk (w.alloc (.cells #[.bool false, .slice none 0 0, .bool false, .slice none 0 0] 26)) g2 _ := j2
  generalize w.alloc (.cells #[.bool false, .slice none 0 0, .bool false, .slice none 0 0] 26) = W0 at *
  obtain ⟨x0, x1, x2, x3, -, -, -, -⟩ := hb'.c4
  have hne : g2 ≠ g := by omega
  have hn2' : Nm W0.drew (.slice A2 n2 c2) (toZ false 1).natAbs := hn2
  go_region_held3 (fun w' => w'.cell? ⟨g, 0, none⟩ = some (.bool s1) ∧ w'.cell? ⟨g, 1, none⟩ = some (.slice A1 n1 c1) ∧ w'.cell? ⟨g, 2, none⟩ = some (.bool false) ∧ w'.cell? ⟨g, 3, none⟩ = some (.slice A2 n2 c2)) (first | exact ⟨x0, x1, x2, x3⟩ | exact ⟨y0, y1, y2, y3⟩ | exact ⟨off_four hne y0, off_four hne y1, off_four hne y2, off_four hne y3⟩) (first
    | (go_at_call 58; with_reducible refine (rz_open (fraction_nz s1 false A1 A2 n1 c1 n2 c2 z 1 hn1 hn2' hs1 (hid rfl) T1 (CD_one _ (by omega)) (by decide) hl (by rw [dig_small (by decide) (by decide)]; decide))).mono ?_; rintro e w3 ⟨t1, A3, n3, c3, t2, A4, n4, c4, rfl, ht1, ht2, hn3, hn4, hb3⟩; replace j2 := j2.step hb3; replace hb := hb.step hb3; obtain ⟨y0, y1, y2, y3, -, -, -, -⟩ := hb.c4; obtain ⟨i0, i1, i2, i3, i4, i5, i6, i7⟩ := j2.c4; have hl3 := j2.lt))
  rw [rn_one] at ht1 hn3
  rw [Nat.gcd_one_right] at ht2 hn4
  have h3 := bthen hal'.out hb3 (by omega)
  have h11 := hid (below4 h3 (Nat.le_refl g2) (.bool t1) (.slice A3 n3 c3) (.bool t2) (.slice A4 n4 c4))
  have m1 := hid (hn3.offbox j2 (noInt_four _ _ _ _ _ _ _ _) (gb4 _ _ (.bool t1) (.slice A3 n3 c3) (.bool t2) (.slice A4 n4 c4)))
  have m2 := hid (hn4.offbox j2 (noInt_four _ _ _ _ _ _ _ _) (gb4 _ _ (.bool t1) (.slice A3 n3 c3) (.bool t2) (.slice A4 n4 c4)))
  clear x0 x1 x2 x3 y0 y1 y2 y3 hb j2 hn1 hn2 hn3 hn4 hb3 h3 hb' hj'
  go_wp2
  exact bodyPost_ret (v := .agg #[.bool t1, .slice A3 n3 c3, .bool t2, .slice A4 n4 c4]) (by simp [results, Tryz.results122, go_sem, i0, i1, i2, i3]) rfl ⟨_, rfl, ⟨t1, A3, n3, c3, t2, A4, n4, c4, rfl, ht1, ht2, m1.out, m2.out⟩, by rw [hg2]; exact h11.out⟩

end Go.Proofs.YtffipjofefemiaaGreatDoor

namespace Go.Proofs.YtffipjofefemiaaGreatDoor
open Go.RowKit Kb

theorem Bk.put2 {w : World} {g : Nat} {a b c d : Value} {T : TypeId} (h : Bk w g (.cells #[a, b, c, d] T (0, 0))) (x y : Value) : Bk ((w.setCell ⟨g, 0, none⟩ x).setCell ⟨g, 1, none⟩ y) g (.cells #[x, y, c, d] T (0, 0)) := by
  unfold Bk at h ⊢
  simp only [World.setCell, Array.getElem?_modify, h]
  simp

set_option maxRecDepth 100000 in
set_option maxHeartbeats 2000000 in
theorem total_add (g : Nat) (z x : Int) (s : Bool) (A B : Option Addr) (n c m d : Nat) (w : World) (h : Tot w g z) (k : Nm w (.slice A n c) x.natAbs) (hs : Hid (s = decide (x < 0))) (kd : Nm w (.slice B m d) 1) (hlz : (dig z.natAbs).length ≤ 100000000) (hlx : (dig x.natAbs).length ≤ 100000000) :
    Calls Tryz.prog 121 #[.pointer (some ⟨g, 0, none⟩), .agg #[.bool s, .slice A n c, .bool false, .slice B m d]] w fun e w' => e = .returned (.tuple #[]) ∧ Tot w' g (z + x) ∧ w.grownBy w' (some g) := by
  have hal := (Below.refl w.heap.size w).alloc (Nat.le_refl _) (.cells #[.bool s, .slice A n c, .bool false, .slice B m d] 26)
  have Hlt := h.lt
  have h0 := h.below hal
  have k0 := k.below hal
  have kd0 := kd.below hal
  clear h k kd
  go_enter Tryz.func121, Tryz.ntmps121
  go_wp2_with fail
  refine (parts_pos s A B n c m d 1 _ kd0.raw (by decide)).mono ?_
  rintro e w1 ⟨rfl, hb1⟩
  have h1 := h0.below hb1
  have k1 := k0.below hb1
  have kd1 := kd0.below hb1
  have hB1 := hid (bthen hal hb1 (Nat.le_refl _))
  have hal2 := below_two w1 (.cells #[.bool s, .slice A n c] 24) (.cells #[.bool false, .slice B m d] 24)
  have h2 := h1.below hal2.drew
  have k2 := k1.below hal2.drew
  have kd2 := kd1.below hal2.drew
  have e1 : Bk (((w1.alloc (.cells #[.bool s, .slice A n c] 24)).alloc (.cells #[.bool false, .slice B m d] 24))).drew w1.heap.size _ := box1 w1 (.cells #[.bool s, .slice A n c] 24) (.cells #[.bool false, .slice B m d] 24)
  have e2 : Bk (((w1.alloc (.cells #[.bool s, .slice A n c] 24)).alloc (.cells #[.bool false, .slice B m d] 24))).drew (w1.heap.size + 1) _ := box2 w1 (.cells #[.bool s, .slice A n c] 24) (.cells #[.bool false, .slice B m d] 24)
  have hB2 := hid ((bthen hB1.out hal2 (Nat.le_refl _)).drew)
  have hlt1 : g < w1.heap.size := h1.lt
  clear hb1 hal h0 k0 kd0 h1 k1 kd1 hal2
  generalize hW : (w1.alloc (.cells #[.bool s, .slice A n c] 24)).alloc (.cells #[.bool false, .slice B m d] 24) = W2 at *
  go_wp2_with fail
  obtain ⟨s1, A1, n1, c1, s2, A2, n2, c2, hb, hs1, hs2, hn1, hn2⟩ := h2
  obtain rfl : s2 = false := hs2.out
  clear hW
  obtain ⟨g1, hg1⟩ : ∃ g1, w1.heap.size = g1 := ⟨_, rfl⟩
  rw [hg1] at e1 e2 hlt1 ⊢
  have q1 : Bk W2 g1 _ := e1
  have q2 : Bk W2 (g1 + 1) _ := e2
  have q3 : Bk W2 g _ := hb
  obtain ⟨u0, u1, -, -⟩ := q1.c2
  obtain ⟨u2, u3, -, -⟩ := q2.c2
  obtain ⟨u4, u5, u6, u7, -, -, -, -⟩ := q3.c4
  have hl := e2.lt
  have hl' := q2.lt
  go_region_held3 (fun w' => w'.cell? ⟨g1, 0, none⟩ = some (.bool s) ∧ w'.cell? ⟨g1, 1, none⟩ = some (.slice A n c) ∧ w'.cell? ⟨g1 + 1, 0, none⟩ = some (.bool false) ∧ w'.cell? ⟨g1 + 1, 1, none⟩ = some (.slice B m d) ∧ w'.cell? ⟨g, 0, none⟩ = some (.bool s1) ∧ w'.cell? ⟨g, 1, none⟩ = some (.slice A1 n1 c1) ∧ w'.cell? ⟨g, 2, none⟩ = some (.bool false) ∧ w'.cell? ⟨g, 3, none⟩ = some (.slice A2 n2 c2)) (first | exact ⟨u0, u1, u2, u3, u4, u5, u6, u7⟩ | exact ⟨v0, v1, v2, v3, v4, v5, v6, v7⟩ | exact ⟨x0, x1, x2, x3, x4, x5, x6, x7⟩ | exact ⟨y0, y1, y2, y3, y4, y5, y6, y7⟩) (first
    | (go_at_call 76; with_reducible refine (size_any false B m d 1 W2.drew kd2.raw).mono ?_; rintro e w4 ⟨r1, rfl, hr1, hb4⟩; replace e1 := e1.step hb4; replace e2 := e2.step hb4; replace hb := hb.step hb4; obtain ⟨v0, v1, -, -⟩ := e1.c2; obtain ⟨v2, v3, -, -⟩ := e2.c2; obtain ⟨v4, v5, v6, v7, -, -, -, -⟩ := hb.c4)
    | (go_at_call 76; with_reducible refine (size_any false A2 n2 c2 1 w4 (hn2.below hb4).raw).mono ?_; rintro e w5 ⟨r2, rfl, hr2, hb5⟩; replace e1 := e1.step hb5; replace e2 := e2.step hb5; replace hb := hb.step hb5; obtain ⟨x0, x1, -, -⟩ := e1.c2; obtain ⟨x2, x3, -, -⟩ := e2.c2; obtain ⟨x4, x5, x6, x7, -, -, -, -⟩ := hb.c4)
    | (go_at_call 75; with_reducible refine (compareLimbs_nm (hr1.below hb5) hr2).mono ?_; rintro e w6 ⟨rfl, hq6⟩; have hb6 := hq6.below w5.heap.size; replace e1 := e1.step hb6; replace e2 := e2.step hb6; replace hb := hb.step hb6; obtain ⟨y0, y1, -, -⟩ := e1.c2; obtain ⟨y2, y3, -, -⟩ := e2.c2; obtain ⟨y4, y5, y6, y7, -, -, -, -⟩ := hb.c4))
  rw [sgn_eq]
  have hB6 := hid (bthen (bthen (bthen hB2.out hb4 (Nat.le_refl _)) hb5 (Nat.le_refl _)) hb6 (Nat.le_refl _))
  have f1 := ((hn1.below hb4).below hb5).below hb6
  have f2 := ((hn2.below hb4).below hb5).below hb6
  have f3 := ((k2.below hb4).below hb5).below hb6
  clear u0 u1 u2 u3 u4 u5 u6 u7 v0 v1 v2 v3 v4 v5 v6 v7 x0 x1 x2 x3 x4 x5 x6 x7 hb4 hb5 hb6 hq6 hr1 hr2 hn1 hn2 k2 kd2 q1 q2 q3
  go_wp2_with fail
  obtain ⟨-, -, -, -, z0, z1, z2, z3⟩ := hb.c4
  have j1 : Nm w6.drew (.slice A1 n1 c1) z.natAbs := f1
  have j2 : Nm w6.drew (.slice A2 n2 c2) 1 := f2
  have j3 : Nm w6.drew (.slice A n c) x.natAbs := f3
  have hbd : Bk w6.drew g _ := hb
  have hB7 := hid hB6.out.drew
  have hltg := hb.lt
  go_region_with (go_at_call 68; with_reducible refine (nz_openb (Add_any s1 s A1 A n1 c1 n c z.natAbs x.natAbs w6.drew j1.raw j3.raw (by omega) (by omega))).mono ?_; rintro e w8 ⟨t1, A3, n3, c3, rfl, ht1, hn3, hb8⟩; have hbe := hbd.step hb8; obtain ⟨i0, i1, i2, i3, i4, i5, i6, i7⟩ := hbe.c4)
  all_goals
    have hB8 := bthen hB7.out hb8 (Nat.le_refl _)
    have hgb := hid (gb_set (gb_set (gb_of_below (r := some g) hB8) 0 (.bool t1)) 1 (.slice A3 n3 c3))
    have hbk := hid (hbe.put2 (.bool t1) (.slice A3 n3 c3))
    have hm1 := hid (hn3.offbox hbe (noInt_four _ _ _ _ _ _ _ _) (gb2 w8 g 0 1 (.bool t1) (.slice A3 n3 c3)))
    have hm2 := hid ((j2.below hb8).offbox hbe (noInt_four _ _ _ _ _ _ _ _) (gb2 w8 g 0 1 (.bool t1) (.slice A3 n3 c3)))
    have ez : toZ s1 z.natAbs + toZ s x.natAbs = z + x := by rw [hs1.out, hs.out, toZ_of, toZ_of]
    rw [ez] at ht1 hm1
    have HT := hid (show Tot ((w8.setCell ⟨g, 0, none⟩ (.bool t1)).setCell ⟨g, 1, none⟩ (.slice A3 n3 c3)) g (z + x) from ⟨t1, A3, n3, c3, false, A2, n2, c2, hbk.out, ht1, hid rfl, hm1.out, hm2.out⟩)
    clear hB8 hn3 hbe i0 i1 i2 i3 i4 i5 i6 i7 hb8 j1 j2 j3 hbd y0 y1 y2 y3 y4 y5 y6 y7 e1 e2 hb z0 z1 z2 z3 f1 f2 f3 hbk hm1 hm2
    go_wp2
    go_end0
    exact ⟨rfl, HT.out, hgb.out⟩

end Go.Proofs.YtffipjofefemiaaGreatDoor

namespace Go.Proofs.YtffipjofefemiaaGreatDoor
open Go.RowKit Kb

set_option maxRecDepth 100000 in
set_option maxHeartbeats 2000000 in
theorem Floor_pos (p : Bool) (A B : Option Addr) (n c m d a b : Nat) (w : World) (h : Fr w p A n c a B m d b) :
    Calls Tryz.prog 28 #[.agg #[.bool p, .slice A n c, .bool false, .slice B m d]] w fun e w' => ∃ v, e = .returned v ∧ Nz w' v (toZ p a / (b : Int)) ∧ Below w.heap.size w w' := by
  have hb0 := below_two w (.cells #[.bool p, .slice A n c, .bool false, .slice B m d] 26) (.cells #[.bool false, .slice none 0 0] 24)
  have j1 := box1 w (.cells #[.bool p, .slice A n c, .bool false, .slice B m d] 26) (.cells #[.bool false, .slice none 0 0] 24)
  have j2 := box2 w (.cells #[.bool p, .slice A n c, .bool false, .slice B m d] 26) (.cells #[.bool false, .slice none 0 0] 24)
  have h0 := h.below hb0
  go_enter Tryz.func28, Tryz.ntmps28
  go_wp2_with fail
  refine (parts_pos p A B n c m d b _ h0.den h0.pos).mono ?_
  rintro e w1 ⟨rfl, hb1⟩
  replace j2 := j2.step hb1
  have h1 := h0.below hb1
  have hB1 := hid (bthen hb0 hb1 (Nat.le_refl _))
  clear h h0 hb0 hb1
  go_wp2_with fail
  refine (DivMod_any p false A B n c m d a b _ h1.num h1.den h1.pos (by have := h1.ln; omega) (by have := h1.ld; omega)).mono ?_
  rintro e w2 ⟨v, u, rfl, hv, hu, hb2⟩
  obtain ⟨A1, n1, c1, rfl, hn1⟩ := hv
  obtain ⟨A2, n2, c2, rfl, hn2⟩ := hu
  replace j2 := j2.step hb2
  have hB2 := bthen hB1.out hb2 (Nat.le_refl _)
  have e0 : toZ false b = (b : Int) := by unfold toZ; rw [if_neg (by decide)]
  rw [e0] at hn1 hn2 ⊢
  obtain ⟨s1, hs1⟩ : ∃ s1, s1 = decide (toZ p a / (b : Int) < 0) := ⟨_, rfl⟩
  obtain ⟨s2, hs2⟩ : ∃ s2, s2 = decide (toZ p a % (b : Int) < 0) := ⟨_, rfl⟩
  rw [← hs1, ← hs2]
  have hqb := below_two w2 (.cells #[.bool s1, .slice A1 n1 c1] 24) (.cells #[.bool s2, .slice A2 n2 c2] 24)
  have j3 := j2.alloc2 (.cells #[.bool s1, .slice A1 n1 c1] 24) (.cells #[.bool s2, .slice A2 n2 c2] 24)
  have hn3 := hn1.below hqb
  have hB3 := bthen hB2 hqb (Nat.le_refl _)
  have hlq := j2.lt
  obtain ⟨g, hg⟩ : ∃ g, w.heap.size = g := ⟨_, rfl⟩
  rw [hg] at j3
  have h5 := hid ((hB3.setCell (p := ⟨g + 1, 0, none⟩) (by show w.heap.size ≤ g + 1; omega) (.bool s1)).setCell (p := ⟨g + 1, 1, none⟩) (by show w.heap.size ≤ g + 1; omega) (.slice A1 n1 c1))
  have hN := hid (hn3.offbox j3 (noInt_zero _ _ _ _) (gb2 _ (g + 1) 0 1 (.bool s1) (.slice A1 n1 c1)))
  obtain ⟨y0, y1, y2, y3⟩ := j3.c2
  have hl3 := j3.lt
  have Hs := hid hs1
  clear hqb hn3 hB3 hB2 hn1 hb2 hn2 h1 j2 j1 hs1 hs2 j3
  go_wp2
  exact bodyPost_ret (v := .agg #[.bool s1, .slice A1 n1 c1]) (by simp [results, Tryz.results28, go_sem, y0, y1]) rfl ⟨_, rfl, ⟨A1, n1, c1, by rw [Hs.out], hN.out⟩, h5.out⟩

set_option maxRecDepth 100000 in
set_option maxHeartbeats 2000000 in
theorem Small_nat (A : Option Addr) (n c a : Nat) (w : World) (h : Raw w A n c a) (ha : a < 9223372036854775808) :
    Calls Tryz.prog 134 #[.agg #[.bool false, .slice A n c]] w fun e w' => e = .returned (.tuple #[.int .i64 a, .bool true]) ∧ Below w.heap.size w w' := by
  have hl : (dig a).length ≤ 4 := dig_length_le (by rw [show (65536 : Nat) ^ 4 = 18446744073709551616 from rfl]; omega)
  have hb0 := (Below.refl w.heap.size w).alloc (Nat.le_refl _) (.cells #[.bool false, .slice A n c] 24)
  have j1 := Bk.of_alloc w (.cells #[.bool false, .slice A n c] 24) rfl
  have h0 := h.below hb0
  clear h
  go_enter Tryz.func134, Tryz.ntmps134
  go_wp2_with fail
  refine (size_any false A n c a _ h0).mono ?_
  rintro e w1 ⟨v, rfl, hv, hb1⟩
  replace j1 := j1.step hb1
  obtain ⟨x0, x1, -, -⟩ := j1.c2
  have hl1 := j1.lt
  have hv' := hv
  obtain ⟨A', c', rfl, -⟩ := hv
  have hle : ¬ (4 : Int) < ((dig a).length : Int) := by omega
  go_wp2_with fail
  refine (wordOf_nm hv' (by rw [show (65536 : Nat) ^ 4 = 18446744073709551616 from rfl]; omega)).mono ?_
  rintro e w2 ⟨rfl, rfl⟩
  have hlt : ¬ (9223372036854775808 : Int) ≤ (a : Int) := by omega
  have hw : IntKind.i64.wrap (a : Int) = (a : Int) := by rw [IntKind.wrap_i64]; omega
  have hB1 := bthen hb0 hb1 (Nat.le_refl _)
  have hge : (decide ((9223372036854775808 : Int) ≤ (a : Int))) = false := decide_eq_false hlt
  clear ha hlt hle
  go_wp2
  go_ret2
  exact ⟨rfl, hB1⟩

end Go.Proofs.YtffipjofefemiaaGreatDoor

namespace Go.Proofs.YtffipjofefemiaaGreatDoor
open Go.RowKit Kb

theorem Nm.fr {w : World} {A B : Option Addr} {n c m d a b : Nat} (p : Bool) (h : Nm w (.slice A n c) a) (k : Nm w (.slice B m d) b) (ha : a < 65536) (hb : b < 65536) (h0 : b ≠ 0) : Fr w p A n c a B m d b := by
  have l1 : ∀ x : Nat, x < 65536 → (dig x).length ≤ 100000000 := fun x hx => by
    have : (dig x).length ≤ 1 := dig_length_le (by rw [Nat.pow_one]; exact hx)
    omega
  exact ⟨h.raw, k.raw, h0, l1 a ha, l1 b hb⟩

set_option maxRecDepth 100000 in
set_option maxHeartbeats 2000000 in
theorem startsUpTo_5 (b : Nat) (S : Option Addr) (sn sc : Nat) (A B : Option Addr) (n c m d : Nat) (w : World) (hc0 : w.cell? ⟨b, 0, none⟩ = some (.int .i64 0)) (hc1 : w.cell? ⟨b, 1, none⟩ = some (.int .i64 10)) (hbl : b < w.heap.size) (hn : Nm w (.slice A n c) 5) (hd : Nm w (.slice B m d) 1) :
    Calls Tryz.prog 120 #[.agg #[.slice (some ⟨b, 0, none⟩) 2 2, .slice S sn sc], .agg #[.bool false, .slice A n c, .bool false, .slice B m d]] w fun e w' => e = .returned (.int .i64 1) ∧ Below w.heap.size w w' := by
  have hb0 := below_two w (.cells #[.slice (some ⟨b, 0, none⟩) 2 2, .slice S sn sc] 48) (.cells #[.bool false, .slice A n c, .bool false, .slice B m d] 26)
  have j1 := box1 w (.cells #[.slice (some ⟨b, 0, none⟩) 2 2, .slice S sn sc] 48) (.cells #[.bool false, .slice A n c, .bool false, .slice B m d] 26)
  have h0 := (Nm.fr false hn hd (by decide) (by decide) (by decide)).below hb0
  go_enter Tryz.func120, Tryz.ntmps120
  go_wp2_with fail
  refine (Floor_pos false A B n c m d 5 1 _ h0).mono ?_
  rintro e w1 ⟨v, rfl, hv, hb1⟩
  replace j1 := j1.step hb1
  have hB1 := hid (bthen hb0 hb1 (Nat.le_refl _))
  rw [show toZ false 5 / ((1 : Nat) : Int) = 5 from rfl] at hv
  obtain ⟨A1, n1, c1, rfl, hn1⟩ := hv
  rw [show decide ((5 : Int) < 0) = false from rfl]
  have hqb := (Below.refl w1.heap.size w1).alloc (Nat.le_refl _) (.cells #[.bool false, .slice A1 n1 c1] 24)
  replace j1 := j1.alloc (.cells #[.bool false, .slice A1 n1 c1] 24)
  have hn2 := hn1.below hqb
  have hB2 := hid (bthen hB1.out hqb (Nat.le_refl _))
  clear hqb hn1 hb1 h0 hb0
  go_wp2_with fail
  refine (Small_nat A1 n1 c1 5 _ hn2.raw (by decide)).mono ?_
  rintro e w2 ⟨rfl, hb2⟩
  replace j1 := j1.step hb2
  have hB3 := hid (bthen hB2.out hb2 (Nat.le_refl _))
  obtain ⟨x0, x1, -, -⟩ := j1.c2
  have hlw := j1.lt
  go_wp2_with fail
  have hz := Tryz.slices_BinarySearch_int b 0 2 2 [0, 10] 5 w2 (by decide) (by decide) (fun j hj => by
    have h2 : j = 0 ∨ j = 1 := by simp at hj; omega
    rcases h2 with rfl | rfl
    · exact (hB3.out.cell (p := ⟨b, 0, none⟩) hbl).trans hc0
    · exact (hB3.out.cell (p := ⟨b, 1, none⟩) hbl).trans hc1) (by decide)
  refine hz.mono ?_
  rintro e w3 ⟨rfl, q, rfl⟩
  have hB4 := hid (hB3.out.drewN' q)
  rw [show ((([0, 10] : List Int).take 2).countP (· < 5) : Int) = 1 from by decide, show (([0, 10] : List Int).take 2).contains 5 = false from by decide]
  go_wp2
  go_ret
  exact ⟨rfl, hB4.out⟩

end Go.Proofs.YtffipjofefemiaaGreatDoor

namespace Go.Proofs.YtffipjofefemiaaGreatDoor
open Go.RowKit Kb

/-- The curve of the example: starts 0 and 10 in block b, slopes 2 and 0 in block sb. -/
structure Crv (w : World) (b sb : Nat) (A1 : Option Addr) (n1 c1 : Nat) (B1 : Option Addr) (m1 d1 : Nat) (A2 : Option Addr) (n2 c2 : Nat) (B2 : Option Addr) (m2 d2 : Nat) : Prop where
  s0 : w.cell? ⟨b, 0, none⟩ = some (.int .i64 0)
  s1 : w.cell? ⟨b, 1, none⟩ = some (.int .i64 10)
  lb : b < w.heap.size
  ls : sb < w.heap.size
  p0 : w.cell? ⟨sb, 0, none⟩ = some (.bool false)
  p1 : w.cell? ⟨sb, 1, none⟩ = some (.slice A1 n1 c1)
  p2 : w.cell? ⟨sb, 2, none⟩ = some (.bool false)
  p3 : w.cell? ⟨sb, 3, none⟩ = some (.slice B1 m1 d1)
  p4 : w.cell? ⟨sb, 4, none⟩ = some (.bool false)
  p5 : w.cell? ⟨sb, 5, none⟩ = some (.slice A2 n2 c2)
  p6 : w.cell? ⟨sb, 6, none⟩ = some (.bool false)
  p7 : w.cell? ⟨sb, 7, none⟩ = some (.slice B2 m2 d2)
  na1 : Nm w (.slice A1 n1 c1) 2
  nb1 : Nm w (.slice B1 m1 d1) 1
  na2 : Nm w (.slice A2 n2 c2) 0
  nb2 : Nm w (.slice B2 m2 d2) 1
section
variable {w w' : World} {b sb n1 c1 m1 d1 n2 c2 m2 d2 : Nat} {A1 B1 A2 B2 : Option Addr}
theorem Crv.below (h : Crv w b sb A1 n1 c1 B1 m1 d1 A2 n2 c2 B2 m2 d2) (hb : Below w.heap.size w w') : Crv w' b sb A1 n1 c1 B1 m1 d1 A2 n2 c2 B2 m2 d2 :=
  ⟨(hb.cell (p := ⟨b, 0, none⟩) h.lb).trans h.s0, (hb.cell (p := ⟨b, 1, none⟩) h.lb).trans h.s1, Nat.lt_of_lt_of_le h.lb hb.size, Nat.lt_of_lt_of_le h.ls hb.size,
   (hb.cell (p := ⟨sb, 0, none⟩) h.ls).trans h.p0, (hb.cell (p := ⟨sb, 1, none⟩) h.ls).trans h.p1, (hb.cell (p := ⟨sb, 2, none⟩) h.ls).trans h.p2, (hb.cell (p := ⟨sb, 3, none⟩) h.ls).trans h.p3,
   (hb.cell (p := ⟨sb, 4, none⟩) h.ls).trans h.p4, (hb.cell (p := ⟨sb, 5, none⟩) h.ls).trans h.p5, (hb.cell (p := ⟨sb, 6, none⟩) h.ls).trans h.p6, (hb.cell (p := ⟨sb, 7, none⟩) h.ls).trans h.p7,
   h.na1.below hb, h.nb1.below hb, h.na2.below hb, h.nb2.below hb⟩
end

set_option maxRecDepth 100000 in
set_option maxHeartbeats 4000000 in
theorem CheckCurve_ex (b sb sc n1 c1 m1 d1 n2 c2 m2 d2 : Nat) (A1 B1 A2 B2 : Option Addr) (w : World) (h : Crv w b sb A1 n1 c1 B1 m1 d1 A2 n2 c2 B2 m2 d2) :
    Calls Tryz.prog 39 #[.agg #[.slice (some ⟨b, 0, none⟩) 2 2, .slice (some ⟨sb, 0, none⟩) 2 sc]] w fun e w' => e = .returned (.int .i64 0) ∧ Below w.heap.size w w' := by
  have hb0 := (Below.refl w.heap.size w).alloc (Nat.le_refl _) (.cells #[.slice (some ⟨b, 0, none⟩) 2 2, .slice (some ⟨sb, 0, none⟩) 2 sc] 48)
  have j1 := Bk.of_alloc w (.cells #[.slice (some ⟨b, 0, none⟩) 2 2, .slice (some ⟨sb, 0, none⟩) 2 sc] 48) rfl
  have h0 := h.below hb0
  obtain ⟨g, hg⟩ : ∃ g, w.heap.size = g := ⟨_, rfl⟩
  go_enter Tryz.func39, Tryz.ntmps39
  go_wp2
  rw [hg] at j1
  generalize w.alloc (.cells #[.slice (some ⟨b, 0, none⟩) 2 2, .slice (some ⟨sb, 0, none⟩) 2 sc] 48) = W0 at *
  go_loopw [19] (fun iv wr => ∃ (k : Nat), k ≤ 2 ∧ iv = .int .i64 k ∧ Below W0.heap.size W0 wr) (fun iv _ => 2 - (intOf iv).toNat)
  case atStart => exact ⟨0, Nat.zero_le _, rfl, Below.refl _ _⟩
  case round =>
    obtain ⟨k, hk, rfl, hbel⟩ := hrel
    have hw := h0.below hbel
    have j2 := j1.step hbel
    obtain ⟨x0, x1, -, -⟩ := j2.c2
    match k, hk with
    | 0, _ =>
      have e0 := hw.s0
      have e1 := hw.s1
      have c0 := hw.p0
      have c1 := hw.p1
      have c2 := hw.p2
      have c3 := hw.p3
      go_wp2_with fail
      refine (ratSign_pos false A1 B1 _ _ _ _ 2 1 wr hw.na1.raw hw.nb1.raw (by decide)).mono ?_
      rintro e w2 ⟨rfl, hb2⟩
      have j3 := j2.step hb2
      have hw2 := hw.below hb2
      have hB2 := hid (hbel.trans (hb2.mono hbel.size))
      obtain ⟨x2, x3, -, -⟩ := j3.c2
      rw [show (toZ false 2).sign = 1 from rfl]
      have f0 := hw2.s0
      have f1 := hw2.s1
      clear e0 e1 c0 c1 c2 c3 x0 x1
      go_wp2
      go_roundw
      case rel => exact ⟨1, by omega, rfl, hB2.out⟩
      case measure => simp [intOf]
    | 1, _ =>
      have e0 := hw.s0
      have e1 := hw.s1
      have c0 := hw.p4
      have c1 := hw.p5
      have c2 := hw.p6
      have c3 := hw.p7
      go_wp2_with fail
      refine (ratSign_pos false A2 B2 _ _ _ _ 0 1 wr hw.na2.raw hw.nb2.raw (by decide)).mono ?_
      rintro e w2 ⟨rfl, hb2⟩
      have j3 := j2.step hb2
      have hw2 := hw.below hb2
      have hB2 := hid (hbel.trans (hb2.mono hbel.size))
      obtain ⟨x2, x3, -, -⟩ := j3.c2
      rw [show (toZ false 0).sign = 0 from rfl]
      have f0 := hw2.s0
      have f1 := hw2.s1
      clear e0 e1 c0 c1 c2 c3 x0 x1
      go_wp2
      go_roundw
      case rel => exact ⟨2, by omega, rfl, hB2.out⟩
      case measure => simp [intOf]
    | 2, _ =>
      have hB2 := bthen hb0 hbel (Nat.le_refl _)
      go_wp2
      go_ret
      exact ⟨rfl, hB2⟩

end Go.Proofs.YtffipjofefemiaaGreatDoor
