/- The contracts of rise, along and Value at the curve and the number of the statements' example. -/
import Derived.Test.YtlfeendebbidhaaDoorCurve
namespace Go.Proofs.YtlfeendebbidhaaDoor
open Go.RowKit Kb

/-- A contract whose result is a fraction that is not negative, its fields written out. -/
theorem rz_nat {P : Program} {f : FuncId} {args : Array Value} {w : World} {a b : Nat} (h : Calls P f args w fun e w' => ∃ v, e = .returned v ∧ Rz w' v (a : Int) (b : Int) ∧ Below w.heap.size w w') :
    Calls P f args w fun e w' => ∃ A1 n1 c1 A2 n2 c2, e = .returned (.agg #[.bool false, .slice A1 n1 c1, .bool false, .slice A2 n2 c2]) ∧ Nm w' (.slice A1 n1 c1) a ∧ Nm w' (.slice A2 n2 c2) b ∧ Below w.heap.size w w' := by
  refine h.mono ?_
  rintro e w' ⟨v, rfl, ⟨s1, A1, n1, c1, s2, A2, n2, c2, rfl, h1, h2, h3, h4⟩, hb⟩
  rw [Int.natAbs_natCast] at h3 h4
  have e1 : s1 = false := by rw [h1.out]; exact decide_eq_false (by omega)
  have e2 : s2 = false := by rw [h2.out]; exact decide_eq_false (by omega)
  subst e1; subst e2
  exact ⟨A1, n1, c1, A2, n2, c2, rfl, h3, h4, hb⟩
theorem sub50 (C D E F : Option Addr) (n2 c2 m2 d2 n3 c3 m3 d3 : Nat) (w : World) (hc : Nm w (.slice C n2 c2) 0) (hd : Nm w (.slice D m2 d2) 1) (he : Nm w (.slice E n3 c3) 5) (hf : Nm w (.slice F m3 d3) 1) (hT : Tb w) :
    Calls Tryd.prog 29 #[.agg #[.bool false, .slice E n3 c3, .bool false, .slice F m3 d3], .agg #[.bool false, .slice C n2 c2, .bool false, .slice D m2 d2]] w fun e w' => ∃ v, e = .returned v ∧ Rz w' v ((5 : Nat) : Int) ((1 : Nat) : Int) ∧ Below w.heap.size w w' := by
  have := SubRat_same false false E F C D n3 c3 m3 d3 n2 c2 m2 d2 5 1 0 1 w (Nm.fr false he hf (by decide) (by decide) (by decide)) (Nm.fr false hc hd (by decide) (by decide) (by decide)) hT rfl (CD_one 5 (by decide))
  rw [rn_one, show (1 / Nat.gcd (toZ false 5 - toZ false 0).natAbs 1 : Nat) = 1 from by rw [Nat.gcd_one_right]] at this
  exact this
theorem prod25 (C D E F : Option Addr) (n2 c2 m2 d2 n3 c3 m3 d3 : Nat) (w : World) (hc : Nm w (.slice C n2 c2) 2) (hd : Nm w (.slice D m2 d2) 1) (he : Nm w (.slice E n3 c3) 5) (hf : Nm w (.slice F m3 d3) 1) :
    Calls Tryd.prog 59 #[.agg #[.bool false, .slice C n2 c2, .bool false, .slice D m2 d2], .agg #[.bool false, .slice E n3 c3, .bool false, .slice F m3 d3]] w fun e w' => ∃ v, e = .returned v ∧ Rz w' v ((10 : Nat) : Int) ((1 : Nat) : Int) ∧ Below w.heap.size w w' :=
  product_pos false false C D E F n2 c2 m2 d2 n3 c3 m3 d3 2 1 5 1 w (Nm.fr false hc hd (by decide) (by decide) (by decide)) (Nm.fr false he hf (by decide) (by decide) (by decide))

set_option maxRecDepth 100000 in
set_option maxHeartbeats 4000000 in
theorem rise_ex (A B C D E F : Option Addr) (n1 c1 m1 d1 n2 c2 m2 d2 n3 c3 m3 d3 : Nat) (w : World) (ha : Nm w (.slice A n1 c1) 2) (hb : Nm w (.slice B m1 d1) 1) (hc : Nm w (.slice C n2 c2) 0) (hd : Nm w (.slice D m2 d2) 1) (he : Nm w (.slice E n3 c3) 5) (hf : Nm w (.slice F m3 d3) 1) (hT : Tb w) :
    Calls Tryd.prog 67 #[.agg #[.bool false, .slice A n1 c1, .bool false, .slice B m1 d1], .agg #[.bool false, .slice C n2 c2, .bool false, .slice D m2 d2], .agg #[.bool false, .slice E n3 c3, .bool false, .slice F m3 d3]] w fun e w' => ∃ v, e = .returned v ∧ Rz w' v 10 1 ∧ Below w.heap.size w w' := by
  have k1 := three_new w (.cells #[.bool false, .slice A n1 c1, .bool false, .slice B m1 d1] 42) (.cells #[.bool false, .slice C n2 c2, .bool false, .slice D m2 d2] 42) (.cells #[.bool false, .slice E n3 c3, .bool false, .slice F m3 d3] 42)
  have hB := ((((Below.refl w.heap.size w).alloc (Nat.le_refl _) (.cells #[.bool false, .slice A n1 c1, .bool false, .slice B m1 d1] 42)).alloc (by simp) (.cells #[.bool false, .slice C n2 c2, .bool false, .slice D m2 d2] 42)).alloc (by simp; omega) (.cells #[.bool false, .slice E n3 c3, .bool false, .slice F m3 d3] 42)).alloc (by simp; omega) (.cells #[.bool false, .slice none 0 0, .bool false, .slice none 0 0] 42)
  have q1 := k1.1.alloc (.cells #[.bool false, .slice none 0 0, .bool false, .slice none 0 0] 42)
  have q2 := k1.2.1.alloc (.cells #[.bool false, .slice none 0 0, .bool false, .slice none 0 0] 42)
  have q3 := k1.2.2.alloc (.cells #[.bool false, .slice none 0 0, .bool false, .slice none 0 0] 42)
  have q4 := Bk.of_alloc (((w.alloc (.cells #[.bool false, .slice A n1 c1, .bool false, .slice B m1 d1] 42)).alloc (.cells #[.bool false, .slice C n2 c2, .bool false, .slice D m2 d2] 42)).alloc (.cells #[.bool false, .slice E n3 c3, .bool false, .slice F m3 d3] 42)) (.cells #[.bool false, .slice none 0 0, .bool false, .slice none 0 0] 42) (g := w.heap.size + 1 + 1 + 1) (by simp)
  obtain ⟨g, hg⟩ : ∃ g, w.heap.size = g := ⟨_, rfl⟩
  go_enter Tryd.func67, Tryd.ntmps67
  go_wp2_with fail
  rw [hg] at q1 q2 q3 q4
  generalize hW : (((w.alloc (.cells #[.bool false, .slice A n1 c1, .bool false, .slice B m1 d1] 42)).alloc (.cells #[.bool false, .slice C n2 c2, .bool false, .slice D m2 d2] 42)).alloc (.cells #[.bool false, .slice E n3 c3, .bool false, .slice F m3 d3] 42)).alloc (.cells #[.bool false, .slice none 0 0, .bool false, .slice none 0 0] 42) = W0 at *
  clear hW k1
  have ha' : Nm W0.drew (.slice A n1 c1) 2 := ha.below hB.drew
  have hb' : Nm W0.drew (.slice B m1 d1) 1 := hb.below hB.drew
  have hc' : Nm W0.drew (.slice C n2 c2) 0 := hc.below hB.drew
  have hd' : Nm W0.drew (.slice D m2 d2) 1 := hd.below hB.drew
  have he' : Nm W0.drew (.slice E n3 c3) 5 := he.below hB.drew
  have hf' : Nm W0.drew (.slice F m3 d3) 1 := hf.below hB.drew
  have T0 : Tb W0.drew := hT.below hB.drew
  have HB := hid hB.drew
  have Hg := hid hg
  have hl0 := q4.lt
  obtain ⟨u0, u1, u2, u3, -, -, -, -⟩ := q1.c4
  obtain ⟨u4, u5, u6, u7, -, -, -, -⟩ := q2.c4
  obtain ⟨u8, u9, u10, u11, -, -, -, -⟩ := q3.c4
  replace q1 : Bk W0.drew g _ := q1
  replace q2 : Bk W0.drew (g + 1) _ := q2
  replace q3 : Bk W0.drew (g + 1 + 1) _ := q3
  replace q4 : Bk W0.drew (g + 1 + 1 + 1) _ := q4
  clear ha hb hc hd he hf hT hB hg
  go_region_held3 (fun w' => w'.cell? ⟨g, 0, none⟩ = some (.bool false) ∧ w'.cell? ⟨g, 1, none⟩ = some (.slice A n1 c1) ∧ w'.cell? ⟨g, 2, none⟩ = some (.bool false) ∧ w'.cell? ⟨g, 3, none⟩ = some (.slice B m1 d1) ∧ w'.cell? ⟨g + 1, 0, none⟩ = some (.bool false) ∧ w'.cell? ⟨g + 1, 1, none⟩ = some (.slice C n2 c2) ∧ w'.cell? ⟨g + 1, 2, none⟩ = some (.bool false) ∧ w'.cell? ⟨g + 1, 3, none⟩ = some (.slice D m2 d2) ∧ w'.cell? ⟨g + 1 + 1, 0, none⟩ = some (.bool false) ∧ w'.cell? ⟨g + 1 + 1, 1, none⟩ = some (.slice E n3 c3) ∧ w'.cell? ⟨g + 1 + 1, 2, none⟩ = some (.bool false) ∧ w'.cell? ⟨g + 1 + 1, 3, none⟩ = some (.slice F m3 d3)) (first | exact ⟨u0, u1, u2, u3, u4, u5, u6, u7, u8, u9, u10, u11⟩ | exact ⟨y0, y1, y2, y3, y4, y5, y6, y7, y8, y9, y10, y11⟩ | exact ⟨z0, z1, z2, z3, z4, z5, z6, z7, z8, z9, z10, z11⟩ | exact ⟨off_four (by omega) z0, off_four (by omega) z1, off_four (by omega) z2, off_four (by omega) z3, off_four (by omega) z4, off_four (by omega) z5, off_four (by omega) z6, off_four (by omega) z7, off_four (by omega) z8, off_four (by omega) z9, off_four (by omega) z10, off_four (by omega) z11⟩) (first
    | (go_at_call 29; with_reducible refine (rz_nat (sub50 C D E F n2 c2 m2 d2 n3 c3 m3 d3 W0.drew hc' hd' he' hf' T0)).mono ?_; rintro e w1 ⟨A4, n4, c4, A5, n5, c5, rfl, hn4, hn5, hb4⟩; replace q1 := q1.step hb4; replace q2 := q2.step hb4; replace q3 := q3.step hb4; replace q4 := q4.step hb4; obtain ⟨y0, y1, y2, y3, -, -, -, -⟩ := q1.c4; obtain ⟨y4, y5, y6, y7, -, -, -, -⟩ := q2.c4; obtain ⟨y8, y9, y10, y11, -, -, -, -⟩ := q3.c4)
    | (go_at_call 59; with_reducible refine (rz_nat (prod25 A B A4 A5 n1 c1 m1 d1 n4 c4 n5 c5 w1 (ha'.below hb4) (hb'.below hb4) hn4 hn5)).mono ?_; rintro e w2 ⟨A6, n6, c6, A7, n7, c7, rfl, hn6, hn7, hb5⟩; replace q1 := q1.step hb5; replace q2 := q2.step hb5; replace q3 := q3.step hb5; replace q4 := q4.step hb5; obtain ⟨z0, z1, z2, z3, -, -, -, -⟩ := q1.c4; obtain ⟨z4, z5, z6, z7, -, -, -, -⟩ := q2.c4; obtain ⟨z8, z9, z10, z11, -, -, -, -⟩ := q3.c4; have hl5 := q4.lt; obtain ⟨i0, i1, i2, i3, i4, i5, i6, i7⟩ := q4.c4))
  have h5 := bthen (bthen HB.out hb4 (Nat.le_refl _)) hb5 (Nat.le_refl _)
  have hgl := Hg.out
  have h11 := hid (below4 h5 (show w.heap.size ≤ g + 1 + 1 + 1 by omega) (.bool false) (.slice A6 n6 c6) (.bool false) (.slice A7 n7 c7))
  have m1' := hid (hn6.offbox q4 (noInt_four _ _ _ _ _ _ _ _) (gb4 _ _ (.bool false) (.slice A6 n6 c6) (.bool false) (.slice A7 n7 c7)))
  have m2' := hid (hn7.offbox q4 (noInt_four _ _ _ _ _ _ _ _) (gb4 _ _ (.bool false) (.slice A6 n6 c6) (.bool false) (.slice A7 n7 c7)))
  clear u0 u1 u2 u3 u4 u5 u6 u7 u8 u9 u10 u11 y0 y1 y2 y3 y4 y5 y6 y7 y8 y9 y10 y11 z0 z1 z2 z3 z4 z5 z6 z7 z8 z9 z10 z11 hgl h5 q1 q2 q3 q4 hn4 hn5 hn6 hn7 hb4 hb5 ha' hb' hc' hd' he' hf'
  go_wp2
  exact bodyPost_ret (v := .agg #[.bool false, .slice A6 n6 c6, .bool false, .slice A7 n7 c7]) (by simp [results, Tryd.results67, go_sem, i0, i1, i2, i3]) rfl ⟨_, rfl, ⟨false, A6, n6, c6, false, A7, n7, c7, rfl, hid rfl, hid rfl, m1'.out, m2'.out⟩, h11.out⟩

end Go.Proofs.YtlfeendebbidhaaDoor
