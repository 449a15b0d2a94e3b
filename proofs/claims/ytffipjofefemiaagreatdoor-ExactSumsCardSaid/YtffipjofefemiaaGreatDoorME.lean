/- The contracts of the curve of the examples, of awake; integers in whatever form. -/
import Derived.Test.YtffipjofefemiaaGreatDoorMD
import Derived.Test.YtffipjofefemiaaGreatDoorMB
import Derived.Maps.AppendAt
import Derived.Deep.AppendLies
import Derived.Deep.DeepCutAuto
namespace Go.Proofs.YtffipjofefemiaaGreatDoor
open Go.RowKit Kb

/-- A contract whose result is a fraction that is not negative, its fields written out. -/
theorem rz_nat {P : Program} {f : FuncId} {args : Array Value} {w : World} {a b : Nat} (h : Calls P f args w fun e w' => ∃ v, e = .returned v ∧ Rz w' v (a : Int) (b : Int) ∧ Below w.heap.size w w') :
    Calls P f args w fun e w' => ∃ A1 n1 c1 A2 n2 c2, e = .returned (.agg #[.bool false, .slice A1 n1 c1, .bool false, .slice A2 n2 c2]) ∧ Nm w' (.slice A1 n1 c1) a ∧ Nm w' (.slice A2 n2 c2) b ∧ Below w.heap.size w w' := by
  refine h.mono ?_
  rintro e w' ⟨v, rfl, ⟨s1, A1, n1, c1, s2, A2, n2, c2, rfl, h1, h2, h3, h4⟩, hb⟩
  rw [Int.natAbs_natCast] at h3 h4
  have e1 : s1 = false := by rw [h1.out]; exact decide_eq_false (by omega)
  have e2 : s2 = false := by rw [h2.out]; exact decide_eq_false (by omega)
  subst e1; subst e2
  exact ⟨A1, n1, c1, A2, n2, c2, rfl, h3, h4, hb⟩
theorem sub50 (C D E F : Option Addr) (n2 c2 m2 d2 n3 c3 m3 d3 : Nat) (w : World) (hc : Nm w (.slice C n2 c2) 0) (hd : Nm w (.slice D m2 d2) 1) (he : Nm w (.slice E n3 c3) 5) (hf : Nm w (.slice F m3 d3) 1) (hT : Tb w) :
    Calls Tryz.prog 19 #[.agg #[.bool false, .slice E n3 c3, .bool false, .slice F m3 d3], .agg #[.bool false, .slice C n2 c2, .bool false, .slice D m2 d2]] w fun e w' => ∃ v, e = .returned v ∧ Rz w' v ((5 : Nat) : Int) ((1 : Nat) : Int) ∧ Below w.heap.size w w' := by
  have := SubRat_same false false E F C D n3 c3 m3 d3 n2 c2 m2 d2 5 1 0 1 w (Nm.fr false he hf (by decide) (by decide) (by decide)) (Nm.fr false hc hd (by decide) (by decide) (by decide)) hT rfl (CD_one 5 (by decide))
  rw [rn_one, show (1 / Nat.gcd (toZ false 5 - toZ false 0).natAbs 1 : Nat) = 1 from by rw [Nat.gcd_one_right]] at this
  exact this
theorem prod25 (C D E F : Option Addr) (n2 c2 m2 d2 n3 c3 m3 d3 : Nat) (w : World) (hc : Nm w (.slice C n2 c2) 2) (hd : Nm w (.slice D m2 d2) 1) (he : Nm w (.slice E n3 c3) 5) (hf : Nm w (.slice F m3 d3) 1) :
    Calls Tryz.prog 72 #[.agg #[.bool false, .slice C n2 c2, .bool false, .slice D m2 d2], .agg #[.bool false, .slice E n3 c3, .bool false, .slice F m3 d3]] w fun e w' => ∃ v, e = .returned v ∧ Rz w' v ((10 : Nat) : Int) ((1 : Nat) : Int) ∧ Below w.heap.size w w' :=
  product_pos false false C D E F n2 c2 m2 d2 n3 c3 m3 d3 2 1 5 1 w (Nm.fr false hc hd (by decide) (by decide) (by decide)) (Nm.fr false he hf (by decide) (by decide) (by decide))

set_option maxRecDepth 100000 in
set_option maxHeartbeats 4000000 in
theorem rise_ex (A B C D E F : Option Addr) (n1 c1 m1 d1 n2 c2 m2 d2 n3 c3 m3 d3 : Nat) (w : World) (ha : Nm w (.slice A n1 c1) 2) (hb : Nm w (.slice B m1 d1) 1) (hc : Nm w (.slice C n2 c2) 0) (hd : Nm w (.slice D m2 d2) 1) (he : Nm w (.slice E n3 c3) 5) (hf : Nm w (.slice F m3 d3) 1) (hT : Tb w) :
    Calls Tryz.prog 81 #[.agg #[.bool false, .slice A n1 c1, .bool false, .slice B m1 d1], .agg #[.bool false, .slice C n2 c2, .bool false, .slice D m2 d2], .agg #[.bool false, .slice E n3 c3, .bool false, .slice F m3 d3]] w fun e w' => ∃ v, e = .returned v ∧ Rz w' v 10 1 ∧ Below w.heap.size w w' := by
  have k1 := three_new w (.cells #[.bool false, .slice A n1 c1, .bool false, .slice B m1 d1] 26) (.cells #[.bool false, .slice C n2 c2, .bool false, .slice D m2 d2] 26) (.cells #[.bool false, .slice E n3 c3, .bool false, .slice F m3 d3] 26)
  have hB := ((((Below.refl w.heap.size w).alloc (Nat.le_refl _) (.cells #[.bool false, .slice A n1 c1, .bool false, .slice B m1 d1] 26)).alloc (by simp) (.cells #[.bool false, .slice C n2 c2, .bool false, .slice D m2 d2] 26)).alloc (by simp; omega) (.cells #[.bool false, .slice E n3 c3, .bool false, .slice F m3 d3] 26)).alloc (by simp; omega) (.cells #[.bool false, .slice none 0 0, .bool false, .slice none 0 0] 26)
  have q1 := k1.1.alloc (.cells #[.bool false, .slice none 0 0, .bool false, .slice none 0 0] 26)
  have q2 := k1.2.1.alloc (.cells #[.bool false, .slice none 0 0, .bool false, .slice none 0 0] 26)
  have q3 := k1.2.2.alloc (.cells #[.bool false, .slice none 0 0, .bool false, .slice none 0 0] 26)
  have q4 := Bk.of_alloc (((w.alloc (.cells #[.bool false, .slice A n1 c1, .bool false, .slice B m1 d1] 26)).alloc (.cells #[.bool false, .slice C n2 c2, .bool false, .slice D m2 d2] 26)).alloc (.cells #[.bool false, .slice E n3 c3, .bool false, .slice F m3 d3] 26)) (.cells #[.bool false, .slice none 0 0, .bool false, .slice none 0 0] 26) (g := w.heap.size + 1 + 1 + 1) (by simp)
  obtain ⟨g, hg⟩ : ∃ g, w.heap.size = g := ⟨_, rfl⟩
  go_enter Tryz.func81, Tryz.ntmps81
  go_wp2_with fail
  rw [hg] at q1 q2 q3 q4
  generalize hW : (((w.alloc (.cells #[.bool false, .slice A n1 c1, .bool false, .slice B m1 d1] 26)).alloc (.cells #[.bool false, .slice C n2 c2, .bool false, .slice D m2 d2] 26)).alloc (.cells #[.bool false, .slice E n3 c3, .bool false, .slice F m3 d3] 26)).alloc (.cells #[.bool false, .slice none 0 0, .bool false, .slice none 0 0] 26) = W0 at *
  clear hW k1
  have ha' : Nm W0.drew (.slice A n1 c1) 2 := ha.below hB.drew
  have hb' : Nm W0.drew (.slice B m1 d1) 1 := hb.below hB.drew
  have hc' : Nm W0.drew (.slice C n2 c2) 0 := hc.below hB.drew
  have hd' : Nm W0.drew (.slice D m2 d2) 1 := hd.below hB.drew
  have he' : Nm W0.drew (.slice E n3 c3) 5 := he.below hB.drew
  have hf' : Nm W0.drew (.slice F m3 d3) 1 := hf.below hB.drew
  have T0 : Tb W0.drew := hT.below hB.drew
  have HB := hid hB.drew
  have Hg := hid hg
  have hl0 := q4.lt
  obtain ⟨u0, u1, u2, u3, -, -, -, -⟩ := q1.c4
  obtain ⟨u4, u5, u6, u7, -, -, -, -⟩ := q2.c4
  obtain ⟨u8, u9, u10, u11, -, -, -, -⟩ := q3.c4
  replace q1 : Bk W0.drew g _ := q1
  replace q2 : Bk W0.drew (g + 1) _ := q2
  replace q3 : Bk W0.drew (g + 1 + 1) _ := q3
  replace q4 : Bk W0.drew (g + 1 + 1 + 1) _ := q4
  clear ha hb hc hd he hf hT hB hg
  go_region_held3 (fun w' => w'.cell? ⟨g, 0, none⟩ = some (.bool false) ∧ w'.cell? ⟨g, 1, none⟩ = some (.slice A n1 c1) ∧ w'.cell? ⟨g, 2, none⟩ = some (.bool false) ∧ w'.cell? ⟨g, 3, none⟩ = some (.slice B m1 d1) ∧ w'.cell? ⟨g + 1, 0, none⟩ = some (.bool false) ∧ w'.cell? ⟨g + 1, 1, none⟩ = some (.slice C n2 c2) ∧ w'.cell? ⟨g + 1, 2, none⟩ = some (.bool false) ∧ w'.cell? ⟨g + 1, 3, none⟩ = some (.slice D m2 d2) ∧ w'.cell? ⟨g + 1 + 1, 0, none⟩ = some (.bool false) ∧ w'.cell? ⟨g + 1 + 1, 1, none⟩ = some (.slice E n3 c3) ∧ w'.cell? ⟨g + 1 + 1, 2, none⟩ = some (.bool false) ∧ w'.cell? ⟨g + 1 + 1, 3, none⟩ = some (.slice F m3 d3)) (first | exact ⟨u0, u1, u2, u3, u4, u5, u6, u7, u8, u9, u10, u11⟩ | exact ⟨y0, y1, y2, y3, y4, y5, y6, y7, y8, y9, y10, y11⟩ | exact ⟨z0, z1, z2, z3, z4, z5, z6, z7, z8, z9, z10, z11⟩ | exact ⟨off_four (by omega) z0, off_four (by omega) z1, off_four (by omega) z2, off_four (by omega) z3, off_four (by omega) z4, off_four (by omega) z5, off_four (by omega) z6, off_four (by omega) z7, off_four (by omega) z8, off_four (by omega) z9, off_four (by omega) z10, off_four (by omega) z11⟩) (first
    | (go_at_call 19; with_reducible refine (rz_nat (sub50 C D E F n2 c2 m2 d2 n3 c3 m3 d3 W0.drew hc' hd' he' hf' T0)).mono ?_; rintro e w1 ⟨A4, n4, c4, A5, n5, c5, rfl, hn4, hn5, hb4⟩; replace q1 := q1.step hb4; replace q2 := q2.step hb4; replace q3 := q3.step hb4; replace q4 := q4.step hb4; obtain ⟨y0, y1, y2, y3, -, -, -, -⟩ := q1.c4; obtain ⟨y4, y5, y6, y7, -, -, -, -⟩ := q2.c4; obtain ⟨y8, y9, y10, y11, -, -, -, -⟩ := q3.c4)
    | (go_at_call 72; with_reducible refine (rz_nat (prod25 A B A4 A5 n1 c1 m1 d1 n4 c4 n5 c5 w1 (ha'.below hb4) (hb'.below hb4) hn4 hn5)).mono ?_; rintro e w2 ⟨A6, n6, c6, A7, n7, c7, rfl, hn6, hn7, hb5⟩; replace q1 := q1.step hb5; replace q2 := q2.step hb5; replace q3 := q3.step hb5; replace q4 := q4.step hb5; obtain ⟨z0, z1, z2, z3, -, -, -, -⟩ := q1.c4; obtain ⟨z4, z5, z6, z7, -, -, -, -⟩ := q2.c4; obtain ⟨z8, z9, z10, z11, -, -, -, -⟩ := q3.c4; have hl5 := q4.lt; obtain ⟨i0, i1, i2, i3, i4, i5, i6, i7⟩ := q4.c4))
  have h5 := bthen (bthen HB.out hb4 (Nat.le_refl _)) hb5 (Nat.le_refl _)
  have hgl := Hg.out
  have h11 := hid (below4 h5 (show w.heap.size ≤ g + 1 + 1 + 1 by omega) (.bool false) (.slice A6 n6 c6) (.bool false) (.slice A7 n7 c7))
  have m1' := hid (hn6.offbox q4 (noInt_four _ _ _ _ _ _ _ _) (gb4 _ _ (.bool false) (.slice A6 n6 c6) (.bool false) (.slice A7 n7 c7)))
  have m2' := hid (hn7.offbox q4 (noInt_four _ _ _ _ _ _ _ _) (gb4 _ _ (.bool false) (.slice A6 n6 c6) (.bool false) (.slice A7 n7 c7)))
  clear u0 u1 u2 u3 u4 u5 u6 u7 u8 u9 u10 u11 y0 y1 y2 y3 y4 y5 y6 y7 y8 y9 y10 y11 z0 z1 z2 z3 z4 z5 z6 z7 z8 z9 z10 z11 hgl h5 q1 q2 q3 q4 hn4 hn5 hn6 hn7 hb4 hb5 ha' hb' hc' hd' he' hf'
  go_wp2
  exact bodyPost_ret (v := .agg #[.bool false, .slice A6 n6 c6, .bool false, .slice A7 n7 c7]) (by simp [results, Tryz.results81, go_sem, i0, i1, i2, i3]) rfl ⟨_, rfl, ⟨false, A6, n6, c6, false, A7, n7, c7, rfl, hid rfl, hid rfl, m1'.out, m2'.out⟩, h11.out⟩

end Go.Proofs.YtffipjofefemiaaGreatDoor

namespace Go.Proofs.YtffipjofefemiaaGreatDoor
open Go.RowKit Kb

/-- What the loop of along holds: before the one part, and behind it. -/
def AlongRel (W1 w : World) (g gt : Nat) (iv : Value) (wr : World) : Prop :=
  (iv = .int .i64 0 ∧ wr = W1) ∨ (iv = .int .i64 1 ∧ Tot wr gt 10 ∧ Below w.heap.size w wr ∧ Tb wr ∧ Bk wr (g + 1 + 1) (.cells #[.bool false, .slice none 0 0, .bool false, .slice none 0 0] 26))
theorem rise_exn (A B C D E F : Option Addr) (n1 c1 m1 d1 n2 c2 m2 d2 n3 c3 m3 d3 : Nat) (w : World) (ha : Nm w (.slice A n1 c1) 2) (hb : Nm w (.slice B m1 d1) 1) (hc : Nm w (.slice C n2 c2) 0) (hd : Nm w (.slice D m2 d2) 1) (he : Nm w (.slice E n3 c3) 5) (hf : Nm w (.slice F m3 d3) 1) (hT : Tb w) :
    Calls Tryz.prog 81 #[.agg #[.bool false, .slice A n1 c1, .bool false, .slice B m1 d1], .agg #[.bool false, .slice C n2 c2, .bool false, .slice D m2 d2], .agg #[.bool false, .slice E n3 c3, .bool false, .slice F m3 d3]] w fun e w' => ∃ v, e = .returned v ∧ Rz w' v ((10 : Nat) : Int) ((1 : Nat) : Int) ∧ Below w.heap.size w w' :=
  rise_ex A B C D E F n1 c1 m1 d1 n2 c2 m2 d2 n3 c3 m3 d3 w ha hb hc hd he hf hT
theorem number_0 (w : World) :
    Calls Tryz.prog 87 #[.int .i64 0] w fun e w' => ∃ v, e = .returned v ∧ Rz w' v ((0 : Nat) : Int) ((1 : Nat) : Int) ∧ Below w.heap.size w w' := number_any 0 w (by decide) (by decide)
theorem total_add10 (g : Nat) (A B : Option Addr) (n c m d : Nat) (w : World) (h : Tot w g 0) (k : Nm w (.slice A n c) 10) (kd : Nm w (.slice B m d) 1) :
    Calls Tryz.prog 121 #[.pointer (some ⟨g, 0, none⟩), .agg #[.bool false, .slice A n c, .bool false, .slice B m d]] w fun e w' => e = .returned (.tuple #[]) ∧ Tot w' g 10 ∧ w.grownBy w' (some g) :=
  total_add g 0 10 false A B n c m d w h k (hid rfl) kd (by rw [show (0 : Int).natAbs = 0 from rfl, dig_zero]; decide) (by rw [show (10 : Int).natAbs = 10 from rfl, dig_small (by decide) (by decide)]; decide)
theorem total_value10 (g : Nat) (w : World) (h : Tot w g 10) (hT : Tb w) :
    Calls Tryz.prog 122 #[.pointer (some ⟨g, 0, none⟩)] w fun e w' => ∃ v, e = .returned v ∧ Rz w' v ((10 : Nat) : Int) ((1 : Nat) : Int) ∧ Below w.heap.size w w' :=
  total_value g 10 w h (by decide) hT (by rw [show (10 : Int).natAbs = 10 from rfl, dig_small (by decide) (by decide)]; decide)
theorem Bk.grown {w w' : World} {g r : Nat} {o : Obj} (h : Bk w g o) (hb : w.grownBy w' (some r)) (hne : g ≠ r) : Bk w' g o := (hb.block g h.lt (fun e => hne (by injection e))).trans h
theorem gb_cell {w w' : World} {r g i : Nat} {v : Value} (h : w.grownBy w' (some r)) (hc : w.cell? ⟨g, i, none⟩ = some v) (hne : g ≠ r) : w'.cell? ⟨g, i, none⟩ = some v := h.cell hc (by simpa using hne)

set_option maxRecDepth 100000 in
set_option maxHeartbeats 4000000 in
theorem along_ex (b sb sc n1 c1 m1 d1 n2 c2 m2 d2 : Nat) (A1 B1 A2 B2 A B : Option Addr) (n c m d : Nat) (w : World) (h : Crv w b sb A1 n1 c1 B1 m1 d1 A2 n2 c2 B2 m2 d2) (hn : Nm w (.slice A n c) 5) (hd : Nm w (.slice B m d) 1) (hT : Tb w) :
    Calls Tryz.prog 80 #[.agg #[.slice (some ⟨b, 0, none⟩) 2 2, .slice (some ⟨sb, 0, none⟩) 2 sc], .agg #[.bool false, .slice A n c, .bool false, .slice B m d], .func (.func 81) #[] #[]] w fun e w' => ∃ v, e = .returned v ∧ Rz w' v 10 1 ∧ Below w.heap.size w w' := by
  have b0 := three_new w (.cells #[.slice (some ⟨b, 0, none⟩) 2 2, .slice (some ⟨sb, 0, none⟩) 2 sc] 48) (.cells #[.bool false, .slice A n c, .bool false, .slice B m d] 26) (.cells #[.bool false, .slice none 0 0, .bool false, .slice none 0 0] 26)
  have hB := (((Below.refl w.heap.size w).alloc (Nat.le_refl _) (.cells #[.slice (some ⟨b, 0, none⟩) 2 2, .slice (some ⟨sb, 0, none⟩) 2 sc] 48)).alloc (by simp) (.cells #[.bool false, .slice A n c, .bool false, .slice B m d] 26)).alloc (by simp; omega) (.cells #[.bool false, .slice none 0 0, .bool false, .slice none 0 0] 26)
  obtain ⟨g, hg⟩ : ∃ g, w.heap.size = g := ⟨_, rfl⟩
  go_enter Tryz.func80, Tryz.ntmps80
  go_wp2_with fail
  rw [hg] at b0
  generalize ((w.alloc (.cells #[.slice (some ⟨b, 0, none⟩) 2 2, .slice (some ⟨sb, 0, none⟩) 2 sc] 48)).alloc (.cells #[.bool false, .slice A n c, .bool false, .slice B m d] 26)).alloc (.cells #[.bool false, .slice none 0 0, .bool false, .slice none 0 0] 26) = W0 at *
  have h0 := h.below hB
  have hn0 := hn.below hB
  have hd0 := hd.below hB
  have T0 := hT.below hB
  have HB := hid hB
  have Hg := hid hg
  have hTl := hT.2
  obtain ⟨a0, a1, a2⟩ := b0
  have a2lt := a2.lt
  clear hB hg h hn hd hT
  refine (newTotal_any _).mono ?_
  rintro e w1 ⟨gt, rfl, hgt, ht1, hb1⟩
  replace a0 := a0.step hb1
  replace a1 := a1.step hb1
  replace a2 := a2.step hb1
  have h1 := h0.below hb1
  have hn1' := hn0.below hb1
  have hd1' := hd0.below hb1
  have T1 := T0.below hb1
  have HB1 := hid (bthen HB.out hb1 (Nat.le_refl _))
  have Hgt := hid (show b < gt ∧ sb < gt ∧ w.heap.size ≤ gt ∧ g + 1 + 1 < gt from ⟨Nat.lt_of_lt_of_le h0.lb hgt, Nat.lt_of_lt_of_le h0.ls hgt, Nat.le_trans HB.out.size hgt, Nat.lt_of_lt_of_le a2lt hgt⟩)
  obtain ⟨x0, x1, -, -⟩ := a0.c2
  obtain ⟨x2, x3, x4, x5, -, -, -, -⟩ := a1.c4
  clear h0 hn0 hd0 T0 hb1 hgt
  go_wp2_with fail
  refine (startsUpTo_5 b (some ⟨sb, 0, none⟩) 2 sc A B n c m d _ h1.s0 h1.s1 h1.lb hn1' hd1').mono ?_
  rintro e w2 ⟨rfl, hb2⟩
  replace a0 := a0.step hb2
  replace a1 := a1.step hb2
  replace a2 := a2.step hb2
  have h2 := h1.below hb2
  have hn2' := hn1'.below hb2
  have hd2' := hd1'.below hb2
  have T2 := T1.below hb2
  have ht2 := ht1.below hb2
  have HB2 := hid (bthen HB1.out hb2 (Nat.le_refl _))
  clear x0 x1 x2 x3 x4 x5 h1 hn1' hd1' T1 ht1 hb2 HB1 HB
  go_wp2
  obtain ⟨u0, u1, -, -⟩ := a0.c2
  obtain ⟨u2, u3, u4, u5, -, -, -, -⟩ := a1.c4
  have hgl := Hg.out
  have hgt0 := Hgt.out
  go_loopw [16] (fun iv wr => AlongRel w2 w g gt iv wr) (fun iv _ => 1 - (intOf iv).toNat)
  case atStart => exact .inl ⟨rfl, rfl⟩
  case round =>
    rcases hrel with ⟨rfl, rfl⟩ | ⟨rfl, ht5, hbel5, T5, a5⟩
    · have hq := (Below.refl wr.heap.size wr).alloc (Nat.le_refl _) (.cells #[.bool false, .slice A n c, .bool false, .slice B m d] 26)
      have j4 := Bk.of_alloc wr (.cells #[.bool false, .slice A n c, .bool false, .slice B m d] 26) rfl
      have j0 := a0.alloc (.cells #[.bool false, .slice A n c, .bool false, .slice B m d] 26)
      have j2 := a2.alloc (.cells #[.bool false, .slice A n c, .bool false, .slice B m d] 26)
      have hltg := ht2.lt
      have Hne := hid (show g ≠ gt ∧ b ≠ gt ∧ sb ≠ gt ∧ wr.heap.size ≠ gt ∧ g + 1 + 1 ≠ gt ∧ 0 ≠ gt from by have := a2.lt; have := hgt0; have := hTl; omega)
      obtain ⟨tb, htb⟩ : ∃ tb, wr.heap.size = tb := ⟨_, rfl⟩
      go_wp2_with fail
      rw [htb] at j4
      generalize hW : wr.alloc (.cells #[.bool false, .slice A n c, .bool false, .slice B m d] 26) = W3 at *
      clear hW
      have h3 := h2.below hq.drew
      have t3 := ht2.below hq.drew
      have T3 := T2.below hq.drew
      have hn3 := hn2'.below hq.drew
      have hd3 := hd2'.below hq.drew
      have HB3 := hid (bthen HB2.out hq.drew (Nat.le_refl _))
      have Htb := hid htb
      replace j0 : Bk W3.drew g _ := j0
      replace j2 : Bk W3.drew (g + 1 + 1) _ := j2
      replace j4 : Bk W3.drew tb _ := j4
      obtain ⟨x0, x1, -, -⟩ := j0.c2
      obtain ⟨x2, x3, x4, x5, -, -, -, -⟩ := j4.c4
      have x6 := h3.p0
      have x7 := h3.p1
      have x8 := h3.p2
      have x9 := h3.p3
      have x10 := h3.s0
      clear hq htb h2 hn2' hd2' ht2 T2 a0 a1 a2 u0 u1 u2 u3 u4 u5
      go_region_held3 (fun w' => w'.cell? ⟨g, 0, none⟩ = some (.slice (some ⟨b, 0, none⟩) 2 2) ∧ w'.cell? ⟨g, 1, none⟩ = some (.slice (some ⟨sb, 0, none⟩) 2 sc) ∧ w'.cell? ⟨tb, 0, none⟩ = some (.bool false) ∧ w'.cell? ⟨tb, 1, none⟩ = some (.slice A n c) ∧ w'.cell? ⟨tb, 2, none⟩ = some (.bool false) ∧ w'.cell? ⟨tb, 3, none⟩ = some (.slice B m d) ∧ w'.cell? ⟨sb, 0, none⟩ = some (.bool false) ∧ w'.cell? ⟨sb, 1, none⟩ = some (.slice A1 n1 c1) ∧ w'.cell? ⟨sb, 2, none⟩ = some (.bool false) ∧ w'.cell? ⟨sb, 3, none⟩ = some (.slice B1 m1 d1) ∧ w'.cell? ⟨b, 0, none⟩ = some (.int .i64 0)) (first | exact ⟨x0, x1, x2, x3, x4, x5, x6, x7, x8, x9, x10⟩ | exact ⟨y0, y1, y2, y3, y4, y5, y6, y7, y8, y9, y10⟩ | exact ⟨z0, z1, z2, z3, z4, z5, z6, z7, z8, z9, z10⟩ | exact ⟨gb_cell hgb6 z0 Hne.out.1, gb_cell hgb6 z1 Hne.out.1, gb_cell hgb6 z2 Hne3, gb_cell hgb6 z3 Hne3, gb_cell hgb6 z4 Hne3, gb_cell hgb6 z5 Hne3, gb_cell hgb6 z6 Hne.out.2.2.1, gb_cell hgb6 z7 Hne.out.2.2.1, gb_cell hgb6 z8 Hne.out.2.2.1, gb_cell hgb6 z9 Hne.out.2.2.1, gb_cell hgb6 z10 Hne.out.2.1⟩) (first
        | (go_at_call 87; with_reducible refine (rz_nat (number_0 W3.drew)).mono ?_; rintro e w4 ⟨A4, n4, c4, A5, n5, c5, rfl, hn4, hn5, hb4⟩; have h4 := h3.below hb4; replace j0 := j0.step hb4; replace j2 := j2.step hb4; replace j4 := j4.step hb4; obtain ⟨y0, y1, -, -⟩ := j0.c2; obtain ⟨y2, y3, y4, y5, -, -, -, -⟩ := j4.c4; have y6 := h4.p0; have y7 := h4.p1; have y8 := h4.p2; have y9 := h4.p3; have y10 := h4.s0)
        | (go_at_call 81; with_reducible refine (rz_nat (rise_exn A1 B1 A4 A5 A B n1 c1 m1 d1 n4 c4 n5 c5 n c m d w4 h4.na1 h4.nb1 hn4 hn5 (hn3.below hb4) (hd3.below hb4) (T3.below hb4))).mono ?_; rintro e w5 ⟨A6, n6, c6, A7, n7, c7, rfl, hn6, hn7, hb5⟩; have h5 := h4.below hb5; replace j0 := j0.step hb5; replace j2 := j2.step hb5; replace j4 := j4.step hb5; obtain ⟨z0, z1, -, -⟩ := j0.c2; obtain ⟨z2, z3, z4, z5, -, -, -, -⟩ := j4.c4; have z6 := h5.p0; have z7 := h5.p1; have z8 := h5.p2; have z9 := h5.p3; have z10 := h5.s0)
        | (go_at_call 121; with_reducible refine (total_add10 gt A6 A7 n6 c6 n7 c7 w5 ((t3.below hb4).below hb5) hn6 hn7).mono ?_; rintro e w6 ⟨rfl, ht6, hgb6⟩; have Hne3 : tb ≠ gt := by rw [← Htb.out]; exact Hne.out.2.2.2.1))
      have hB5 := bthen (bthen HB3.out hb4 (Nat.le_refl _)) hb5 (Nat.le_refl _)
      have hge := Hgt.out.2.2.1
      have hsz5 := hB5.size
      have hB6 := hid (hB5.grown hgb6 hsz5 (fun k hk => by injection hk with hk; omega))
      have T6 := hid (((T3.below hb4).below hb5).grown hgb6 Hne.out.2.2.2.2.2)
      have a6 := hid (j2.grown hgb6 Hne.out.2.2.2.2.1)
      have H6 := hid ht6
      clear hB5 hb4 hb5 hgb6 j0 j2 j4 x0 x1 x2 x3 x4 x5 x6 x7 x8 x9 x10 y0 y1 y2 y3 y4 y5 y6 y7 y8 y9 y10 z0 z1 z2 z3 z4 z5 z6 z7 z8 z9 z10 hn4 hn5 hn6 hn7 h3 h4 h5 t3 T3 hn3 hd3 ht6 hge hsz5 hTl hgt0 hgl
      go_wp2
      go_roundw
      case rel => exact .inr ⟨rfl, H6.out, hB6.out, T6.out, a6.out⟩
      case measure => simp [intOf]
    · clear u0 u1 u2 u3 u4 u5 h2 hn2' hd2' T2 ht2 a0 a1 a2 hgt0 hgl hTl
      have H5 := hid hbel5
      clear hbel5
      go_wp2_with fail
      refine (rz_nat (total_value10 gt wr ht5 T5)).mono ?_
      rintro e w7 ⟨A6, n6, c6, A7, n7, c7, rfl, hn6, hn7, hb7⟩
      have q4 := a5.step hb7
      have hl7 := q4.lt
      obtain ⟨i0, i1, i2, i3, i4, i5, i6, i7⟩ := q4.c4
      have h5 := bthen H5.out hb7 (Nat.le_refl _)
      have hgl := Hg.out
      have h11 := hid (below4 h5 (show w.heap.size ≤ g + 1 + 1 by omega) (.bool false) (.slice A6 n6 c6) (.bool false) (.slice A7 n7 c7))
      have m1' := hid (hn6.offbox q4 (noInt_four _ _ _ _ _ _ _ _) (gb4 _ _ (.bool false) (.slice A6 n6 c6) (.bool false) (.slice A7 n7 c7)))
      have m2' := hid (hn7.offbox q4 (noInt_four _ _ _ _ _ _ _ _) (gb4 _ _ (.bool false) (.slice A6 n6 c6) (.bool false) (.slice A7 n7 c7)))
      clear hgl h5 q4 hn6 hn7 hb7 a5 T5 ht5
      go_wp2
      exact bodyPost_ret (v := .agg #[.bool false, .slice A6 n6 c6, .bool false, .slice A7 n7 c7]) (by simp [results, Tryz.results80, go_sem, i0, i1, i2, i3]) rfl ⟨_, rfl, ⟨false, A6, n6, c6, false, A7, n7, c7, rfl, hid rfl, hid rfl, m1'.out, m2'.out⟩, h11.out⟩

end Go.Proofs.YtffipjofefemiaaGreatDoor

namespace Go.Proofs.YtffipjofefemiaaGreatDoor
open Go.RowKit Kb

theorem along_exn (b sb sc n1 c1 m1 d1 n2 c2 m2 d2 : Nat) (A1 B1 A2 B2 A B : Option Addr) (n c m d : Nat) (w : World) (h : Crv w b sb A1 n1 c1 B1 m1 d1 A2 n2 c2 B2 m2 d2) (hn : Nm w (.slice A n c) 5) (hd : Nm w (.slice B m d) 1) (hT : Tb w) :
    Calls Tryz.prog 80 #[.agg #[.slice (some ⟨b, 0, none⟩) 2 2, .slice (some ⟨sb, 0, none⟩) 2 sc], .agg #[.bool false, .slice A n c, .bool false, .slice B m d], .func (.func 81) #[] #[]] w fun e w' => ∃ v, e = .returned v ∧ Rz w' v ((10 : Nat) : Int) ((1 : Nat) : Int) ∧ Below w.heap.size w w' :=
  along_ex b sb sc n1 c1 m1 d1 n2 c2 m2 d2 A1 B1 A2 B2 A B n c m d w h hn hd hT

set_option maxRecDepth 100000 in
set_option maxHeartbeats 4000000 in
theorem Value_ex (b sb sc n1 c1 m1 d1 n2 c2 m2 d2 : Nat) (A1 B1 A2 B2 A B : Option Addr) (n c m d : Nat) (w : World) (h : Crv w b sb A1 n1 c1 B1 m1 d1 A2 n2 c2 B2 m2 d2) (hn : Nm w (.slice A n c) 5) (hd : Nm w (.slice B m d) 1) (hT : Tb w) :
    Calls Tryz.prog 34 #[.agg #[.slice (some ⟨b, 0, none⟩) 2 2, .slice (some ⟨sb, 0, none⟩) 2 sc], .agg #[.bool false, .slice A n c, .bool false, .slice B m d]] w fun e w' => ∃ A1 n1 c1 A2 n2 c2, e = .returned (.tuple #[.agg #[.bool false, .slice A1 n1 c1, .bool false, .slice A2 n2 c2], .int .i64 0]) ∧ Nm w' (.slice A1 n1 c1) 10 ∧ Nm w' (.slice A2 n2 c2) 1 ∧ Below w.heap.size w w' := by
  have b0 := three_new w (.cells #[.slice (some ⟨b, 0, none⟩) 2 2, .slice (some ⟨sb, 0, none⟩) 2 sc] 48) (.cells #[.bool false, .slice A n c, .bool false, .slice B m d] 26) (.cells #[.bool false, .slice none 0 0, .bool false, .slice none 0 0] 26)
  have hB := (((Below.refl w.heap.size w).alloc (Nat.le_refl _) (.cells #[.slice (some ⟨b, 0, none⟩) 2 2, .slice (some ⟨sb, 0, none⟩) 2 sc] 48)).alloc (by simp) (.cells #[.bool false, .slice A n c, .bool false, .slice B m d] 26)).alloc (by simp; omega) (.cells #[.bool false, .slice none 0 0, .bool false, .slice none 0 0] 26)
  obtain ⟨g, hg⟩ : ∃ g, w.heap.size = g := ⟨_, rfl⟩
  go_enter Tryz.func34, Tryz.ntmps34
  go_wp2_with fail
  rw [hg] at b0
  generalize ((w.alloc (.cells #[.slice (some ⟨b, 0, none⟩) 2 2, .slice (some ⟨sb, 0, none⟩) 2 sc] 48)).alloc (.cells #[.bool false, .slice A n c, .bool false, .slice B m d] 26)).alloc (.cells #[.bool false, .slice none 0 0, .bool false, .slice none 0 0] 26) = W0 at *
  have h0 := h.below hB
  have hn0 := hn.below hB
  have hd0 := hd.below hB
  have T0 := hT.below hB
  have HB := hid hB
  have Hg := hid hg
  obtain ⟨a0, a1, a2⟩ := b0
  clear hB hg h hn hd hT
  refine (CheckCurve_ex b sb sc n1 c1 m1 d1 n2 c2 m2 d2 A1 B1 A2 B2 _ h0).mono ?_
  rintro e w1 ⟨rfl, hb1⟩
  replace a0 := a0.step hb1
  replace a1 := a1.step hb1
  replace a2 := a2.step hb1
  have h1 := h0.below hb1
  have hn1' := hn0.below hb1
  have hd1' := hd0.below hb1
  have T1 := T0.below hb1
  have HB1 := hid (bthen HB.out hb1 (Nat.le_refl _))
  obtain ⟨x0, x1, -, -⟩ := a0.c2
  obtain ⟨x2, x3, x4, x5, -, -, -, -⟩ := a1.c4
  clear h0 hn0 hd0 T0 hb1
  go_wp2_with fail
  refine (rz_nat (along_exn b sb sc n1 c1 m1 d1 n2 c2 m2 d2 A1 B1 A2 B2 A B n c m d _ h1 hn1' hd1' T1)).mono ?_
  rintro e w7 ⟨A6, n6, c6, A7, n7, c7, rfl, hn6, hn7, hb7⟩
  have q4 := a2.step hb7
  have hl7 := q4.lt
  obtain ⟨i0, i1, i2, i3, i4, i5, i6, i7⟩ := q4.c4
  have h5 := bthen HB1.out hb7 (Nat.le_refl _)
  have hgl := Hg.out
  have h11 := hid (below4 h5 (show w.heap.size ≤ g + 1 + 1 by omega) (.bool false) (.slice A6 n6 c6) (.bool false) (.slice A7 n7 c7))
  have m1' := hid (hn6.offbox q4 (noInt_four _ _ _ _ _ _ _ _) (gb4 _ _ (.bool false) (.slice A6 n6 c6) (.bool false) (.slice A7 n7 c7)))
  have m2' := hid (hn7.offbox q4 (noInt_four _ _ _ _ _ _ _ _) (gb4 _ _ (.bool false) (.slice A6 n6 c6) (.bool false) (.slice A7 n7 c7)))
  clear hgl h5 q4 hn6 hn7 hb7 x0 x1 x2 x3 x4 x5 a0 a1 a2 h1 hn1' hd1' T1
  go_wp2
  exact bodyPost_ret (v := .tuple #[.agg #[.bool false, .slice A6 n6 c6, .bool false, .slice A7 n7 c7], .int .i64 0]) (by simp [results, Tryz.results34, go_sem, i0, i1, i2, i3]) rfl ⟨A6, n6, c6, A7, n7, c7, rfl, m1'.out, m2'.out, h11.out⟩

end Go.Proofs.YtffipjofefemiaaGreatDoor

namespace Go.Proofs.YtffipjofefemiaaGreatDoor
open Go.RowKit Kb

/-- The slice v, if it isn't nil, lies in block B or behind it. -/
def Fs (B : Nat) (v : Value) : Prop := ∀ ad n c, v = .slice (some ad) n c → B ≤ ad.block
theorem Fs.mono {B B' : Nat} {v : Value} (h : Fs B v) (hB : B' ≤ B) : Fs B' v := fun ad n c e => Nat.le_trans hB (h ad n c e)
theorem Fs.of_own {w : World} {base n : Nat} {e : TypeId} {v : Value} {xs : List Value} (h : w.ownsRow base e 1 v n xs) : Fs base v := fun ad m c hv => by
  rcases h.2 with ⟨e, _⟩ | ⟨g, cap, cur, e, hb, _⟩
  · rw [e] at hv; cases hv
  · rw [e] at hv
    injection hv with h1
    injection h1 with h1
    subst h1
    exact hb

set_option maxRecDepth 100000 in
set_option maxHeartbeats 2000000 in
theorem limbs_new (a : Nat) (w : World) (ha : a < 18446744073709551616) :
    Calls Tryz.prog 102 #[.int .u64 a] w fun e w' => ∃ v, e = .returned v ∧ Nm w' v a ∧ Fs w.heap.size v ∧ Below w.heap.size w w' := by
  have hla : (dig a).length ≤ 4 := dig_length_le (by rw [show (65536 : Nat) ^ 4 = 18446744073709551616 from rfl]; exact ha)
  have Ha := hid ha; clear ha
  obtain ⟨i0, hi, hz0, hz1, hz2⟩ := info_parts Tryz.info16
  go_enter Tryz.func102, Tryz.ntmps102
  go_wp2
  go_loopw [0, 3] (fun x v wr => ∃ (r : Nat) (o : List Nat) (vv : Value), dig a = o ++ dig r ∧ x = .int .u64 r ∧ r ≤ a ∧ vv = v ∧ wr.ownsRow w.heap.size 92 1 vv o.length (vals .u16 o) ∧ Below w.heap.size w wr) (fun x _ _ => (intOf x).toNat)
  case atStart => exact ⟨a, [], _, rfl, rfl, Nat.le_refl _, rfl, World.ownsRow_nil _ _ _ _, Below.refl _ _⟩
  case round =>
    obtain ⟨r, o, v, hd, rfl, hra, hvv, hown, hbel⟩ := hrel
    subst hvv
    have Hd := hid hd; clear hd
    by_cases hr : r = 0
    · have Hd2 := hid (dig_rest Hd.out hr)
      have hr' : ¬ (0 : Int) < (r : Int) := by omega
      clear hr
      go_wp2
      go_ret
      exact ⟨_, rfl, Nm.of_own hown Hd2.out, Fs.of_own hown, hbel⟩
    · have hr' : (0 : Int) < (r : Int) := by omega
      have hroom := room_of Hd.out hr hla
      obtain ⟨x, hx⟩ : ∃ x, x = r % 65536 := ⟨_, rfl⟩
      have hd2 := dig_out Hd.out hr
      rw [← hx] at hd2
      have Hd2 := hid hd2
      have hm : bits .and .u64 (r : Int) 65535 = (x : Int) := by
        rw [hx, show (65535 : Int) = ((65535 : Nat) : Int) from rfl, u64_and_nat _ _ (by have := Ha.out; omega) (by decide)]
        have := Nat.and_two_pow_sub_one_eq_mod r 16
        rw [show (2 : Nat) ^ 16 - 1 = 65535 from rfl, show (2 : Nat) ^ 16 = 65536 from rfl] at this
        rw [this]
      have hxw : IntKind.u16.wrap (x : Int) = (x : Int) := by rw [IntKind.wrap_u16]; omega
      have hsz := hbel.size
      have hrp : 0 < r := by omega
      clear hx hd2 hr
      go_wp2_with (at_builtin; (refine wpList_append_own _ rfl (.tmp 8) (.tmp 12) 22 rfl w.heap.size 92 i0 (.int .u16 0) 1 2 Tryz.underlying22 hi hz0 hz1 hz2 rfl (by decide) v o.length (vals .u16 o) rfl (hown.alloc _) ⟨wr.heap.size, 0, none⟩ 1 1 [.int .u16 (x : Int)] rfl rfl (cell_one_new _ _ _) (one_cell _ rfl) (by unfold maxLen; omega) (by omega) (by simp; omega) ?_))
      intro v' w1 hown1 hgrow1 _
      have hl1 := hown.lt
      have hb1 := (hbel.alloc hsz (.cells #[.int .u16 (x : Int)] 92)).grown hgrow1 (by simp; omega) (fun k hk => (hl1 k hk).1)
      rw [vals_snoc .u16 o x _ rfl, show o.length + 1 = (o ++ [x]).length from by simp] at hown1
      have Hown := hid hown1
      clear hown1 hown hgrow1 hl1 hm hxw
      go_wp2
      go_roundw
      case rel => exact ⟨r / 65536, _, _, Hd2.out, by go_num, by omega, rfl, Hown.out, hb1⟩
      case measure => simp [intOf]; omega

set_option maxRecDepth 100000 in
set_option maxHeartbeats 1000000 in
theorem Z_new (n : Nat) (w : World) (h2 : n ≤ 9223372036854775807) :
    Calls Tryz.prog 53 #[.int .i64 n] w fun e w' => ∃ A m c, e = .returned (.agg #[.bool false, .slice A m c]) ∧ Nm w' (.slice A m c) n ∧ Fs w.heap.size (.slice A m c) ∧ Below w.heap.size w w' := by
  have hb0 := fun o => (Below.refl w.heap.size w).alloc (Nat.le_refl _) o
  go_enter Tryz.func53, Tryz.ntmps53
  go_wp2_with fail
  refine (limbs_new n _ (by omega)).mono ?_
  rintro e w1 ⟨v1, rfl, hv1, hf1, hb1⟩
  obtain ⟨A, c, rfl, hq⟩ := id hv1
  replace hf1 : Fs w.heap.size (.slice A (dig n).length c) := hf1.mono (by simp)
  have hb4 := bthen (hb0 _) hb1 (Nat.le_refl _)
  have c0 := box_cell hb1 0
  have c1 := box_cell hb1 1
  have f0 := box_frozen hb1 0
  have f1 := box_frozen hb1 1
  have hbx := hid (box_heap hb1)
  have hz' := box_size hb1
  have h5 := (hb4.setCell (p := ⟨w.heap.size, 0, none⟩) (Nat.le_refl _) (.bool false)).setCell (p := ⟨w.heap.size, 1, none⟩) (Nat.le_refl _) (.slice A (dig n).length c)
  have hn5 := hv1.offbox hbx.out (noInt_zero _ _ _ _) (gb2 _ w.heap.size 0 1 (.bool false) (.slice A (dig n).length c))
  clear hq
  simp at c0 c1
  go_wp2
  exact bodyPost_ret (v := .agg #[.bool false, .slice A (dig n).length c]) (by simp [results, Tryz.results53, go_sem, c0, c1]) rfl ⟨A, (dig n).length, c, rfl, hn5, hf1, h5⟩

set_option maxRecDepth 100000 in
set_option maxHeartbeats 1000000 in
theorem W_new (n : Nat) (w : World) (h2 : n ≤ 9223372036854775807) :
    Calls Tryz.prog 50 #[.int .i64 n] w fun e w' => ∃ A m c B m' d, e = .returned (.agg #[.bool false, .slice A m c, .bool false, .slice B m' d]) ∧ Nm w' (.slice A m c) n ∧ Nm w' (.slice B m' d) 1 ∧ Fs w.heap.size (.slice A m c) ∧ Fs w.heap.size (.slice B m' d) ∧ Below w.heap.size w w' := by
  have hb0 := fun o => (Below.refl w.heap.size w).alloc (Nat.le_refl _) o
  go_enter Tryz.func50, Tryz.ntmps50
  go_wp2_with fail
  refine (Z_new n _ h2).mono ?_
  rintro e w1 ⟨A1, n1, c1, rfl, hn1, hf1, hb1⟩
  go_wp2_with fail
  refine (Z_new 1 _ (by decide)).mono ?_
  rintro e w2 ⟨A2, n2, c2, rfl, hn2, hf2, hb2⟩
  have hb3 := bthen hb1 hb2 (Nat.le_refl _)
  have hb4 := bthen (hb0 _) hb3 (Nat.le_refl _)
  replace hf1 : Fs w.heap.size (.slice A1 n1 c1) := hf1.mono (by simp)
  replace hf2 : Fs w.heap.size (.slice A2 n2 c2) := hf2.mono (by have := hb1.size; simp at this; omega)
  have c0 := box_cell hb3 0
  have c1' := box_cell hb3 1
  have c2' := box_cell hb3 2
  have c3 := box_cell hb3 3
  have f0 := box_frozen hb3 0
  have f1 := box_frozen hb3 1
  have f2 := box_frozen hb3 2
  have f3 := box_frozen hb3 3
  have hbx := hid (box_heap hb3)
  have h5 := hid (below4 hb4 (Nat.le_refl _) (.bool false) (.slice A1 n1 c1) (.bool false) (.slice A2 n2 c2))
  have m1 := hid ((hn1.below hb2).offbox hbx.out (noInt_four _ _ _ _ _ _ _ _) (gb4 _ _ (.bool false) (.slice A1 n1 c1) (.bool false) (.slice A2 n2 c2)))
  have m2 := hid (hn2.offbox hbx.out (noInt_four _ _ _ _ _ _ _ _) (gb4 _ _ (.bool false) (.slice A1 n1 c1) (.bool false) (.slice A2 n2 c2)))
  clear hb1 hb2 hb3 hb4 hn1 hn2 hb0
  simp at c0 c1' c2' c3
  go_wp2
  exact bodyPost_ret (v := .agg #[.bool false, .slice A1 n1 c1, .bool false, .slice A2 n2 c2]) (by simp [results, Tryz.results50, go_sem, c0, c1', c2', c3]) rfl ⟨A1, n1, c1, A2, n2, c2, rfl, m1.out, m2.out, hf1, hf2, h5.out⟩

end Go.Proofs.YtffipjofefemiaaGreatDoor

namespace Go.Proofs.YtffipjofefemiaaGreatDoor
open Go.RowKit Kb

theorem Tryz.infoRat : (Tryz.prog.info? 26).map (fun i => (i.zero, i.size, i.bytes)) = some (some (.agg #[.bool false, .slice none 0 0, .bool false, .slice none 0 0]), 4, 64) := by kernel_rfl
theorem Nm.grown {w w' : World} {A : Option Addr} {n c a : Nat} {r : Option Nat} (h : Nm w (.slice A n c) a) (hb : w.grownBy w' r) (hne : ∀ ad, A = some ad → a ≠ 0 → some ad.block ≠ r) : Nm w' (.slice A n c) a := by
  obtain ⟨A', c', e, h1, h2, h3⟩ := h
  injection e with e1 e2 e3
  subst e1; subst e2; subst e3
  exact ⟨A, c, rfl, h1.grown hb (fun ad ha hd => hne ad ha (fun h0 => hd (by rw [h0, dig_zero]))), h2, h3⟩
theorem Nm.lt {w : World} {ad : Addr} {n c a : Nat} (h : Nm w (.slice (some ad) n c) a) (ha : a ≠ 0) : ad.block < w.heap.size := by
  obtain ⟨A', c', e, h1, h2, h3⟩ := h
  injection e with e1 e2 e3
  subst e1
  have hl : 0 < (dig a).length := by
    rcases Nat.eq_zero_or_pos (dig a).length with h0 | h0
    · exact absurd (dig_nil_iff.1 (List.eq_nil_of_length_eq_zero h0)) ha
    · exact h0
  obtain ⟨ad', e', hb, _⟩ := h1 0 hl
  injection e' with e'
  subst e'
  exact hb

/-- The slopes of the example in block sb. -/
structure Slp (w : World) (sb : Nat) (A1 : Option Addr) (n1 c1 : Nat) (B1 : Option Addr) (m1 d1 : Nat) (A2 : Option Addr) (n2 c2 : Nat) (B2 : Option Addr) (m2 d2 : Nat) : Prop where
  cells : ∀ j u, [Value.bool false, .slice A1 n1 c1, .bool false, .slice B1 m1 d1, .bool false, .slice A2 n2 c2, .bool false, .slice B2 m2 d2][j]? = some u → w.cell? ((⟨sb, 0, none⟩ : Addr).add j) = some u
  ls : sb < w.heap.size
  na1 : Nm w (.slice A1 n1 c1) 2
  nb1 : Nm w (.slice B1 m1 d1) 1
  na2 : Nm w (.slice A2 n2 c2) 0
  nb2 : Nm w (.slice B2 m2 d2) 1

/-- What the loop of Ws holds. -/
def WsRel (w : World) (vv iv : Value) (wr : World) : Prop :=
  (iv = .int .i64 0 ∧ vv = .slice none 0 0 ∧ wr = w) ∨
  (iv = .int .i64 1 ∧ ∃ g cap A1 n1 c1 B1 m1 d1, vv = .slice (some ⟨g, 0, none⟩) 1 cap ∧ wr.ownsRow w.heap.size 26 4 (.slice (some ⟨g, 0, none⟩) 1 cap) 1 [.bool false, .slice A1 n1 c1, .bool false, .slice B1 m1 d1] ∧
    Nm wr (.slice A1 n1 c1) 2 ∧ Nm wr (.slice B1 m1 d1) 1 ∧ (∀ ad, A1 = some ad → ad.block ≠ g) ∧ (∀ ad, B1 = some ad → ad.block ≠ g) ∧ Below w.heap.size w wr) ∨
  (iv = .int .i64 2 ∧ ∃ g cap A1 n1 c1 B1 m1 d1 A2 n2 c2 B2 m2 d2, vv = .slice (some ⟨g, 0, none⟩) 2 cap ∧ Slp wr g A1 n1 c1 B1 m1 d1 A2 n2 c2 B2 m2 d2 ∧ Below w.heap.size w wr)
theorem four_one (a b : Bool) (A B : Option Addr) (n c m d : Nat) : ∀ u ∈ [Value.bool a, .slice A n c, .bool b, .slice B m d], u.oneCell' = true := fun u hu => by
  simp only [List.mem_cons, List.mem_nil_iff, or_false] at hu
  rcases hu with rfl | rfl | rfl | rfl <;> rfl

set_option maxRecDepth 100000 in
set_option maxHeartbeats 4000000 in
theorem Ws_ex (lb lc : Nat) (w : World) (hc0 : w.cell? ⟨lb, 0, none⟩ = some (.int .i64 2)) (hc1 : w.cell? ⟨lb, 1, none⟩ = some (.int .i64 0)) (hlb : lb < w.heap.size) :
    Calls Tryz.prog 54 #[.slice (some ⟨lb, 0, none⟩) 2 lc] w fun e w' => ∃ sb sc A1 n1 c1 B1 m1 d1 A2 n2 c2 B2 m2 d2, e = .returned (.slice (some ⟨sb, 0, none⟩) 2 sc) ∧ Slp w' sb A1 n1 c1 B1 m1 d1 A2 n2 c2 B2 m2 d2 ∧ Below w.heap.size w w' := by
  obtain ⟨i0, hi, hz0, hz1, hz2⟩ := info_parts Tryz.infoRat
  go_enter Tryz.func54, Tryz.ntmps54
  go_wp2
  go_loopw [3, 4] (fun vv iv wr => WsRel w vv iv wr) (fun _ iv _ => 2 - (intOf iv).toNat)
  case atStart => exact .inl ⟨rfl, rfl, rfl⟩
  case round =>
    rcases hrel with ⟨rfl, rfl, rfl⟩ | ⟨rfl, g, cap, A1, n1, c1, B1, m1, d1, rfl, hown, hn1, hn2, ho1, ho2, hbel⟩ | ⟨rfl, g, cap, A1, n1, c1, B1, m1, d1, A2, n2, c2, B2, m2, d2, rfl, hs, hbel⟩
    · go_wp2_with fail
      refine (W_new 2 _ (by decide)).mono ?_
      rintro e w1 ⟨A1, n1, c1, B1, m1, d1, rfl, hn1, hn2, -, -, hb1⟩
      have hnews := World.news_of_block (heap_alloc_new w1 (.cells #[.bool false, .slice A1 n1 c1, .bool false, .slice B1 m1 d1] 26))
      have hq := (Below.refl w1.heap.size w1).alloc (Nat.le_refl _) (.cells #[.bool false, .slice A1 n1 c1, .bool false, .slice B1 m1 d1] 26)
      have hB1 := bthen hb1 hq (Nat.le_refl _)
      have hsz := hb1.size
      go_wp2_with (at_builtin; (refine wpList_append_own_at _ rfl (.tmp 11) (.tmp 17) 46 rfl wr.heap.size 26 i0 (.agg #[.bool false, .slice none 0 0, .bool false, .slice none 0 0]) 4 64 Tryz.underlying46 hi hz0 hz1 hz2 rfl (by decide) (.slice none 0 0) 0 [] rfl (World.ownsRow_nil _ _ _ _) ⟨w1.heap.size, 0, none⟩ 1 1 [.bool false, .slice A1 n1 c1, .bool false, .slice B1 m1 d1] rfl rfl hnews (four_one _ _ _ _ _ _ _ _) (by unfold maxLen; omega) (by omega) (by simp; omega) ?_))
      intro v' w2 hown' hgrow hnil hat
      obtain ⟨g, cap, rfl, hgb, hcap1⟩ := hown'.form (by decide)
      have hgz : g = w1.heap.size + 1 := by
        rcases hat with h | h
        · simp [Value.ownBlock] at h
        · simp [Value.ownBlock] at h; exact h
      have hlq : (w1.alloc (.cells #[.bool false, .slice A1 n1 c1, .bool false, .slice B1 m1 d1] 26)).heap.size = w1.heap.size + 1 := by simp
      have k1 := hid ((hn1.below hq).grown hgrow (fun _ _ _ h => by simp [Value.ownBlock] at h))
      have k2 := hid ((hn2.below hq).grown hgrow (fun _ _ _ h => by simp [Value.ownBlock] at h))
      have o1 := hid (show ∀ ad, A1 = some ad → ad.block ≠ g from fun ad e => by subst e; have := hn1.lt (by decide); omega)
      have o2 := hid (show ∀ ad, B1 = some ad → ad.block ≠ g from fun ad e => by subst e; have := hn2.lt (by decide); omega)
      have hB2 := hid (hB1.grown hgrow (by omega) (fun k hk => by simp [Value.ownBlock] at hk))
      have Ho := hid hown'
      clear hown' hgrow hnil hat hn1 hn2 hq hnews hB1 hb1 hgb hcap1 hgz hlq hsz
      go_wp2
      go_roundw
      case rel => exact .inr (.inl ⟨rfl, g, cap, A1, n1, c1, B1, m1, d1, rfl, Ho.out, k1.out, k2.out, o1.out, o2.out, hB2.out⟩)
      case measure => simp [intOf]
    · have hbl := hbel.size
      have hl0 := hbel.cell (p := ⟨lb, 1, none⟩) hlb
      rw [hc1] at hl0
      have Hown := hid hown
      have Hbel := hid hbel
      clear hown hbel hc0 hc1
      go_wp2_with fail
      refine (W_new 0 _ (by decide)).mono ?_
      rintro e w1 ⟨A2, n2, c2, B2, m2, d2, rfl, hn3, hn4, hf3, hf4, hb1⟩
      have hnews := World.news_of_block (heap_alloc_new w1 (.cells #[.bool false, .slice A2 n2 c2, .bool false, .slice B2 m2 d2] 26))
      have hq := (Below.refl w1.heap.size w1).alloc (Nat.le_refl _) (.cells #[.bool false, .slice A2 n2 c2, .bool false, .slice B2 m2 d2] 26)
      have hB1 := bthen Hbel.out (bthen hb1 hq (Nat.le_refl _)) (Nat.le_refl _)
      have hsz := hb1.size
      have hlg := (Hown.out.lt g rfl)
      have hown := (Hown.out.kept (gb_of_below (r := none) hb1) (.inr (by simp [Value.ownBlock]))).alloc (.cells #[.bool false, .slice A2 n2 c2, .bool false, .slice B2 m2 d2] 26)
      go_wp2_with (at_builtin; (refine wpList_append_own_at _ rfl (.tmp 11) (.tmp 17) 46 rfl w.heap.size 26 i0 (.agg #[.bool false, .slice none 0 0, .bool false, .slice none 0 0]) 4 64 Tryz.underlying46 hi hz0 hz1 hz2 rfl (by decide) (.slice (some ⟨g, 0, none⟩) 1 cap) 1 [.bool false, .slice A1 n1 c1, .bool false, .slice B1 m1 d1] rfl hown ⟨w1.heap.size, 0, none⟩ 1 1 [.bool false, .slice A2 n2 c2, .bool false, .slice B2 m2 d2] rfl rfl hnews (four_one _ _ _ _ _ _ _ _) (by unfold maxLen; omega) (by omega) (by simp; omega) ?_))
      intro v' w2 hown' hgrow hnil hat
      obtain ⟨g', cap', rfl, hgb, hcap1⟩ := hown'.form (by decide)
      have hlq : (w1.alloc (.cells #[.bool false, .slice A2 n2 c2, .bool false, .slice B2 m2 d2] 26)).heap.size = w1.heap.size + 1 := by simp
      have k1 := ((hn1.below hb1).below hq).grown hgrow (fun ad e _ h => ho1 ad e (by simpa [Value.ownBlock] using h))
      have k2 := ((hn2.below hb1).below hq).grown hgrow (fun ad e _ h => ho2 ad e (by simpa [Value.ownBlock] using h))
      have k3 := (hn3.below hq).grown hgrow (fun ad e h0 => absurd rfl h0)
      have k4 := (hn4.below hq).grown hgrow (fun ad e _ h => by
        subst e
        have := hf4 ad m2 d2 rfl
        have h' : ad.block = g := by simpa [Value.ownBlock] using h
        omega)
      have hB2 := hid (hB1.grown hgrow (by omega) (fun k hk => by
        have h' : g = k := by simpa [Value.ownBlock] using hk
        omega))
      have hs2 := hid (show Slp w2 g' A1 n1 c1 B1 m1 d1 A2 n2 c2 B2 m2 d2 from ⟨hown'.cells (g := g') rfl, (hown'.lt g' rfl).2, k1, k2, k3, k4⟩)
      clear hown' hgrow hnil hat hn1 hn2 hn3 hn4 hf3 hf4 hq hnews hB1 hb1 hgb hcap1 hlq hsz hlg hown k1 k2 k3 k4 ho1 ho2 hbl hl0
      go_wp2
      go_roundw
      case rel => exact .inr (.inr ⟨rfl, g', cap', A1, n1, c1, B1, m1, d1, A2, n2, c2, B2, m2, d2, rfl, hs2.out, hB2.out⟩)
      case measure => simp [intOf]
    · go_wp2
      go_ret
      exact ⟨g, cap, A1, n1, c1, B1, m1, d1, A2, n2, c2, B2, m2, d2, rfl, hs, hbel⟩

end Go.Proofs.YtffipjofefemiaaGreatDoor

namespace Go.Proofs.YtffipjofefemiaaGreatDoor
open Go.RowKit Kb

theorem z_m3 (w : World) : Calls Tryz.prog 53 #[.int .i64 (-3)] w fun e w' => ∃ A n c, e = .returned (.agg #[.bool true, .slice A n c]) ∧ Nm w' (.slice A n c) 3 ∧ Below w.heap.size w w' := by
  refine (nz_openb (Z_any (-3) w (by decide) (by decide))).mono ?_
  rintro e w1 ⟨s1, A1, n1, c1, rfl, hs1, hn1, hb1⟩
  obtain rfl : s1 = true := hs1.out.trans (by decide)
  exact ⟨A1, n1, c1, rfl, hn1, hb1⟩
theorem z_p (z : Nat) (w : World) (h : z ≤ 9223372036854775807) : Calls Tryz.prog 53 #[.int .i64 (z : Int)] w fun e w' => ∃ A n c, e = .returned (.agg #[.bool false, .slice A n c]) ∧ Nm w' (.slice A n c) z ∧ Below w.heap.size w w' := by
  refine (nz_openb (Z_any (z : Int) w (by omega) (by omega))).mono ?_
  rintro e w1 ⟨s1, A1, n1, c1, rfl, hs1, hn1, hb1⟩
  obtain rfl : s1 = false := hs1.out.trans (decide_eq_false (by omega))
  exact ⟨A1, n1, c1, rfl, by rw [Int.natAbs_natCast] at hn1; exact hn1, hb1⟩
theorem z_2 (w : World) : Calls Tryz.prog 53 #[.int .i64 2] w fun e w' => ∃ A n c, e = .returned (.agg #[.bool false, .slice A n c]) ∧ Nm w' (.slice A n c) 2 ∧ Below w.heap.size w w' := z_p 2 w (by decide)

def QRel (_w W0 : World) (xv yv : Value) (wr : World) : Prop := Qt W0 wr ∧
  ((xv = .int .i64 3 ∧ yv = .int .i64 2) ∨ (xv = .int .i64 2 ∧ yv = .int .i64 1) ∨ (xv = .int .i64 1 ∧ yv = .int .i64 0))

theorem Tb.zero {w : World} (h : Tb w) : w.cell? ⟨0, 0, none⟩ = some (.int .u8 0) := h.1 0 (by decide)

set_option maxRecDepth 100000 in
set_option maxHeartbeats 4000000 in
theorem Q_ex (w : World) (hT : Tb w) : Calls Tryz.prog 55 #[.int .i64 (-3), .int .i64 2] w fun e w' => ∃ v, e = .returned v ∧ Rz w' v (-3) 2 ∧ Below w.heap.size w w' := by
  have hal := (Below.refl w.heap.size w).alloc (Nat.le_refl _) (.cells #[.bool false, .slice none 0 0, .bool false, .slice none 0 0] 26)
  have j2 := Bk.of_alloc w (.cells #[.bool false, .slice none 0 0, .bool false, .slice none 0 0] 26) rfl
  obtain ⟨g, hg⟩ : ∃ g, w.heap.size = g := ⟨_, rfl⟩
  go_enter Tryz.func55, Tryz.ntmps55
  go_wp2
  rw [hg] at j2
  generalize w.alloc (.cells #[.bool false, .slice none 0 0, .bool false, .slice none 0 0] 26) = W0 at *
  go_loopw [5, 6] (fun xv yv wr => QRel w W0 xv yv wr) (fun _ yv _ => (intOf yv).toNat)
  case atStart => exact ⟨Qt.refl _, .inl ⟨rfl, rfl⟩⟩
  case round =>
    obtain ⟨hq, ⟨rfl, rfl⟩ | ⟨rfl, rfl⟩ | ⟨rfl, rfl⟩⟩ := hrel
    · go_wp2
      go_quiet (fail)
      go_wp2
      go_roundw
      case rel => exact ⟨hq.drewN _, .inr (.inl ⟨rfl, rfl⟩)⟩
      case measure => simp [intOf]
    · go_wp2
      go_quiet (fail)
      go_wp2
      go_roundw
      case rel => exact ⟨hq.drewN _, .inr (.inr ⟨rfl, rfl⟩)⟩
      case measure => simp [intOf]
    · have hB := hid (bthen hal (hq.below _) (Nat.le_refl _))
      have j3 : Bk wr.drew g _ := j2.step (hq.drew.below _)
      have Hg := hid hg
      have T3 := hT.below (hB.out.drew)
      have x0 := T3.zero
      have hne : g ≠ 0 := by have := hT.2; omega
      clear hq hal hg j2
      go_wp2
      have e1 : IntKind.i64.wrap (-3) = -3 := by decide
      have e2 : IntKind.i64.wrap 2 = 2 := by decide
      go_region_held3 (fun w' => w'.cell? ⟨0, 0, none⟩ = some (.int .u8 0)) (first | exact x0 | exact y0 | exact z0 | exact off_four hne z0) (first
        | (go_at_call 53; with_reducible refine (z_m3 wr.drew).mono ?_; rintro e w1 ⟨A1, n1, c1, rfl, hn1, hb1⟩; replace j3 := j3.step hb1; have y0 := (T3.below hb1).zero)
        | (go_at_call 53; with_reducible refine (z_2 w1).mono ?_; rintro e w2 ⟨A2, n2, c2, rfl, hn2, hb2⟩; replace j3 := j3.step hb2; obtain ⟨i0, i1, i2, i3, i4, i5, i6, i7⟩ := j3.c4; have hl := j3.lt; have z0 := ((T3.below hb1).below hb2).zero))
      clear x0 y0 z0 e1 e2 T3
      have h5 := bthen (bthen hB.out.drew hb1 (Nat.le_refl _)) hb2 (Nat.le_refl _)
      have hgl := Hg.out
      have h11 := hid (below4 h5 (show w.heap.size ≤ g by omega) (.bool true) (.slice A1 n1 c1) (.bool false) (.slice A2 n2 c2))
      have m1' := hid ((hn1.below hb2).offbox j3 (noInt_four _ _ _ _ _ _ _ _) (gb4 _ _ (.bool true) (.slice A1 n1 c1) (.bool false) (.slice A2 n2 c2)))
      have m2' := hid (hn2.offbox j3 (noInt_four _ _ _ _ _ _ _ _) (gb4 _ _ (.bool true) (.slice A1 n1 c1) (.bool false) (.slice A2 n2 c2)))
      clear hgl h5 j3 hn1 hn2 hb1 hb2
      go_wp2
      exact bodyPost_ret (v := .agg #[.bool true, .slice A1 n1 c1, .bool false, .slice A2 n2 c2]) (by simp [results, Tryz.results55, go_sem, i0, i1, i2, i3]) rfl ⟨_, rfl, ⟨true, A1, n1, c1, false, A2, n2, c2, rfl, hid rfl, hid rfl, m1'.out, m2'.out⟩, h11.out⟩

end Go.Proofs.YtffipjofefemiaaGreatDoor

namespace Go.Proofs.YtffipjofefemiaaGreatDoor
open Go.RowKit Kb

theorem z_m7 (w : World) : Calls Tryz.prog 53 #[.int .i64 (-7)] w fun e w' => ∃ A n c, e = .returned (.agg #[.bool true, .slice A n c]) ∧ Nm w' (.slice A n c) 7 ∧ Below w.heap.size w w' := by
  refine (nz_openb (Z_any (-7) w (by decide) (by decide))).mono ?_
  rintro e w1 ⟨s1, A1, n1, c1, rfl, hs1, hn1, hb1⟩
  obtain rfl : s1 = true := hs1.out.trans (by decide)
  exact ⟨A1, n1, c1, rfl, hn1, hb1⟩
theorem z_m4 (w : World) : Calls Tryz.prog 53 #[.int .i64 (-4)] w fun e w' => ∃ A n c, e = .returned (.agg #[.bool true, .slice A n c]) ∧ Nm w' (.slice A n c) 4 ∧ Below w.heap.size w w' := by
  refine (nz_openb (Z_any (-4) w (by decide) (by decide))).mono ?_
  rintro e w1 ⟨s1, A1, n1, c1, rfl, hs1, hn1, hb1⟩
  obtain rfl : s1 = true := hs1.out.trans (by decide)
  exact ⟨A1, n1, c1, rfl, hn1, hb1⟩
theorem z_1 (w : World) : Calls Tryz.prog 53 #[.int .i64 1] w fun e w' => ∃ A n c, e = .returned (.agg #[.bool false, .slice A n c]) ∧ Nm w' (.slice A n c) 1 ∧ Below w.heap.size w w' := z_p 1 w (by decide)
theorem dm_72 (A B : Option Addr) (n c m d : Nat) (w : World) (h : Nm w (.slice A n c) 7) (k : Nm w (.slice B m d) 2) :
    Calls Tryz.prog 52 #[.agg #[.bool true, .slice A n c], .agg #[.bool false, .slice B m d]] w fun e w' => ∃ A1 n1 c1 A2 n2 c2, e = .returned (.tuple #[.agg #[.bool true, .slice A1 n1 c1], .agg #[.bool false, .slice A2 n2 c2], .int .i64 0]) ∧ Nm w' (.slice A1 n1 c1) 4 ∧ Nm w' (.slice A2 n2 c2) 1 ∧ Below w.heap.size w w' := by
  refine (DivMod_any true false A B n c m d 7 2 w h.raw k.raw (by decide) (by rw [dig_small (by decide) (by decide)]; decide) (by rw [dig_small (by decide) (by decide)]; decide)).mono ?_
  rintro e w1 ⟨v, u, rfl, ⟨A1, n1, c1, rfl, h1⟩, ⟨A2, n2, c2, rfl, h2⟩, hb⟩
  exact ⟨A1, n1, c1, A2, n2, c2, rfl, h1, h2, hb⟩
theorem ratio_64 (w : World) (hT : Tb w) :
    Calls Tryz.prog 10 #[.int .i64 6, .int .i64 (-4)] w fun e w' => ∃ A1 n1 c1 A2 n2 c2, e = .returned (.tuple #[.agg #[.bool true, .slice A1 n1 c1, .bool false, .slice A2 n2 c2], .int .i64 0]) ∧ Nm w' (.slice A1 n1 c1) 3 ∧ Nm w' (.slice A2 n2 c2) 2 ∧ Below w.heap.size w w' := by
  refine (Ratio_any 6 (-4) w (by decide) (by decide) (by decide) (by decide) (by decide) hT (by rw [show (6 : Int).natAbs = 6 from by decide, show (-4 : Int).natAbs = 4 from by decide]; exact CD_64)).mono ?_
  rintro e w1 ⟨v, rfl, ⟨s1, A1, n1, c1, s2, A2, n2, c2, rfl, hs1, hs2, h1, h2⟩, hb⟩
  obtain rfl : s1 = true := hs1.out.trans (by decide)
  obtain rfl : s2 = false := hs2.out.trans (by decide)
  exact ⟨A1, n1, c1, A2, n2, c2, rfl, h1, h2, hb⟩
theorem q_m32 (w : World) (hT : Tb w) : Calls Tryz.prog 55 #[.int .i64 (-3), .int .i64 2] w fun e w' => ∃ A1 n1 c1 A2 n2 c2, e = .returned (.agg #[.bool true, .slice A1 n1 c1, .bool false, .slice A2 n2 c2]) ∧ Nm w' (.slice A1 n1 c1) 3 ∧ Nm w' (.slice A2 n2 c2) 2 ∧ Below w.heap.size w w' := by
  refine (Q_ex w hT).mono ?_
  rintro e w1 ⟨v, rfl, ⟨s1, A1, n1, c1, s2, A2, n2, c2, rfl, hs1, hs2, h1, h2⟩, hb⟩
  obtain rfl : s1 = true := hs1.out.trans (by decide)
  obtain rfl : s2 = false := hs2.out.trans (by decide)
  exact ⟨A1, n1, c1, A2, n2, c2, rfl, h1, h2, hb⟩
theorem w_5 (w : World) : Calls Tryz.prog 50 #[.int .i64 5] w fun e w' => ∃ A m c B m' d, e = .returned (.agg #[.bool false, .slice A m c, .bool false, .slice B m' d]) ∧ Nm w' (.slice A m c) 5 ∧ Nm w' (.slice B m' d) 1 ∧ Below w.heap.size w w' := by
  refine (W_new 5 w (by decide)).mono ?_
  rintro e w1 ⟨A, m, c, B, m', d, rfl, h1, h2, -, -, hb⟩
  exact ⟨A, m, c, B, m', d, rfl, h1, h2, hb⟩
theorem w_10 (w : World) : Calls Tryz.prog 50 #[.int .i64 10] w fun e w' => ∃ A m c B m' d, e = .returned (.agg #[.bool false, .slice A m c, .bool false, .slice B m' d]) ∧ Nm w' (.slice A m c) 10 ∧ Nm w' (.slice B m' d) 1 ∧ Below w.heap.size w w' := by
  refine (W_new 10 w (by decide)).mono ?_
  rintro e w1 ⟨A, m, c, B, m', d, rfl, h1, h2, -, -, hb⟩
  exact ⟨A, m, c, B, m', d, rfl, h1, h2, hb⟩
theorem sr_m32 (A B C D : Option Addr) (n c m d n' c' m' d' : Nat) (w : World) (h1 : Nm w (.slice A n c) 3) (h2 : Nm w (.slice B m d) 2) (h3 : Nm w (.slice C n' c') 3) (h4 : Nm w (.slice D m' d') 2) :
    Calls Tryz.prog 16 #[.agg #[.bool true, .slice A n c, .bool false, .slice B m d], .agg #[.bool true, .slice C n' c', .bool false, .slice D m' d']] w fun e w' => e = .returned (.bool true) ∧ Below w.heap.size w w' :=
  SameRat_true (x := -3) (y := 2) ⟨true, A, n, c, false, B, m, d, rfl, hid (by decide), hid rfl, by rw [show (-3 : Int).natAbs = 3 from by decide]; exact h1, h2⟩ ⟨true, C, n', c', false, D, m', d', rfl, hid (by decide), hid rfl, by rw [show (-3 : Int).natAbs = 3 from by decide]; exact h3, h4⟩
theorem sr_10 (A B C D : Option Addr) (n c m d n' c' m' d' : Nat) (w : World) (h1 : Nm w (.slice A n c) 10) (h2 : Nm w (.slice B m d) 1) (h3 : Nm w (.slice C n' c') 10) (h4 : Nm w (.slice D m' d') 1) :
    Calls Tryz.prog 16 #[.agg #[.bool false, .slice A n c, .bool false, .slice B m d], .agg #[.bool false, .slice C n' c', .bool false, .slice D m' d']] w fun e w' => e = .returned (.bool true) ∧ Below w.heap.size w w' :=
  SameRat_true (x := 10) (y := 1) ⟨false, A, n, c, false, B, m, d, rfl, hid rfl, hid rfl, h1, h2⟩ ⟨false, C, n', c', false, D, m', d', rfl, hid rfl, hid rfl, h3, h4⟩

end Go.Proofs.YtffipjofefemiaaGreatDoor

namespace Go.Proofs.YtffipjofefemiaaGreatDoor
open Go.RowKit Kb

/-- What the example has made, ahead of its fourth statement. -/
structure AwMid (w : World) (g1 : Nat) (A1 : Option Addr) (n1 c1 g2 : Nat) (A2 : Option Addr) (n2 c2 g4 : Nat) (A3 : Option Addr) (n3 c3 : Nat) (A4 : Option Addr) (n4 c4 : Nat) (wx : World) : Prop where
  b1 : Bk wx g1 (.cells #[.bool true, .slice A1 n1 c1] 24 (0, 0))
  b2 : Bk wx g2 (.cells #[.bool false, .slice A2 n2 c2] 24 (0, 0))
  b4 : Bk wx g4 (.cells #[.bool true, .slice A3 n3 c3, .bool false, .slice A4 n4 c4] 26 (0, 0))
  m1 : Nm wx (.slice A1 n1 c1) 4
  m2 : Nm wx (.slice A2 n2 c2) 1
  m3 : Nm wx (.slice A3 n3 c3) 3
  m4 : Nm wx (.slice A4 n4 c4) 2
  tb : Tb wx
  bl : Below w.heap.size w wx
section
variable {w wx wy : World} {g1 n1 c1 g2 n2 c2 g4 n3 c3 n4 c4 : Nat} {A1 A2 A3 A4 : Option Addr}
theorem AwMid.below (h : AwMid w g1 A1 n1 c1 g2 A2 n2 c2 g4 A3 n3 c3 A4 n4 c4 wx) (hb : Below wx.heap.size wx wy) : AwMid w g1 A1 n1 c1 g2 A2 n2 c2 g4 A3 n3 c3 A4 n4 c4 wy :=
  ⟨h.b1.step hb, h.b2.step hb, h.b4.step hb, h.m1.below hb, h.m2.below hb, h.m3.below hb, h.m4.below hb, h.tb.below hb, bthen h.bl hb (Nat.le_refl _)⟩
theorem AwMid.put (h : AwMid w g1 A1 n1 c1 g2 A2 n2 c2 g4 A3 n3 c3 A4 n4 c4 wx) {g : Nat} {T : TypeId} (q : Bk wx g (.cells #[.bool false, .slice none 0 0, .bool false, .slice none 0 0] T (0, 0))) (h1 : g1 ≠ g) (h2 : g2 ≠ g) (h4 : g4 ≠ g) (ht : 0 ≠ g) (hw : w.heap.size ≤ g) (a b c d : Value) :
    AwMid w g1 A1 n1 c1 g2 A2 n2 c2 g4 A3 n3 c3 A4 n4 c4 (put4 wx g a b c d) :=
  ⟨h.b1.grown (gb4 _ _ a b c d) h1, h.b2.grown (gb4 _ _ a b c d) h2, h.b4.grown (gb4 _ _ a b c d) h4, h.m1.offbox q (noInt_four _ _ _ _ _ _ _ _) (gb4 _ _ a b c d), h.m2.offbox q (noInt_four _ _ _ _ _ _ _ _) (gb4 _ _ a b c d), h.m3.offbox q (noInt_four _ _ _ _ _ _ _ _) (gb4 _ _ a b c d), h.m4.offbox q (noInt_four _ _ _ _ _ _ _ _) (gb4 _ _ a b c d), h.tb.grown (gb4 _ _ a b c d) ht, below4 h.bl hw a b c d⟩
end
theorem Bk.put4 {w : World} {g : Nat} {a b c d : Value} {T : TypeId} (h : Bk w g (.cells #[a, b, c, d] T (0, 0))) (x y z u : Value) : Bk (put4 w g x y z u) g (.cells #[x, y, z, u] T (0, 0)) := by
  unfold Bk at h ⊢
  simp only [Go.Proofs.YtffipjofefemiaaGreatDoor.put4, World.setCell, Array.getElem?_modify, h]
  simp
/-- What stands behind the example's fourth statement. -/
def AwEnd (w : World) (g1 : Nat) (A1 : Option Addr) (n1 c1 g2 : Nat) (A2 : Option Addr) (n2 c2 g4 : Nat) (A3 : Option Addr) (n3 c3 : Nat) (A4 : Option Addr) (n4 c4 : Nat) (s7 s8 : Value) (wx : World) : Prop :=
  s8 = .int .i64 0 ∧ ∃ g7 A m c B m' d, s7 = .pointer (some ⟨g7, 0, none⟩) ∧ Bk wx g7 (.cells #[.bool false, .slice A m c, .bool false, .slice B m' d] 26 (0, 0)) ∧ Nm wx (.slice A m c) 10 ∧ Nm wx (.slice B m' d) 1 ∧
    AwMid w g1 A1 n1 c1 g2 A2 n2 c2 g4 A3 n3 c3 A4 n4 c4 wx
theorem aw_cells {w wx : World} {g1 n1 c1 g2 n2 c2 g4 n3 c3 n4 c4 g7 m c m' d : Nat} {A1 A2 A3 A4 A B : Option Addr} (h : AwMid w g1 A1 n1 c1 g2 A2 n2 c2 g4 A3 n3 c3 A4 n4 c4 wx) (b : Bk wx g7 (.cells #[.bool false, .slice A m c, .bool false, .slice B m' d] 26 (0, 0))) :
    wx.cell? ⟨g1, 0, none⟩ = some (.bool true) ∧ wx.cell? ⟨g1, 1, none⟩ = some (.slice A1 n1 c1) ∧ wx.cell? ⟨g2, 0, none⟩ = some (.bool false) ∧ wx.cell? ⟨g2, 1, none⟩ = some (.slice A2 n2 c2) ∧ wx.cell? ⟨g4, 0, none⟩ = some (.bool true) ∧ wx.cell? ⟨g4, 1, none⟩ = some (.slice A3 n3 c3) ∧ wx.cell? ⟨g4, 2, none⟩ = some (.bool false) ∧ wx.cell? ⟨g4, 3, none⟩ = some (.slice A4 n4 c4) ∧ wx.cell? ⟨g7, 0, none⟩ = some (.bool false) ∧ wx.cell? ⟨g7, 1, none⟩ = some (.slice A m c) ∧ wx.cell? ⟨g7, 2, none⟩ = some (.bool false) ∧ wx.cell? ⟨g7, 3, none⟩ = some (.slice B m' d) := by
  obtain ⟨x0, x1, -, -⟩ := h.b1.c2
  obtain ⟨x2, x3, -, -⟩ := h.b2.c2
  obtain ⟨x4, x5, x6, x7, -, -, -, -⟩ := h.b4.c4
  obtain ⟨x8, x9, x10, x11, -, -, -, -⟩ := b.c4
  exact ⟨x0, x1, x2, x3, x4, x5, x6, x7, x8, x9, x10, x11⟩
section
variable {w wx : World} {g1 n1 c1 g2 n2 c2 g4 n3 c3 n4 c4 m c m' d : Nat} {A1 A2 A3 A4 A B : Option Addr}
theorem aw_alloc (h : AwMid w g1 A1 n1 c1 g2 A2 n2 c2 g4 A3 n3 c3 A4 n4 c4 wx) (ha : Nm wx (.slice A m c) 10) (hb : Nm wx (.slice B m' d) 1) :
    AwEnd w g1 A1 n1 c1 g2 A2 n2 c2 g4 A3 n3 c3 A4 n4 c4 (.pointer (some ⟨wx.heap.size, 0, none⟩)) (.int .i64 0) (wx.alloc (.cells #[.bool false, .slice A m c, .bool false, .slice B m' d] 26)) := by
  have hq := (Below.refl wx.heap.size wx).alloc (Nat.le_refl _) (.cells #[.bool false, .slice A m c, .bool false, .slice B m' d] 26)
  exact ⟨rfl, wx.heap.size, A, m, c, B, m', d, rfl, Bk.of_alloc _ _ rfl, ha.below hq, hb.below hq, h.below hq⟩
theorem aw_put (h : AwMid w g1 A1 n1 c1 g2 A2 n2 c2 g4 A3 n3 c3 A4 n4 c4 wx) (ha : Nm wx (.slice A m c) 10) (hb : Nm wx (.slice B m' d) 1) {g : Nat} (q : Bk wx g (.cells #[.bool false, .slice none 0 0, .bool false, .slice none 0 0] 26 (0, 0))) (h1 : g1 < g) (h2 : g2 < g) (h4 : g4 < g) (ht : 0 < g) (hw : w.heap.size ≤ g) :
    AwEnd w g1 A1 n1 c1 g2 A2 n2 c2 g4 A3 n3 c3 A4 n4 c4 (.pointer (some ⟨g, 0, none⟩)) (.int .i64 0) ((((wx.setCell ⟨g, 0, none⟩ (.bool false)).setCell ⟨g, 1, none⟩ (.slice A m c)).setCell ⟨g, 2, none⟩ (.bool false)).setCell ⟨g, 3, none⟩ (.slice B m' d)) :=
  ⟨rfl, g, A, m, c, B, m', d, rfl, q.put4 _ _ _ _, ha.offbox q (noInt_four _ _ _ _ _ _ _ _) (gb4 _ _ _ _ _ _), hb.offbox q (noInt_four _ _ _ _ _ _ _ _) (gb4 _ _ _ _ _ _), h.put q (by omega) (by omega) (by omega) (by omega) hw _ _ _ _⟩
end
theorem Slp.below {w w' : World} {sb n1 c1 m1 d1 n2 c2 m2 d2 : Nat} {A1 B1 A2 B2 : Option Addr} (h : Slp w sb A1 n1 c1 B1 m1 d1 A2 n2 c2 B2 m2 d2) (hb : Below w.heap.size w w') : Slp w' sb A1 n1 c1 B1 m1 d1 A2 n2 c2 B2 m2 d2 :=
  ⟨fun j u hj => (hb.cell (by rw [block_of_add]; exact h.ls)).trans (h.cells j u hj), Nat.lt_of_lt_of_le h.ls hb.size, h.na1.below hb, h.nb1.below hb, h.na2.below hb, h.nb2.below hb⟩
theorem crv_of {w : World} {b sb n1 c1 m1 d1 n2 c2 m2 d2 : Nat} {A1 B1 A2 B2 : Option Addr} {T : TypeId} (k : Bk w b (.cells #[.int .i64 0, .int .i64 10] T (0, 0))) (h : Slp w sb A1 n1 c1 B1 m1 d1 A2 n2 c2 B2 m2 d2) : Crv w b sb A1 n1 c1 B1 m1 d1 A2 n2 c2 B2 m2 d2 := by
  have hc := h.cells
  refine ⟨k.c2.1, k.c2.2.1, k.lt, h.ls, ?_, ?_, ?_, ?_, ?_, ?_, ?_, ?_, h.na1, h.nb1, h.na2, h.nb2⟩
  · have := hc 0 _ rfl; rwa [Addr.add_lit, Nat.zero_add] at this
  · have := hc 1 _ rfl; rwa [Addr.add_lit, Nat.zero_add] at this
  · have := hc 2 _ rfl; rwa [Addr.add_lit, Nat.zero_add] at this
  · have := hc 3 _ rfl; rwa [Addr.add_lit, Nat.zero_add] at this
  · have := hc 4 _ rfl; rwa [Addr.add_lit, Nat.zero_add] at this
  · have := hc 5 _ rfl; rwa [Addr.add_lit, Nat.zero_add] at this
  · have := hc 6 _ rfl; rwa [Addr.add_lit, Nat.zero_add] at this
  · have := hc 7 _ rfl; rwa [Addr.add_lit, Nat.zero_add] at this

set_option maxRecDepth 100000 in
set_option maxHeartbeats 4000000 in
theorem awake_true (w : World) (hT : Tb w) : Calls Tryz.prog 8 #[] w fun e w' => e = .returned (.bool true) ∧ Below w.heap.size w w' := by
  go_enter Tryz.func8, Tryz.ntmps8
  go_wp2_with fail
  refine (z_m7 w).mono ?_
  rintro e w1 ⟨A1, n1, c1, rfl, hn1, hb1⟩
  go_wp2_with fail
  refine (z_2 w1).mono ?_
  rintro e w2 ⟨A2, n2, c2, rfl, hn2, hb2⟩
  go_wp2_with fail
  refine (dm_72 A1 A2 n1 c1 n2 c2 w2 (hn1.below hb2) hn2).mono ?_
  rintro e w3 ⟨A3, n3, c3, A4, n4, c4, rfl, hn3, hn4, hb3⟩
  have hB3 := bthen (bthen hb1 hb2 (Nat.le_refl _)) hb3 (Nat.le_refl _)
  have T3 := hT.below hB3
  clear hn1 hn2 hb1 hb2 hb3
  have hq3 := below_two w3 (.cells #[.bool true, .slice A3 n3 c3] 24) (.cells #[.bool false, .slice A4 n4 c4] 24)
  have j1 := box1 w3 (.cells #[.bool true, .slice A3 n3 c3] 24) (.cells #[.bool false, .slice A4 n4 c4] 24)
  have j2 := box2 w3 (.cells #[.bool true, .slice A3 n3 c3] 24) (.cells #[.bool false, .slice A4 n4 c4] 24)
  go_wp2_with fail
  have hn3' := hn3.below hq3
  have hn4' := hn4.below hq3
  have hB4 := bthen hB3 hq3 (Nat.le_refl _)
  have T4 := T3.below hq3
  generalize hg1 : w3.heap.size = g1 at *
  clear hB3 T3 hn3 hn4 hq3
  refine (ratio_64 _ T4).mono ?_
  rintro e w4 ⟨A5, n5, c5, A6, n6, c6, rfl, hn5, hn6, hb4⟩
  replace j1 := j1.step hb4
  replace j2 := j2.step hb4
  replace hn3' := hn3'.below hb4
  replace hn4' := hn4'.below hb4
  replace T4 := T4.below hb4
  have hB5 := bthen hB4 hb4 (Nat.le_refl _)
  clear hB4 hb4 hg1
  go_wp2_with fail
  have k3 := three_new w4 (.cells #[.bool true, .slice A5 n5 c5, .bool false, .slice A6 n6 c6] 26) (.cells #[.int .i64 0, .int .i64 10] 3) (.cells #[.int .i64 2, .int .i64 0] 3)
  have hq4 := (((Below.refl w4.heap.size w4).alloc (Nat.le_refl _) (.cells #[.bool true, .slice A5 n5 c5, .bool false, .slice A6 n6 c6] 26)).alloc (by simp) (.cells #[.int .i64 0, .int .i64 10] 3)).alloc (by simp; omega) (.cells #[.int .i64 2, .int .i64 0] 3)
  generalize ((w4.alloc (.cells #[.bool true, .slice A5 n5 c5, .bool false, .slice A6 n6 c6] 26)).alloc (.cells #[.int .i64 0, .int .i64 10] 3)).alloc (.cells #[.int .i64 2, .int .i64 0] 3) = W5 at *
  obtain ⟨k4, k5, k6⟩ := k3
  replace j1 := j1.step hq4
  replace j2 := j2.step hq4
  replace hn3' := hn3'.below hq4
  replace hn4' := hn4'.below hq4
  replace hn5 := hn5.below hq4
  replace hn6 := hn6.below hq4
  replace T4 := T4.below hq4
  have hB6 := bthen hB5 hq4 (Nat.le_refl _)
  clear hB5 hq4
  generalize w4.heap.size = g4 at *
  obtain ⟨x0, x1, -, -⟩ := k6.c2
  refine (Ws_ex (g4 + 1 + 1) 2 W5 x0 x1 k6.lt).mono ?_
  rintro e w6 ⟨sb, sc, B1, m1, d1, B2, m2, d2, B3, m3, d3, B4, m4, d4, rfl, hs, hb6⟩
  replace j1 := j1.step hb6
  replace j2 := j2.step hb6
  replace k4 := k4.step hb6
  replace k5 := k5.step hb6
  replace hn3' := hn3'.below hb6
  replace hn4' := hn4'.below hb6
  replace hn5 := hn5.below hb6
  replace hn6 := hn6.below hb6
  replace T4 := T4.below hb6
  have hB7 := bthen hB6 hb6 (Nat.le_refl _)
  have hq6 := (Below.refl w6.heap.size w6).alloc (Nat.le_refl _) (.cells #[.slice (some ⟨g4 + 1, 0, none⟩) 2 2, .slice (some ⟨sb, 0, none⟩) 2 sc] 48)
  have k7 := Bk.of_alloc w6 (.cells #[.slice (some ⟨g4 + 1, 0, none⟩) 2 2, .slice (some ⟨sb, 0, none⟩) 2 sc] 48) rfl
  clear hb6 hB6 x0 x1 k6
  go_upto_region 4 with fail
  replace j1 := j1.step hq6
  replace j2 := j2.step hq6
  replace k4 := k4.step hq6
  replace k5 := k5.step hq6
  replace hn3' := hn3'.below hq6
  replace hn4' := hn4'.below hq6
  replace hn5 := hn5.below hq6
  replace hn6 := hn6.below hq6
  replace T4 := T4.below hq6
  have hs7 : Slp _ sb B1 m1 d1 B2 m2 d2 B3 m3 d3 B4 m4 d4 := hs.below hq6
  have hB8 := bthen hB7 hq6 (Nat.le_refl _)
  have hcv := crv_of k5 hs7
  have hmid : AwMid w g1 A3 n3 c3 (g1 + 1) A4 n4 c4 g4 A5 n5 c5 A6 n6 c6 _ := ⟨j1, j2, k4, hn3', hn4', hn5, hn6, T4, hB8⟩
  clear hB7 hs hq6 hs7 k5 j1 j2 k4 hn3' hn4' hn5 hn6 T4 hB8
  generalize hW : w6.alloc (.cells #[.slice (some ⟨g4 + 1, 0, none⟩) 2 2, .slice (some ⟨sb, 0, none⟩) 2 sc] 48) = W7 at *
  clear hW
  generalize w6.heap.size = g6 at *
  go_cut [7, 8] (fun s7 s8 wx => AwEnd w g1 A3 n3 c3 (g1 + 1) A4 n4 c4 g4 A5 n5 c5 A6 n6 c6 s7 s8 wx)
  case first =>
    obtain ⟨x0, x1, -, -⟩ := (show Bk W7.drew g6 _ from k7).c2
    obtain ⟨x2, x3, -, -⟩ := (show Bk (W7.alloc (.cells #[.bool false, .slice none 0 0, .bool false, .slice none 0 0] 26)).drew g6 _ from k7.alloc _).c2
    have hV : ∀ (A7 A8 : Option Addr) (n7 c7 n8 c8 : Nat) (w8 X : World), Below W7.heap.size W7 w8 → Nm w8 (.slice A7 n7 c7) 5 → Nm w8 (.slice A8 n8 c8) 1 → Below w8.heap.size w8 X → _ := fun A7 A8 n7 c7 n8 c8 w8 X h8 ha hb hX => Value_ex (g4 + 1) sb sc m1 d1 m2 d2 m3 d3 m4 d4 B1 B2 B3 B4 A7 A8 n7 c7 n8 c8 X ((hcv.below h8).below hX) (ha.below hX) (hb.below hX) ((hmid.tb.below h8).below hX)
    have q7 : Bk (W7.alloc (.cells #[.bool false, .slice none 0 0, .bool false, .slice none 0 0] 26)).drew W7.heap.size (.cells #[.bool false, .slice none 0 0, .bool false, .slice none 0 0] 26) := Bk.of_alloc W7 (.cells #[.bool false, .slice none 0 0, .bool false, .slice none 0 0] 26) rfl
    have HV := hid hV
    clear hV
    go_region_held3 (fun w' => w'.cell? ⟨g6, 0, none⟩ = some (.slice (some ⟨g4 + 1, 0, none⟩) 2 2) ∧ w'.cell? ⟨g6, 1, none⟩ = some (.slice (some ⟨sb, 0, none⟩) 2 sc)) (first | with_reducible exact ⟨x0, x1⟩ | with_reducible exact ⟨x2, x3⟩ | with_reducible exact ⟨x4, x5⟩ | with_reducible exact ⟨y0, y1⟩ | with_reducible exact ⟨y2, y3⟩ | with_reducible exact ⟨z0, z1⟩ | with_reducible exact ⟨z2, z3⟩ | with_reducible exact ⟨z4, z5⟩ | with_reducible exact ⟨off_four z9 z0, off_four z9 z1⟩ | with_reducible exact ⟨off_four z8 z0, off_four z8 z1⟩) (first
      | (go_at_call 50; with_reducible refine (w_5 _).mono ?_; rintro e w8 ⟨A7, n7, c7, A8, n8, c8, rfl, hn7, hn8, hb8⟩; have h8 : Below W7.heap.size W7 w8 := (by first | exact bthen (Below.refl W7.heap.size W7).drew hb8 (Nat.le_refl _) | exact bthen ((Below.refl W7.heap.size W7).alloc (Nat.le_refl _) (.cells #[.bool false, .slice none 0 0, .bool false, .slice none 0 0] 26)).drew hb8 (by simp)); (try (have q8 := q7.step hb8)); have k8 := k7.step h8; obtain ⟨y0, y1, -, -⟩ := k8.c2; have y2 := ((k8.alloc (.cells #[.bool false, .slice none 0 0, .bool false, .slice none 0 0] 26)).c2).1; have y3 := ((k8.alloc (.cells #[.bool false, .slice none 0 0, .bool false, .slice none 0 0] 26)).c2).2.1)
      | (go_at_call 34; (first | with_reducible refine (HV.out A7 A8 n7 c7 n8 c8 w8 w8 h8 hn7 hn8 (Below.refl _ _)).mono ?_ | with_reducible refine (HV.out A7 A8 n7 c7 n8 c8 w8 _ h8 hn7 hn8 ((Below.refl _ _).alloc (Nat.le_refl _) (.cells #[.bool false, .slice none 0 0, .bool false, .slice none 0 0] 26))).mono ?_); rintro e w9 ⟨A9, n9, c9, A10, n10, c10, rfl, hn9, hn10, hb9⟩; have h9 : Below W7.heap.size W7 w9 := (by first | exact bthen h8 hb9 (Nat.le_refl _) | exact bthen (h8.alloc h8.size _) hb9 (by simp)); (try (have q9 := q8.step hb9; obtain ⟨i0, i1, i2, i3, i4, i5, i6, i7⟩ := q9.c4)); (try (have q9 : Bk w9 w8.heap.size (.cells #[.bool false, .slice none 0 0, .bool false, .slice none 0 0] 26) := Bk.step (W := w8.alloc (.cells #[.bool false, .slice none 0 0, .bool false, .slice none 0 0] 26)) (Bk.of_alloc w8 _ rfl) hb9; obtain ⟨i0, i1, i2, i3, i4, i5, i6, i7⟩ := q9.c4)); have k9 := k7.step h9; obtain ⟨z0, z1, -, -⟩ := k9.c2; obtain ⟨z2, z3, -, -⟩ := (k9.alloc (.cells #[.bool false, .slice none 0 0, .bool false, .slice none 0 0] 26)).c2; obtain ⟨z4, z5, -, -⟩ := (k9.alloc (.cells #[.bool false, .slice A9 n9 c9, .bool false, .slice A10 n10 c10] 26)).c2; (try (have z8 : W7.heap.size ≠ g6 := (by have := k7.lt; omega))); (try (have z9 : w8.heap.size ≠ g6 := (by have := (k7.step h8).lt; omega)))))
    all_goals
      have L8 := h8.size
      have L1 := hmid.b1.lt
      have L2 := hmid.b2.lt
      have L4 := hmid.b4.lt
      have Lt := hmid.tb.2
      have Lw := hmid.bl.size
      have hm9 := hmid.below h9
      clear x0 x1 x2 x3 y0 y1 y2 y3 z0 z1 z2 z3 z4 z5 z8 z9
      go_wp2_with fail
      go_meet
      have G1 : g1 < W7.heap.size ∧ g1 + 1 < W7.heap.size ∧ g4 < W7.heap.size ∧ 0 < W7.heap.size ∧ w.heap.size ≤ W7.heap.size := ⟨L1, L2, L4, Lt, Lw⟩
      have G2 : g1 < w8.heap.size ∧ g1 + 1 < w8.heap.size ∧ g4 < w8.heap.size ∧ 0 < w8.heap.size ∧ w.heap.size ≤ w8.heap.size := by omega
      first
        | with_reducible exact aw_alloc hm9 hn9 hn10
        | with_reducible exact aw_put hm9 hn9 hn10 q9 G1.1 G1.2.1 G1.2.2.1 G1.2.2.2.1 G1.2.2.2.2
        | with_reducible exact aw_put hm9 hn9 hn10 q9 G2.1 G2.2.1 G2.2.2.1 G2.2.2.2.1 G2.2.2.2.2
  case rest =>
    obtain ⟨rfl, g7, A7, n7, c7, A8, n8, c8, rfl, b7, hn7, hn8, hm⟩ := hcut
    have T0 : Tb wc.drew := hm.tb
    have M0 : AwMid w g1 A3 n3 c3 (g1 + 1) A4 n4 c4 g4 A5 n5 c5 A6 n6 c6 wc.drew := hm.below (Below.refl _ _).drew
    have b0 : Bk wc.drew g7 _ := b7
    have p0 : Nm wc.drew (.slice A7 n7 c7) 10 := hn7
    have q0 : Nm wc.drew (.slice A8 n8 c8) 1 := hn8
    obtain ⟨x0, x1, -, -⟩ := M0.b1.c2
    obtain ⟨x2, x3, -, -⟩ := M0.b2.c2
    obtain ⟨x4, x5, x6, x7, -, -, -, -⟩ := M0.b4.c4
    obtain ⟨x8, x9, x10, x11, -, -, -, -⟩ := b0.c4
    clear hm b7 hn7 hn8
    go_wp2_with fail
    go_region_held3 (fun w' => w'.cell? ⟨g1, 0, none⟩ = some (.bool true) ∧ w'.cell? ⟨g1, 1, none⟩ = some (.slice A3 n3 c3) ∧ w'.cell? ⟨g1 + 1, 0, none⟩ = some (.bool false) ∧ w'.cell? ⟨g1 + 1, 1, none⟩ = some (.slice A4 n4 c4) ∧ w'.cell? ⟨g4, 0, none⟩ = some (.bool true) ∧ w'.cell? ⟨g4, 1, none⟩ = some (.slice A5 n5 c5) ∧ w'.cell? ⟨g4, 2, none⟩ = some (.bool false) ∧ w'.cell? ⟨g4, 3, none⟩ = some (.slice A6 n6 c6) ∧ w'.cell? ⟨g7, 0, none⟩ = some (.bool false) ∧ w'.cell? ⟨g7, 1, none⟩ = some (.slice A7 n7 c7) ∧ w'.cell? ⟨g7, 2, none⟩ = some (.bool false) ∧ w'.cell? ⟨g7, 3, none⟩ = some (.slice A8 n8 c8)) (first | with_reducible exact ⟨x0, x1, x2, x3, x4, x5, x6, x7, x8, x9, x10, x11⟩ | (with_reducible exact aw_cells M1 b1) | (with_reducible exact aw_cells M2 b2) | (with_reducible exact aw_cells M3 b3) | (with_reducible exact aw_cells M4 b4) | (with_reducible exact aw_cells M5 b5) | (with_reducible exact aw_cells M6 b6) | (with_reducible exact aw_cells M7 b7) | (with_reducible exact aw_cells M8 b8)) (first
      | (go_at_call 53; with_reducible refine (z_m4 wc.drew).mono ?_; rintro e w8 ⟨D1, d1, e1, rfl, hd1, hb8⟩; have M1 := M0.below hb8; have b1 := b0.step hb8)
      | (go_at_call 27; with_reducible refine (SameInt_true true A3 D1 n3 c3 d1 e1 4 w8 M1.m1 hd1).mono ?_; rintro e w9 ⟨rfl, hb9⟩; have M2 := M1.below hb9; have b2 := b1.step hb9)
      | (go_at_call 53; with_reducible refine (z_1 w9).mono ?_; rintro e w10 ⟨D2, d2, e2, rfl, hd2, hb10⟩; have M3 := M2.below hb10; have b3 := b2.step hb10)
      | (go_at_call 27; with_reducible refine (SameInt_true false A4 D2 n4 c4 d2 e2 1 w10 M3.m2 hd2).mono ?_; rintro e w11 ⟨rfl, hb11⟩; have M4 := M3.below hb11; have b4 := b3.step hb11)
      | (go_at_call 55; with_reducible refine (q_m32 w11 M4.tb).mono ?_; rintro e w12 ⟨D3, d3, e3, D4, d4, e4, rfl, hd3, hd4, hb12⟩; have M5 := M4.below hb12; have b5 := b4.step hb12)
      | (go_at_call 16; with_reducible refine (sr_m32 A5 A6 D3 D4 n5 c5 n6 c6 d3 e3 d4 e4 w12 M5.m3 M5.m4 hd3 hd4).mono ?_; rintro e w13 ⟨rfl, hb13⟩; have M6 := M5.below hb13; have b6 := b5.step hb13)
      | (go_at_call 50; with_reducible refine (w_10 w13).mono ?_; rintro e w14 ⟨D5, d5, e5, D6, d6, e6, rfl, hd5, hd6, hb14⟩; have M7 := M6.below hb14; have b7 := b6.step hb14)
      | (go_at_call 16; with_reducible refine (sr_10 A7 A8 D5 D6 n7 c7 n8 c8 d5 e5 d6 e6 w14 (((((((p0.below hb8).below hb9).below hb10).below hb11).below hb12).below hb13).below hb14) (((((((q0.below hb8).below hb9).below hb10).below hb11).below hb12).below hb13).below hb14) hd5 hd6).mono ?_; rintro e w15 ⟨rfl, hb15⟩; have M8 := M7.below hb15; have b8 := b7.step hb15))
    have hE := M8.bl
    clear x0 x1 x2 x3 x4 x5 x6 x7 x8 x9 x10 x11 M0 M1 M2 M3 M4 M5 M6 M7 M8 b0 b1 b2 b3 b4 b5 b6 b7 b8 hb8 hb9 hb10 hb11 hb12 hb13 hb14 hb15 hd1 hd2 hd3 hd4 hd5 hd6 T0 p0 q0
    go_wp2
    go_ret
    exact ⟨rfl, hE⟩

end Go.Proofs.YtffipjofefemiaaGreatDoor

namespace Go.Proofs.YtffipjofefemiaaGreatDoor
open Go.RowKit Kb

/-- The number has at most k limbs. -/
def Le (k : Nat) (z : Int) : Prop := z.natAbs < 65536 ^ k
theorem Le.len {k : Nat} {z : Int} (h : Le k z) : (dig z.natAbs).length ≤ k := dig_length_le h
theorem Le.mono {k l : Nat} {z : Int} (h : Le k z) (hk : k ≤ l) : Le l z := Nat.lt_of_lt_of_le h (Nat.pow_le_pow_right (by decide) hk)
theorem Le.add {k : Nat} {x y : Int} (h : Le k x) (h' : Le k y) : Le (k + 1) (x + y) := by
  unfold Le at *
  rw [Nat.pow_succ]
  have : (x + y).natAbs ≤ x.natAbs + y.natAbs := Int.natAbs_add_le x y
  omega
theorem Le.neg {k : Nat} {x : Int} (h : Le k x) : Le k (-x) := by unfold Le at *; rwa [Int.natAbs_neg]
theorem Le.sub {k : Nat} {x y : Int} (h : Le k x) (h' : Le k y) : Le (k + 1) (x - y) := by rw [Int.sub_eq_add_neg]; exact h.add h'.neg
theorem Le.mul {k l : Nat} {x y : Int} (h : Le k x) (h' : Le l y) : Le (k + l) (x * y) := by
  unfold Le at *
  rw [Int.natAbs_mul, Nat.pow_add]
  exact Nat.mul_lt_mul'' h h'
theorem Le.zero (k : Nat) : Le k 0 := by unfold Le; exact Nat.pow_pos (by decide)
theorem Le.one {k : Nat} (h : 0 < k) : Le k 1 := by
  unfold Le
  exact Nat.lt_of_lt_of_le (by decide : 1 < 65536 ^ 1) (Nat.pow_le_pow_right (by decide) h)
theorem Le.mod {k : Nat} {x y : Int} (h : Le k y) (h0 : y ≠ 0) : Le k (x % y) := by
  unfold Le at *
  have h1 := Int.emod_nonneg x h0
  have h2 := Int.emod_lt x h0
  omega
theorem Le.div {k : Nat} {x y : Int} (h : Le k x) (h0 : y ≠ 0) : Le (k + 1) (x / y) := by
  unfold Le at *
  rw [Nat.pow_succ]
  have h1 : (x / y).natAbs ≤ x.natAbs + 1 := by
    have e := Int.mul_ediv_add_emod x y
    have h1 := Int.emod_nonneg x h0
    have h2 := Int.emod_lt x h0
    have h3 : (y * (x / y)).natAbs = y.natAbs * (x / y).natAbs := Int.natAbs_mul _ _
    have h4 : (y * (x / y)).natAbs < x.natAbs + y.natAbs := by omega
    rw [h3] at h4
    have h5 : 0 < y.natAbs := by omega
    rcases Nat.lt_or_ge (x.natAbs + 1) (x / y).natAbs with h6 | h6
    · have h7 : y.natAbs * (x.natAbs + 2) ≤ y.natAbs * (x / y).natAbs := Nat.mul_le_mul_left _ h6
      rw [Nat.mul_add] at h7
      have h8 : x.natAbs ≤ y.natAbs * x.natAbs := Nat.le_mul_of_pos_left _ h5
      omega
    · exact h6
  have : 0 < 65536 ^ k := Nat.pow_pos (by decide)
  omega

/-- The fields read as the integer z, in whatever form. -/
def Zi (w : World) (s : Bool) (A : Option Addr) (n c : Nat) (z : Int) : Prop := ∃ a, Raw w A n c a ∧ Hid (toZ s a = z)
/-- The fields are the integer z, normalized. -/
def Zn (w : World) (s : Bool) (A : Option Addr) (n c : Nat) (z : Int) : Prop := Hid (s = decide (z < 0)) ∧ Nm w (.slice A n c) z.natAbs
section
variable {w w' : World} {s t : Bool} {A B : Option Addr} {n c m d : Nat} {z x y : Int}
theorem Zi.below (h : Zi w s A n c z) (hb : Below w.heap.size w w') : Zi w' s A n c z := by
  obtain ⟨a, h1, h2⟩ := h; exact ⟨a, h1.below hb, h2⟩
theorem Zn.below (h : Zn w s A n c z) (hb : Below w.heap.size w w') : Zn w' s A n c z := ⟨h.1, h.2.below hb⟩
theorem Zn.zi (h : Zn w s A n c z) : Zi w s A n c z := ⟨z.natAbs, h.2.raw, hid (by rw [h.1.out]; exact toZ_of z)⟩
theorem Zi.nat {a : Nat} (h : toZ s a = z) : a = z.natAbs := by rw [← h, natAbs_toZ]
theorem Raw.offbox {a g : Nat} {C : Array Value} {T : TypeId} (h : Raw w A n c a) (hb : w.heap[g]? = some (.cells C T (0, 0))) (hC : NoInt C) (hg : w.grownBy w' (some g)) : Raw w' A n c a := by
  obtain ⟨xs, h1, h2, h3⟩ := h
  exact ⟨xs, h1, h2.offbox hb hC hg, h3⟩
theorem Zi.offbox {g : Nat} {C : Array Value} {T : TypeId} (h : Zi w s A n c z) (hb : w.heap[g]? = some (.cells C T (0, 0))) (hC : NoInt C) (hg : w.grownBy w' (some g)) : Zi w' s A n c z := by
  obtain ⟨a, h1, h2⟩ := h; exact ⟨a, h1.offbox hb hC hg, h2⟩
theorem Zn.offbox {g : Nat} {C : Array Value} {T : TypeId} (h : Zn w s A n c z) (hb : w.heap[g]? = some (.cells C T (0, 0))) (hC : NoInt C) (hg : w.grownBy w' (some g)) : Zn w' s A n c z := ⟨h.1, h.2.offbox hb hC hg⟩
/-- With the sign struck: the absolute value. -/
theorem Zn.abs (h : Zn w s A n c z) : Zi w false A n c (z.natAbs : Int) := ⟨z.natAbs, h.2.raw, hid (by unfold toZ; rw [if_neg (by decide)])⟩
end

section
variable {P : Program} {f : FuncId} {args : Array Value} {w : World} {z : Int}
theorem zn_open (h : Calls P f args w fun e w' => ∃ v, e = .returned v ∧ Nz w' v z ∧ Below w.heap.size w w') :
    Calls P f args w fun e w' => ∃ s A n c, e = .returned (.agg #[.bool s, .slice A n c]) ∧ Zn w' s A n c z ∧ Below w.heap.size w w' := by
  refine (nz_openb h).mono ?_
  rintro e w' ⟨s, A, n, c, rfl, h1, h2, h3⟩
  exact ⟨s, A, n, c, rfl, ⟨h1, h2⟩, h3⟩
end
variable {s t : Bool} {A B : Option Addr} {n c m d : Nat} {x y : Int} {w : World}
theorem AddZ (h : Zi w s A n c x) (k : Zi w t B m d y) (hx : Le 1000 x) (hy : Le 1000 y) :
    Calls Tryz.prog 68 #[.agg #[.bool s, .slice A n c], .agg #[.bool t, .slice B m d]] w fun e w' => ∃ r C n c, e = .returned (.agg #[.bool r, .slice C n c]) ∧ Zn w' r C n c (x + y) ∧ Below w.heap.size w w' := by
  obtain ⟨a, ha, ea⟩ := h
  obtain ⟨b, hb, eb⟩ := k
  have := zn_open (Add_any s t A B n c m d a b w ha hb (by rw [Zi.nat ea.out]; have := hx.len; omega) (by rw [Zi.nat eb.out]; have := hy.len; omega))
  rwa [ea.out, eb.out] at this
theorem SubZ (h : Zi w s A n c x) (k : Zi w t B m d y) (hx : Le 1000 x) (hy : Le 1000 y) :
    Calls Tryz.prog 70 #[.agg #[.bool s, .slice A n c], .agg #[.bool t, .slice B m d]] w fun e w' => ∃ r C n c, e = .returned (.agg #[.bool r, .slice C n c]) ∧ Zn w' r C n c (x - y) ∧ Below w.heap.size w w' := by
  obtain ⟨a, ha, ea⟩ := h
  obtain ⟨b, hb, eb⟩ := k
  have := zn_open (Sub_any s t A B n c m d a b w ha hb (by rw [Zi.nat ea.out]; have := hx.len; omega) (by rw [Zi.nat eb.out]; have := hy.len; omega))
  rwa [ea.out, eb.out] at this
theorem MulZ (h : Zi w s A n c x) (k : Zi w t B m d y) (hx : Le 1000 x) (hy : Le 1000 y) :
    Calls Tryz.prog 59 #[.agg #[.bool s, .slice A n c], .agg #[.bool t, .slice B m d]] w fun e w' => ∃ r C n c, e = .returned (.agg #[.bool r, .slice C n c]) ∧ Zn w' r C n c (x * y) ∧ Below w.heap.size w w' := by
  obtain ⟨a, ha, ea⟩ := h
  obtain ⟨b, hb, eb⟩ := k
  have := zn_open (Mul_any s t A B n c m d a b w ha hb (by rw [Zi.nat ea.out]; have := hx.len; omega) (by rw [Zi.nat eb.out]; have := hy.len; omega))
  rwa [ea.out, eb.out] at this
theorem DivModZ (h : Zi w s A n c x) (k : Zi w t B m d y) (hx : Le 1000 x) (hy : Le 1000 y) (h0 : y ≠ 0) :
    Calls Tryz.prog 52 #[.agg #[.bool s, .slice A n c], .agg #[.bool t, .slice B m d]] w fun e w' => ∃ r C n c r' C' n' c', e = .returned (.tuple #[.agg #[.bool r, .slice C n c], .agg #[.bool r', .slice C' n' c'], .int .i64 0]) ∧ Zn w' r C n c (x / y) ∧ Zn w' r' C' n' c' (x % y) ∧ Below w.heap.size w w' := by
  obtain ⟨a, ha, ea⟩ := h
  obtain ⟨b, hb, eb⟩ := k
  have hb0 : b ≠ 0 := fun e => h0 (by rw [← eb.out, e]; cases t <;> rfl)
  refine (DivMod_any s t A B n c m d a b w ha hb hb0 (by rw [Zi.nat ea.out]; have := hx.len; omega) (by rw [Zi.nat eb.out]; have := hy.len; omega)).mono ?_
  rintro e w' ⟨v, u, rfl, ⟨C, n, c, rfl, h1⟩, ⟨C', n', c', rfl, h2⟩, hB⟩
  rw [ea.out, eb.out] at h1 h2
  exact ⟨_, C, n, c, _, C', n', c', rfl, ⟨hid (by rw [ea.out, eb.out]), h1⟩, ⟨hid (by rw [ea.out, eb.out]), h2⟩, hB⟩
theorem DivModZ0 (k : Zi w t B m d 0) :
    Calls Tryz.prog 52 #[.agg #[.bool s, .slice A n c], .agg #[.bool t, .slice B m d]] w fun e w' => ∃ r C n c r' C' n' c', e = .returned (.tuple #[.agg #[.bool r, .slice C n c], .agg #[.bool r', .slice C' n' c'], .int .i64 9]) ∧ Zn w' r C n c 0 ∧ Zn w' r' C' n' c' 0 ∧ Below w.heap.size w w' := by
  obtain ⟨b, hb, eb⟩ := k
  obtain rfl : b = 0 := Zi.nat eb.out
  refine (DivMod_zero s t A B n c m d w hb).mono ?_
  rintro e w' ⟨v, u, rfl, ⟨C, n, c, rfl, h1⟩, ⟨C', n', c', rfl, h2⟩, hB⟩
  exact ⟨_, C, n, c, _, C', n', c', rfl, ⟨hid rfl, h1⟩, ⟨hid rfl, h2⟩, hB⟩
theorem OfZ0 (w : World) :
    Calls Tryz.prog 60 #[.int .i64 0] w fun e w' => ∃ r C n c, e = .returned (.agg #[.bool r, .slice C n c]) ∧ Zn w' r C n c 0 ∧ Below w.heap.size w w' := zn_open (Of_any 0 w (by decide) (by decide))
theorem CmpZ (h : Zi w s A n c x) (k : Zi w t B m d y) (hx : Le 1000 x) :
    Calls Tryz.prog 77 #[.agg #[.bool s, .slice A n c], .agg #[.bool t, .slice B m d]] w fun e w' => e = .returned (.int .i64 (cmpZ x y)) ∧ Below w.heap.size w w' := by
  obtain ⟨a, ha, ea⟩ := h
  obtain ⟨b, hb, eb⟩ := k
  have := Cmp_any s t A B n c m d a b w ha hb (by rw [Zi.nat ea.out]; have := hx.len; omega)
  rwa [ea.out, eb.out] at this
theorem SameZ (h : Zn w s A n c x) (k : Zn w t B m d y) (e : x = y) :
    Calls Tryz.prog 27 #[.agg #[.bool s, .slice A n c], .agg #[.bool t, .slice B m d]] w fun e w' => e = .returned (.bool true) ∧ Below w.heap.size w w' := by
  subst e
  obtain rfl : s = t := h.1.out.trans k.1.out.symm
  exact SameInt_true s A B n c m d _ w h.2 k.2

end Go.Proofs.YtffipjofefemiaaGreatDoor
