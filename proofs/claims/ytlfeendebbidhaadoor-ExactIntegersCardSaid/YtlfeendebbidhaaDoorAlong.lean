/- The contracts of along and Value at the curve and the number of the statements' example. -/
import Derived.Test.YtlfeendebbidhaaDoorRise
namespace Go.Proofs.YtlfeendebbidhaaDoor
open Go.RowKit Kb

/-- What the loop of along holds: before the one part, and behind it. -/
def AlongRel (W1 w : World) (g gt : Nat) (iv : Value) (wr : World) : Prop :=
  (iv = .int .i64 0 ∧ wr = W1) ∨ (iv = .int .i64 1 ∧ Tot wr gt 10 ∧ Below w.heap.size w wr ∧ Tb wr ∧ Bk wr (g + 1 + 1) (.cells #[.bool false, .slice none 0 0, .bool false, .slice none 0 0] 42))
theorem rise_exn (A B C D E F : Option Addr) (n1 c1 m1 d1 n2 c2 m2 d2 n3 c3 m3 d3 : Nat) (w : World) (ha : Nm w (.slice A n1 c1) 2) (hb : Nm w (.slice B m1 d1) 1) (hc : Nm w (.slice C n2 c2) 0) (hd : Nm w (.slice D m2 d2) 1) (he : Nm w (.slice E n3 c3) 5) (hf : Nm w (.slice F m3 d3) 1) (hT : Tb w) :
    Calls Tryd.prog 67 #[.agg #[.bool false, .slice A n1 c1, .bool false, .slice B m1 d1], .agg #[.bool false, .slice C n2 c2, .bool false, .slice D m2 d2], .agg #[.bool false, .slice E n3 c3, .bool false, .slice F m3 d3]] w fun e w' => ∃ v, e = .returned v ∧ Rz w' v ((10 : Nat) : Int) ((1 : Nat) : Int) ∧ Below w.heap.size w w' :=
  rise_ex A B C D E F n1 c1 m1 d1 n2 c2 m2 d2 n3 c3 m3 d3 w ha hb hc hd he hf hT
theorem number_0 (w : World) :
    Calls Tryd.prog 82 #[.int .i64 0] w fun e w' => ∃ v, e = .returned v ∧ Rz w' v ((0 : Nat) : Int) ((1 : Nat) : Int) ∧ Below w.heap.size w w' := number_any 0 w (by decide) (by decide)
theorem total_add10 (g : Nat) (A B : Option Addr) (n c m d : Nat) (w : World) (h : Tot w g 0) (k : Nm w (.slice A n c) 10) (kd : Nm w (.slice B m d) 1) :
    Calls Tryd.prog 83 #[.pointer (some ⟨g, 0, none⟩), .agg #[.bool false, .slice A n c, .bool false, .slice B m d]] w fun e w' => e = .returned (.tuple #[]) ∧ Tot w' g 10 ∧ w.grownBy w' (some g) :=
  total_add g 0 10 false A B n c m d w h k (hid rfl) kd (by rw [show (0 : Int).natAbs = 0 from rfl, dig_zero]; decide) (by rw [show (10 : Int).natAbs = 10 from rfl, dig_small (by decide) (by decide)]; decide)
theorem total_value10 (g : Nat) (w : World) (h : Tot w g 10) (hT : Tb w) :
    Calls Tryd.prog 84 #[.pointer (some ⟨g, 0, none⟩)] w fun e w' => ∃ v, e = .returned v ∧ Rz w' v ((10 : Nat) : Int) ((1 : Nat) : Int) ∧ Below w.heap.size w w' :=
  total_value g 10 w h (by decide) hT (by rw [show (10 : Int).natAbs = 10 from rfl, dig_small (by decide) (by decide)]; decide)
theorem Bk.grown {w w' : World} {g r : Nat} {o : Obj} (h : Bk w g o) (hb : w.grownBy w' (some r)) (hne : g ≠ r) : Bk w' g o := (hb.block g h.lt (fun e => hne (by injection e))).trans h
theorem gb_cell {w w' : World} {r g i : Nat} {v : Value} (h : w.grownBy w' (some r)) (hc : w.cell? ⟨g, i, none⟩ = some v) (hne : g ≠ r) : w'.cell? ⟨g, i, none⟩ = some v := h.cell hc (by simpa using hne)

set_option maxRecDepth 100000 in
set_option maxHeartbeats 4000000 in
theorem along_ex (b sb sc n1 c1 m1 d1 n2 c2 m2 d2 : Nat) (A1 B1 A2 B2 A B : Option Addr) (n c m d : Nat) (w : World) (h : Crv w b sb A1 n1 c1 B1 m1 d1 A2 n2 c2 B2 m2 d2) (hn : Nm w (.slice A n c) 5) (hd : Nm w (.slice B m d) 1) (hT : Tb w) :
    Calls Tryd.prog 66 #[.agg #[.slice (some ⟨b, 0, none⟩) 2 2, .slice (some ⟨sb, 0, none⟩) 2 sc], .agg #[.bool false, .slice A n c, .bool false, .slice B m d], .func (.func 67) #[] #[]] w fun e w' => ∃ v, e = .returned v ∧ Rz w' v 10 1 ∧ Below w.heap.size w w' := by
  have b0 := three_new w (.cells #[.slice (some ⟨b, 0, none⟩) 2 2, .slice (some ⟨sb, 0, none⟩) 2 sc] 58) (.cells #[.bool false, .slice A n c, .bool false, .slice B m d] 42) (.cells #[.bool false, .slice none 0 0, .bool false, .slice none 0 0] 42)
  have hB := (((Below.refl w.heap.size w).alloc (Nat.le_refl _) (.cells #[.slice (some ⟨b, 0, none⟩) 2 2, .slice (some ⟨sb, 0, none⟩) 2 sc] 58)).alloc (by simp) (.cells #[.bool false, .slice A n c, .bool false, .slice B m d] 42)).alloc (by simp; omega) (.cells #[.bool false, .slice none 0 0, .bool false, .slice none 0 0] 42)
  obtain ⟨g, hg⟩ : ∃ g, w.heap.size = g := ⟨_, rfl⟩
  go_enter Tryd.func66, Tryd.ntmps66
  go_wp2_with fail
  rw [hg] at b0
  generalize ((w.alloc (.cells #[.slice (some ⟨b, 0, none⟩) 2 2, .slice (some ⟨sb, 0, none⟩) 2 sc] 58)).alloc (.cells #[.bool false, .slice A n c, .bool false, .slice B m d] 42)).alloc (.cells #[.bool false, .slice none 0 0, .bool false, .slice none 0 0] 42) = W0 at *
  have h0 := h.below hB
  have hn0 := hn.below hB
  have hd0 := hd.below hB
  have T0 := hT.below hB
  have HB := hid hB
  have Hg := hid hg
  have hTl := hT.2
  obtain ⟨a0, a1, a2⟩ := b0
  have a2lt := a2.lt
  clear hB hg h hn hd hT
  refine (newTotal_any _).mono ?_
  rintro e w1 ⟨gt, rfl, hgt, ht1, hb1⟩
  replace a0 := a0.step hb1
  replace a1 := a1.step hb1
  replace a2 := a2.step hb1
  have h1 := h0.below hb1
  have hn1' := hn0.below hb1
  have hd1' := hd0.below hb1
  have T1 := T0.below hb1
  have HB1 := hid (bthen HB.out hb1 (Nat.le_refl _))
  have Hgt := hid (show b < gt ∧ sb < gt ∧ w.heap.size ≤ gt ∧ g + 1 + 1 < gt from ⟨Nat.lt_of_lt_of_le h0.lb hgt, Nat.lt_of_lt_of_le h0.ls hgt, Nat.le_trans HB.out.size hgt, Nat.lt_of_lt_of_le a2lt hgt⟩)
  obtain ⟨x0, x1, -, -⟩ := a0.c2
  obtain ⟨x2, x3, x4, x5, -, -, -, -⟩ := a1.c4
  clear h0 hn0 hd0 T0 hb1 hgt
  go_wp2_with fail
  refine (startsUpTo_5 b (some ⟨sb, 0, none⟩) 2 sc A B n c m d _ h1.s0 h1.s1 h1.lb hn1' hd1').mono ?_
  rintro e w2 ⟨rfl, hb2⟩
  replace a0 := a0.step hb2
  replace a1 := a1.step hb2
  replace a2 := a2.step hb2
  have h2 := h1.below hb2
  have hn2' := hn1'.below hb2
  have hd2' := hd1'.below hb2
  have T2 := T1.below hb2
  have ht2 := ht1.below hb2
  have HB2 := hid (bthen HB1.out hb2 (Nat.le_refl _))
  clear x0 x1 x2 x3 x4 x5 h1 hn1' hd1' T1 ht1 hb2 HB1 HB
  go_wp2
  obtain ⟨u0, u1, -, -⟩ := a0.c2
  obtain ⟨u2, u3, u4, u5, -, -, -, -⟩ := a1.c4
  have hgl := Hg.out
  have hgt0 := Hgt.out
  go_loopw [16] (fun iv wr => AlongRel w2 w g gt iv wr) (fun iv _ => 1 - (intOf iv).toNat)
  case atStart => exact .inl ⟨rfl, rfl⟩
  case round =>
    rcases hrel with ⟨rfl, rfl⟩ | ⟨rfl, ht5, hbel5, T5, a5⟩
    · have hq := (Below.refl wr.heap.size wr).alloc (Nat.le_refl _) (.cells #[.bool false, .slice A n c, .bool false, .slice B m d] 42)
      have j4 := Bk.of_alloc wr (.cells #[.bool false, .slice A n c, .bool false, .slice B m d] 42) rfl
      have j0 := a0.alloc (.cells #[.bool false, .slice A n c, .bool false, .slice B m d] 42)
      have j2 := a2.alloc (.cells #[.bool false, .slice A n c, .bool false, .slice B m d] 42)
      have hltg := ht2.lt
      have Hne := hid (show g ≠ gt ∧ b ≠ gt ∧ sb ≠ gt ∧ wr.heap.size ≠ gt ∧ g + 1 + 1 ≠ gt ∧ 0 ≠ gt from by have := a2.lt; have := hgt0; have := hTl; omega)
      obtain ⟨tb, htb⟩ : ∃ tb, wr.heap.size = tb := ⟨_, rfl⟩
      go_wp2_with fail
      rw [htb] at j4
      generalize hW : wr.alloc (.cells #[.bool false, .slice A n c, .bool false, .slice B m d] 42) = W3 at *
      clear hW
      have h3 := h2.below hq.drew
      have t3 := ht2.below hq.drew
      have T3 := T2.below hq.drew
      have hn3 := hn2'.below hq.drew
      have hd3 := hd2'.below hq.drew
      have HB3 := hid (bthen HB2.out hq.drew (Nat.le_refl _))
      have Htb := hid htb
      replace j0 : Bk W3.drew g _ := j0
      replace j2 : Bk W3.drew (g + 1 + 1) _ := j2
      replace j4 : Bk W3.drew tb _ := j4
      obtain ⟨x0, x1, -, -⟩ := j0.c2
      obtain ⟨x2, x3, x4, x5, -, -, -, -⟩ := j4.c4
      have x6 := h3.p0
      have x7 := h3.p1
      have x8 := h3.p2
      have x9 := h3.p3
      have x10 := h3.s0
      clear hq htb h2 hn2' hd2' ht2 T2 a0 a1 a2 u0 u1 u2 u3 u4 u5
      go_region_held3 (fun w' => w'.cell? ⟨g, 0, none⟩ = some (.slice (some ⟨b, 0, none⟩) 2 2) ∧ w'.cell? ⟨g, 1, none⟩ = some (.slice (some ⟨sb, 0, none⟩) 2 sc) ∧ w'.cell? ⟨tb, 0, none⟩ = some (.bool false) ∧ w'.cell? ⟨tb, 1, none⟩ = some (.slice A n c) ∧ w'.cell? ⟨tb, 2, none⟩ = some (.bool false) ∧ w'.cell? ⟨tb, 3, none⟩ = some (.slice B m d) ∧ w'.cell? ⟨sb, 0, none⟩ = some (.bool false) ∧ w'.cell? ⟨sb, 1, none⟩ = some (.slice A1 n1 c1) ∧ w'.cell? ⟨sb, 2, none⟩ = some (.bool false) ∧ w'.cell? ⟨sb, 3, none⟩ = some (.slice B1 m1 d1) ∧ w'.cell? ⟨b, 0, none⟩ = some (.int .i64 0)) (first | exact ⟨x0, x1, x2, x3, x4, x5, x6, x7, x8, x9, x10⟩ | exact ⟨y0, y1, y2, y3, y4, y5, y6, y7, y8, y9, y10⟩ | exact ⟨z0, z1, z2, z3, z4, z5, z6, z7, z8, z9, z10⟩ | exact ⟨gb_cell hgb6 z0 Hne.out.1, gb_cell hgb6 z1 Hne.out.1, gb_cell hgb6 z2 Hne3, gb_cell hgb6 z3 Hne3, gb_cell hgb6 z4 Hne3, gb_cell hgb6 z5 Hne3, gb_cell hgb6 z6 Hne.out.2.2.1, gb_cell hgb6 z7 Hne.out.2.2.1, gb_cell hgb6 z8 Hne.out.2.2.1, gb_cell hgb6 z9 Hne.out.2.2.1, gb_cell hgb6 z10 Hne.out.2.1⟩) (first
        | (go_at_call 82; with_reducible refine (rz_nat (number_0 W3.drew)).mono ?_; rintro e w4 ⟨A4, n4, c4, A5, n5, c5, rfl, hn4, hn5, hb4⟩; have h4 := h3.below hb4; replace j0 := j0.step hb4; replace j2 := j2.step hb4; replace j4 := j4.step hb4; obtain ⟨y0, y1, -, -⟩ := j0.c2; obtain ⟨y2, y3, y4, y5, -, -, -, -⟩ := j4.c4; have y6 := h4.p0; have y7 := h4.p1; have y8 := h4.p2; have y9 := h4.p3; have y10 := h4.s0)
        | (go_at_call 67; with_reducible refine (rz_nat (rise_exn A1 B1 A4 A5 A B n1 c1 m1 d1 n4 c4 n5 c5 n c m d w4 h4.na1 h4.nb1 hn4 hn5 (hn3.below hb4) (hd3.below hb4) (T3.below hb4))).mono ?_; rintro e w5 ⟨A6, n6, c6, A7, n7, c7, rfl, hn6, hn7, hb5⟩; have h5 := h4.below hb5; replace j0 := j0.step hb5; replace j2 := j2.step hb5; replace j4 := j4.step hb5; obtain ⟨z0, z1, -, -⟩ := j0.c2; obtain ⟨z2, z3, z4, z5, -, -, -, -⟩ := j4.c4; have z6 := h5.p0; have z7 := h5.p1; have z8 := h5.p2; have z9 := h5.p3; have z10 := h5.s0)
        | (go_at_call 83; with_reducible refine (total_add10 gt A6 A7 n6 c6 n7 c7 w5 ((t3.below hb4).below hb5) hn6 hn7).mono ?_; rintro e w6 ⟨rfl, ht6, hgb6⟩; have Hne3 : tb ≠ gt := by rw [← Htb.out]; exact Hne.out.2.2.2.1))
      have hB5 := bthen (bthen HB3.out hb4 (Nat.le_refl _)) hb5 (Nat.le_refl _)
      have hge := Hgt.out.2.2.1
      have hsz5 := hB5.size
      have hB6 := hid (hB5.grown hgb6 hsz5 (fun k hk => by injection hk with hk; omega))
      have T6 := hid (((T3.below hb4).below hb5).grown hgb6 Hne.out.2.2.2.2.2)
      have a6 := hid (j2.grown hgb6 Hne.out.2.2.2.2.1)
      have H6 := hid ht6
      clear hB5 hb4 hb5 hgb6 j0 j2 j4 x0 x1 x2 x3 x4 x5 x6 x7 x8 x9 x10 y0 y1 y2 y3 y4 y5 y6 y7 y8 y9 y10 z0 z1 z2 z3 z4 z5 z6 z7 z8 z9 z10 hn4 hn5 hn6 hn7 h3 h4 h5 t3 T3 hn3 hd3 ht6 hge hsz5 hTl hgt0 hgl
      go_wp2
      go_roundw
      case rel => exact .inr ⟨rfl, H6.out, hB6.out, T6.out, a6.out⟩
      case measure => simp [intOf]
    · clear u0 u1 u2 u3 u4 u5 h2 hn2' hd2' T2 ht2 a0 a1 a2 hgt0 hgl hTl
      have H5 := hid hbel5
      clear hbel5
      go_wp2_with fail
      refine (rz_nat (total_value10 gt wr ht5 T5)).mono ?_
      rintro e w7 ⟨A6, n6, c6, A7, n7, c7, rfl, hn6, hn7, hb7⟩
      have q4 := a5.step hb7
      have hl7 := q4.lt
      obtain ⟨i0, i1, i2, i3, i4, i5, i6, i7⟩ := q4.c4
      have h5 := bthen H5.out hb7 (Nat.le_refl _)
      have hgl := Hg.out
      have h11 := hid (below4 h5 (show w.heap.size ≤ g + 1 + 1 by omega) (.bool false) (.slice A6 n6 c6) (.bool false) (.slice A7 n7 c7))
      have m1' := hid (hn6.offbox q4 (noInt_four _ _ _ _ _ _ _ _) (gb4 _ _ (.bool false) (.slice A6 n6 c6) (.bool false) (.slice A7 n7 c7)))
      have m2' := hid (hn7.offbox q4 (noInt_four _ _ _ _ _ _ _ _) (gb4 _ _ (.bool false) (.slice A6 n6 c6) (.bool false) (.slice A7 n7 c7)))
      clear hgl h5 q4 hn6 hn7 hb7 a5 T5 ht5
      go_wp2
      exact bodyPost_ret (v := .agg #[.bool false, .slice A6 n6 c6, .bool false, .slice A7 n7 c7]) (by simp [results, Tryd.results66, go_sem, i0, i1, i2, i3]) rfl ⟨_, rfl, ⟨false, A6, n6, c6, false, A7, n7, c7, rfl, hid rfl, hid rfl, m1'.out, m2'.out⟩, h11.out⟩

end Go.Proofs.YtlfeendebbidhaaDoor
