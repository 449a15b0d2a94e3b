/- ExactField at fractions of at most 12 limbs. -/
import Derived.Test.YtffipjofefemiaaDoorMJ
namespace Go.Proofs.YtffipjofefemiaaDoor
open Go.RowKit Kb

theorem divQ {x y : Rat} (hy : y ≠ 0) : x * y / y = x := Rat.mul_div_cancel hy
theorem QL.div {k l : Nat} {x y : Rat} (h : QL k x) (g : QL l y) (hy : y ≠ 0) (hk : 0 < k) : QL (k + l) (x / y) := by
  obtain ⟨e, h1, h2⟩ := h.pq.div g.pq (fun e => hy (Rat.num_eq_zero.1 e))
  rw [← e]
  exact rv_ql (by omega) h1 h2

set_option maxRecDepth 100000 in
set_option maxHeartbeats 80000000 in
theorem field_short (p1 : Bool) (A1 : Option Addr) (n1 c1 : Nat) (q1 : Bool) (B1 : Option Addr) (m1 d1 : Nat) (x : Rat) (p2 : Bool) (A2 : Option Addr) (n2 c2 : Nat) (q2 : Bool) (B2 : Option Addr) (m2 d2 : Nat) (y : Rat) (p3 : Bool) (A3 : Option Addr) (n3 c3 : Nat) (q3 : Bool) (B3 : Option Addr) (m3 d3 : Nat) (z : Rat) (w : World) (hx : Qi w p1 A1 n1 c1 q1 B1 m1 d1 12 x) (hy : Qi w p2 A2 n2 c2 q2 B2 m2 d2 12 y) (hz : Qi w p3 A3 n3 c3 q3 B3 m3 d3 12 z) (hT : Tb w) (b1 : n1 ≤ 12) (b2 : m1 ≤ 12) (b3 : n2 ≤ 12) (b4 : m2 ≤ 12) (b5 : n3 ≤ 12) (b6 : m3 ≤ 12) :
    Calls Tryd.prog 3 #[.agg #[.bool p1, .slice A1 n1 c1, .bool q1, .slice B1 m1 d1], .agg #[.bool p2, .slice A2 n2 c2, .bool q2, .slice B2 m2 d2], .agg #[.bool p3, .slice A3 n3 c3, .bool q3, .slice B3 m3 d3]] w fun e w' => e = .returned (.bool true) ∧ Below w.heap.size w w' := by
  have k2 := three_new w (.cells #[.bool p1, .slice A1 n1 c1, .bool q1, .slice B1 m1 d1] 26) (.cells #[.bool p2, .slice A2 n2 c2, .bool q2, .slice B2 m2 d2] 26) (.cells #[.bool p3, .slice A3 n3 c3, .bool q3, .slice B3 m3 d3] 26)
  have hB := (((Below.refl w.heap.size w).alloc (Nat.le_refl _) (.cells #[.bool p1, .slice A1 n1 c1, .bool q1, .slice B1 m1 d1] 26)).alloc (by simp) (.cells #[.bool p2, .slice A2 n2 c2, .bool q2, .slice B2 m2 d2] 26)).alloc (by simp; omega) (.cells #[.bool p3, .slice A3 n3 c3, .bool q3, .slice B3 m3 d3] 26)
  obtain ⟨g, hg⟩ : ∃ g, w.heap.size = g := ⟨_, rfl⟩
  have lx := hx.ql (by decide)
  have ly := hy.ql (by decide)
  have lz := hz.ql (by decide)
  have lyz := ly.add lz
  have lxyz := lx.mul lyz
  have lxy := lx.mul ly
  have lxz := lx.mul lz
  have lsum := lxy.add lxz
  have lxay := lx.add ly
  have lback := lxay.sub ly
  go_enter Tryd.func3, Tryd.ntmps3
  go_wp2_with fail
  rw [hg] at k2
  generalize ((w.alloc (.cells #[.bool p1, .slice A1 n1 c1, .bool q1, .slice B1 m1 d1] 26)).alloc (.cells #[.bool p2, .slice A2 n2 c2, .bool q2, .slice B2 m2 d2] 26)).alloc (.cells #[.bool p3, .slice A3 n3 c3, .bool q3, .slice B3 m3 d3] 26) = W0 at *
  have R0 : L3 w g p1 A1 n1 c1 q1 B1 m1 d1 x p2 A2 n2 c2 q2 B2 m2 d2 y p3 A3 n3 c3 q3 B3 m3 d3 z W0 := ⟨⟨k2.1, hx.below hB⟩, ⟨k2.2.1, hy.below hB⟩, ⟨k2.2.2, hz.below hB⟩, hT.below hB, hB⟩
  clear hx hy hz hT hB hg k2
  have hcells := R0.cells
  refine (wide_no b1 b2).mono ?_
  rintro e w1 ⟨rfl, hb1⟩
  have R1 := R0.below hb1
  clear R0 hb1 hcells
  have hcells := R1.cells
  go_wp2_with fail
  refine (wide_no b3 b4).mono ?_
  rintro e w2 ⟨rfl, hb2⟩
  have R2 := R1.below hb2
  clear R1 hb2 hcells
  have hcells := R2.cells
  go_wp2_with fail
  refine (wide_no b5 b6).mono ?_
  rintro e w3 ⟨rfl, hb3⟩
  have R := R2.below hb3
  clear R2 hb3 hcells b1 b2 b3 b4 b5 b6
  have K := R.clo
  go_upto_region 3 with fail
  go_cut [7] (fun s7 wx => One4 (L3 w g p1 A1 n1 c1 q1 B1 m1 d1 x p2 A2 n2 c2 q2 B2 m2 d2 y p3 A3 n3 c3 q3 B3 m3 d3 z) w3.heap.size (x * (y + z)) s7 wx)
  case first =>
    rename_i Kr hKr J0 K0 hJ0 hK0
    clear hKr
    go_region_held3 (fun w' => w'.cell? ⟨g, 0, none⟩ = some (.bool p1) ∧ w'.cell? ⟨g, 1, none⟩ = some (.slice A1 n1 c1) ∧ w'.cell? ⟨g, 2, none⟩ = some (.bool q1) ∧ w'.cell? ⟨g, 3, none⟩ = some (.slice B1 m1 d1) ∧ w'.cell? ⟨g + 1, 0, none⟩ = some (.bool p2) ∧ w'.cell? ⟨g + 1, 1, none⟩ = some (.slice A2 n2 c2) ∧ w'.cell? ⟨g + 1, 2, none⟩ = some (.bool q2) ∧ w'.cell? ⟨g + 1, 3, none⟩ = some (.slice B2 m2 d2) ∧ w'.cell? ⟨g + 1 + 1, 0, none⟩ = some (.bool p3) ∧ w'.cell? ⟨g + 1 + 1, 1, none⟩ = some (.slice A3 n3 c3) ∧ w'.cell? ⟨g + 1 + 1, 2, none⟩ = some (.bool q3) ∧ w'.cell? ⟨g + 1 + 1, 3, none⟩ = some (.slice B3 m3 d3)) (first
      | with_reducible exact L3.cells (K.below R dr0)
      | with_reducible exact L3.cells (K.below R dr1)
      | with_reducible exact L3.cells R1
      | with_reducible exact L3.cells (K.below R1 al1)
      | with_reducible exact L3.cells R2
      | with_reducible exact L3.cells (K.below R2 al1)
      | with_reducible exact L3.cells (K.set R2 qa)) (first
      | (go_at_call 7; (first | with_reducible refine (AddRat_q (K.below R dr0).b.z (K.below R dr0).c.z (by decide) (by decide) (by decide) (by decide) (K.below R dr0).tb).mono ?_ | with_reducible refine (AddRat_q (K.below R dr1).b.z (K.below R dr1).c.z (by decide) (by decide) (by decide) (by decide) (K.below R dr1).tb).mono ?_); rintro e wa1 ⟨s1, E1, o1, e1, s2, E2, o2, e2, rfl, h4, hb1⟩; (first | (have H := sd1q (Nat.le_refl _) hb1; obtain ⟨hc1, qa⟩ := H) | (have hc1 := sd0 hb1)); have R1 := K.below R hc1; have hN1 := hc1.size)
      | (go_at_call 6; (first | with_reducible refine (MulRat_q R1.a.z (h4.qi lyz) (by decide) (by decide) (by decide) (by decide) R1.tb).mono ?_ | with_reducible refine (MulRat_q (K.below R1 al1).a.z ((h4.below al1).qi lyz) (by decide) (by decide) (by decide) (by decide) (K.below R1 al1).tb).mono ?_); rintro e wa2 ⟨s3, E3, o3, e3, s4, E4, o4, e4, rfl, h5, hb2⟩; (first | (have H := se1q hN1 hb2; obtain ⟨hc2, qa⟩ := H) | (have hc2 := hb2; (try replace qa := qa.step hc2))); have R2 := K.below R1 hc2; have hN2 := Nat.le_trans hN1 hc2.size; replace h4 := h4.below hc2; (try have lqa := qa.lt); (try obtain ⟨_, _, _, _, _, _, _, _⟩ := qa.1.c4)))
    all_goals
      (try clear lqa)
      go_wp2_with fail
      go_meet
      first
        | with_reducible exact one4a K R2 h5 hN2
        | with_reducible exact one4b K R2 h5 qa
  case rest =>
    obtain ⟨g7, p7, A7, n7, c7, q7, B7, m7, d7, rfl, hN7, j7, hM⟩ := hcut
    clear R K
    rename World => wc
    have P : M1 (L3 w g p1 A1 n1 c1 q1 B1 m1 d1 x p2 A2 n2 c2 q2 B2 m2 d2 y p3 A3 n3 c3 q3 B3 m3 d3 z) g7 p7 A7 n7 c7 q7 B7 m7 d7 (x * (y + z)) wc := ⟨hM, j7⟩
    have K : Clo4 (M1 (L3 w g p1 A1 n1 c1 q1 B1 m1 d1 x p2 A2 n2 c2 q2 B2 m2 d2 y p3 A3 n3 c3 q3 B3 m3 d3 z) g7 p7 A7 n7 c7 q7 B7 m7 d7 (x * (y + z))) wc.heap.size := hM.clo.m1 (Nat.le_refl _) j7.b.lt
    clear j7 hM hN7
    go_upto_region 4 with fail
    go_cut [8] (fun s8 wx => One4 (M1 (L3 w g p1 A1 n1 c1 q1 B1 m1 d1 x p2 A2 n2 c2 q2 B2 m2 d2 y p3 A3 n3 c3 q3 B3 m3 d3 z) g7 p7 A7 n7 c7 q7 B7 m7 d7 (x * (y + z))) wc.heap.size (x * y + x * z) s8 wx)
    case first =>
      go_region_held3 (fun w' => w'.cell? ⟨g, 0, none⟩ = some (.bool p1) ∧ w'.cell? ⟨g, 1, none⟩ = some (.slice A1 n1 c1) ∧ w'.cell? ⟨g, 2, none⟩ = some (.bool q1) ∧ w'.cell? ⟨g, 3, none⟩ = some (.slice B1 m1 d1) ∧ w'.cell? ⟨g + 1, 0, none⟩ = some (.bool p2) ∧ w'.cell? ⟨g + 1, 1, none⟩ = some (.slice A2 n2 c2) ∧ w'.cell? ⟨g + 1, 2, none⟩ = some (.bool q2) ∧ w'.cell? ⟨g + 1, 3, none⟩ = some (.slice B2 m2 d2) ∧ w'.cell? ⟨g + 1 + 1, 0, none⟩ = some (.bool p3) ∧ w'.cell? ⟨g + 1 + 1, 1, none⟩ = some (.slice A3 n3 c3) ∧ w'.cell? ⟨g + 1 + 1, 2, none⟩ = some (.bool q3) ∧ w'.cell? ⟨g + 1 + 1, 3, none⟩ = some (.slice B3 m3 d3) ∧ w'.cell? ⟨g7, 0, none⟩ = some (.bool p7) ∧ w'.cell? ⟨g7, 1, none⟩ = some (.slice A7 n7 c7) ∧ w'.cell? ⟨g7, 2, none⟩ = some (.bool q7) ∧ w'.cell? ⟨g7, 3, none⟩ = some (.slice B7 m7 d7)) (first
        | with_reducible exact m1cells (K.below P dr0)
        | with_reducible exact m1cells (K.below P dr1)
        | with_reducible exact m1cells P1
        | with_reducible exact m1cells (K.below P1 al1)
        | with_reducible exact m1cells P2
        | with_reducible exact m1cells (K.below P2 al1)
        | with_reducible exact m1cells P3
        | with_reducible exact m1cells (K.below P3 al1)
        | with_reducible exact m1cells (K.set P3 qa)) (first
        | (go_at_call 6; (first | with_reducible refine (MulRat_q (K.below P dr0).o.a.z (K.below P dr0).o.b.z (by decide) (by decide) (by decide) (by decide) (K.below P dr0).o.tb).mono ?_ | with_reducible refine (MulRat_q (K.below P dr1).o.a.z (K.below P dr1).o.b.z (by decide) (by decide) (by decide) (by decide) (K.below P dr1).o.tb).mono ?_); rintro e wb1 ⟨s1, E1, o1, e1, s2, E2, o2, e2, rfl, h4, hb1⟩; (first | (have H := sd1q (Nat.le_refl _) hb1; obtain ⟨hc1, qa⟩ := H) | (have hc1 := sd0 hb1)); have P1 := K.below P hc1; have hN1 := hc1.size)
        | (go_at_call 6; (first | with_reducible refine (MulRat_q P1.o.a.z P1.o.c.z (by decide) (by decide) (by decide) (by decide) P1.o.tb).mono ?_ | with_reducible refine (MulRat_q (K.below P1 al1).o.a.z (K.below P1 al1).o.c.z (by decide) (by decide) (by decide) (by decide) (K.below P1 al1).o.tb).mono ?_); rintro e wb2 ⟨s3, E3, o3, e3, s4, E4, o4, e4, rfl, h5, hb2⟩; (first | (have H := se1q hN1 hb2; obtain ⟨hc2, qa⟩ := H) | (have hc2 := hb2; (try replace qa := qa.step hc2))); have P2 := K.below P1 hc2; have hN2 := Nat.le_trans hN1 hc2.size; replace h4 := h4.below hc2)
        | (go_at_call 7; (first | with_reducible refine (AddRat_q (h4.qi lxy) (h5.qi lxz) (by decide) (by decide) (by decide) (by decide) P2.o.tb).mono ?_ | with_reducible refine (AddRat_q ((h4.below al1).qi lxy) ((h5.below al1).qi lxz) (by decide) (by decide) (by decide) (by decide) (K.below P2 al1).o.tb).mono ?_); rintro e wb3 ⟨s5, E5, o5, e5, s6, E6, o6, e6, rfl, h6, hb3⟩; (first | (have H := se1q hN2 hb3; obtain ⟨hc3, qa⟩ := H) | (have hc3 := hb3; (try replace qa := qa.step hc3))); have P3 := K.below P2 hc3; have hN3 := Nat.le_trans hN2 hc3.size; replace h4 := h4.below hc3; replace h5 := h5.below hc3; (try have lqa := qa.lt); (try obtain ⟨_, _, _, _, _, _, _, _⟩ := qa.1.c4)))
      all_goals
        (try clear lqa)
        go_wp2_with fail
        go_meet
        first
          | with_reducible exact one4a K P3 h6 hN3
          | with_reducible exact one4b K P3 h6 qa
    case rest =>
      obtain ⟨g8, p8, A8, n8, c8, q8, B8, m8, d8, rfl, hN8, j8, hM⟩ := hcut
      clear P K
      rename World => wd
      have P : M1 (M1 (L3 w g p1 A1 n1 c1 q1 B1 m1 d1 x p2 A2 n2 c2 q2 B2 m2 d2 y p3 A3 n3 c3 q3 B3 m3 d3 z) g7 p7 A7 n7 c7 q7 B7 m7 d7 (x * (y + z))) g8 p8 A8 n8 c8 q8 B8 m8 d8 (x * y + x * z) wd := ⟨hM, j8⟩
      clear j8 hM hN8
      go_upto_region 5 with fail
      have Q0 := m2below4 P dr0
      have hcells := m2cells4 Q0
      clear P
      go_region_held3 (fun w' => w'.cell? ⟨g, 0, none⟩ = some (.bool p1) ∧ w'.cell? ⟨g, 1, none⟩ = some (.slice A1 n1 c1) ∧ w'.cell? ⟨g, 2, none⟩ = some (.bool q1) ∧ w'.cell? ⟨g, 3, none⟩ = some (.slice B1 m1 d1) ∧ w'.cell? ⟨g + 1, 0, none⟩ = some (.bool p2) ∧ w'.cell? ⟨g + 1, 1, none⟩ = some (.slice A2 n2 c2) ∧ w'.cell? ⟨g + 1, 2, none⟩ = some (.bool q2) ∧ w'.cell? ⟨g + 1, 3, none⟩ = some (.slice B2 m2 d2) ∧ w'.cell? ⟨g + 1 + 1, 0, none⟩ = some (.bool p3) ∧ w'.cell? ⟨g + 1 + 1, 1, none⟩ = some (.slice A3 n3 c3) ∧ w'.cell? ⟨g + 1 + 1, 2, none⟩ = some (.bool q3) ∧ w'.cell? ⟨g + 1 + 1, 3, none⟩ = some (.slice B3 m3 d3) ∧ w'.cell? ⟨g7, 0, none⟩ = some (.bool p7) ∧ w'.cell? ⟨g7, 1, none⟩ = some (.slice A7 n7 c7) ∧ w'.cell? ⟨g7, 2, none⟩ = some (.bool q7) ∧ w'.cell? ⟨g7, 3, none⟩ = some (.slice B7 m7 d7) ∧ w'.cell? ⟨g8, 0, none⟩ = some (.bool p8) ∧ w'.cell? ⟨g8, 1, none⟩ = some (.slice A8 n8 c8) ∧ w'.cell? ⟨g8, 2, none⟩ = some (.bool q8) ∧ w'.cell? ⟨g8, 3, none⟩ = some (.slice B8 m8 d8)) (first | with_reducible exact m2cells4 Q0 | with_reducible exact m2cells4 Q1 | with_reducible exact m2cells4 Q2 | with_reducible exact m2cells4 Q3 | with_reducible exact m2cells4 Q4) (first
        | (go_at_call 8; with_reducible refine (SameQ Q0.o.l.z Q0.l.z (Rat.mul_add x y z)).mono ?_; rintro e v1 ⟨rfl, hb1⟩; have Q1 := m2below4 Q0 hb1)
        | (go_at_call 7; with_reducible refine (AddRat_q Q1.o.o.a.z Q1.o.o.b.z (by decide) (by decide) (by decide) (by decide) Q1.o.o.tb).mono ?_; rintro e v2 ⟨s1, E1, o1, e1, s2, E2, o2, e2, rfl, h2, hb2⟩; have Q2 := m2below4 Q1 hb2)
        | (go_at_call 10; with_reducible refine (SubRat_q (h2.qi lxay) Q2.o.o.b.z (by decide) (by decide) (by decide) (by decide) Q2.o.o.tb).mono ?_; rintro e v3 ⟨s3, E3, o3, e3, s4, E4, o4, e4, rfl, h3, hb3⟩; have Q3 := m2below4 Q2 hb3; replace h2 := h2.below hb3)
        | (go_at_call 9; with_reducible refine (CmpQeq (h3.qi lback) Q3.o.o.a.z (by decide) (by decide) (by decide) (by decide) Q3.o.o.tb Rat.add_sub_cancel).mono ?_; rintro e v4 ⟨rfl, hb4⟩; have Q4 := m2below4 Q3 hb4; replace h2 := h2.below hb4; replace h3 := h3.below hb4))
      have R := Q4.o.o
      clear Q0 Q1 Q2 Q3 Q4 hb1 hb2 hb3 hb4 h2 h3 hcells
      have hcells := R.cells
      go_wp2_with fail
      refine (Floor_q R.a.z (by decide) (by decide)).mono ?_
      rintro e w5 ⟨s1, E1, o1, e1, zz, rfl, hz1, HZ, hb5⟩
      have R5 := R.below hb5
      clear R hb5 hcells
      have HL := hid (HZ.out.1.mono (show 12 + 1 ≤ 1000 by decide))
      go_wp2_with fail
      refine (Whole_q hz1.zi HL.out).mono ?_
      rintro e w6 ⟨p9, A9, n9, c9, q9, B9, m9, d9, rfl, h9, hb6⟩
      have R6 := (R5.below hb6).below (alo (o := (.cells #[.bool p9, .slice A9 n9 c9, .bool q9, .slice B9 m9 d9] 26)))
      have j9 := Jq.made h9
      have lzz := whole_ql HZ.out.1 (by decide)
      have lzz1 := lzz.add (whole_ql (k := 1) (z := 1) (Le.one (by decide)) (by decide))
      have HZ3 := hid (show x < ((zz : Int) : Rat) + ((1 : Int) : Rat) from HZ.out.2.2)
      clear R5 hb6 hz1 h9 HL
      go_upto_region 8 with fail
      generalize w6.alloc (.cells #[.bool p9, .slice A9 n9 c9, .bool q9, .slice B9 m9 d9] 26) = we at *
      generalize w6.heap.size = g9 at *
      have P : M1 (L3 w g p1 A1 n1 c1 q1 B1 m1 d1 x p2 A2 n2 c2 q2 B2 m2 d2 y p3 A3 n3 c3 q3 B3 m3 d3 z) g9 p9 A9 n9 c9 q9 B9 m9 d9 ((zz : Int) : Rat) we := ⟨R6, j9⟩
      clear R6 j9
      have Q0 := m1below P dr0
      have hcells := m1cells Q0
      clear P
      go_region_held3 (fun w' => w'.cell? ⟨g, 0, none⟩ = some (.bool p1) ∧ w'.cell? ⟨g, 1, none⟩ = some (.slice A1 n1 c1) ∧ w'.cell? ⟨g, 2, none⟩ = some (.bool q1) ∧ w'.cell? ⟨g, 3, none⟩ = some (.slice B1 m1 d1) ∧ w'.cell? ⟨g + 1, 0, none⟩ = some (.bool p2) ∧ w'.cell? ⟨g + 1, 1, none⟩ = some (.slice A2 n2 c2) ∧ w'.cell? ⟨g + 1, 2, none⟩ = some (.bool q2) ∧ w'.cell? ⟨g + 1, 3, none⟩ = some (.slice B2 m2 d2) ∧ w'.cell? ⟨g + 1 + 1, 0, none⟩ = some (.bool p3) ∧ w'.cell? ⟨g + 1 + 1, 1, none⟩ = some (.slice A3 n3 c3) ∧ w'.cell? ⟨g + 1 + 1, 2, none⟩ = some (.bool q3) ∧ w'.cell? ⟨g + 1 + 1, 3, none⟩ = some (.slice B3 m3 d3) ∧ w'.cell? ⟨g9, 0, none⟩ = some (.bool p9) ∧ w'.cell? ⟨g9, 1, none⟩ = some (.slice A9 n9 c9) ∧ w'.cell? ⟨g9, 2, none⟩ = some (.bool q9) ∧ w'.cell? ⟨g9, 3, none⟩ = some (.slice B9 m9 d9)) (first | with_reducible exact m1cells Q0 | with_reducible exact m1cells Q1 | with_reducible exact m1cells Q2 | with_reducible exact m1cells Q3 | with_reducible exact m1cells Q4) (first
        | (go_at_call 9; with_reducible refine (CmpQle (Q0.l.z.qi lzz) Q0.o.a.z (by decide) (by decide) (by decide) (by decide) Q0.o.tb HZ.out.2.1).mono ?_; rintro e v1 ⟨i1, rfl, hi1, hb1⟩; have Q1 := m1below Q0 hb1)
        | (go_at_call 13; with_reducible refine (W_q 1 v1 (by decide) (by decide)).mono ?_; rintro e v2 ⟨s1, E1, o1, e1, s2, E2, o2, e2, rfl, h2, hb2⟩; have Q2 := m1below Q1 hb2)
        | (go_at_call 7; with_reducible refine (AddRat_q (Q2.l.z.qi lzz) (h2.qi (whole_ql (k := 1) (z := 1) (Le.one (by decide)) (by decide))) (by decide) (by decide) (by decide) (by decide) Q2.o.tb).mono ?_; rintro e v3 ⟨s3, E3, o3, e3, s4, E4, o4, e4, rfl, h3, hb3⟩; have Q3 := m1below Q2 hb3; replace h2 := h2.below hb3)
        | (go_at_call 9; with_reducible refine (CmpQgt (h3.qi lzz1) Q3.o.a.z (by decide) (by decide) (by decide) (by decide) Q3.o.tb HZ3.out).mono ?_; rintro e v4 ⟨i2, rfl, hi2, hb4⟩; have Q4 := m1below Q3 hb4; replace h2 := h2.below hb4; replace h3 := h3.below hb4))
      have R := Q4.o
      clear Q0 Q1 Q2 Q3 Q4 hb1 hb2 hb3 hb4 h2 h3 hcells lzz lzz1 HZ HZ3
      have K := R.clo
      go_upto_region 10 with fail
      by_cases hy0 : y = 0
      · have HY := hid hy0
        have HY0 := hid (show y = ((0 : Int) : Rat) from hy0)
        clear hy0
        go_cut [10, 11] (fun s10 s11 wx => (∃ gq, s10 = .pointer (some ⟨gq, 0, none⟩)) ∧ s11 = .int .i64 9 ∧ L3 w g p1 A1 n1 c1 q1 B1 m1 d1 x p2 A2 n2 c2 q2 B2 m2 d2 y p3 A3 n3 c3 q3 B3 m3 d3 z wx)
        case first =>
          go_region_held3 (fun w' => w'.cell? ⟨g, 0, none⟩ = some (.bool p1) ∧ w'.cell? ⟨g, 1, none⟩ = some (.slice A1 n1 c1) ∧ w'.cell? ⟨g, 2, none⟩ = some (.bool q1) ∧ w'.cell? ⟨g, 3, none⟩ = some (.slice B1 m1 d1) ∧ w'.cell? ⟨g + 1, 0, none⟩ = some (.bool p2) ∧ w'.cell? ⟨g + 1, 1, none⟩ = some (.slice A2 n2 c2) ∧ w'.cell? ⟨g + 1, 2, none⟩ = some (.bool q2) ∧ w'.cell? ⟨g + 1, 3, none⟩ = some (.slice B2 m2 d2) ∧ w'.cell? ⟨g + 1 + 1, 0, none⟩ = some (.bool p3) ∧ w'.cell? ⟨g + 1 + 1, 1, none⟩ = some (.slice A3 n3 c3) ∧ w'.cell? ⟨g + 1 + 1, 2, none⟩ = some (.bool q3) ∧ w'.cell? ⟨g + 1 + 1, 3, none⟩ = some (.slice B3 m3 d3)) (first
            | with_reducible exact L3.cells (K.below R dr0)
            | with_reducible exact L3.cells (K.below R dr1)
            | with_reducible exact L3.cells R1
            | with_reducible exact L3.cells (K.below R1 al1)
            | with_reducible exact L3.cells R2
            | with_reducible exact L3.cells (K.below R2 al1)
            | with_reducible exact L3.cells (K.set R2 qa)) (first
            | (go_at_call 6; (first | with_reducible refine (MulRat_q (K.below R dr0).a.z (K.below R dr0).b.z (by decide) (by decide) (by decide) (by decide) (K.below R dr0).tb).mono ?_ | with_reducible refine (MulRat_q (K.below R dr1).a.z (K.below R dr1).b.z (by decide) (by decide) (by decide) (by decide) (K.below R dr1).tb).mono ?_); rintro e wf1 ⟨s1, E1, o1, e1, s2, E2, o2, e2, rfl, h4, hb1⟩; (first | (have H := sd1q (Nat.le_refl _) hb1; obtain ⟨hc1, qa⟩ := H) | (have hc1 := sd0 hb1)); have R1 := K.below R hc1; have hN1 := hc1.size)
            | (go_at_call 14; (first | with_reducible refine (QuoRat_zero (h4.qi lxy) R1.b.z (by decide) (by decide) (by decide) (by decide) R1.tb HY.out).mono ?_ | with_reducible refine (QuoRat_zero ((h4.below al1).qi lxy) (K.below R1 al1).b.z (by decide) (by decide) (by decide) (by decide) (K.below R1 al1).tb HY.out).mono ?_); rintro e wf2 ⟨rfl, hb2⟩; (first | (have H := se1q hN1 hb2; obtain ⟨hc2, qa⟩ := H) | (have hc2 := hb2; (try replace qa := qa.step hc2))); have R2 := K.below R1 hc2; have hN2 := Nat.le_trans hN1 hc2.size; replace h4 := h4.below hc2; (try have lqa := qa.lt); (try obtain ⟨_, _, _, _, _, _, _, _⟩ := qa.1.c4)))
          all_goals
            (try clear lqa)
            go_wp2_with fail
            go_meet
            first
              | with_reducible exact ⟨⟨_, rfl⟩, rfl, K.below R2 al1⟩
              | with_reducible exact ⟨⟨_, rfl⟩, rfl, K.set R2 qa⟩
        case rest =>
          obtain ⟨⟨g10, rfl⟩, rfl, hM⟩ := hcut
          clear R K HY
          rename World => wh
          go_upto_region 12 with fail
          have Q0 := hM.below dr0
          have hcells := Q0.cells
          clear hM
          go_region_held3 (fun w' => w'.cell? ⟨g, 0, none⟩ = some (.bool p1) ∧ w'.cell? ⟨g, 1, none⟩ = some (.slice A1 n1 c1) ∧ w'.cell? ⟨g, 2, none⟩ = some (.bool q1) ∧ w'.cell? ⟨g, 3, none⟩ = some (.slice B1 m1 d1) ∧ w'.cell? ⟨g + 1, 0, none⟩ = some (.bool p2) ∧ w'.cell? ⟨g + 1, 1, none⟩ = some (.slice A2 n2 c2) ∧ w'.cell? ⟨g + 1, 2, none⟩ = some (.bool q2) ∧ w'.cell? ⟨g + 1, 3, none⟩ = some (.slice B2 m2 d2) ∧ w'.cell? ⟨g + 1 + 1, 0, none⟩ = some (.bool p3) ∧ w'.cell? ⟨g + 1 + 1, 1, none⟩ = some (.slice A3 n3 c3) ∧ w'.cell? ⟨g + 1 + 1, 2, none⟩ = some (.bool q3) ∧ w'.cell? ⟨g + 1 + 1, 3, none⟩ = some (.slice B3 m3 d3)) (first | with_reducible exact L3.cells Q0 | with_reducible exact L3.cells Q1 | with_reducible exact L3.cells Q2 | with_reducible exact L3.cells Q3) (first
            | (go_at_call 13; with_reducible refine (W_q 0 wh.drew (by decide) (by decide)).mono ?_; rintro e v1 ⟨s1, E1, o1, e1, s2, E2, o2, e2, rfl, h2, hb1⟩; have Q1 := Q0.below hb1)
            | (go_at_call 9; with_reducible refine (CmpQeq Q1.b.z (h2.qi (whole_ql (k := 1) (z := 0) (Le.zero _) (by decide))) (by decide) (by decide) (by decide) (by decide) Q1.tb HY0.out).mono ?_; rintro e v2 ⟨rfl, hb2⟩; have Q2 := Q1.below hb2; replace h2 := h2.below hb2)
            | (go_at_call 5; with_reducible refine (awake_true v2 Q2.tb).mono ?_; rintro e v3 ⟨rfl, hb3⟩; have Q3 := Q2.below hb3; replace h2 := h2.below hb3))
          have hE := Q3.bl
          clear Q0 Q1 Q2 Q3 hb1 hb2 hb3 h2 hcells
          go_wp2
          go_ret
          exact ⟨rfl, hE⟩
      · have HY := hid hy0
        have lq := (lxy.div ly hy0 (by decide))
        have HQ := hid (divQ (x := x) hy0)
        clear hy0
        go_cut [10, 11] (fun s10 s11 wx => One4 (L3 w g p1 A1 n1 c1 q1 B1 m1 d1 x p2 A2 n2 c2 q2 B2 m2 d2 y p3 A3 n3 c3 q3 B3 m3 d3 z) v4.heap.size (x * y / y) s10 wx ∧ s11 = .int .i64 0)
        case first =>
          go_region_held3 (fun w' => w'.cell? ⟨g, 0, none⟩ = some (.bool p1) ∧ w'.cell? ⟨g, 1, none⟩ = some (.slice A1 n1 c1) ∧ w'.cell? ⟨g, 2, none⟩ = some (.bool q1) ∧ w'.cell? ⟨g, 3, none⟩ = some (.slice B1 m1 d1) ∧ w'.cell? ⟨g + 1, 0, none⟩ = some (.bool p2) ∧ w'.cell? ⟨g + 1, 1, none⟩ = some (.slice A2 n2 c2) ∧ w'.cell? ⟨g + 1, 2, none⟩ = some (.bool q2) ∧ w'.cell? ⟨g + 1, 3, none⟩ = some (.slice B2 m2 d2) ∧ w'.cell? ⟨g + 1 + 1, 0, none⟩ = some (.bool p3) ∧ w'.cell? ⟨g + 1 + 1, 1, none⟩ = some (.slice A3 n3 c3) ∧ w'.cell? ⟨g + 1 + 1, 2, none⟩ = some (.bool q3) ∧ w'.cell? ⟨g + 1 + 1, 3, none⟩ = some (.slice B3 m3 d3)) (first
            | with_reducible exact L3.cells (K.below R dr0)
            | with_reducible exact L3.cells (K.below R dr1)
            | with_reducible exact L3.cells R1
            | with_reducible exact L3.cells (K.below R1 al1)
            | with_reducible exact L3.cells R2
            | with_reducible exact L3.cells (K.below R2 al1)
            | with_reducible exact L3.cells (K.set R2 qa)) (first
            | (go_at_call 6; (first | with_reducible refine (MulRat_q (K.below R dr0).a.z (K.below R dr0).b.z (by decide) (by decide) (by decide) (by decide) (K.below R dr0).tb).mono ?_ | with_reducible refine (MulRat_q (K.below R dr1).a.z (K.below R dr1).b.z (by decide) (by decide) (by decide) (by decide) (K.below R dr1).tb).mono ?_); rintro e wf1 ⟨s1, E1, o1, e1, s2, E2, o2, e2, rfl, h4, hb1⟩; (first | (have H := sd1q (Nat.le_refl _) hb1; obtain ⟨hc1, qa⟩ := H) | (have hc1 := sd0 hb1)); have R1 := K.below R hc1; have hN1 := hc1.size)
            | (go_at_call 14; (first | with_reducible refine (QuoRat_q (h4.qi lxy) R1.b.z (by decide) (by decide) (by decide) (by decide) R1.tb HY.out).mono ?_ | with_reducible refine (QuoRat_q ((h4.below al1).qi lxy) (K.below R1 al1).b.z (by decide) (by decide) (by decide) (by decide) (K.below R1 al1).tb HY.out).mono ?_); rintro e wf2 ⟨s3, E3, o3, e3, s4, E4, o4, e4, rfl, h5, hb2⟩; (first | (have H := se1q hN1 hb2; obtain ⟨hc2, qa⟩ := H) | (have hc2 := hb2; (try replace qa := qa.step hc2))); have R2 := K.below R1 hc2; have hN2 := Nat.le_trans hN1 hc2.size; replace h4 := h4.below hc2; (try have lqa := qa.lt); (try obtain ⟨_, _, _, _, _, _, _, _⟩ := qa.1.c4)))
          all_goals
            (try clear lqa)
            go_wp2_with fail
            go_meet
            first
              | with_reducible exact ⟨one4a K R2 h5 hN2, rfl⟩
              | with_reducible exact ⟨one4b K R2 h5 qa, rfl⟩
        case rest =>
          obtain ⟨⟨g10, p10, A10, n10, c10, q10, B10, m10, d10, rfl, hN10, j10, hM⟩, rfl⟩ := hcut
          clear R K HY hN10
          rename World => wh
          have P : M1 (L3 w g p1 A1 n1 c1 q1 B1 m1 d1 x p2 A2 n2 c2 q2 B2 m2 d2 y p3 A3 n3 c3 q3 B3 m3 d3 z) g10 p10 A10 n10 c10 q10 B10 m10 d10 (x * y / y) wh := ⟨hM, j10⟩
          clear hM j10
          have hcells := m1cells P
          go_wp2_with fail
          refine (CmpQeq (P.l.z.qi lq) P.o.a.z (by decide) (by decide) (by decide) (by decide) P.o.tb HQ.out).mono ?_
          rintro e w8 ⟨rfl, hb8⟩
          have P8 := P.o.below hb8
          clear P hb8 hcells
          go_wp2_with fail
          refine (awake_true w8 P8.tb).mono ?_
          rintro e w9 ⟨rfl, hb9⟩
          have hE := bthen P8.bl hb9 (Nat.le_refl _)
          clear hb9 P8
          go_wp2
          go_ret
          exact ⟨rfl, hE⟩

end Go.Proofs.YtffipjofefemiaaDoor
