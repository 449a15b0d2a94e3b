/- ExactFractions at fractions of at most 12 limbs. -/
import Derived.Test.YtffipjofefemiaaGreatDoorRnear
import Derived.Test.YtffipjofefemiaaGreatDoorFrc0
namespace Go.Proofs.YtffipjofefemiaaGreatDoor
open Go.RowKit Kb

/-- The arguments in their boxes. -/
structure Lf (w : World) (g : Nat) (p1 : Bool) (A1 : Option Addr) (n1 c1 : Nat) (q1 : Bool) (B1 : Option Addr) (m1 d1 : Nat) (x : Rat) (p2 : Bool) (A2 : Option Addr) (n2 c2 : Nat) (q2 : Bool) (B2 : Option Addr) (m2 d2 : Nat) (y : Rat) (N z0 z1 : Int) (wx : World) : Prop where
  a : Rb wx g p1 A1 n1 c1 q1 B1 m1 d1 12 x
  b : Rb wx (g + 1) p2 A2 n2 c2 q2 B2 m2 d2 12 y
  n : Bk wx (g + 1 + 1) (.cells #[.int .i64 z0, .int .i64 z1] 27 (0, 0))
  z : Zi wx p1 A1 n1 c1 N
  tb : Tb wx
  bl : Below w.heap.size w wx
/-- The same, with the boxes of the quotient and of the ratio. -/
structure Lqr (w : World) (g : Nat) (p1 : Bool) (A1 : Option Addr) (n1 c1 : Nat) (q1 : Bool) (B1 : Option Addr) (m1 d1 : Nat) (x : Rat) (p2 : Bool) (A2 : Option Addr) (n2 c2 : Nat) (q2 : Bool) (B2 : Option Addr) (m2 d2 : Nat) (y : Rat) (N z0 z1 : Int) (g7 : Nat) (p7 : Bool) (A7 : Option Addr) (n7 c7 : Nat) (q7 : Bool) (B7 : Option Addr) (m7 d7 : Nat) (E7 : Int) (g9 : Nat) (p9 : Bool) (A9 : Option Addr) (n9 c9 : Nat) (q9 : Bool) (B9 : Option Addr) (m9 d9 : Nat) (E9 : Int) (wx : World) : Prop where
  o : Lf w g p1 A1 n1 c1 q1 B1 m1 d1 x p2 A2 n2 c2 q2 B2 m2 d2 y N z0 z1 wx
  j7 : Bk wx g7 (.cells #[.bool p7, .slice A7 n7 c7, .bool q7, .slice B7 m7 d7] 26 (0, 0))
  h7 : Qe wx p7 A7 n7 c7 q7 B7 m7 d7 E7 (y = 0) (x / y)
  j9 : Bk wx g9 (.cells #[.bool p9, .slice A9 n9 c9, .bool q9, .slice B9 m9 d9] 26 (0, 0))
  h9 : Qe wx p9 A9 n9 c9 q9 B9 m9 d9 E9 (z1 = 0) (rv z0 z1)
section
variable {w wx wy : World} {g g7 g9 : Nat} {x y : Rat} {N z0 z1 E7 E9 : Int} {p1 : Bool} {A1 : Option Addr} {n1 c1 : Nat} {q1 : Bool} {B1 : Option Addr} {m1 d1 : Nat} {p2 : Bool} {A2 : Option Addr} {n2 c2 : Nat} {q2 : Bool} {B2 : Option Addr} {m2 d2 : Nat} {p7 : Bool} {A7 : Option Addr} {n7 c7 : Nat} {q7 : Bool} {B7 : Option Addr} {m7 d7 : Nat} {p9 : Bool} {A9 : Option Addr} {n9 c9 : Nat} {q9 : Bool} {B9 : Option Addr} {m9 d9 : Nat}
theorem Lf.below (h : Lf w g p1 A1 n1 c1 q1 B1 m1 d1 x p2 A2 n2 c2 q2 B2 m2 d2 y N z0 z1 wx) (hb : Below wx.heap.size wx wy) : Lf w g p1 A1 n1 c1 q1 B1 m1 d1 x p2 A2 n2 c2 q2 B2 m2 d2 y N z0 z1 wy := ⟨h.a.below hb, h.b.below hb, h.n.step hb, h.z.below hb, h.tb.below hb, bthen h.bl hb (Nat.le_refl _)⟩
theorem Lf.cells (h : Lf w g p1 A1 n1 c1 q1 B1 m1 d1 x p2 A2 n2 c2 q2 B2 m2 d2 y N z0 z1 wx) : wx.cell? ⟨g, 0, none⟩ = some (.bool p1) ∧ wx.cell? ⟨g, 1, none⟩ = some (.slice A1 n1 c1) ∧ wx.cell? ⟨g, 2, none⟩ = some (.bool q1) ∧ wx.cell? ⟨g, 3, none⟩ = some (.slice B1 m1 d1) ∧ wx.cell? ⟨g + 1, 0, none⟩ = some (.bool p2) ∧ wx.cell? ⟨g + 1, 1, none⟩ = some (.slice A2 n2 c2) ∧ wx.cell? ⟨g + 1, 2, none⟩ = some (.bool q2) ∧ wx.cell? ⟨g + 1, 3, none⟩ = some (.slice B2 m2 d2) ∧ wx.cell? ⟨g + 1 + 1, 0, none⟩ = some (.int .i64 z0) ∧ wx.cell? ⟨g + 1 + 1, 1, none⟩ = some (.int .i64 z1) := ⟨h.a.b.c4.1, h.a.b.c4.2.1, h.a.b.c4.2.2.1, h.a.b.c4.2.2.2.1, h.b.b.c4.1, h.b.b.c4.2.1, h.b.b.c4.2.2.1, h.b.b.c4.2.2.2.1, h.n.c2.1, h.n.c2.2.1⟩
theorem Lqr.below (h : Lqr w g p1 A1 n1 c1 q1 B1 m1 d1 x p2 A2 n2 c2 q2 B2 m2 d2 y N z0 z1 g7 p7 A7 n7 c7 q7 B7 m7 d7 E7 g9 p9 A9 n9 c9 q9 B9 m9 d9 E9 wx) (hb : Below wx.heap.size wx wy) : Lqr w g p1 A1 n1 c1 q1 B1 m1 d1 x p2 A2 n2 c2 q2 B2 m2 d2 y N z0 z1 g7 p7 A7 n7 c7 q7 B7 m7 d7 E7 g9 p9 A9 n9 c9 q9 B9 m9 d9 E9 wy := ⟨h.o.below hb, h.j7.step hb, h.h7.below hb, h.j9.step hb, h.h9.below hb⟩
theorem Lqr.cells (h : Lqr w g p1 A1 n1 c1 q1 B1 m1 d1 x p2 A2 n2 c2 q2 B2 m2 d2 y N z0 z1 g7 p7 A7 n7 c7 q7 B7 m7 d7 E7 g9 p9 A9 n9 c9 q9 B9 m9 d9 E9 wx) : wx.cell? ⟨g, 0, none⟩ = some (.bool p1) ∧ wx.cell? ⟨g, 1, none⟩ = some (.slice A1 n1 c1) ∧ wx.cell? ⟨g, 2, none⟩ = some (.bool q1) ∧ wx.cell? ⟨g, 3, none⟩ = some (.slice B1 m1 d1) ∧ wx.cell? ⟨g + 1, 0, none⟩ = some (.bool p2) ∧ wx.cell? ⟨g + 1, 1, none⟩ = some (.slice A2 n2 c2) ∧ wx.cell? ⟨g + 1, 2, none⟩ = some (.bool q2) ∧ wx.cell? ⟨g + 1, 3, none⟩ = some (.slice B2 m2 d2) ∧ wx.cell? ⟨g + 1 + 1, 0, none⟩ = some (.int .i64 z0) ∧ wx.cell? ⟨g + 1 + 1, 1, none⟩ = some (.int .i64 z1) ∧ wx.cell? ⟨g7, 0, none⟩ = some (.bool p7) ∧ wx.cell? ⟨g7, 1, none⟩ = some (.slice A7 n7 c7) ∧ wx.cell? ⟨g7, 2, none⟩ = some (.bool q7) ∧ wx.cell? ⟨g7, 3, none⟩ = some (.slice B7 m7 d7) ∧ wx.cell? ⟨g9, 0, none⟩ = some (.bool p9) ∧ wx.cell? ⟨g9, 1, none⟩ = some (.slice A9 n9 c9) ∧ wx.cell? ⟨g9, 2, none⟩ = some (.bool q9) ∧ wx.cell? ⟨g9, 3, none⟩ = some (.slice B9 m9 d9) := ⟨h.o.a.b.c4.1, h.o.a.b.c4.2.1, h.o.a.b.c4.2.2.1, h.o.a.b.c4.2.2.2.1, h.o.b.b.c4.1, h.o.b.b.c4.2.1, h.o.b.b.c4.2.2.1, h.o.b.b.c4.2.2.2.1, h.o.n.c2.1, h.o.n.c2.2.1, h.j7.c4.1, h.j7.c4.2.1, h.j7.c4.2.2.1, h.j7.c4.2.2.2.1, h.j9.c4.1, h.j9.c4.2.1, h.j9.c4.2.2.1, h.j9.c4.2.2.2.1⟩
end
set_option maxRecDepth 100000 in
set_option maxHeartbeats 80000000 in
theorem frac_short (p1 : Bool) (A1 : Option Addr) (n1 c1 : Nat) (q1 : Bool) (B1 : Option Addr) (m1 d1 : Nat) (x : Rat) (p2 : Bool) (A2 : Option Addr) (n2 c2 : Nat) (q2 : Bool) (B2 : Option Addr) (m2 d2 : Nat) (y : Rat) (N z0 z1 : Int) (w : World) (hx : Qi w p1 A1 n1 c1 q1 B1 m1 d1 12 x) (hy : Qi w p2 A2 n2 c2 q2 B2 m2 d2 12 y) (hN : Zi w p1 A1 n1 c1 N) (lN : Le 12 N) (hT : Tb w) (b1 : n1 ≤ 12) (b2 : m1 ≤ 12) (b3 : n2 ≤ 12) (b4 : m2 ≤ 12) (k1 : -9223372036854775808 ≤ z0) (k2 : z0 ≤ 9223372036854775807) (k3 : -9223372036854775808 ≤ z1) (k4 : z1 ≤ 9223372036854775807) :
    Calls Tryz.prog 3 #[.agg #[.bool p1, .slice A1 n1 c1, .bool q1, .slice B1 m1 d1], .agg #[.bool p2, .slice A2 n2 c2, .bool q2, .slice B2 m2 d2], .agg #[.int .i64 z0, .int .i64 z1]] w fun e w' => e = .returned (.bool true) ∧ Below w.heap.size w w' := by
  have b0 := three_new w (.cells #[.bool p1, .slice A1 n1 c1, .bool q1, .slice B1 m1 d1] 26) (.cells #[.bool p2, .slice A2 n2 c2, .bool q2, .slice B2 m2 d2] 26) (.cells #[.int .i64 z0, .int .i64 z1] 27)
  have hB := (((Below.refl w.heap.size w).alloc (Nat.le_refl _) (.cells #[.bool p1, .slice A1 n1 c1, .bool q1, .slice B1 m1 d1] 26)).alloc (by simp) (.cells #[.bool p2, .slice A2 n2 c2, .bool q2, .slice B2 m2 d2] 26)).alloc (by simp; omega) (.cells #[.int .i64 z0, .int .i64 z1] 27)
  obtain ⟨g, hg⟩ : ∃ g, w.heap.size = g := ⟨_, rfl⟩
  have lx := hx.ql (by decide)
  have ly := hy.ql (by decide)
  have LN := hid (lN.mono (show 12 ≤ 1000 by decide))
  have L0 := hid (show Le 4 z0 from by unfold Le; rw [show (65536 : Nat) ^ 4 = 18446744073709551616 from rfl]; omega)
  have L1 := hid (show Le 4 z1 from by unfold Le; rw [show (65536 : Nat) ^ 4 = 18446744073709551616 from rfl]; omega)
  clear lN
  go_enter Tryz.func3, Tryz.ntmps3
  go_wp2_with fail
  rw [hg] at b0
  generalize ((w.alloc (.cells #[.bool p1, .slice A1 n1 c1, .bool q1, .slice B1 m1 d1] 26)).alloc (.cells #[.bool p2, .slice A2 n2 c2, .bool q2, .slice B2 m2 d2] 26)).alloc (.cells #[.int .i64 z0, .int .i64 z1] 27) = W0 at *
  have R0 : Lf w g p1 A1 n1 c1 q1 B1 m1 d1 x p2 A2 n2 c2 q2 B2 m2 d2 y N z0 z1 W0 := ⟨⟨b0.1, ⟨hx.below hB, by omega, by omega⟩⟩, ⟨b0.2.1, ⟨hy.below hB, by omega, by omega⟩⟩, b0.2.2, hN.below hB, hT.below hB, hB⟩
  clear hB b0 hx hy hN hT hg
  have hcells := R0.cells
  refine (wide_no b1 b2).mono ?_
  rintro e w1 ⟨rfl, hb1⟩
  have R1 := R0.below hb1
  clear R0 hb1 hcells
  have hcells := R1.cells
  go_wp2_with fail
  refine (wide_no b3 b4).mono ?_
  rintro e w2 ⟨rfl, hb2⟩
  have R2 := R1.below hb2
  clear R1 hb2 hcells b1 b2 b3 b4
  have hcells := R2.cells
  go_wp2_with fail
  refine (QuoE R2.a.z.q R2.b.z.q (by decide) (by decide) (by decide) (by decide) R2.tb).mono ?_
  rintro e w3 ⟨p7, A7, n7, c7, q7, B7, m7, d7, E7, rfl, h7, hb3⟩
  have R3 := (R2.below hb3).below (alo (o := (.cells #[.bool p7, .slice A7 n7 c7, .bool q7, .slice B7 m7 d7] 26)))
  have h7' := h7.below (alo (o := (.cells #[.bool p7, .slice A7 n7 c7, .bool q7, .slice B7 m7 d7] 26)))
  have j7 := Bk.of_alloc w3 (.cells #[.bool p7, .slice A7 n7 c7, .bool q7, .slice B7 m7 d7] 26) rfl
  clear R2 hb3 hcells h7
  have hcells := R3.cells
  go_wp2_with fail
  refine (RatioE z0 z1 _ k1 k2 k3 k4 R3.tb).mono ?_
  rintro e w4 ⟨p9, A9, n9, c9, q9, B9, m9, d9, E9, rfl, h9, hb4⟩
  have P : Lqr w g p1 A1 n1 c1 q1 B1 m1 d1 x p2 A2 n2 c2 q2 B2 m2 d2 y N z0 z1 w3.heap.size p7 A7 n7 c7 q7 B7 m7 d7 E7 w4.heap.size p9 A9 n9 c9 q9 B9 m9 d9 E9 (w4.alloc (.cells #[.bool p9, .slice A9 n9 c9, .bool q9, .slice B9 m9 d9] 26)) := ⟨(R3.below hb4).below alo, (j7.step hb4).step alo, (h7'.below hb4).below alo, Bk.of_alloc w4 _ rfl, h9.below alo⟩
  clear R3 hb4 hcells h9 j7 h7'
  go_upto_region 5 with fail
  generalize w4.alloc (.cells #[.bool p9, .slice A9 n9 c9, .bool q9, .slice B9 m9 d9] 26) = W4 at *
  generalize w4.heap.size = g9 at *
  generalize w3.heap.size = g7 at *
  have hcells := P.cells
  go_wp2_with fail
  refine (rSignRat P.o.b.z (by decide) (by decide)).mono ?_
  rintro e w5 ⟨rfl, hb5⟩
  have P5 := P.below hb5
  clear P hb5 hcells
  have hcells := P5.cells
  go_upto_if 34 with fail
  go_cut [8] (fun s8 wx => Lqr w g p1 A1 n1 c1 q1 B1 m1 d1 x p2 A2 n2 c2 q2 B2 m2 d2 y N z0 z1 g7 p7 A7 n7 c7 q7 B7 m7 d7 E7 g9 p9 A9 n9 c9 q9 B9 m9 d9 E9 wx)
  case first =>
    by_cases hy0 : y = 0
    · have hS : (y.num.sign == 0) = true := by subst hy0; rfl
      rcases P5.h7 with ⟨h, -, -⟩ | ⟨-, rfl, rfl, rfl, rfl, rfl, rfl, rfl, rfl, rfl⟩
      · exact absurd hy0 h
      · clear hy0
        go_wp2_with fail
        refine (rat_bad _).mono ?_
        rintro e w6 ⟨rfl, hb6⟩
        have P6 := P5.below hb6
        clear P5 hb6 hcells
        go_wp2_with fail
        go_meet
        with_reducible exact P6
    · have hS : (y.num.sign == 0) = false := by
        rw [beq_eq_false_iff_ne]
        exact fun e => hy0 (Rat.num_eq_zero.1 (Int.sign_eq_zero_iff_zero.1 e))
      rcases P5.h7 with ⟨-, rfl, hq⟩ | ⟨h, -⟩
      · have HY := hid hy0
        clear hy0
        go_upto_region 8 with fail
        have Q0 := P5.below dr0
        have hq0 := hq.below dr0
        clear P5 hcells hq
        have hcells := Q0.cells
        go_region_held3 (fun w' => w'.cell? ⟨g, 0, none⟩ = some (.bool p1) ∧ w'.cell? ⟨g, 1, none⟩ = some (.slice A1 n1 c1) ∧ w'.cell? ⟨g, 2, none⟩ = some (.bool q1) ∧ w'.cell? ⟨g, 3, none⟩ = some (.slice B1 m1 d1) ∧ w'.cell? ⟨g + 1, 0, none⟩ = some (.bool p2) ∧ w'.cell? ⟨g + 1, 1, none⟩ = some (.slice A2 n2 c2) ∧ w'.cell? ⟨g + 1, 2, none⟩ = some (.bool q2) ∧ w'.cell? ⟨g + 1, 3, none⟩ = some (.slice B2 m2 d2) ∧ w'.cell? ⟨g + 1 + 1, 0, none⟩ = some (.int .i64 z0) ∧ w'.cell? ⟨g + 1 + 1, 1, none⟩ = some (.int .i64 z1) ∧ w'.cell? ⟨g7, 0, none⟩ = some (.bool p7) ∧ w'.cell? ⟨g7, 1, none⟩ = some (.slice A7 n7 c7) ∧ w'.cell? ⟨g7, 2, none⟩ = some (.bool q7) ∧ w'.cell? ⟨g7, 3, none⟩ = some (.slice B7 m7 d7) ∧ w'.cell? ⟨g9, 0, none⟩ = some (.bool p9) ∧ w'.cell? ⟨g9, 1, none⟩ = some (.slice A9 n9 c9) ∧ w'.cell? ⟨g9, 2, none⟩ = some (.bool q9) ∧ w'.cell? ⟨g9, 3, none⟩ = some (.slice B9 m9 d9)) (first | with_reducible exact Lqr.cells Q0 | with_reducible exact Lqr.cells Q1 | with_reducible exact Lqr.cells Q2) (first
          | (go_at_call 13; with_reducible refine (rQuoRat Q0.o.a.z Q0.o.b.z (by decide) (by decide) (by decide) (by decide) HY.out).mono ?_; rintro e v1 ⟨a1, a2, a3, a4, a5, a6, a7, a8, rfl, h1, hb1⟩; have Q1 := Q0.below hb1)
          | (go_at_call 12; with_reducible refine (rat_ok (hq0.below hb1) h1 rfl).mono ?_; rintro e v2 ⟨rfl, hb2⟩; have Q2 := Q1.below hb2; replace h1 := h1.below hb2))
        have P6 := Q2
        clear Q0 Q1 Q2 hb1 hb2 h1 hcells hq0
        go_wp2_with fail
        go_meet
        with_reducible exact P6
      · exact absurd h hy0
  case rest =>
    have P6 := hcut
    clear hcut P5 hcells
    rename World => wc
    have hcells := P6.cells
    go_upto_if 49 with fail
    go_cut [10] (fun s10 wx => Lf w g p1 A1 n1 c1 q1 B1 m1 d1 x p2 A2 n2 c2 q2 B2 m2 d2 y N z0 z1 wx)
    case first =>
      by_cases hz0 : z1 = 0
      · have hS : (z1 == 0) = true := by rw [hz0]; rfl
        rcases P6.h9 with ⟨h, -, -⟩ | ⟨-, rfl, rfl, rfl, rfl, rfl, rfl, rfl, rfl, rfl⟩
        · exact absurd hz0 h
        · clear hz0
          go_wp2_with fail
          refine (rat_bad _).mono ?_
          rintro e w7 ⟨rfl, hb7⟩
          have P7 := (P6.below hb7).o
          clear P6 hb7 hcells
          go_wp2_with fail
          go_meet
          with_reducible exact P7
      · have hS : (z1 == 0) = false := by rw [beq_eq_false_iff_ne]; exact hz0
        rcases P6.h9 with ⟨-, rfl, hq⟩ | ⟨h, -⟩
        · clear hz0
          go_upto_region 13 with fail
          have Q0 := P6.below dr0
          have hq0 := hq.below dr0
          clear P6 hcells hq
          have hcells := Q0.cells
          go_region_held3 (fun w' => w'.cell? ⟨g, 0, none⟩ = some (.bool p1) ∧ w'.cell? ⟨g, 1, none⟩ = some (.slice A1 n1 c1) ∧ w'.cell? ⟨g, 2, none⟩ = some (.bool q1) ∧ w'.cell? ⟨g, 3, none⟩ = some (.slice B1 m1 d1) ∧ w'.cell? ⟨g + 1, 0, none⟩ = some (.bool p2) ∧ w'.cell? ⟨g + 1, 1, none⟩ = some (.slice A2 n2 c2) ∧ w'.cell? ⟨g + 1, 2, none⟩ = some (.bool q2) ∧ w'.cell? ⟨g + 1, 3, none⟩ = some (.slice B2 m2 d2) ∧ w'.cell? ⟨g + 1 + 1, 0, none⟩ = some (.int .i64 z0) ∧ w'.cell? ⟨g + 1 + 1, 1, none⟩ = some (.int .i64 z1) ∧ w'.cell? ⟨g7, 0, none⟩ = some (.bool p7) ∧ w'.cell? ⟨g7, 1, none⟩ = some (.slice A7 n7 c7) ∧ w'.cell? ⟨g7, 2, none⟩ = some (.bool q7) ∧ w'.cell? ⟨g7, 3, none⟩ = some (.slice B7 m7 d7) ∧ w'.cell? ⟨g9, 0, none⟩ = some (.bool p9) ∧ w'.cell? ⟨g9, 1, none⟩ = some (.slice A9 n9 c9) ∧ w'.cell? ⟨g9, 2, none⟩ = some (.bool q9) ∧ w'.cell? ⟨g9, 3, none⟩ = some (.slice B9 m9 d9)) (first | with_reducible exact Lqr.cells Q0 | with_reducible exact Lqr.cells Q1 | with_reducible exact Lqr.cells Q2 | with_reducible exact Lqr.cells Q3 | with_reducible exact Lqr.cells Q4) (first
            | (go_at_call 15; with_reducible refine (rOf z0 _ k1 k2).mono ?_; rintro e v1 ⟨a1, a2, a3, a4, rfl, h1, hb1⟩; have Q1 := Q0.below hb1)
            | (go_at_call 15; with_reducible refine (rOf z1 _ k3 k4).mono ?_; rintro e v2 ⟨a5, a6, a7, a8, rfl, h2, hb2⟩; have Q2 := Q1.below hb2; replace h1 := h1.below hb2)
            | (go_at_call 14; with_reducible refine (rOverN h1 h2 (L0.out.mono (by decide)) (L1.out.mono (by decide))).mono ?_; rintro e v3 ⟨e1, e2, e3, e4, e5, e6, e7, e8, rfl, h3, hb3⟩; have Q3 := Q2.below hb3; replace h1 := h1.below hb3; replace h2 := h2.below hb3)
            | (go_at_call 12; with_reducible refine (rat_ok (((hq0.below hb1).below hb2).below hb3) h3 rfl).mono ?_; rintro e v4 ⟨rfl, hb4⟩; have Q4 := Q3.below hb4; replace h1 := h1.below hb4; replace h2 := h2.below hb4; replace h3 := h3.below hb4))
          have P7 := Q4.o
          clear Q0 Q1 Q2 Q3 Q4 hb1 hb2 hb3 hb4 h1 h2 h3 hcells hq0
          go_wp2_with fail
          go_meet
          with_reducible exact P7
        · exact absurd h hz0
    case rest =>
      have P7 := hcut
      clear hcut P6 hcells
      rename World => wd
      go_upto_region 15 with fail
      have Q0 := P7.below dr0
      clear P7
      have hcells := Q0.cells
      go_region_held3 (fun w' => w'.cell? ⟨g, 0, none⟩ = some (.bool p1) ∧ w'.cell? ⟨g, 1, none⟩ = some (.slice A1 n1 c1) ∧ w'.cell? ⟨g, 2, none⟩ = some (.bool q1) ∧ w'.cell? ⟨g, 3, none⟩ = some (.slice B1 m1 d1) ∧ w'.cell? ⟨g + 1, 0, none⟩ = some (.bool p2) ∧ w'.cell? ⟨g + 1, 1, none⟩ = some (.slice A2 n2 c2) ∧ w'.cell? ⟨g + 1, 2, none⟩ = some (.bool q2) ∧ w'.cell? ⟨g + 1, 3, none⟩ = some (.slice B2 m2 d2) ∧ w'.cell? ⟨g + 1 + 1, 0, none⟩ = some (.int .i64 z0) ∧ w'.cell? ⟨g + 1 + 1, 1, none⟩ = some (.int .i64 z1)) (first | with_reducible exact Lf.cells Q0 | with_reducible exact Lf.cells Q1 | with_reducible exact Lf.cells Q2 | with_reducible exact Lf.cells Q3 | with_reducible exact Lf.cells Q4 | with_reducible exact Lf.cells Q5 | with_reducible exact Lf.cells Q6 | with_reducible exact Lf.cells Q7 | with_reducible exact Lf.cells Q8 | with_reducible exact Lf.cells Q9 | with_reducible exact Lf.cells Q10 | with_reducible exact Lf.cells Q11 | with_reducible exact Lf.cells Q12) (first
        | (go_at_call 17; with_reducible refine (AddRat_q Q0.a.z.q Q0.b.z.q (by decide) (by decide) (by decide) (by decide) Q0.tb).mono ?_; rintro e v1 ⟨s01, s02, s03, s04, s05, s06, s07, s08, rfl, h1, hb1⟩; have Q1 := Q0.below hb1)
        | (go_at_call 18; with_reducible refine (rAddRat Q1.a.z Q1.b.z (by decide) (by decide) (by decide) (by decide)).mono ?_; rintro e v2 ⟨s11, s12, s13, s14, s15, s16, s17, s18, rfl, h2, hb2⟩; have Q2 := Q1.below hb2; replace h1 := h1.below hb2)
        | (go_at_call 16; with_reducible refine (SameQ h1 h2 rfl).mono ?_; rintro e v3 ⟨rfl, hb3⟩; have Q3 := Q2.below hb3; replace h1 := h1.below hb3; replace h2 := h2.below hb3)
        | (go_at_call 19; with_reducible refine (SubRat_q Q3.a.z.q Q3.b.z.q (by decide) (by decide) (by decide) (by decide) Q3.tb).mono ?_; rintro e v4 ⟨s31, s32, s33, s34, s35, s36, s37, s38, rfl, h4, hb4⟩; have Q4 := Q3.below hb4; replace h1 := h1.below hb4; replace h2 := h2.below hb4)
        | (go_at_call 20; with_reducible refine (rSubRat Q4.a.z Q4.b.z (by decide) (by decide) (by decide) (by decide)).mono ?_; rintro e v5 ⟨s41, s42, s43, s44, s45, s46, s47, s48, rfl, h5, hb5⟩; have Q5 := Q4.below hb5; replace h1 := h1.below hb5; replace h2 := h2.below hb5; replace h4 := h4.below hb5)
        | (go_at_call 16; with_reducible refine (SameQ h4 h5 rfl).mono ?_; rintro e v6 ⟨rfl, hb6⟩; have Q6 := Q5.below hb6; replace h1 := h1.below hb6; replace h2 := h2.below hb6; replace h4 := h4.below hb6; replace h5 := h5.below hb6)
        | (go_at_call 21; with_reducible refine (MulRat_q Q6.a.z.q Q6.b.z.q (by decide) (by decide) (by decide) (by decide) Q6.tb).mono ?_; rintro e v7 ⟨s61, s62, s63, s64, s65, s66, s67, s68, rfl, h7, hb7⟩; have Q7 := Q6.below hb7; replace h1 := h1.below hb7; replace h2 := h2.below hb7; replace h4 := h4.below hb7; replace h5 := h5.below hb7)
        | (go_at_call 22; with_reducible refine (rMulRat Q7.a.z Q7.b.z (by decide) (by decide) (by decide) (by decide)).mono ?_; rintro e v8 ⟨s71, s72, s73, s74, s75, s76, s77, s78, rfl, h8, hb8⟩; have Q8 := Q7.below hb8; replace h1 := h1.below hb8; replace h2 := h2.below hb8; replace h4 := h4.below hb8; replace h5 := h5.below hb8; replace h7 := h7.below hb8)
        | (go_at_call 16; with_reducible refine (SameQ h7 h8 rfl).mono ?_; rintro e v9 ⟨rfl, hb9⟩; have Q9 := Q8.below hb9; replace h1 := h1.below hb9; replace h2 := h2.below hb9; replace h4 := h4.below hb9; replace h5 := h5.below hb9; replace h7 := h7.below hb9; replace h8 := h8.below hb9)
        | (go_at_call 23; with_reducible refine (Whole_q Q9.z LN.out).mono ?_; rintro e v10 ⟨s91, s92, s93, s94, s95, s96, s97, s98, rfl, h10, hb10⟩; have Q10 := Q9.below hb10; replace h1 := h1.below hb10; replace h2 := h2.below hb10; replace h4 := h4.below hb10; replace h5 := h5.below hb10; replace h7 := h7.below hb10; replace h8 := h8.below hb10)
        | (go_at_call 24; with_reducible refine (rWhole Q10.z Q10.a.z.h1 LN.out).mono ?_; rintro e v11 ⟨s101, s102, s103, s104, s105, s106, s107, s108, rfl, h11, hb11⟩; have Q11 := Q10.below hb11; replace h1 := h1.below hb11; replace h2 := h2.below hb11; replace h4 := h4.below hb11; replace h5 := h5.below hb11; replace h7 := h7.below hb11; replace h8 := h8.below hb11; replace h10 := h10.below hb11)
        | (go_at_call 16; with_reducible refine (SameQ h10 h11 rfl).mono ?_; rintro e v12 ⟨rfl, hb12⟩; have Q12 := Q11.below hb12; replace h1 := h1.below hb12; replace h2 := h2.below hb12; replace h4 := h4.below hb12; replace h5 := h5.below hb12; replace h7 := h7.below hb12; replace h8 := h8.below hb12; replace h10 := h10.below hb12; replace h11 := h11.below hb12))
      have P8 := Q12
      clear Q0 Q1 Q2 Q3 Q4 Q5 Q6 Q7 Q8 Q9 Q10 Q11 Q12 hb1 hb2 hb3 hb4 hb5 hb6 hb7 hb8 hb9 hb10 hb11 hb12 h1 h2 h4 h5 h7 h8 h10 h11 hcells
      go_upto_region 17 with fail
      have Q0 := P8.below dr0
      clear P8
      have hcells := Q0.cells
      go_region_held3 (fun w' => w'.cell? ⟨g, 0, none⟩ = some (.bool p1) ∧ w'.cell? ⟨g, 1, none⟩ = some (.slice A1 n1 c1) ∧ w'.cell? ⟨g, 2, none⟩ = some (.bool q1) ∧ w'.cell? ⟨g, 3, none⟩ = some (.slice B1 m1 d1) ∧ w'.cell? ⟨g + 1, 0, none⟩ = some (.bool p2) ∧ w'.cell? ⟨g + 1, 1, none⟩ = some (.slice A2 n2 c2) ∧ w'.cell? ⟨g + 1, 2, none⟩ = some (.bool q2) ∧ w'.cell? ⟨g + 1, 3, none⟩ = some (.slice B2 m2 d2) ∧ w'.cell? ⟨g + 1 + 1, 0, none⟩ = some (.int .i64 z0) ∧ w'.cell? ⟨g + 1 + 1, 1, none⟩ = some (.int .i64 z1)) (first | with_reducible exact Lf.cells Q0 | with_reducible exact Lf.cells Q1 | with_reducible exact Lf.cells Q2 | with_reducible exact Lf.cells Q3 | with_reducible exact Lf.cells Q4 | with_reducible exact Lf.cells Q5 | with_reducible exact Lf.cells Q6 | with_reducible exact Lf.cells Q7 | with_reducible exact Lf.cells Q8 | with_reducible exact Lf.cells Q9) (first
        | (go_at_call 25; with_reducible refine (CmpRat_q Q0.a.z.q Q0.b.z.q (by decide) (by decide) (by decide) (by decide) Q0.tb).mono ?_; rintro e v1 ⟨rfl, hb1⟩; have Q1 := Q0.below hb1)
        | (go_at_call 26; with_reducible refine (rCmpRat Q1.a.z Q1.b.z (by decide) (by decide) (by decide) (by decide) (by decide)).mono ?_; rintro e v2 ⟨rfl, hb2⟩; have Q2 := Q1.below hb2)
        | (go_at_call 28; with_reducible refine (Floor_q Q2.a.z.q (by decide) (by decide)).mono ?_; rintro e v3 ⟨a1, a2, a3, a4, zz, rfl, h3, HF, hb3⟩; have Q3 := Q2.below hb3)
        | (go_at_call 29; with_reducible refine (rFloor Q3.a.z (by decide) (by decide)).mono ?_; rintro e v4 ⟨a5, a6, a7, a8, rfl, h4, hb4⟩; have Q4 := Q3.below hb4; replace h3 := h3.below hb4)
        | (go_at_call 27; with_reducible refine (SameZ h3 h4 (floor_of HF.out.2.1 HF.out.2.2)).mono ?_; rintro e v5 ⟨rfl, hb5⟩; have Q5 := Q4.below hb5; replace h3 := h3.below hb5; replace h4 := h4.below hb5)
        | (go_at_call 30; with_reducible refine (Nearest_q Q5.a.z.q (by decide) (by decide)).mono ?_; rintro e v6 ⟨e1, e2, e3, e4, rfl, h6, hb6⟩; have Q6 := Q5.below hb6; replace h3 := h3.below hb6; replace h4 := h4.below hb6)
        | (go_at_call 31; with_reducible refine (rNearest Q6.a.z (by decide) (by decide) (by decide)).mono ?_; rintro e v7 ⟨e5, e6, e7, e8, rfl, h7, hb7⟩; have Q7 := Q6.below hb7; replace h3 := h3.below hb7; replace h4 := h4.below hb7; replace h6 := h6.below hb7)
        | (go_at_call 27; with_reducible refine (SameZ h6 h7 rfl).mono ?_; rintro e v8 ⟨rfl, hb8⟩; have Q8 := Q7.below hb8; replace h3 := h3.below hb8; replace h4 := h4.below hb8; replace h6 := h6.below hb8; replace h7 := h7.below hb8)
        | (go_at_call 8; with_reducible refine (awake_true v8 Q8.tb).mono ?_; rintro e v9 ⟨rfl, hb9⟩; have Q9 := Q8.below hb9; replace h3 := h3.below hb9; replace h4 := h4.below hb9; replace h6 := h6.below hb9; replace h7 := h7.below hb9))
      have hE := Q9.bl
      clear Q0 Q1 Q2 Q3 Q4 Q5 Q6 Q7 Q8 Q9 hb1 hb2 hb3 hb4 hb5 hb6 hb7 hb8 hb9 h3 h4 h6 h7 hcells
      go_wp2
      go_ret
      exact ⟨rfl, hE⟩

end Go.Proofs.YtffipjofefemiaaGreatDoor
