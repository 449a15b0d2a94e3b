/- ExactIntegers, where an integer has more than 60 limbs and where none has. -/
import Derived.Test.YtlfeendebbidhaaDoorRing0
import Derived.Test.YtlfeendebbidhaaDoorRefD
import Derived.Test.YtlfeendebbidhaaDoorRefC
import Derived.Test.YtlfeendebbidhaaDoorTwoA
namespace Go.Proofs.YtlfeendebbidhaaDoor
open Go.RowKit Kb

set_option maxRecDepth 100000 in
set_option maxHeartbeats 8000000 in
theorem ints_long (p1 p2 : Bool) (A1 A2 : Option Addr) (n1 c1 n2 c2 : Nat) (z : Int) (w : World) (hT : Tb w) (hl : 60 < n1 ∨ 60 < n2) :
    Calls Tryd.prog 3 #[.agg #[.bool p1, .slice A1 n1 c1], .agg #[.bool p2, .slice A2 n2 c2], .int .i64 z] w fun e w' => e = .returned (.bool true) ∧ Below w.heap.size w w' := by
  have k2 := two_new w (.cells #[.bool p1, .slice A1 n1 c1] 24) (.cells #[.bool p2, .slice A2 n2 c2] 24)
  have hB := ((Below.refl w.heap.size w).alloc (Nat.le_refl _) (.cells #[.bool p1, .slice A1 n1 c1] 24)).alloc (by simp) (.cells #[.bool p2, .slice A2 n2 c2] 24)
  have hl' : 60 < n1 ∨ (n1 ≤ 60 ∧ 60 < n2) := by omega
  clear hl
  go_enter Tryd.func3, Tryd.ntmps3
  go_wp2_with fail
  generalize (w.alloc (.cells #[.bool p1, .slice A1 n1 c1] 24)).alloc (.cells #[.bool p2, .slice A2 n2 c2] 24) = W0 at *
  have T0 := hT.below hB
  have HB := hid hB
  clear hT hB
  have a0 : Bk W0 w.heap.size _ := k2.1
  have a1 : Bk W0 (w.heap.size + 1) _ := k2.2
  clear k2
  rcases hl' with h | ⟨h, h'⟩
  · refine (long_yes p1 A1 n1 c1 _ h).mono ?_
    rintro e w1 ⟨rfl, hb1⟩
    have T1 := T0.below hb1
    have hB1 := hid (bthen HB.out hb1 (Nat.le_refl _))
    clear hb1 T0 HB h
    go_wp2_with fail
    refine (awake_true _ T1).mono ?_
    rintro e w4 ⟨rfl, hb4⟩
    have hE := bthen hB1.out hb4 (Nat.le_refl _)
    clear hb4
    go_wp2
    go_ret
    exact ⟨rfl, hE⟩
  · refine (long_no p1 A1 n1 c1 _ h).mono ?_
    rintro e w1 ⟨rfl, hb1⟩
    have T1 := T0.below hb1
    have hB1 := hid (bthen HB.out hb1 (Nat.le_refl _))
    replace a1 := a1.step hb1
    obtain ⟨x0, x1, -, -⟩ := a1.c2
    clear hb1 T0 HB h
    go_wp2_with fail
    refine (long_yes p2 A2 n2 c2 _ h').mono ?_
    rintro e w2 ⟨rfl, hb2⟩
    have T2 := T1.below hb2
    have hB2 := hid (bthen hB1.out hb2 (Nat.le_refl _))
    clear hb2 T1 hB1 h' x0 x1
    go_wp2_with fail
    refine (awake_true _ T2).mono ?_
    rintro e w4 ⟨rfl, hb4⟩
    have hE := bthen hB2.out hb4 (Nat.le_refl _)
    clear hb4
    go_wp2
    go_ret
    exact ⟨rfl, hE⟩

end Go.Proofs.YtlfeendebbidhaaDoor

namespace Go.Proofs.YtlfeendebbidhaaDoor
open Go.RowKit Kb

/-- The two integers that came in, in their boxes. -/
structure R2 (w : World) (g : Nat) (p1 : Bool) (A1 : Option Addr) (n1 c1 : Nat) (x : Int) (p2 : Bool) (A2 : Option Addr) (n2 c2 : Nat) (y : Int) (wx : World) : Prop where
  a : Ib wx g p1 A1 n1 c1 x
  b : Ib wx (g + 1) p2 A2 n2 c2 y
  tb : Tb wx
  bl : Below w.heap.size w wx
section
variable {w wx wy : World} {g n1 c1 n2 c2 h n c h' n' c' : Nat} {p1 p2 r r' : Bool} {A1 A2 A A' : Option Addr} {x y u v : Int}
theorem R2.below (k : R2 w g p1 A1 n1 c1 x p2 A2 n2 c2 y wx) (hb : Below wx.heap.size wx wy) : R2 w g p1 A1 n1 c1 x p2 A2 n2 c2 y wy :=
  ⟨k.a.below hb, k.b.below hb, k.tb.below hb, bthen k.bl hb (Nat.le_refl _)⟩
theorem R2.cells (k : R2 w g p1 A1 n1 c1 x p2 A2 n2 c2 y wx) : wx.cell? ⟨g, 0, none⟩ = some (.bool p1) ∧ wx.cell? ⟨g, 1, none⟩ = some (.slice A1 n1 c1) ∧ wx.cell? ⟨g + 1, 0, none⟩ = some (.bool p2) ∧ wx.cell? ⟨g + 1, 1, none⟩ = some (.slice A2 n2 c2) :=
  ⟨k.a.b.c2.1, k.a.b.c2.2.1, k.b.b.c2.1, k.b.b.c2.2.1⟩
theorem q2below (k : M2 (R2 w g p1 A1 n1 c1 x p2 A2 n2 c2 y) h r A n c u h' r' A' n' c' v wx) (hb : Below wx.heap.size wx wy) : M2 (R2 w g p1 A1 n1 c1 x p2 A2 n2 c2 y) h r A n c u h' r' A' n' c' v wy := ⟨k.o.below hb, k.l.below hb, k.m.below hb⟩
theorem q2cells (k : M2 (R2 w g p1 A1 n1 c1 x p2 A2 n2 c2 y) h r A n c u h' r' A' n' c' v wx) : wx.cell? ⟨g, 0, none⟩ = some (.bool p1) ∧ wx.cell? ⟨g, 1, none⟩ = some (.slice A1 n1 c1) ∧ wx.cell? ⟨g + 1, 0, none⟩ = some (.bool p2) ∧ wx.cell? ⟨g + 1, 1, none⟩ = some (.slice A2 n2 c2) := k.o.cells
end
theorem zn_nil (w : World) : Zn w false none 0 0 0 := ⟨hid rfl, nm_nil w⟩
theorem OfZ (z : Int) (w : World) (h1 : -9223372036854775808 ≤ z) (h2 : z ≤ 9223372036854775807) :
    Calls Tryd.prog 10 #[.int .i64 z] w fun e w' => ∃ s A n c, e = .returned (.agg #[.bool s, .slice A n c]) ∧ Zn w' s A n c z ∧ Below w.heap.size w w' := zn_open (Of_any z w h1 h2)
theorem SmallFit {w : World} {s : Bool} {A : Option Addr} {n c : Nat} {x : Int} (h : Zi w s A n c x) (h1 : -9223372036854775808 ≤ x) (h2 : x ≤ 9223372036854775807) :
    Calls Tryd.prog 8 #[.agg #[.bool s, .slice A n c]] w fun e w' => e = .returned (.tuple #[.int .i64 x, .bool true]) ∧ Below w.heap.size w w' := by
  have hf : fits x = true := decide_eq_true ⟨h1, h2⟩
  have hs : sml x = x := by unfold sml; rw [if_pos hf]
  have := SmallZ h
  rwa [hf, hs] at this
theorem DivModE {w : World} {s t : Bool} {A B : Option Addr} {n c m d : Nat} {x y : Int} (h : Zi w s A n c x) (k : Zi w t B m d y) (hx : Le 1000 x) (hy : Le 1000 y) :
    Calls Tryd.prog 11 #[.agg #[.bool s, .slice A n c], .agg #[.bool t, .slice B m d]] w fun e w' => ∃ r C n c r' C' n' c' u v E, e = .returned (.tuple #[.agg #[.bool r, .slice C n c], .agg #[.bool r', .slice C' n' c'], .int .i64 E]) ∧ Zn w' r C n c u ∧ Zn w' r' C' n' c' v ∧ Below w.heap.size w w' ∧ Hid ((y = 0 ∧ u = 0 ∧ v = 0 ∧ E = 9) ∨ (y ≠ 0 ∧ u = x / y ∧ v = x % y ∧ E = 0)) := by
  by_cases h0 : y = 0
  · subst h0
    refine (DivModZ0 k).mono ?_
    rintro e w' ⟨r, C, n, c, r', C', n', c', rfl, h1, h2, hb⟩
    exact ⟨r, C, n, c, r', C', n', c', _, _, _, rfl, h1, h2, hb, hid (.inl ⟨rfl, rfl, rfl, rfl⟩)⟩
  · refine (DivModZ h k hx hy h0).mono ?_
    rintro e w' ⟨r, C, n, c, r', C', n', c', rfl, h1, h2, hb⟩
    exact ⟨r, C, n, c, r', C', n', c', _, _, _, rfl, h1, h2, hb, hid (.inr ⟨h0, rfl, rfl, rfl⟩)⟩
theorem rSign0 {w : World} {s : Bool} {A : Option Addr} {n c : Nat} {x : Int} (h : Zi w s A n c x) (hn : n ≤ 100000) (h0 : x = 0) :
    Calls Tryd.prog 16 #[.agg #[.bool s, .slice A n c]] w fun e w' => e = .returned (.int .i64 0) ∧ Below w.heap.size w w' := by
  have := rSign h hn
  rwa [h0] at this
theorem rSignNe {w : World} {s : Bool} {A : Option Addr} {n c : Nat} {x : Int} (h : Zi w s A n c x) (hn : n ≤ 100000) (h0 : x ≠ 0) :
    Calls Tryd.prog 16 #[.agg #[.bool s, .slice A n c]] w fun e w' => ∃ i : Int, e = .returned (.int .i64 i) ∧ i ≠ 0 ∧ Below w.heap.size w w' := by
  refine (rSign h hn).mono ?_
  rintro e w' ⟨rfl, hb⟩
  exact ⟨_, rfl, fun e => h0 (Int.sign_eq_zero_iff_zero.1 e), hb⟩

set_option maxRecDepth 100000 in
set_option maxHeartbeats 80000000 in
theorem ints_short (p1 p2 : Bool) (A1 A2 : Option Addr) (n1 c1 n2 c2 : Nat) (x y z : Int) (w : World) (hx : Zi w p1 A1 n1 c1 x) (hy : Zi w p2 A2 n2 c2 y) (lx : Le 60 x) (ly : Le 60 y) (hT : Tb w) (m1 : n1 ≤ 60) (m2 : n2 ≤ 60) (z1 : -9223372036854775808 ≤ z) (z2 : z ≤ 9223372036854775807) :
    Calls Tryd.prog 3 #[.agg #[.bool p1, .slice A1 n1 c1], .agg #[.bool p2, .slice A2 n2 c2], .int .i64 z] w fun e w' => e = .returned (.bool true) ∧ Below w.heap.size w w' := by
  have k2 := two_new w (.cells #[.bool p1, .slice A1 n1 c1] 24) (.cells #[.bool p2, .slice A2 n2 c2] 24)
  have hB := ((Below.refl w.heap.size w).alloc (Nat.le_refl _) (.cells #[.bool p1, .slice A1 n1 c1] 24)).alloc (by simp) (.cells #[.bool p2, .slice A2 n2 c2] 24)
  obtain ⟨g, hg⟩ : ∃ g, w.heap.size = g := ⟨_, rfl⟩
  have L := hid (show Le 1000 x ∧ Le 1000 y from ⟨lx.mono (by decide), ly.mono (by decide)⟩)
  have L1 : Bd 100000 x := ⟨lx.mono (by decide)⟩
  have L2 : Bd 100000 y := ⟨ly.mono (by decide)⟩
  have L3 : Bd 10000 x := ⟨lx.mono (by decide)⟩
  have L4 : Bd 10000 y := ⟨ly.mono (by decide)⟩
  have L5 : Bd 60000 x := ⟨lx.mono (by decide)⟩
  have L6 : Bd 60000 y := ⟨ly.mono (by decide)⟩
  have e1 : n1 ≤ 100000 := by omega
  have e2 : n2 ≤ 100000 := by omega
  have e3 : n1 ≤ 10000 := by omega
  have e4 : n2 ≤ 10000 := by omega
  have e5 : n1 ≤ 60000 := by omega
  have e6 : n2 ≤ 60000 := by omega
  clear lx ly
  go_enter Tryd.func3, Tryd.ntmps3
  go_wp2_with fail
  rw [hg] at k2
  generalize (w.alloc (.cells #[.bool p1, .slice A1 n1 c1] 24)).alloc (.cells #[.bool p2, .slice A2 n2 c2] 24) = W0 at *
  have hR0 : R2 w g p1 A1 n1 c1 x p2 A2 n2 c2 y W0 := ⟨⟨k2.1, hx.below hB⟩, ⟨k2.2, hy.below hB⟩, hT.below hB, hB⟩
  clear hx hy hT hB hg k2
  obtain ⟨x0, x1, -, -⟩ := hR0.a.b.c2
  refine (long_no p1 A1 n1 c1 _ m1).mono ?_
  rintro e w1 ⟨rfl, hb1⟩
  have hR1 := hR0.below hb1
  clear hR0 hb1 x0 x1
  obtain ⟨x0, x1, -, -⟩ := hR1.b.b.c2
  go_wp2_with fail
  refine (long_no p2 A2 n2 c2 _ m2).mono ?_
  rintro e w2 ⟨rfl, hb2⟩
  have hR2 := hR1.below hb2
  clear hR1 hb2 x0 x1 m1 m2
  obtain ⟨x0, x1, -, -⟩ := hR2.a.b.c2
  go_wp2_with fail
  refine (SmallZ hR2.a.z).mono ?_
  rintro e w3 ⟨rfl, hb3⟩
  have hR3 := hR2.below hb3
  clear hR2 hb3 x0 x1
  obtain ⟨x0, x1, -, -⟩ := hR3.a.b.c2
  go_wp2_with fail
  refine (rSmallZ hR3.a.z e1).mono ?_
  rintro e w4 ⟨rfl, hb4⟩
  have hR4 := hR3.below hb4
  clear hR3 hb4 x0 x1
  generalize sml x = sx at *
  generalize fits x = fx at *
  go_wp2_with fail
  refine (OfZ z w4 z1 z2).mono ?_
  rintro e w5 ⟨r5, A5, n5, c5, rfl, h5, hb5⟩
  have hR5 := hR4.below hb5
  clear hR4 hb5
  go_wp2_with fail
  refine (SmallFit h5.zi z1 z2).mono ?_
  rintro e w6 ⟨rfl, hb6⟩
  have hR6 := hR5.below hb6
  clear hR5 hb6 h5
  obtain ⟨x0, x1, x2, x3⟩ := hR6.cells
  go_wp2_with fail
  refine (DivModE hR6.a.z hR6.b.z L.out.1 L.out.2).mono ?_
  rintro e v12 ⟨r20, A20, n20, c20, r21, A21, n21, c21, u, v, E, rfl, h20, h21, hb12, HE⟩
  have hP : M2 (R2 w g p1 A1 n1 c1 x p2 A2 n2 c2 y) v12.heap.size r20 A20 n20 c20 u (v12.heap.size + 1) r21 A21 n21 c21 v ((v12.alloc (.cells #[.bool r20, .slice A20 n20 c20] 24)).alloc (.cells #[.bool r21, .slice A21 n21 c21] 24)) := ⟨(hR6.below hb12).below al2, ⟨box1 _ _ _, h20.below al2⟩, ⟨box2 _ _ _, h21.below al2⟩⟩
  clear hR6 hb12 h20 h21 x0 x1 x2 x3
  go_upto_region 7 with fail
  generalize (v12.alloc (.cells #[.bool r20, .slice A20 n20 c20] 24)).alloc (.cells #[.bool r21, .slice A21 n21 c21] 24) = wq at *
  generalize v12.heap.size + 1 = g21 at *
  generalize v12.heap.size = g20 at *
  have P0 := q2below hP dr0
  have hcells := q2cells P0
  clear hP
  go_region_held3 (fun w' => w'.cell? ⟨g, 0, none⟩ = some (.bool p1) ∧ w'.cell? ⟨g, 1, none⟩ = some (.slice A1 n1 c1) ∧ w'.cell? ⟨g + 1, 0, none⟩ = some (.bool p2) ∧ w'.cell? ⟨g + 1, 1, none⟩ = some (.slice A2 n2 c2)) (first | with_reducible exact q2cells P0 | with_reducible exact q2cells P1 | with_reducible exact q2cells P2 | with_reducible exact q2cells P3 | with_reducible exact q2cells P4 | with_reducible exact q2cells P5) (first
  | (go_at_call 10; with_reducible refine (OfZ z wq.drew z1 z2).mono ?_; rintro e v1 ⟨s1, B1, k1, d1, rfl, f1, hb1⟩; have P1 := q2below P0 hb1)
  | (go_at_call 13; with_reducible refine (rOf z v1 z1 z2).mono ?_; rintro e v2 ⟨s2, B2, k2, d2, rfl, f2, hb2⟩; have P2 := q2below P1 hb2; replace f1 := f1.below hb2)
  | (go_at_call 12; with_reducible refine (SameZ f1 f2 rfl).mono ?_; rintro e v3 ⟨rfl, hb3⟩; have P3 := q2below P2 hb3)
  | (go_at_call 14; with_reducible refine (CmpZ P3.o.a.z P3.o.b.z L.out.1).mono ?_; rintro e v4 ⟨rfl, hb4⟩; have P4 := q2below P3 hb4)
  | (go_at_call 15; with_reducible refine (rCmp P4.o.a.z P4.o.b.z e3 e4 L3.out L4.out).mono ?_; rintro e v5 ⟨rfl, hb5⟩; have P5 := q2below P4 hb5))
  clear P0 P1 P2 P3 P4 hb1 hb2 hb3 hb4 hb5 f1 f2 hcells
  obtain ⟨x0, x1, -, -⟩ := P5.o.b.b.c2
  rcases HE.out with ⟨hy0, rfl, rfl, rfl⟩ | ⟨hy0, rfl, rfl, rfl⟩
  · clear HE
    go_wp2_with fail
    refine (rSign0 P5.o.b.z e2 hy0).mono ?_
    rintro e w6 ⟨rfl, hb6⟩
    have P6 := q2below P5 hb6
    clear P5 hb6 x0 x1
    obtain ⟨x0, x1, -, -⟩ := P6.l.b.c2
    go_wp2_with fail
    refine (SameZ P6.l.z (zn_nil _) rfl).mono ?_
    rintro e w7 ⟨rfl, hb7⟩
    have P7 := q2below P6 hb7
    clear P6 hb7 x0 x1
    obtain ⟨x0, x1, -, -⟩ := P7.m.b.c2
    go_wp2_with fail
    refine (SameZ P7.m.z (zn_nil _) rfl).mono ?_
    rintro e w8 ⟨rfl, hb8⟩
    have P8 := (q2below P7 hb8).o
    clear P7 hb8 x0 x1
    go_upto_region 15 with fail
    have Q0 := P8.below dr0
    have hcells := Q0.cells
    clear P8
    go_region_held3 (fun w' => w'.cell? ⟨g, 0, none⟩ = some (.bool p1) ∧ w'.cell? ⟨g, 1, none⟩ = some (.slice A1 n1 c1) ∧ w'.cell? ⟨g + 1, 0, none⟩ = some (.bool p2) ∧ w'.cell? ⟨g + 1, 1, none⟩ = some (.slice A2 n2 c2)) (first | with_reducible exact R2.cells Q0 | with_reducible exact R2.cells Q1 | with_reducible exact R2.cells Q2 | with_reducible exact R2.cells Q3 | with_reducible exact R2.cells Q4 | with_reducible exact R2.cells Q5 | with_reducible exact R2.cells Q6 | with_reducible exact R2.cells Q7 | with_reducible exact R2.cells Q8 | with_reducible exact R2.cells Q9 | with_reducible exact R2.cells Q10) (first
    | (go_at_call 18; with_reducible refine (AddZ Q0.a.z Q0.b.z L.out.1 L.out.2).mono ?_; rintro e v1 ⟨s1, B1, k1, d1, rfl, f1, hb1⟩; have Q1 := Q0.below hb1)
    | (go_at_call 19; with_reducible refine (rAdd Q1.a.z Q1.b.z e1 e2 L1.out L2.out).mono ?_; rintro e v2 ⟨s2, B2, k2, d2, rfl, f2, hb2⟩; have Q2 := Q1.below hb2; replace f1 := f1.below hb2)
    | (go_at_call 12; with_reducible refine (SameZ f1 f2 rfl).mono ?_; rintro e v3 ⟨rfl, hb3⟩; have Q3 := Q2.below hb3)
    | (go_at_call 20; with_reducible refine (SubZ Q3.a.z Q3.b.z L.out.1 L.out.2).mono ?_; rintro e v4 ⟨s4, B4, k4, d4, rfl, f4, hb4⟩; have Q4 := Q3.below hb4)
    | (go_at_call 21; with_reducible refine (rSub Q4.a.z Q4.b.z e1 e2 L1.out L2.out).mono ?_; rintro e v5 ⟨s5, B5, k5, d5, rfl, f5, hb5⟩; have Q5 := Q4.below hb5; replace f4 := f4.below hb5)
    | (go_at_call 12; with_reducible refine (SameZ f4 f5 rfl).mono ?_; rintro e v6 ⟨rfl, hb6⟩; have Q6 := Q5.below hb6)
    | (go_at_call 22; with_reducible refine (MulZ Q6.a.z Q6.b.z L.out.1 L.out.2).mono ?_; rintro e v7 ⟨s7, B7, k7, d7, rfl, f7, hb7⟩; have Q7 := Q6.below hb7)
    | (go_at_call 23; with_reducible refine (rMul Q7.a.z Q7.b.z e1 e2 L1.out L2.out).mono ?_; rintro e v8 ⟨s8, B8, k8, d8, rfl, f8, hb8⟩; have Q8 := Q7.below hb8; replace f7 := f7.below hb8)
    | (go_at_call 12; with_reducible refine (SameZ f7 f8 rfl).mono ?_; rintro e v9 ⟨rfl, hb9⟩; have Q9 := Q8.below hb9)
    | (go_at_call 7; with_reducible refine (awake_true v9 Q9.tb).mono ?_; rintro e v10 ⟨rfl, hb10⟩; have Q10 := Q9.below hb10))
    have hE := Q10.bl
    clear Q0 Q1 Q2 Q3 Q4 Q5 Q6 Q7 Q8 Q9 Q10 hb1 hb2 hb3 hb4 hb5 hb6 hb7 hb8 hb9 hb10 f1 f2 f4 f5 f7 f8
    go_wp2
    go_ret
    exact ⟨rfl, hE⟩
  · have HY := hid hy0
    clear HE hy0
    go_wp2_with fail
    refine (rSignNe P5.o.b.z e2 HY.out).mono ?_
    rintro e w6 ⟨i6, rfl, hi6, hb6⟩
    have P6 := q2below P5 hb6
    clear P5 hb6 x0 x1
    obtain ⟨x0, x1, x2, x3⟩ := P6.o.cells
    go_wp2_with fail
    refine (rDivMod P6.o.a.z P6.o.b.z e5 e6 L5.out L6.out HY.out).mono ?_
    rintro e w7 ⟨r30, A30, n30, c30, r31, A31, n31, c31, rfl, h30, h31, hb7⟩
    have P7 := q2below (q2below P6 hb7) (al2 (o := .cells #[.bool r30, .slice A30 n30 c30] 24) (p := .cells #[.bool r31, .slice A31 n31 c31] 24))
    have j30 : Jb ((w7.alloc (.cells #[.bool r30, .slice A30 n30 c30] 24)).alloc (.cells #[.bool r31, .slice A31 n31 c31] 24)) w7.heap.size r30 A30 n30 c30 (x / y) := ⟨box1 _ _ _, h30.below al2⟩
    have j31 : Jb ((w7.alloc (.cells #[.bool r30, .slice A30 n30 c30] 24)).alloc (.cells #[.bool r31, .slice A31 n31 c31] 24)) (w7.heap.size + 1) r31 A31 n31 c31 (x % y) := ⟨box2 _ _ _, h31.below al2⟩
    clear P6 hb7 h30 h31 x0 x1 x2 x3
    go_upto_region 13 with fail
    generalize (w7.alloc (.cells #[.bool r30, .slice A30 n30 c30] 24)).alloc (.cells #[.bool r31, .slice A31 n31 c31] 24) = wr at *
    generalize w7.heap.size + 1 = g31 at *
    generalize w7.heap.size = g30 at *
    obtain ⟨x0, x1, -, -⟩ := P7.l.b.c2
    obtain ⟨x2, x3, -, -⟩ := j30.b.c2
    go_wp2_with fail
    refine (SameZ P7.l.z j30.z rfl).mono ?_
    rintro e w8 ⟨rfl, hb8⟩
    have P8 := q2below P7 hb8
    have k31 := j31.below hb8
    clear P7 hb8 x0 x1 x2 x3 j30 j31
    obtain ⟨x0, x1, -, -⟩ := P8.m.b.c2
    obtain ⟨x2, x3, -, -⟩ := k31.b.c2
    go_wp2_with fail
    refine (SameZ P8.m.z k31.z rfl).mono ?_
    rintro e w9 ⟨rfl, hb9⟩
    have P9 := (q2below P8 hb9).o
    clear P8 k31 hb9 x0 x1 x2 x3 hi6
    go_upto_region 15 with fail
    have Q0 := P9.below dr0
    have hcells := Q0.cells
    clear P9
    go_region_held3 (fun w' => w'.cell? ⟨g, 0, none⟩ = some (.bool p1) ∧ w'.cell? ⟨g, 1, none⟩ = some (.slice A1 n1 c1) ∧ w'.cell? ⟨g + 1, 0, none⟩ = some (.bool p2) ∧ w'.cell? ⟨g + 1, 1, none⟩ = some (.slice A2 n2 c2)) (first | with_reducible exact R2.cells Q0 | with_reducible exact R2.cells Q1 | with_reducible exact R2.cells Q2 | with_reducible exact R2.cells Q3 | with_reducible exact R2.cells Q4 | with_reducible exact R2.cells Q5 | with_reducible exact R2.cells Q6 | with_reducible exact R2.cells Q7 | with_reducible exact R2.cells Q8 | with_reducible exact R2.cells Q9 | with_reducible exact R2.cells Q10) (first
    | (go_at_call 18; with_reducible refine (AddZ Q0.a.z Q0.b.z L.out.1 L.out.2).mono ?_; rintro e v1 ⟨s1, B1, k1, d1, rfl, f1, hb1⟩; have Q1 := Q0.below hb1)
    | (go_at_call 19; with_reducible refine (rAdd Q1.a.z Q1.b.z e1 e2 L1.out L2.out).mono ?_; rintro e v2 ⟨s2, B2, k2, d2, rfl, f2, hb2⟩; have Q2 := Q1.below hb2; replace f1 := f1.below hb2)
    | (go_at_call 12; with_reducible refine (SameZ f1 f2 rfl).mono ?_; rintro e v3 ⟨rfl, hb3⟩; have Q3 := Q2.below hb3)
    | (go_at_call 20; with_reducible refine (SubZ Q3.a.z Q3.b.z L.out.1 L.out.2).mono ?_; rintro e v4 ⟨s4, B4, k4, d4, rfl, f4, hb4⟩; have Q4 := Q3.below hb4)
    | (go_at_call 21; with_reducible refine (rSub Q4.a.z Q4.b.z e1 e2 L1.out L2.out).mono ?_; rintro e v5 ⟨s5, B5, k5, d5, rfl, f5, hb5⟩; have Q5 := Q4.below hb5; replace f4 := f4.below hb5)
    | (go_at_call 12; with_reducible refine (SameZ f4 f5 rfl).mono ?_; rintro e v6 ⟨rfl, hb6⟩; have Q6 := Q5.below hb6)
    | (go_at_call 22; with_reducible refine (MulZ Q6.a.z Q6.b.z L.out.1 L.out.2).mono ?_; rintro e v7 ⟨s7, B7, k7, d7, rfl, f7, hb7⟩; have Q7 := Q6.below hb7)
    | (go_at_call 23; with_reducible refine (rMul Q7.a.z Q7.b.z e1 e2 L1.out L2.out).mono ?_; rintro e v8 ⟨s8, B8, k8, d8, rfl, f8, hb8⟩; have Q8 := Q7.below hb8; replace f7 := f7.below hb8)
    | (go_at_call 12; with_reducible refine (SameZ f7 f8 rfl).mono ?_; rintro e v9 ⟨rfl, hb9⟩; have Q9 := Q8.below hb9)
    | (go_at_call 7; with_reducible refine (awake_true v9 Q9.tb).mono ?_; rintro e v10 ⟨rfl, hb10⟩; have Q10 := Q9.below hb10))
    have hE := Q10.bl
    clear Q0 Q1 Q2 Q3 Q4 Q5 Q6 Q7 Q8 Q9 Q10 hb1 hb2 hb3 hb4 hb5 hb6 hb7 hb8 hb9 hb10 f1 f2 f4 f5 f7 f8
    go_wp2
    go_ret
    exact ⟨rfl, hE⟩

end Go.Proofs.YtlfeendebbidhaaDoor
