/- ExactRing at integers of at most 60 limbs. -/
import Derived.Test.YtlfeendebbidhaaDoorTwo2
namespace Go.Proofs.YtlfeendebbidhaaDoor
open Go.RowKit Kb

theorem m2cells {w wx : World} {g n1 c1 n2 c2 n3 c3 h n c h' n' c' : Nat} {p1 p2 p3 r r' : Bool} {A1 A2 A3 A A' : Option Addr} {x y z u v : Int} (k : M2 (R3 w g p1 A1 n1 c1 x p2 A2 n2 c2 y p3 A3 n3 c3 z) h r A n c u h' r' A' n' c' v wx) : wx.cell? ⟨g, 0, none⟩ = some (.bool p1) ∧ wx.cell? ⟨g, 1, none⟩ = some (.slice A1 n1 c1) ∧ wx.cell? ⟨g + 1 + 1, 0, none⟩ = some (.bool p3) ∧ wx.cell? ⟨g + 1 + 1, 1, none⟩ = some (.slice A3 n3 c3) ∧ wx.cell? ⟨h, 0, none⟩ = some (.bool r) ∧ wx.cell? ⟨h, 1, none⟩ = some (.slice A n c) ∧ wx.cell? ⟨h', 0, none⟩ = some (.bool r') ∧ wx.cell? ⟨h', 1, none⟩ = some (.slice A' n' c') :=
  ⟨k.o.a.b.c2.1, k.o.a.b.c2.2.1, k.o.c.b.c2.1, k.o.c.b.c2.2.1, k.l.b.c2.1, k.l.b.c2.2.1, k.m.b.c2.1, k.m.b.c2.2.1⟩

theorem m4cells {w wx : World} {g n1 c1 n2 c2 n3 c3 h n c h' n' c' g9 n9 c9 g10 n10 c10 : Nat} {p1 p2 p3 r r' r9 r10 : Bool} {A1 A2 A3 A A' A9 A10 : Option Addr} {x y z u v u' v' : Int} (k : M2 (M2 (R3 w g p1 A1 n1 c1 x p2 A2 n2 c2 y p3 A3 n3 c3 z) h r A n c u h' r' A' n' c' v) g9 r9 A9 n9 c9 u' g10 r10 A10 n10 c10 v' wx) :
    wx.cell? ⟨g, 0, none⟩ = some (.bool p1) ∧ wx.cell? ⟨g, 1, none⟩ = some (.slice A1 n1 c1) ∧ wx.cell? ⟨g + 1, 0, none⟩ = some (.bool p2) ∧ wx.cell? ⟨g + 1, 1, none⟩ = some (.slice A2 n2 c2) ∧ wx.cell? ⟨g + 1 + 1, 0, none⟩ = some (.bool p3) ∧ wx.cell? ⟨g + 1 + 1, 1, none⟩ = some (.slice A3 n3 c3) ∧ wx.cell? ⟨h, 0, none⟩ = some (.bool r) ∧ wx.cell? ⟨h, 1, none⟩ = some (.slice A n c) ∧ wx.cell? ⟨h', 0, none⟩ = some (.bool r') ∧ wx.cell? ⟨h', 1, none⟩ = some (.slice A' n' c') ∧ wx.cell? ⟨g9, 0, none⟩ = some (.bool r9) ∧ wx.cell? ⟨g9, 1, none⟩ = some (.slice A9 n9 c9) ∧ wx.cell? ⟨g10, 0, none⟩ = some (.bool r10) ∧ wx.cell? ⟨g10, 1, none⟩ = some (.slice A10 n10 c10) :=
  ⟨k.o.o.a.b.c2.1, k.o.o.a.b.c2.2.1, k.o.o.b.b.c2.1, k.o.o.b.b.c2.2.1, k.o.o.c.b.c2.1, k.o.o.c.b.c2.2.1, k.o.l.b.c2.1, k.o.l.b.c2.2.1, k.o.m.b.c2.1, k.o.m.b.c2.2.1, k.l.b.c2.1, k.l.b.c2.2.1, k.m.b.c2.1, k.m.b.c2.2.1⟩
theorem R3.bcells {w wx : World} {g n1 c1 n2 c2 n3 c3 : Nat} {p1 p2 p3 : Bool} {A1 A2 A3 : Option Addr} {x y z : Int} (k : R3 w g p1 A1 n1 c1 x p2 A2 n2 c2 y p3 A3 n3 c3 z wx) : wx.cell? ⟨g + 1, 0, none⟩ = some (.bool p2) ∧ wx.cell? ⟨g + 1, 1, none⟩ = some (.slice A2 n2 c2) := ⟨k.b.b.c2.1, k.b.b.c2.2.1⟩
theorem Cmp0 {t : Bool} {A B : Option Addr} {n c m d : Nat} {w : World} {s : Bool} (h : Zi w s A n c 0) (k : Zi w t B m d 0) :
    Calls Tryd.prog 14 #[.agg #[.bool s, .slice A n c], .agg #[.bool t, .slice B m d]] w fun e w' => e = .returned (.int .i64 0) ∧ Below w.heap.size w w' := CmpZ h k (Le.zero _)
theorem CmpGe {t : Bool} {A B : Option Addr} {n c m d : Nat} {x y : Int} {w : World} {s : Bool} (h : Zi w s A n c x) (k : Zi w t B m d y) (hx : Le 1000 x) (hge : y ≤ x) :
    Calls Tryd.prog 14 #[.agg #[.bool s, .slice A n c], .agg #[.bool t, .slice B m d]] w fun e w' => ∃ i : Int, e = .returned (.int .i64 i) ∧ 0 ≤ i ∧ Below w.heap.size w w' := by
  refine (CmpZ h k hx).mono ?_
  rintro e w' ⟨rfl, hb⟩
  exact ⟨_, rfl, by unfold cmpZ; obtain ⟨n, hn⟩ := Int.eq_ofNat_of_zero_le (show 0 ≤ x - y by omega); rw [hn]; cases n <;> simp, hb⟩
theorem CmpLt {t : Bool} {A B : Option Addr} {n c m d : Nat} {x y : Int} {w : World} {s : Bool} (h : Zi w s A n c x) (k : Zi w t B m d y) (hx : Le 1000 x) (hlt : x < y) :
    Calls Tryd.prog 14 #[.agg #[.bool s, .slice A n c], .agg #[.bool t, .slice B m d]] w fun e w' => ∃ i : Int, e = .returned (.int .i64 i) ∧ i < 0 ∧ Below w.heap.size w w' := by
  refine (CmpZ h k hx).mono ?_
  rintro e w' ⟨rfl, hb⟩
  exact ⟨_, rfl, by unfold cmpZ; rw [Int.sign_eq_neg_one_of_neg (by omega)]; decide, hb⟩
theorem m2bcells {w wx : World} {g n1 c1 n2 c2 n3 c3 h n c h' n' c' : Nat} {p1 p2 p3 r r' : Bool} {A1 A2 A3 A A' : Option Addr} {x y z u v : Int} (k : M2 (R3 w g p1 A1 n1 c1 x p2 A2 n2 c2 y p3 A3 n3 c3 z) h r A n c u h' r' A' n' c' v wx) : wx.cell? ⟨g + 1, 0, none⟩ = some (.bool p2) ∧ wx.cell? ⟨g + 1, 1, none⟩ = some (.slice A2 n2 c2) := k.o.bcells
theorem gb1 (w : World) (g i : Nat) (u : Value) : w.grownBy (w.setCell ⟨g, i, none⟩ u) (some g) := gb_set (World.grownBy.refl _ _) i u
/-- Quotient, remainder, and the divisor's size, whose sign has been struck. -/
structure M3 (w : World) (g : Nat) (p1 : Bool) (A1 : Option Addr) (n1 c1 : Nat) (x : Int) (p2 : Bool) (A2 : Option Addr) (n2 c2 : Nat) (y : Int) (p3 : Bool) (A3 : Option Addr) (n3 c3 : Nat) (z : Int) (h : Nat) (r : Bool) (A : Option Addr) (n c : Nat) (u : Int) (h' : Nat) (r' : Bool) (A' : Option Addr) (n' c' : Nat) (v : Int) (g5 : Nat) (A5 : Option Addr) (n5 c5 : Nat) (s : Int) (wx : World) : Prop where
  o : M2 (R3 w g p1 A1 n1 c1 x p2 A2 n2 c2 y p3 A3 n3 c3 z) h r A n c u h' r' A' n' c' v wx
  b : Bk wx g5 (.cells #[.bool false, .slice A5 n5 c5] 24 (0, 0))
  z : Zi wx false A5 n5 c5 (s.natAbs : Int)
section
variable {w wx wy : World} {g n1 c1 n2 c2 n3 c3 h n c h' n' c' g5 n5 c5 : Nat} {p1 p2 p3 r r' r5 : Bool} {A1 A2 A3 A A' A5 : Option Addr} {x y z u v s : Int}
theorem M3.below (k : M3 w g p1 A1 n1 c1 x p2 A2 n2 c2 y p3 A3 n3 c3 z h r A n c u h' r' A' n' c' v g5 A5 n5 c5 s wx) (hb : Below wx.heap.size wx wy) : M3 w g p1 A1 n1 c1 x p2 A2 n2 c2 y p3 A3 n3 c3 z h r A n c u h' r' A' n' c' v g5 A5 n5 c5 s wy :=
  ⟨⟨k.o.o.below hb, k.o.l.below hb, k.o.m.below hb⟩, k.b.step hb, k.z.below hb⟩
theorem M3.cells (k : M3 w g p1 A1 n1 c1 x p2 A2 n2 c2 y p3 A3 n3 c3 z h r A n c u h' r' A' n' c' v g5 A5 n5 c5 s wx) :
    wx.cell? ⟨g, 0, none⟩ = some (.bool p1) ∧ wx.cell? ⟨g, 1, none⟩ = some (.slice A1 n1 c1) ∧ wx.cell? ⟨g + 1, 0, none⟩ = some (.bool p2) ∧ wx.cell? ⟨g + 1, 1, none⟩ = some (.slice A2 n2 c2) ∧ wx.cell? ⟨h, 0, none⟩ = some (.bool r) ∧ wx.cell? ⟨h, 1, none⟩ = some (.slice A n c) ∧ wx.cell? ⟨h', 0, none⟩ = some (.bool r') ∧ wx.cell? ⟨h', 1, none⟩ = some (.slice A' n' c') ∧ wx.cell? ⟨g5, 0, none⟩ = some (.bool false) ∧ wx.cell? ⟨g5, 1, none⟩ = some (.slice A5 n5 c5) :=
  ⟨k.o.o.a.b.c2.1, k.o.o.a.b.c2.2.1, k.o.o.b.b.c2.1, k.o.o.b.b.c2.2.1, k.o.l.b.c2.1, k.o.l.b.c2.2.1, k.o.m.b.c2.1, k.o.m.b.c2.2.1, k.b.c2.1, k.b.c2.2.1⟩
theorem Jb.off1 {u : Value} {g h : Nat} {s : Bool} {A : Option Addr} {n c : Nat} {z : Int} (k : Jb wx g s A n c z) {T : TypeId} {C : Array Value} (q : Bk wx h (.cells C T (0, 0))) (hC : NoInt C) (hne : g ≠ h) : Jb (wx.setCell ⟨h, 0, none⟩ u) g s A n c z :=
  ⟨k.b.grown (gb1 _ _ _ _) hne, k.z.offbox q hC (gb1 _ _ _ _)⟩
theorem Ib.off1 {u : Value} {g h : Nat} {s : Bool} {A : Option Addr} {n c : Nat} {z : Int} (k : Ib wx g s A n c z) {T : TypeId} {C : Array Value} (q : Bk wx h (.cells C T (0, 0))) (hC : NoInt C) (hne : g ≠ h) : Ib (wx.setCell ⟨h, 0, none⟩ u) g s A n c z :=
  ⟨k.b.grown (gb1 _ _ _ _) hne, k.z.offbox q hC (gb1 _ _ _ _)⟩
theorem M3.set (k : M2 (R3 w g p1 A1 n1 c1 x p2 A2 n2 c2 y p3 A3 n3 c3 z) h r A n c u h' r' A' n' c' v wx) (j : Jb wx g5 r5 A5 n5 c5 s) (hg : g + 1 + 1 < g5 ∧ h < g5 ∧ h' < g5 ∧ 0 < g5 ∧ w.heap.size ≤ g5) :
    M3 w g p1 A1 n1 c1 x p2 A2 n2 c2 y p3 A3 n3 c3 z h r A n c u h' r' A' n' c' v g5 A5 n5 c5 s (wx.setCell ⟨g5, 0, none⟩ (.bool false)) := by
  obtain ⟨e1, e2, e3, e4, e5⟩ := hg
  have q := j.b
  have hC : NoInt #[.bool r5, .slice A5 n5 c5] := noInt_zero _ _ _ _
  refine ⟨⟨⟨k.o.a.off1 q hC (by omega), k.o.b.off1 q hC (by omega), k.o.c.off1 q hC (by omega), k.o.tb.grown (gb1 _ _ _ _) (by omega), k.o.bl.setCell (p := ⟨g5, 0, none⟩) e5 _⟩, k.l.off1 q hC (by omega), k.m.off1 q hC (by omega)⟩, ?_, (j.z.offbox q hC (gb1 _ _ _ _)).abs⟩
  unfold Bk at q ⊢
  simp only [World.setCell, Array.getElem?_modify, q]
  simp
end
theorem m4below {w wx wy : World} {g n1 c1 n2 c2 n3 c3 h n c h' n' c' g9 n9 c9 g10 n10 c10 : Nat} {p1 p2 p3 r r' r9 r10 : Bool} {A1 A2 A3 A A' A9 A10 : Option Addr} {x y z u v u' v' : Int} (k : M2 (M2 (R3 w g p1 A1 n1 c1 x p2 A2 n2 c2 y p3 A3 n3 c3 z) h r A n c u h' r' A' n' c' v) g9 r9 A9 n9 c9 u' g10 r10 A10 n10 c10 v' wx) (hb : Below wx.heap.size wx wy) :
    M2 (M2 (R3 w g p1 A1 n1 c1 x p2 A2 n2 c2 y p3 A3 n3 c3 z) h r A n c u h' r' A' n' c' v) g9 r9 A9 n9 c9 u' g10 r10 A10 n10 c10 v' wy := ⟨⟨k.o.o.below hb, k.o.l.below hb, k.o.m.below hb⟩, k.l.below hb, k.m.below hb⟩

set_option maxRecDepth 100000 in
set_option maxHeartbeats 80000000 in
theorem ring_short (p1 p2 p3 : Bool) (A1 A2 A3 : Option Addr) (n1 c1 n2 c2 n3 c3 : Nat) (x y z : Int) (w : World) (hx : Zi w p1 A1 n1 c1 x) (hy : Zi w p2 A2 n2 c2 y) (hz : Zi w p3 A3 n3 c3 z) (lx : Le 60 x) (ly : Le 60 y) (lz : Le 60 z) (hT : Tb w) (m1 : n1 ≤ 60) (m2 : n2 ≤ 60) (m3 : n3 ≤ 60) :
    Calls Tryd.prog 4 #[.agg #[.bool p1, .slice A1 n1 c1], .agg #[.bool p2, .slice A2 n2 c2], .agg #[.bool p3, .slice A3 n3 c3]] w fun e w' => e = .returned (.bool true) ∧ Below w.heap.size w w' := by
  have k3 := three_new w (.cells #[.bool p1, .slice A1 n1 c1] 24) (.cells #[.bool p2, .slice A2 n2 c2] 24) (.cells #[.bool p3, .slice A3 n3 c3] 24)
  have hB := (((Below.refl w.heap.size w).alloc (Nat.le_refl _) (.cells #[.bool p1, .slice A1 n1 c1] 24)).alloc (by simp) (.cells #[.bool p2, .slice A2 n2 c2] 24)).alloc (by simp; omega) (.cells #[.bool p3, .slice A3 n3 c3] 24)
  obtain ⟨g, hg⟩ : ∃ g, w.heap.size = g := ⟨_, rfl⟩
  have Lx := hid lx; clear lx
  have Ly := hid ly; clear ly
  have Lz := hid lz; clear lz
  go_enter Tryd.func4, Tryd.ntmps4
  go_wp2_with fail
  rw [hg] at k3
  generalize ((w.alloc (.cells #[.bool p1, .slice A1 n1 c1] 24)).alloc (.cells #[.bool p2, .slice A2 n2 c2] 24)).alloc (.cells #[.bool p3, .slice A3 n3 c3] 24) = W0 at *
  have hR0 : R3 w g p1 A1 n1 c1 x p2 A2 n2 c2 y p3 A3 n3 c3 z W0 := ⟨⟨k3.1, hx.below hB⟩, ⟨k3.2.1, hy.below hB⟩, ⟨k3.2.2, hz.below hB⟩, hT.below hB, hB⟩
  have Hg := hid hg
  clear hx hy hz hT hB hg k3
  obtain ⟨x0, x1, -, -⟩ := hR0.a.b.c2
  refine (long_no p1 A1 n1 c1 _ m1).mono ?_
  rintro e w1 ⟨rfl, hb1⟩
  have hR1 := hR0.below hb1
  clear hR0 hb1 x0 x1
  obtain ⟨x0, x1, -, -⟩ := hR1.b.b.c2
  go_wp2_with fail
  refine (long_no p2 A2 n2 c2 _ m2).mono ?_
  rintro e w2 ⟨rfl, hb2⟩
  have hR2 := hR1.below hb2
  clear hR1 hb2 x0 x1
  obtain ⟨x0, x1, -, -⟩ := hR2.c.b.c2
  go_wp2_with fail
  refine (long_no p3 A3 n3 c3 _ m3).mono ?_
  rintro e w3 ⟨rfl, hb3⟩
  have hR3 := hR2.below hb3
  clear hR2 hb3 x0 x1
  go_upto_region 3 with fail
  have K := hR3.clo
  have lx := Lx.out.mono (show 60 ≤ 1000 by decide)
  have ly := Ly.out.mono (show 60 ≤ 1000 by decide)
  have lz := Lz.out.mono (show 60 ≤ 1000 by decide)
  have lyz : Le 1000 (y + z) := (Ly.out.add Lz.out).mono (by decide)
  have lxy : Le 1000 (x * y) := (Lx.out.mul Ly.out).mono (by decide)
  have lxz : Le 1000 (x * z) := (Lx.out.mul Lz.out).mono (by decide)
  have lbc : Le 1000 (y * z) := (Ly.out.mul Lz.out).mono (by decide)
  clear m1 m2 m3
  go_cut [7, 8] (fun s7 s8 wx => Two (R3 w g p1 A1 n1 c1 x p2 A2 n2 c2 y p3 A3 n3 c3 z) (y + z) (x * y) s7 s8 wx)
  case first =>
    clear lyz lxy lxz lbc
    go_region_held3 (fun w' => w'.cell? ⟨g, 0, none⟩ = some (.bool p1) ∧ w'.cell? ⟨g, 1, none⟩ = some (.slice A1 n1 c1) ∧ w'.cell? ⟨g + 1, 0, none⟩ = some (.bool p2) ∧ w'.cell? ⟨g + 1, 1, none⟩ = some (.slice A2 n2 c2) ∧ w'.cell? ⟨g + 1 + 1, 0, none⟩ = some (.bool p3) ∧ w'.cell? ⟨g + 1 + 1, 1, none⟩ = some (.slice A3 n3 c3)) (first
      | with_reducible exact R3.cells (K.below hR3 dr0)
      | with_reducible exact R3.cells (K.below hR3 dr1)
      | with_reducible exact R3.cells (K.below hR3 dr2)
      | with_reducible exact R3.cells hR31
      | with_reducible exact R3.cells (K.below hR31 al1)
      | with_reducible exact R3.cells (K.below hR31 al2)
      | with_reducible exact R3.cells hR32
      | with_reducible exact R3.cells (K.below hR32 al1)
      | with_reducible exact R3.cells (K.below hR32 al2)
      | with_reducible exact R3.cells (K.set hR32 qa)
      | with_reducible exact R3.cells (K.set hR32 qb)
      | with_reducible exact R3.cells (K.below (K.set hR32 qa) al1)
      | with_reducible exact R3.cells (K.set (K.set hR32 qa) (qb.set nba _ _))
      | with_reducible exact R3.cells (K.set (K.set hR32 qb) (qa.set nab _ _))) (first
      | (go_at_call 18; (first | with_reducible refine (AddZ (K.below hR3 dr0).b.z (K.below hR3 dr0).c.z ly lz).mono ?_ | with_reducible refine (AddZ (K.below hR3 dr1).b.z (K.below hR3 dr1).c.z ly lz).mono ?_ | with_reducible refine (AddZ (K.below hR3 dr2).b.z (K.below hR3 dr2).c.z ly lz).mono ?_); rintro e w31 ⟨r4, A4, n4, c4, rfl, h4, hb1⟩; (first | (have H := sd2 (Nat.le_refl _) hb1; obtain ⟨hc1, qa, qb⟩ := H; have nab := (Nat.ne_of_lt (Nat.lt_succ_self w3.heap.size)); have nba := fun e => nab (Eq.symm e)) | (have H := sd1 (Nat.le_refl _) hb1; obtain ⟨hc1, qa⟩ := H) | (have hc1 := sd0 hb1)); have hR31 := K.below hR3 hc1; have hN1 := hc1.size)
      | (go_at_call 22; (first | with_reducible refine (MulZ hR31.a.z hR31.b.z lx ly).mono ?_ | with_reducible refine (MulZ (K.below hR31 al1).a.z (K.below hR31 al1).b.z lx ly).mono ?_ | with_reducible refine (MulZ (K.below hR31 al2).a.z (K.below hR31 al2).b.z lx ly).mono ?_); rintro e w32 ⟨r5, A5, n5, c5, rfl, h5, hb2⟩; (first | (have H := se2 hN1 hb2; obtain ⟨hc2, qa, qb⟩ := H; have nab := (Nat.ne_of_lt (Nat.lt_succ_self w31.heap.size)); have nba := fun e => nab (Eq.symm e)) | (have H := se1 hN1 hb2; obtain ⟨hc2, q⟩ := H; (first | (have nab := Nat.ne_of_lt qa.lt; have nba := fun e => nab (Eq.symm e); have qb := q; replace qa := qa.step hc2) | have qa := q)) | (have hc2 := hb2; (try replace qa := qa.step hc2); (try replace qb := qb.step hc2))); have hR32 := K.below hR31 hc2; have hN2 := Nat.le_trans hN1 hc2.size; replace h4 := h4.below hc2; (try have lqa := qa.lt); (try obtain ⟨_, _, _, _⟩ := qa.1.c2); (try have lqb := qb.lt); (try obtain ⟨_, _, _, _⟩ := qb.1.c2)))
    all_goals
      (try clear lqa)
      (try clear lqb)
      go_wp2_with fail
      go_meet
      first
        | with_reducible exact two1 K hR32 h4 h5
        | with_reducible exact two2 K hR32 h4 h5
        | with_reducible exact two3 K hR32 h4 h5 qa
        | with_reducible exact two4 K hR32 h4 h5 qa
        | with_reducible exact two5 K hR32 h4 h5 qa qb nab
        | with_reducible exact two5 K hR32 h4 h5 qb qa nba
  case rest =>
    obtain ⟨g4, r4, A4, n4, c4, g5, r5, A5, n5, c5, rfl, rfl, j4, j5, hR⟩ := hcut
    clear hR3 K
    rename World => wc
    have hP : M2 (R3 w g p1 A1 n1 c1 x p2 A2 n2 c2 y p3 A3 n3 c3 z) g4 r4 A4 n4 c4 (y + z) g5 r5 A5 n5 c5 (x * y) wc := ⟨hR, j4, j5⟩
    have K := hR.clo.m2 (Nat.le_refl _) j4.b.lt j5.b.lt (r := r4) (A := A4) (n := n4) (c := c4) (x := y + z) (r' := r5) (A' := A5) (n' := n5) (c' := c5) (y := x * y)
    clear j4 j5 hR
    go_upto_region 4 with fail
    go_cut [9, 10] (fun s9 s10 wx => Two (M2 (R3 w g p1 A1 n1 c1 x p2 A2 n2 c2 y p3 A3 n3 c3 z) g4 r4 A4 n4 c4 (y + z) g5 r5 A5 n5 c5 (x * y)) (x * (y + z)) (x * y + x * z) s9 s10 wx)
    case first =>
      go_region_held3 (fun w' => w'.cell? ⟨g, 0, none⟩ = some (.bool p1) ∧ w'.cell? ⟨g, 1, none⟩ = some (.slice A1 n1 c1) ∧ w'.cell? ⟨g + 1 + 1, 0, none⟩ = some (.bool p3) ∧ w'.cell? ⟨g + 1 + 1, 1, none⟩ = some (.slice A3 n3 c3) ∧ w'.cell? ⟨g4, 0, none⟩ = some (.bool r4) ∧ w'.cell? ⟨g4, 1, none⟩ = some (.slice A4 n4 c4) ∧ w'.cell? ⟨g5, 0, none⟩ = some (.bool r5) ∧ w'.cell? ⟨g5, 1, none⟩ = some (.slice A5 n5 c5)) (first
        | with_reducible exact m2cells (K.below hP dr0)
        | with_reducible exact m2cells (K.below hP dr1)
        | with_reducible exact m2cells (K.below hP dr2)
        | with_reducible exact m2cells hP1
        | with_reducible exact m2cells (K.below hP1 al1)
        | with_reducible exact m2cells (K.below hP1 al2)
        | with_reducible exact m2cells hP2
        | with_reducible exact m2cells (K.below hP2 al1)
        | with_reducible exact m2cells (K.below hP2 al2)
        | with_reducible exact m2cells hP3
        | with_reducible exact m2cells (K.below hP3 al1)
        | with_reducible exact m2cells (K.below hP3 al2)
        | with_reducible exact m2cells (K.set hP3 qa)
        | with_reducible exact m2cells (K.set hP3 qb)
        | with_reducible exact m2cells (K.below (K.set hP3 qa) al1)
        | with_reducible exact m2cells (K.set (K.set hP3 qa) (qb.set nba _ _))
        | with_reducible exact m2cells (K.set (K.set hP3 qb) (qa.set nab _ _))) (first
        | (go_at_call 22; (first | with_reducible refine (MulZ (K.below hP dr0).o.a.z (K.below hP dr0).l.z.zi lx lyz).mono ?_ | with_reducible refine (MulZ (K.below hP dr1).o.a.z (K.below hP dr1).l.z.zi lx lyz).mono ?_ | with_reducible refine (MulZ (K.below hP dr2).o.a.z (K.below hP dr2).l.z.zi lx lyz).mono ?_); rintro e wc1 ⟨r6, A6, n6, c6, rfl, h6, hb1⟩; (first | (have H := sd2 (Nat.le_refl _) hb1; obtain ⟨hc1, qa, qb⟩ := H; have nab := (Nat.ne_of_lt (Nat.lt_succ_self wc.heap.size)); have nba := fun e => nab (Eq.symm e)) | (have H := sd1 (Nat.le_refl _) hb1; obtain ⟨hc1, qa⟩ := H) | (have hc1 := sd0 hb1)); have hP1 := K.below hP hc1; have hN1 := hc1.size)
        | (go_at_call 22; (first | with_reducible refine (MulZ hP1.o.a.z hP1.o.c.z lx lz).mono ?_ | with_reducible refine (MulZ (K.below hP1 al1).o.a.z (K.below hP1 al1).o.c.z lx lz).mono ?_ | with_reducible refine (MulZ (K.below hP1 al2).o.a.z (K.below hP1 al2).o.c.z lx lz).mono ?_); rintro e wc2 ⟨r7, A7, n7, c7, rfl, h7, hb2⟩; (first | (have H := se2 hN1 hb2; obtain ⟨hc2, qa, qb⟩ := H; have nab := (Nat.ne_of_lt (Nat.lt_succ_self wc1.heap.size)); have nba := fun e => nab (Eq.symm e)) | (have H := se1 hN1 hb2; obtain ⟨hc2, q⟩ := H; (first | (have nab := Nat.ne_of_lt qa.lt; have nba := fun e => nab (Eq.symm e); have qb := q; replace qa := qa.step hc2) | have qa := q)) | (have hc2 := hb2; (try replace qa := qa.step hc2); (try replace qb := qb.step hc2))); have hP2 := K.below hP1 hc2; have hN2 := Nat.le_trans hN1 hc2.size; replace h6 := h6.below hc2)
        | (go_at_call 18; (first | with_reducible refine (AddZ hP2.m.z.zi h7.zi lxy lxz).mono ?_ | with_reducible refine (AddZ (K.below hP2 al1).m.z.zi (h7.below al1).zi lxy lxz).mono ?_ | with_reducible refine (AddZ (K.below hP2 al2).m.z.zi (h7.below al2).zi lxy lxz).mono ?_); rintro e wc3 ⟨r8, A8, n8, c8, rfl, h8, hb3⟩; (first | (have H := se2 hN2 hb3; obtain ⟨hc3, qa, qb⟩ := H; have nab := (Nat.ne_of_lt (Nat.lt_succ_self wc2.heap.size)); have nba := fun e => nab (Eq.symm e)) | (have H := se1 hN2 hb3; obtain ⟨hc3, q⟩ := H; (first | (have nab := Nat.ne_of_lt qa.lt; have nba := fun e => nab (Eq.symm e); have qb := q; replace qa := qa.step hc3) | have qa := q)) | (have hc3 := hb3; (try replace qa := qa.step hc3); (try replace qb := qb.step hc3))); have hP3 := K.below hP2 hc3; have hN3 := Nat.le_trans hN2 hc3.size; replace h6 := h6.below hc3; replace h7 := h7.below hc3; (try have lqa := qa.lt); (try obtain ⟨_, _, _, _⟩ := qa.1.c2); (try have lqb := qb.lt); (try obtain ⟨_, _, _, _⟩ := qb.1.c2)))
      all_goals
        (try clear lqa)
        (try clear lqb)
        go_wp2_with fail
        go_meet
        first
          | with_reducible exact two1 K hP3 h6 h8
          | with_reducible exact two2 K hP3 h6 h8
          | with_reducible exact two3 K hP3 h6 h8 qa
          | with_reducible exact two4 K hP3 h6 h8 qa
          | with_reducible exact two5 K hP3 h6 h8 qa qb nab
          | with_reducible exact two5 K hP3 h6 h8 qb qa nba
    case rest =>
      obtain ⟨g9, r9, A9, n9, c9, g10, r10, A10, n10, c10, rfl, rfl, j9, j10, hR⟩ := hcut
      clear hP K
      rename World => wd
      have Q0 : M2 (M2 (R3 w g p1 A1 n1 c1 x p2 A2 n2 c2 y p3 A3 n3 c3 z) g4 r4 A4 n4 c4 (y + z) g5 r5 A5 n5 c5 (x * y)) g9 r9 A9 n9 c9 (x * (y + z)) g10 r10 A10 n10 c10 (x * y + x * z) wd.drew := ⟨⟨hR.o.below dr0, hR.l.below dr0, hR.m.below dr0⟩, j9.below dr0, j10.below dr0⟩
      have hcells := m4cells Q0
      clear j9 j10 hR
      go_upto_region 5 with fail
      go_region_held3 (fun w' => w'.cell? ⟨g, 0, none⟩ = some (.bool p1) ∧ w'.cell? ⟨g, 1, none⟩ = some (.slice A1 n1 c1) ∧ w'.cell? ⟨g + 1, 0, none⟩ = some (.bool p2) ∧ w'.cell? ⟨g + 1, 1, none⟩ = some (.slice A2 n2 c2) ∧ w'.cell? ⟨g + 1 + 1, 0, none⟩ = some (.bool p3) ∧ w'.cell? ⟨g + 1 + 1, 1, none⟩ = some (.slice A3 n3 c3) ∧ w'.cell? ⟨g4, 0, none⟩ = some (.bool r4) ∧ w'.cell? ⟨g4, 1, none⟩ = some (.slice A4 n4 c4) ∧ w'.cell? ⟨g5, 0, none⟩ = some (.bool r5) ∧ w'.cell? ⟨g5, 1, none⟩ = some (.slice A5 n5 c5) ∧ w'.cell? ⟨g9, 0, none⟩ = some (.bool r9) ∧ w'.cell? ⟨g9, 1, none⟩ = some (.slice A9 n9 c9) ∧ w'.cell? ⟨g10, 0, none⟩ = some (.bool r10) ∧ w'.cell? ⟨g10, 1, none⟩ = some (.slice A10 n10 c10)) (first
      | with_reducible exact m4cells Q0
      | with_reducible exact m4cells Q1
      | with_reducible exact m4cells Q2
      | with_reducible exact m4cells Q3
      | with_reducible exact m4cells Q4
      | with_reducible exact m4cells Q5
      | with_reducible exact m4cells Q6
      | with_reducible exact m4cells Q7
      | with_reducible exact m4cells Q8
      | with_reducible exact m4cells Q9
      | with_reducible exact m4cells Q10
      | with_reducible exact m4cells Q11) (first
      | (go_at_call 12; with_reducible refine (SameZ Q0.l.z Q0.m.z (Int.mul_add x y z)).mono ?_; rintro e v1 ⟨rfl, hb1⟩; have Q1 := m4below Q0 hb1)
      | (go_at_call 22; with_reducible refine (MulZ Q1.o.o.b.z Q1.o.o.a.z ly lx).mono ?_; rintro e v2 ⟨r12, A12, n12, c12, rfl, h2, hb2⟩; have Q2 := m4below Q1 hb2)
      | (go_at_call 12; with_reducible refine (SameZ h2 Q2.o.m.z (Int.mul_comm y x)).mono ?_; rintro e v3 ⟨rfl, hb3⟩; have Q3 := m4below Q2 hb3)
      | (go_at_call 22; with_reducible refine (MulZ Q3.o.m.z.zi Q3.o.o.c.z lxy lz).mono ?_; rintro e v4 ⟨r13, A13, n13, c13, rfl, h4, hb4⟩; have Q4 := m4below Q3 hb4)
      | (go_at_call 22; with_reducible refine (MulZ Q4.o.o.b.z Q4.o.o.c.z ly lz).mono ?_; rintro e v5 ⟨r14, A14, n14, c14, rfl, h5, hb5⟩; have Q5 := m4below Q4 hb5; replace h4 := h4.below hb5)
      | (go_at_call 22; with_reducible refine (MulZ Q5.o.o.a.z h5.zi lx lbc).mono ?_; rintro e v6 ⟨r15, A15, n15, c15, rfl, h6, hb6⟩; have Q6 := m4below Q5 hb6; replace h4 := h4.below hb6)
      | (go_at_call 12; with_reducible refine (SameZ h4 h6 (Int.mul_assoc x y z)).mono ?_; rintro e v7 ⟨rfl, hb7⟩; have Q7 := m4below Q6 hb7)
      | (go_at_call 20; with_reducible refine (SubZ Q7.o.l.z.zi Q7.o.o.c.z lyz lz).mono ?_; rintro e v8 ⟨r16, A16, n16, c16, rfl, h8, hb8⟩; have Q8 := m4below Q7 hb8)
      | (go_at_call 10; with_reducible refine (OfZ0 v8).mono ?_; rintro e v9 ⟨r17, A17, n17, c17, rfl, h9, hb9⟩; have Q9 := m4below Q8 hb9; replace h8 := h8.below hb9)
      | (go_at_call 18; with_reducible refine (AddZ Q9.o.o.b.z h9.zi ly (Le.zero _)).mono ?_; rintro e v10 ⟨r18, A18, n18, c18, rfl, h10, hb10⟩; have Q10 := m4below Q9 hb10; replace h8 := h8.below hb10)
      | (go_at_call 12; with_reducible refine (SameZ h8 h10 (by omega)).mono ?_; rintro e v11 ⟨rfl, hb11⟩; have Q11 := m4below Q10 hb11))
      have hR := Q11.o.o
      clear Q0 Q1 Q2 Q3 Q4 Q5 Q6 Q7 Q8 Q9 Q10 Q11 hb1 hb2 hb3 hb4 hb5 hb6 hb7 hb8 hb9 hb10 hb11 h2 h4 h5 h6 h8 h9 h10 hcells
      obtain ⟨x0, x1, x2, x3, -, -⟩ := hR.cells
      by_cases hy0 : y = 0
      · subst hy0
        go_wp2_with fail
        refine (DivModZ0 hR.b.z).mono ?_
        rintro e v12 ⟨r20, A20, n20, c20, r21, A21, n21, c21, rfl, -, -, hb12⟩
        have hR12 := (hR.below hb12).below (al2 (o := .cells #[.bool r20, .slice A20 n20 c20] 24) (p := .cells #[.bool r21, .slice A21 n21 c21] 24))
        clear hR hb12 x0 x1 x2 x3
        go_wp2_with fail
        generalize (v12.alloc (.cells #[.bool r20, .slice A20 n20 c20] 24)).alloc (.cells #[.bool r21, .slice A21 n21 c21] 24) = wf at *
        have Q0 := hR12.below dr0
        have hcells := Q0.bcells
        clear hR12
        go_region_held3 (fun w' => w'.cell? ⟨g + 1, 0, none⟩ = some (.bool p2) ∧ w'.cell? ⟨g + 1, 1, none⟩ = some (.slice A2 n2 c2)) (first
        | with_reducible exact R3.bcells Q0
        | with_reducible exact R3.bcells Q1
        | with_reducible exact R3.bcells Q2
        | with_reducible exact R3.bcells Q3) (first
        | (go_at_call 10; with_reducible refine (OfZ0 wf.drew).mono ?_; rintro e v1 ⟨r22, A22, n22, c22, rfl, h1, hb1⟩; have Q1 := Q0.below hb1)
        | (go_at_call 14; with_reducible refine (Cmp0 Q1.b.z h1.zi).mono ?_; rintro e v2 ⟨rfl, hb2⟩; have Q2 := Q1.below hb2)
        | (go_at_call 7; with_reducible refine (awake_true v2 Q2.tb).mono ?_; rintro e v3 ⟨rfl, hb3⟩; have Q3 := Q2.below hb3))
        have hE := Q3.bl
        clear Q0 Q1 Q2 Q3 hb1 hb2 hb3 h1 hcells
        go_wp2
        go_ret
        exact ⟨rfl, hE⟩
      · have lq : Le 1000 (x / y) := (Lx.out.div hy0).mono (by decide)
        have lr : Le 1000 (x % y) := (Ly.out.mod hy0).mono (by decide)
        have lqy : Le 1000 (x / y * y) := ((Lx.out.div hy0).mul Ly.out).mono (by decide)
        have hr0 := Int.emod_nonneg x hy0
        have hr1 : x % y < ((y + 0).natAbs : Int) := by rw [Int.add_zero]; exact Int.emod_lt x hy0
        have hqr : x / y * y + x % y = x + 0 := by rw [Int.add_zero, Int.mul_comm]; exact Int.mul_ediv_add_emod x y
        have HR0 := hid hr0
        have HR1 := hid hr1
        have HQR := hid hqr
        have HY := hid hy0
        clear hr0 hr1 hqr hy0
        go_wp2_with fail
        refine (DivModZ hR.a.z hR.b.z lx ly HY.out).mono ?_
        rintro e v12 ⟨r20, A20, n20, c20, r21, A21, n21, c21, rfl, h20, h21, hb12⟩
        have hP : M2 (R3 w g p1 A1 n1 c1 x p2 A2 n2 c2 y p3 A3 n3 c3 z) v12.heap.size r20 A20 n20 c20 (x / y) (v12.heap.size + 1) r21 A21 n21 c21 (x % y) ((v12.alloc (.cells #[.bool r20, .slice A20 n20 c20] 24)).alloc (.cells #[.bool r21, .slice A21 n21 c21] 24)) := ⟨(hR.below hb12).below al2, ⟨box1 _ _ _, h20.below al2⟩, ⟨box2 _ _ _, h21.below al2⟩⟩
        clear hR hb12 h20 h21 x0 x1 x2 x3
        go_upto_region 10 with fail
        generalize (v12.alloc (.cells #[.bool r20, .slice A20 n20 c20] 24)).alloc (.cells #[.bool r21, .slice A21 n21 c21] 24) = wf at *
        generalize v12.heap.size + 1 = g21 at *
        generalize v12.heap.size = g20 at *
        have K := hP.o.clo.m2 (Nat.le_refl _) hP.l.b.lt hP.m.b.lt (r := r20) (A := A20) (n := n20) (c := c20) (x := x / y) (r' := r21) (A' := A21) (n' := n21) (c' := c21) (y := x % y)
        have HL := hid (show g + 1 + 1 < wf.heap.size ∧ g20 < wf.heap.size ∧ g21 < wf.heap.size ∧ 0 < wf.heap.size ∧ w.heap.size ≤ wf.heap.size from ⟨hP.o.c.b.lt, hP.l.b.lt, hP.m.b.lt, hP.o.tb.2, hP.o.bl.size⟩)
        go_cut [14] (fun s14 wx => One (M2 (R3 w g p1 A1 n1 c1 x p2 A2 n2 c2 y p3 A3 n3 c3 z) g20 r20 A20 n20 c20 (x / y) g21 r21 A21 n21 c21 (x % y)) wf.heap.size (y + 0) s14 wx)
        case first =>
          go_region_held3 (fun w' => w'.cell? ⟨g + 1, 0, none⟩ = some (.bool p2) ∧ w'.cell? ⟨g + 1, 1, none⟩ = some (.slice A2 n2 c2)) (first
            | with_reducible exact m2bcells (K.below hP dr0)
            | with_reducible exact m2bcells (K.below hP dr1)
            | with_reducible exact m2bcells hP1
            | with_reducible exact m2bcells (K.below hP1 al1)
            | with_reducible exact m2bcells hP2
            | with_reducible exact m2bcells (K.below hP2 al1)
            | with_reducible exact m2bcells (K.set hP2 qa)) (first
            | (go_at_call 10; (first | with_reducible refine (OfZ0 _).mono ?_ | with_reducible refine (OfZ0 _).mono ?_); rintro e wf1 ⟨r23, A23, n23, c23, rfl, h23, hb1⟩; (first | (have H := sd1 (Nat.le_refl _) hb1; obtain ⟨hc1, qa⟩ := H) | (have hc1 := sd0 hb1)); have hP1 := K.below hP hc1; have hN1 := hc1.size)
            | (go_at_call 18; (first | with_reducible refine (AddZ hP1.o.b.z h23.zi ly (Le.zero _)).mono ?_ | with_reducible refine (AddZ (K.below hP1 al1).o.b.z (h23.below al1).zi ly (Le.zero _)).mono ?_); rintro e wf2 ⟨r24, A24, n24, c24, rfl, h24, hb2⟩; (first | (have H := se1 hN1 hb2; obtain ⟨hc2, qa⟩ := H) | (have hc2 := hb2; (try replace qa := qa.step hc2))); have hP2 := K.below hP1 hc2; have hN2 := Nat.le_trans hN1 hc2.size; replace h23 := h23.below hc2; (try have lqa := qa.lt); (try obtain ⟨_, _, _, _⟩ := qa.1.c2)))
          all_goals
            (try clear lqa)
            go_wp2_with fail
            go_meet
            first
              | with_reducible exact one1 K hP2 h24 hN2
              | with_reducible exact one2 K hP2 h24 qa
        case rest =>
          obtain ⟨g22, r22, A22, n22, c22, rfl, hN, j22, hR⟩ := hcut
          clear hP K
          rename World => wg
          have hS := hid (M3.set hR j22 (by have := HL.out; omega))
          clear hN
          obtain ⟨y0, y1, y2, y3⟩ := j22.b.c2
          have hlt := j22.b.lt
          clear hR j22
          go_wp2_with fail
          generalize wg.setCell ⟨g22, 0, none⟩ (.bool false) = wh at *
          have Q0 := hS.out.below dr0
          have hcells := Q0.cells
          clear hS y0 y1 y2 y3
          go_region_held3 (fun w' => w'.cell? ⟨g, 0, none⟩ = some (.bool p1) ∧ w'.cell? ⟨g, 1, none⟩ = some (.slice A1 n1 c1) ∧ w'.cell? ⟨g + 1, 0, none⟩ = some (.bool p2) ∧ w'.cell? ⟨g + 1, 1, none⟩ = some (.slice A2 n2 c2) ∧ w'.cell? ⟨g20, 0, none⟩ = some (.bool r20) ∧ w'.cell? ⟨g20, 1, none⟩ = some (.slice A20 n20 c20) ∧ w'.cell? ⟨g21, 0, none⟩ = some (.bool r21) ∧ w'.cell? ⟨g21, 1, none⟩ = some (.slice A21 n21 c21) ∧ w'.cell? ⟨g22, 0, none⟩ = some (.bool false) ∧ w'.cell? ⟨g22, 1, none⟩ = some (.slice A22 n22 c22)) (first
          | with_reducible exact M3.cells Q0
          | with_reducible exact M3.cells Q1
          | with_reducible exact M3.cells Q2
          | with_reducible exact M3.cells Q3
          | with_reducible exact M3.cells Q4
          | with_reducible exact M3.cells Q5
          | with_reducible exact M3.cells Q6
          | with_reducible exact M3.cells Q7
          | with_reducible exact M3.cells Q8
          | with_reducible exact M3.cells Q9) (first
          | (go_at_call 22; with_reducible refine (MulZ Q0.o.l.z.zi Q0.o.o.b.z lq ly).mono ?_; rintro e v1 ⟨r25, A25, n25, c25, rfl, h1, hb1⟩; have Q1 := Q0.below hb1)
          | (go_at_call 18; with_reducible refine (AddZ h1.zi Q1.o.m.z.zi lqy lr).mono ?_; rintro e v2 ⟨r26, A26, n26, c26, rfl, h2, hb2⟩; have Q2 := Q1.below hb2)
          | (go_at_call 10; with_reducible refine (OfZ0 v2).mono ?_; rintro e v3 ⟨r27, A27, n27, c27, rfl, h3, hb3⟩; have Q3 := Q2.below hb3; replace h2 := h2.below hb3)
          | (go_at_call 18; with_reducible refine (AddZ Q3.o.o.a.z h3.zi lx (Le.zero _)).mono ?_; rintro e v4 ⟨r28, A28, n28, c28, rfl, h4, hb4⟩; have Q4 := Q3.below hb4; replace h2 := h2.below hb4)
          | (go_at_call 12; with_reducible refine (SameZ h2 h4 HQR.out).mono ?_; rintro e v5 ⟨rfl, hb5⟩; have Q5 := Q4.below hb5)
          | (go_at_call 10; with_reducible refine (OfZ0 v5).mono ?_; rintro e v6 ⟨r29, A29, n29, c29, rfl, h6, hb6⟩; have Q6 := Q5.below hb6)
          | (go_at_call 14; with_reducible refine (CmpGe Q6.o.m.z.zi h6.zi lr HR0.out).mono ?_; rintro e v7 ⟨i7, rfl, hk7, hb7⟩; have Q7 := Q6.below hb7)
          | (go_at_call 14; with_reducible refine (CmpLt Q7.o.m.z.zi Q7.z lr HR1.out).mono ?_; rintro e v8 ⟨i8, rfl, hk8, hb8⟩; have Q8 := Q7.below hb8)
          | (go_at_call 7; with_reducible refine (awake_true v8 Q8.o.o.tb).mono ?_; rintro e v9 ⟨rfl, hb9⟩; have Q9 := Q8.below hb9))
          have hE := Q9.o.o.bl
          clear Q0 Q1 Q2 Q3 Q4 Q5 Q6 Q7 Q8 Q9 hb1 hb2 hb3 hb4 hb5 hb6 hb7 hb8 hb9 h1 h2 h3 h4 h6 hcells hk7 hk8
          go_wp2
          go_ret
          exact ⟨rfl, hE⟩

end Go.Proofs.YtlfeendebbidhaaDoor
