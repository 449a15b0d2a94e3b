/- Two variables of fractions, made in an open order; the boxes of the reference's operations on fractions. -/
import Derived.Test.YtffipjofefemiaaGreatDoorRovr
namespace Go.Proofs.YtffipjofefemiaaGreatDoor
open Go.RowKit Kb

theorem Bf.set {w : World} {g h N : Nat} {u0 u1 u2 u3 : Value} (q : Bf w g N) (hne : g ≠ h) : Bf ((((w.setCell ⟨h, 0, none⟩ u0).setCell ⟨h, 1, none⟩ u1).setCell ⟨h, 2, none⟩ u2).setCell ⟨h, 3, none⟩ u3) g N := ⟨q.1.grown (gb4' _ _ _ _ _ _) hne, q.2⟩
theorem sd2q {W v : World} {N : Nat} (hN : N ≤ W.heap.size) (hb : Below ((W.alloc (.cells #[.bool false, .slice none 0 0, .bool false, .slice none 0 0] 26)).alloc (.cells #[.bool false, .slice none 0 0, .bool false, .slice none 0 0] 26)).drew.heap.size ((W.alloc (.cells #[.bool false, .slice none 0 0, .bool false, .slice none 0 0] 26)).alloc (.cells #[.bool false, .slice none 0 0, .bool false, .slice none 0 0] 26)).drew v) : Below W.heap.size W v ∧ Bf v W.heap.size N ∧ Bf v (W.heap.size + 1) N :=
  ⟨bthen dr2 hb (Nat.le_refl _), Bf.step (w := ((W.alloc (.cells #[.bool false, .slice none 0 0, .bool false, .slice none 0 0] 26)).alloc (.cells #[.bool false, .slice none 0 0, .bool false, .slice none 0 0] 26)).drew) ⟨show Bk ((W.alloc (.cells #[.bool false, .slice none 0 0, .bool false, .slice none 0 0] 26)).alloc (.cells #[.bool false, .slice none 0 0, .bool false, .slice none 0 0] 26)) W.heap.size _ from box1 _ _ _, hN⟩ hb,
    Bf.step (w := ((W.alloc (.cells #[.bool false, .slice none 0 0, .bool false, .slice none 0 0] 26)).alloc (.cells #[.bool false, .slice none 0 0, .bool false, .slice none 0 0] 26)).drew) ⟨show Bk ((W.alloc (.cells #[.bool false, .slice none 0 0, .bool false, .slice none 0 0] 26)).alloc (.cells #[.bool false, .slice none 0 0, .bool false, .slice none 0 0] 26)) (W.heap.size + 1) _ from box2 _ _ _, Nat.le_succ_of_le hN⟩ hb⟩
theorem se2q {W v : World} {N : Nat} (hN : N ≤ W.heap.size) (hb : Below ((W.alloc (.cells #[.bool false, .slice none 0 0, .bool false, .slice none 0 0] 26)).alloc (.cells #[.bool false, .slice none 0 0, .bool false, .slice none 0 0] 26)).heap.size ((W.alloc (.cells #[.bool false, .slice none 0 0, .bool false, .slice none 0 0] 26)).alloc (.cells #[.bool false, .slice none 0 0, .bool false, .slice none 0 0] 26)) v) : Below W.heap.size W v ∧ Bf v W.heap.size N ∧ Bf v (W.heap.size + 1) N :=
  ⟨bthen al2 hb (Nat.le_refl _), Bf.step ⟨box1 _ _ _, hN⟩ hb, Bf.step ⟨box2 _ _ _, Nat.le_succ_of_le hN⟩ hb⟩
/-- Two variables of fractions have been made. -/
def Tw4 (M : World → Prop) (N : Nat) (x y : Rat) (s t : Value) (w : World) : Prop :=
  ∃ g s1 A1 n1 c1 s2 A2 n2 c2 h t1 B1 m1 d1 t2 B2 m2 d2, s = .pointer (some ⟨g, 0, none⟩) ∧ t = .pointer (some ⟨h, 0, none⟩) ∧ N ≤ g ∧ N ≤ h ∧ Jq w g s1 A1 n1 c1 s2 A2 n2 c2 x ∧ Jq w h t1 B1 m1 d1 t2 B2 m2 d2 y ∧ M w
section
variable {M : World → Prop} {N g h : Nat} {x y : Rat} {w : World} {s1 : Bool} {A1 : Option Addr} {n1 c1 : Nat} {s2 : Bool} {A2 : Option Addr} {n2 c2 : Nat} {t1 : Bool} {B1 : Option Addr} {m1 d1 : Nat} {t2 : Bool} {B2 : Option Addr} {m2 d2 : Nat}
theorem tq1 (K : Clo4 M N) (hM : M w) (a : Qf w s1 A1 n1 c1 s2 A2 n2 c2 x) (b : Qf w t1 B1 m1 d1 t2 B2 m2 d2 y) (hN : N ≤ w.heap.size) :
    Tw4 M N x y (.pointer (some ⟨w.heap.size, 0, none⟩)) (.pointer (some ⟨w.heap.size + 1, 0, none⟩)) ((w.alloc (.cells #[.bool s1, .slice A1 n1 c1, .bool s2, .slice A2 n2 c2] 26)).alloc (.cells #[.bool t1, .slice B1 m1 d1, .bool t2, .slice B2 m2 d2] 26)) :=
  ⟨_, s1, A1, n1, c1, s2, A2, n2, c2, _, t1, B1, m1, d1, t2, B2, m2, d2, rfl, rfl, hN, Nat.le_succ_of_le hN, ⟨box1 _ _ _, a.below al2⟩, ⟨box2 _ _ _, b.below al2⟩, K.below hM al2⟩
theorem tq2 (K : Clo4 M N) (hM : M w) (a : Qf w s1 A1 n1 c1 s2 A2 n2 c2 x) (b : Qf w t1 B1 m1 d1 t2 B2 m2 d2 y) (hN : N ≤ w.heap.size) :
    Tw4 M N x y (.pointer (some ⟨w.heap.size + 1, 0, none⟩)) (.pointer (some ⟨w.heap.size, 0, none⟩)) ((w.alloc (.cells #[.bool t1, .slice B1 m1 d1, .bool t2, .slice B2 m2 d2] 26)).alloc (.cells #[.bool s1, .slice A1 n1 c1, .bool s2, .slice A2 n2 c2] 26)) :=
  ⟨_, s1, A1, n1, c1, s2, A2, n2, c2, _, t1, B1, m1, d1, t2, B2, m2, d2, rfl, rfl, Nat.le_succ_of_le hN, hN, ⟨box2 _ _ _, a.below al2⟩, ⟨box1 _ _ _, b.below al2⟩, K.below hM al2⟩
theorem tq3 (K : Clo4 M N) (hM : M w) (a : Qf w s1 A1 n1 c1 s2 A2 n2 c2 x) (b : Qf w t1 B1 m1 d1 t2 B2 m2 d2 y) (q : Bf w g N) (hN : N ≤ w.heap.size) :
    Tw4 M N x y (.pointer (some ⟨g, 0, none⟩)) (.pointer (some ⟨w.heap.size, 0, none⟩)) (((((w.setCell ⟨g, 0, none⟩ (.bool s1)).setCell ⟨g, 1, none⟩ (.slice A1 n1 c1)).setCell ⟨g, 2, none⟩ (.bool s2)).setCell ⟨g, 3, none⟩ (.slice A2 n2 c2)).alloc (.cells #[.bool t1, .slice B1 m1 d1, .bool t2, .slice B2 m2 d2] 26)) :=
  ⟨_, s1, A1, n1, c1, s2, A2, n2, c2, _, t1, B1, m1, d1, t2, B2, m2, d2, rfl, rfl, q.2, hN, (Jq.fill q a).below al1, ⟨Bk.of_alloc _ _ (by simp [World.setCell]), (b.offbox q.1 (noInt_four _ _ _ _ _ _ _ _) (gb4' _ _ _ _ _ _)).below al1⟩, K.below (K.set hM q) al1⟩
theorem tq4 (K : Clo4 M N) (hM : M w) (a : Qf w s1 A1 n1 c1 s2 A2 n2 c2 x) (b : Qf w t1 B1 m1 d1 t2 B2 m2 d2 y) (q : Bf w h N) (hN : N ≤ w.heap.size) :
    Tw4 M N x y (.pointer (some ⟨w.heap.size, 0, none⟩)) (.pointer (some ⟨h, 0, none⟩)) (((((w.setCell ⟨h, 0, none⟩ (.bool t1)).setCell ⟨h, 1, none⟩ (.slice B1 m1 d1)).setCell ⟨h, 2, none⟩ (.bool t2)).setCell ⟨h, 3, none⟩ (.slice B2 m2 d2)).alloc (.cells #[.bool s1, .slice A1 n1 c1, .bool s2, .slice A2 n2 c2] 26)) :=
  ⟨_, s1, A1, n1, c1, s2, A2, n2, c2, _, t1, B1, m1, d1, t2, B2, m2, d2, rfl, rfl, hN, q.2, ⟨Bk.of_alloc _ _ (by simp [World.setCell]), (a.offbox q.1 (noInt_four _ _ _ _ _ _ _ _) (gb4' _ _ _ _ _ _)).below al1⟩, (Jq.fill q b).below al1, K.below (K.set hM q) al1⟩
theorem tq5 (K : Clo4 M N) (hM : M w) (a : Qf w s1 A1 n1 c1 s2 A2 n2 c2 x) (b : Qf w t1 B1 m1 d1 t2 B2 m2 d2 y) (q : Bf w g N) (q' : Bf w h N) (hne : g ≠ h) :
    Tw4 M N x y (.pointer (some ⟨g, 0, none⟩)) (.pointer (some ⟨h, 0, none⟩)) ((((((((w.setCell ⟨g, 0, none⟩ (.bool s1)).setCell ⟨g, 1, none⟩ (.slice A1 n1 c1)).setCell ⟨g, 2, none⟩ (.bool s2)).setCell ⟨g, 3, none⟩ (.slice A2 n2 c2)).setCell ⟨h, 0, none⟩ (.bool t1)).setCell ⟨h, 1, none⟩ (.slice B1 m1 d1)).setCell ⟨h, 2, none⟩ (.bool t2)).setCell ⟨h, 3, none⟩ (.slice B2 m2 d2)) := by
  have q1 : Bf ((((w.setCell ⟨g, 0, none⟩ (.bool s1)).setCell ⟨g, 1, none⟩ (.slice A1 n1 c1)).setCell ⟨g, 2, none⟩ (.bool s2)).setCell ⟨g, 3, none⟩ (.slice A2 n2 c2)) h N := q'.set (fun e => hne e.symm)
  exact ⟨_, s1, A1, n1, c1, s2, A2, n2, c2, _, t1, B1, m1, d1, t2, B2, m2, d2, rfl, rfl, q.2, q'.2, (Jq.fill q a).off q1 hne, Jq.fill q1 (b.offbox q.1 (noInt_four _ _ _ _ _ _ _ _) (gb4' _ _ _ _ _ _)), K.set (K.set hM q) q1⟩
end
/-- A box of a fraction that comes in, with few limbs. -/
structure Rb (w : World) (g : Nat) (s1 : Bool) (A1 : Option Addr) (n1 c1 : Nat) (s2 : Bool) (A2 : Option Addr) (n2 c2 : Nat) (k : Nat) (r : Rat) : Prop where
  b : Bk w g (.cells #[.bool s1, .slice A1 n1 c1, .bool s2, .slice A2 n2 c2] 26 (0, 0))
  z : Ri w s1 A1 n1 c1 s2 A2 n2 c2 k r
/-- What stays while two fractions are normalized. -/
structure Rp (w : World) (g : Nat) (s1 : Bool) (A1 : Option Addr) (n1 c1 : Nat) (s2 : Bool) (A2 : Option Addr) (n2 c2 : Nat) (k : Nat) (x : Rat) (t1 : Bool) (B1 : Option Addr) (m1 d1 : Nat) (t2 : Bool) (B2 : Option Addr) (m2 d2 : Nat) (l : Nat) (y : Rat) (wx : World) : Prop where
  a : Rb wx g s1 A1 n1 c1 s2 A2 n2 c2 k x
  b : Rb wx (g + 1) t1 B1 m1 d1 t2 B2 m2 d2 l y
  r : Bk wx (g + 1 + 1) (.cells #[.bool false, .slice none 0 0, .bool false, .slice none 0 0] 26 (0, 0))
  bl : Below w.heap.size w wx
/-- What stays while the result is made. -/
structure Nx (w : World) (gr g5 : Nat) (s1 : Bool) (A1 : Option Addr) (n1 c1 : Nat) (s2 : Bool) (A2 : Option Addr) (n2 c2 : Nat) (x : Rat) (g6 : Nat) (t1 : Bool) (B1 : Option Addr) (m1 d1 : Nat) (t2 : Bool) (B2 : Option Addr) (m2 d2 : Nat) (y : Rat) (wx : World) : Prop where
  a : Jq wx g5 s1 A1 n1 c1 s2 A2 n2 c2 x
  b : Jq wx g6 t1 B1 m1 d1 t2 B2 m2 d2 y
  r : Bk wx gr (.cells #[.bool false, .slice none 0 0, .bool false, .slice none 0 0] 26 (0, 0))
  bl : Below w.heap.size w wx
section
variable {w wx wy : World} {g gr g5 g6 k l : Nat} {x y : Rat} {s1 : Bool} {A1 : Option Addr} {n1 c1 : Nat} {s2 : Bool} {A2 : Option Addr} {n2 c2 : Nat} {t1 : Bool} {B1 : Option Addr} {m1 d1 : Nat} {t2 : Bool} {B2 : Option Addr} {m2 d2 : Nat}
theorem Rb.below (h : Rb wx g s1 A1 n1 c1 s2 A2 n2 c2 k x) (hb : Below wx.heap.size wx wy) : Rb wy g s1 A1 n1 c1 s2 A2 n2 c2 k x := ⟨h.b.step hb, h.z.below hb⟩
theorem Rb.off {h N : Nat} {u0 u1 u2 u3 : Value} (q : Rb wx g s1 A1 n1 c1 s2 A2 n2 c2 k x) (hq : Bf wx h N) (hne : g ≠ h) : Rb ((((wx.setCell ⟨h, 0, none⟩ u0).setCell ⟨h, 1, none⟩ u1).setCell ⟨h, 2, none⟩ u2).setCell ⟨h, 3, none⟩ u3) g s1 A1 n1 c1 s2 A2 n2 c2 k x :=
  ⟨q.b.grown (gb4' _ _ _ _ _ _) hne, ⟨q.z.q.offbox hq.1 (noInt_four _ _ _ _ _ _ _ _) (gb4' _ _ _ _ _ _), q.z.h1, q.z.h2⟩⟩
theorem Rp.below (h : Rp w g s1 A1 n1 c1 s2 A2 n2 c2 k x t1 B1 m1 d1 t2 B2 m2 d2 l y wx) (hb : Below wx.heap.size wx wy) : Rp w g s1 A1 n1 c1 s2 A2 n2 c2 k x t1 B1 m1 d1 t2 B2 m2 d2 l y wy := ⟨h.a.below hb, h.b.below hb, h.r.step hb, bthen h.bl hb (Nat.le_refl _)⟩
theorem Rp.clo (h : Rp w g s1 A1 n1 c1 s2 A2 n2 c2 k x t1 B1 m1 d1 t2 B2 m2 d2 l y wx) : Clo4 (Rp w g s1 A1 n1 c1 s2 A2 n2 c2 k x t1 B1 m1 d1 t2 B2 m2 d2 l y) wx.heap.size :=
  ⟨fun h hb => h.below hb, fun {a i u0 u1 u2 u3} q hq => by
    have e1 := Nat.lt_of_lt_of_le h.r.lt hq.2
    have e3 := Nat.le_trans h.bl.size hq.2
    exact ⟨q.a.off hq (by omega), q.b.off hq (by omega), q.r.grown (gb4' _ _ _ _ _ _) (by omega), below4 q.bl e3 u0 u1 u2 u3⟩⟩
theorem Rp.cells (h : Rp w g s1 A1 n1 c1 s2 A2 n2 c2 k x t1 B1 m1 d1 t2 B2 m2 d2 l y wx) : wx.cell? ⟨g, 0, none⟩ = some (.bool s1) ∧ wx.cell? ⟨g, 1, none⟩ = some (.slice A1 n1 c1) ∧ wx.cell? ⟨g, 2, none⟩ = some (.bool s2) ∧ wx.cell? ⟨g, 3, none⟩ = some (.slice A2 n2 c2) ∧ wx.cell? ⟨g + 1, 0, none⟩ = some (.bool t1) ∧ wx.cell? ⟨g + 1, 1, none⟩ = some (.slice B1 m1 d1) ∧ wx.cell? ⟨g + 1, 2, none⟩ = some (.bool t2) ∧ wx.cell? ⟨g + 1, 3, none⟩ = some (.slice B2 m2 d2) :=
  ⟨h.a.b.c4.1, h.a.b.c4.2.1, h.a.b.c4.2.2.1, h.a.b.c4.2.2.2.1, h.b.b.c4.1, h.b.b.c4.2.1, h.b.b.c4.2.2.1, h.b.b.c4.2.2.2.1⟩
theorem Nx.below (h : Nx w gr g5 s1 A1 n1 c1 s2 A2 n2 c2 x g6 t1 B1 m1 d1 t2 B2 m2 d2 y wx) (hb : Below wx.heap.size wx wy) : Nx w gr g5 s1 A1 n1 c1 s2 A2 n2 c2 x g6 t1 B1 m1 d1 t2 B2 m2 d2 y wy := ⟨h.a.below hb, h.b.below hb, h.r.step hb, bthen h.bl hb (Nat.le_refl _)⟩
theorem Nx.cells (h : Nx w gr g5 s1 A1 n1 c1 s2 A2 n2 c2 x g6 t1 B1 m1 d1 t2 B2 m2 d2 y wx) : wx.cell? ⟨g5, 0, none⟩ = some (.bool s1) ∧ wx.cell? ⟨g5, 1, none⟩ = some (.slice A1 n1 c1) ∧ wx.cell? ⟨g5, 2, none⟩ = some (.bool s2) ∧ wx.cell? ⟨g5, 3, none⟩ = some (.slice A2 n2 c2) ∧ wx.cell? ⟨g6, 0, none⟩ = some (.bool t1) ∧ wx.cell? ⟨g6, 1, none⟩ = some (.slice B1 m1 d1) ∧ wx.cell? ⟨g6, 2, none⟩ = some (.bool t2) ∧ wx.cell? ⟨g6, 3, none⟩ = some (.slice B2 m2 d2) :=
  ⟨h.a.b.c4.1, h.a.b.c4.2.1, h.a.b.c4.2.2.1, h.a.b.c4.2.2.2.1, h.b.b.c4.1, h.b.b.c4.2.1, h.b.b.c4.2.2.1, h.b.b.c4.2.2.2.1⟩
theorem Nx.off {u0 u1 u2 u3 : Value} (h : Nx w gr g5 s1 A1 n1 c1 s2 A2 n2 c2 x g6 t1 B1 m1 d1 t2 B2 m2 d2 y wx) (h1 : gr < g5) (h2 : gr < g6) : ((((wx.setCell ⟨gr, 0, none⟩ u0).setCell ⟨gr, 1, none⟩ u1).setCell ⟨gr, 2, none⟩ u2).setCell ⟨gr, 3, none⟩ u3).cell? ⟨g5, 0, none⟩ = some (.bool s1) ∧ ((((wx.setCell ⟨gr, 0, none⟩ u0).setCell ⟨gr, 1, none⟩ u1).setCell ⟨gr, 2, none⟩ u2).setCell ⟨gr, 3, none⟩ u3).cell? ⟨g5, 1, none⟩ = some (.slice A1 n1 c1) ∧ ((((wx.setCell ⟨gr, 0, none⟩ u0).setCell ⟨gr, 1, none⟩ u1).setCell ⟨gr, 2, none⟩ u2).setCell ⟨gr, 3, none⟩ u3).cell? ⟨g5, 2, none⟩ = some (.bool s2) ∧ ((((wx.setCell ⟨gr, 0, none⟩ u0).setCell ⟨gr, 1, none⟩ u1).setCell ⟨gr, 2, none⟩ u2).setCell ⟨gr, 3, none⟩ u3).cell? ⟨g5, 3, none⟩ = some (.slice A2 n2 c2) ∧ ((((wx.setCell ⟨gr, 0, none⟩ u0).setCell ⟨gr, 1, none⟩ u1).setCell ⟨gr, 2, none⟩ u2).setCell ⟨gr, 3, none⟩ u3).cell? ⟨g6, 0, none⟩ = some (.bool t1) ∧ ((((wx.setCell ⟨gr, 0, none⟩ u0).setCell ⟨gr, 1, none⟩ u1).setCell ⟨gr, 2, none⟩ u2).setCell ⟨gr, 3, none⟩ u3).cell? ⟨g6, 1, none⟩ = some (.slice B1 m1 d1) ∧ ((((wx.setCell ⟨gr, 0, none⟩ u0).setCell ⟨gr, 1, none⟩ u1).setCell ⟨gr, 2, none⟩ u2).setCell ⟨gr, 3, none⟩ u3).cell? ⟨g6, 2, none⟩ = some (.bool t2) ∧ ((((wx.setCell ⟨gr, 0, none⟩ u0).setCell ⟨gr, 1, none⟩ u1).setCell ⟨gr, 2, none⟩ u2).setCell ⟨gr, 3, none⟩ u3).cell? ⟨g6, 3, none⟩ = some (.slice B2 m2 d2) := by
  obtain ⟨e1, e2, e3, e4, e5, e6, e7, e8⟩ := h.cells
  exact ⟨off_four (by omega) e1, off_four (by omega) e2, off_four (by omega) e3, off_four (by omega) e4, off_four (by omega) e5, off_four (by omega) e6, off_four (by omega) e7, off_four (by omega) e8⟩
end
section
variable {w : World} {s t : Bool} {A B : Option Addr} {n c m d : Nat} {x y : Int}
theorem rMulN (h : Zn w s A n c x) (k : Zn w t B m d y) (hx : Le 1000 x) (hy : Le 1000 y) : Calls Tryz.prog 62 #[.agg #[.bool s, .slice A n c], .agg #[.bool t, .slice B m d]] w fun e w' => ∃ r C n c, e = .returned (.agg #[.bool r, .slice C n c]) ∧ Zn w' r C n c (x * y) ∧ Below w.heap.size w w' :=
  rMul h.zi k.zi (Nat.le_trans (h.len hx) (by decide)) (Nat.le_trans (k.len hy) (by decide)) (hx.mono (by decide)) (hy.mono (by decide))
theorem rAddN (h : Zn w s A n c x) (k : Zn w t B m d y) (hx : Le 1000 x) (hy : Le 1000 y) : Calls Tryz.prog 69 #[.agg #[.bool s, .slice A n c], .agg #[.bool t, .slice B m d]] w fun e w' => ∃ r C n c, e = .returned (.agg #[.bool r, .slice C n c]) ∧ Zn w' r C n c (x + y) ∧ Below w.heap.size w w' :=
  rAdd h.zi k.zi (Nat.le_trans (h.len hx) (by decide)) (Nat.le_trans (k.len hy) (by decide)) (hx.mono (by decide)) (hy.mono (by decide))
theorem rOverN (h : Zn w s A n c x) (k : Zn w t B m d y) (hx : Le 1000 x) (hy : Le 1000 y) : Calls Tryz.prog 14 #[.agg #[.bool s, .slice A n c], .agg #[.bool t, .slice B m d]] w fun e w' => ∃ s1 A1 n1 c1 s2 A2 n2 c2, e = .returned (.agg #[.bool s1, .slice A1 n1 c1, .bool s2, .slice A2 n2 c2]) ∧ Qf w' s1 A1 n1 c1 s2 A2 n2 c2 (rv x y) ∧ Below w.heap.size w w' :=
  rOver h.zi k.zi (h.len hx) (k.len hy) hx hy
end
theorem ql_1000 {X : Rat} {k : Nat} (lx : QL k X) (hk : k ≤ 400) : Le 1000 X.num ∧ Le 1000 (X.den : Int) := ⟨lx.num.mono (by omega), lx.den.mono (by omega)⟩

end Go.Proofs.YtffipjofefemiaaGreatDoor
