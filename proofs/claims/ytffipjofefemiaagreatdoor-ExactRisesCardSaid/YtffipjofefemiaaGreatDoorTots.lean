/- What stays in total.add where the denominators differ. -/
import Derived.Test.YtffipjofefemiaaGreatDoorTotq
import Derived.Test.YtffipjofefemiaaGreatDoorMK
namespace Go.Proofs.YtffipjofefemiaaGreatDoor
open Go.RowKit Kb

theorem cd_q {v u : Value} {a b : Nat} {w : World} (h : Nm w v a) (k : Nm w u b) (ha : (dig a).length ≤ 100000000) (hb : (dig b).length ≤ 100000000) (hT : Tb w) :
    Calls Tryz.prog 105 #[v, u] w fun e w' => ∃ r, e = .returned r ∧ Nm w' r (Nat.gcd a b) ∧ Below w.heap.size w w' := CD_any a b ha hb v u w h k hT
/-- The boxes of the divisor and of what is left of the denominator besides. -/
structure Tc (w : World) (g g1 g6 g7 : Nat) (s1 : Bool) (A1 : Option Addr) (n1 c1 : Nat) (tn : Int) (A2 : Option Addr) (n2 c2 td : Nat) (p : Bool) (A : Option Addr) (n c : Nat) (B : Option Addr) (m d l : Nat) (x : Rat) (a : Int) (b : Nat) (C6 : Option Addr) (o6 e6 G : Nat) (C7 : Option Addr) (o7 e7 U : Nat) (wx : World) : Prop where
  o : Ta w g g1 s1 A1 n1 c1 tn A2 n2 c2 td p A n c B m d l x a b wx
  j6 : Jb wx g6 false C6 o6 e6 (G : Int)
  j7 : Jb wx g7 false C7 o7 e7 (U : Int)
  n6 : g1 + 1 < g6
  n7 : g1 + 1 < g7
/-- Behind the product of the numerator. -/
structure Td (w : World) (g g1 g7 : Nat) (s1 : Bool) (A1 : Option Addr) (n1 c1 : Nat) (tn : Int) (A2 : Option Addr) (n2 c2 td : Nat) (p : Bool) (A : Option Addr) (n c : Nat) (z : Int) (C7 : Option Addr) (o7 e7 U : Nat) (wx : World) : Prop where
  t : Bk wx g (.cells #[.bool s1, .slice A1 n1 c1, .bool false, .slice A2 n2 c2] 137 (0, 0))
  zn : Zn wx s1 A1 n1 c1 tn
  zd : Zn wx false A2 n2 c2 (td : Int)
  jn : Jb wx g1 p A n c z
  j7 : Jb wx g7 false C7 o7 e7 (U : Int)
  gb : w.grownBy wx (some g)
  lt : g < g1
  n7 : g1 + 1 < g7
section
variable {w wx wy : World} {g g1 g6 g7 o6 e6 o7 e7 G U : Nat} {C6 C7 : Option Addr} {z : Int} {s1 : Bool} {A1 : Option Addr} {n1 c1 : Nat} {tn : Int} {A2 : Option Addr} {n2 c2 td : Nat} {p : Bool} {A : Option Addr} {n c : Nat} {B : Option Addr} {m d l : Nat} {x : Rat} {a : Int} {b : Nat}
theorem Tc.below (h : Tc w g g1 g6 g7 s1 A1 n1 c1 tn A2 n2 c2 td p A n c B m d l x a b C6 o6 e6 G C7 o7 e7 U wx) (hb : Below wx.heap.size wx wy) : Tc w g g1 g6 g7 s1 A1 n1 c1 tn A2 n2 c2 td p A n c B m d l x a b C6 o6 e6 G C7 o7 e7 U wy := ⟨h.o.below hb, h.j6.below hb, h.j7.below hb, h.n6, h.n7⟩
theorem Tc.cells (h : Tc w g g1 g6 g7 s1 A1 n1 c1 tn A2 n2 c2 td p A n c B m d l x a b C6 o6 e6 G C7 o7 e7 U wx) : wx.cell? ⟨g, 0, none⟩ = some (.bool s1) ∧ wx.cell? ⟨g, 1, none⟩ = some (.slice A1 n1 c1) ∧ wx.cell? ⟨g, 2, none⟩ = some (.bool false) ∧ wx.cell? ⟨g, 3, none⟩ = some (.slice A2 n2 c2) ∧ wx.cell? ⟨g1, 0, none⟩ = some (.bool p) ∧ wx.cell? ⟨g1, 1, none⟩ = some (.slice A n c) ∧ wx.cell? ⟨g1 + 1, 0, none⟩ = some (.bool false) ∧ wx.cell? ⟨g1 + 1, 1, none⟩ = some (.slice B m d) ∧ wx.cell? ⟨g6, 0, none⟩ = some (.bool false) ∧ wx.cell? ⟨g6, 1, none⟩ = some (.slice C6 o6 e6) ∧ wx.cell? ⟨g7, 0, none⟩ = some (.bool false) ∧ wx.cell? ⟨g7, 1, none⟩ = some (.slice C7 o7 e7) := by
  obtain ⟨e1, e2, e3, e4, e5, e6, e7, e8⟩ := h.o.cells
  exact ⟨e1, e2, e3, e4, e5, e6, e7, e8, h.j6.b.c2.1, h.j6.b.c2.2.1, h.j7.b.c2.1, h.j7.b.c2.2.1⟩
theorem Td.below (h : Td w g g1 g7 s1 A1 n1 c1 tn A2 n2 c2 td p A n c z C7 o7 e7 U wx) (hb : Below wx.heap.size wx wy) : Td w g g1 g7 s1 A1 n1 c1 tn A2 n2 c2 td p A n c z C7 o7 e7 U wy := ⟨h.t.step hb, h.zn.below hb, h.zd.below hb, h.jn.below hb, h.j7.below hb, gb_trans h.gb (gb_of_below hb), h.lt, h.n7⟩
theorem Td.cells (h : Td w g g1 g7 s1 A1 n1 c1 tn A2 n2 c2 td p A n c z C7 o7 e7 U wx) : wx.cell? ⟨g, 0, none⟩ = some (.bool s1) ∧ wx.cell? ⟨g, 1, none⟩ = some (.slice A1 n1 c1) ∧ wx.cell? ⟨g, 2, none⟩ = some (.bool false) ∧ wx.cell? ⟨g, 3, none⟩ = some (.slice A2 n2 c2) ∧ wx.cell? ⟨g7, 0, none⟩ = some (.bool false) ∧ wx.cell? ⟨g7, 1, none⟩ = some (.slice C7 o7 e7) := ⟨h.t.c4.1, h.t.c4.2.1, h.t.c4.2.2.1, h.t.c4.2.2.2.1, h.j7.b.c2.1, h.j7.b.c2.2.1⟩
theorem tc_put {r9 : Bool} {C9 : Option Addr} {o9 e9 : Nat} (hw : w.heap.size ≤ g1) (R : Tc w g g1 g6 g7 s1 A1 n1 c1 tn A2 n2 c2 td p A n c B m d l x a b C6 o6 e6 G C7 o7 e7 U wx) (h : Zn wx r9 C9 o9 e9 z) :
    Td w g g1 g7 s1 A1 n1 c1 tn A2 n2 c2 td r9 C9 o9 e9 z C7 o7 e7 U ((wx.setCell ⟨g1, 0, none⟩ (.bool r9)).setCell ⟨g1, 1, none⟩ (.slice C9 o9 e9)) := by
  have hj := R.o.jn
  have hn := R.o.lt
  have hn7 := R.n7
  refine ⟨R.o.t.grown (gb2 _ _ _ _ _ _) (by omega), R.o.zn.offbox hj (noInt_zero _ _ _ _) (gb2 _ _ _ _ _ _), R.o.zd.offbox hj (noInt_zero _ _ _ _) (gb2 _ _ _ _ _ _), ⟨?_, h.offbox hj (noInt_zero _ _ _ _) (gb2 _ _ _ _ _ _)⟩, R.j7.off hj (noInt_zero _ _ _ _) (by omega), gb_far (gb_far R.o.gb hw) hw, R.o.lt, R.n7⟩
  unfold Bk at hj ⊢
  simp only [World.setCell, Array.getElem?_modify, hj]
  simp
theorem td_put {K : Nat} {R : Rat} {r9 r8 : Bool} {C9 C8 : Option Addr} {o9 e9 o8 e8 : Nat} {u v : Int} (D : Td w g g1 g7 s1 A1 n1 c1 tn A2 n2 c2 td p A n c z C7 o7 e7 U wx) (h : Zn wx r9 C9 o9 e9 u) (h' : Zn wx r8 C8 o8 e8 v) (hv : v = ((td * U : Nat) : Int)) (hp : Pq K R (u + z) (td * U)) (hl : Le 900 u ∧ Le 900 z) :
    Tz w g g1 K R ((((wx.setCell ⟨g, 0, none⟩ (.bool r9)).setCell ⟨g, 1, none⟩ (.slice C9 o9 e9)).setCell ⟨g, 2, none⟩ (.bool r8)).setCell ⟨g, 3, none⟩ (.slice C8 o8 e8)) := by
  subst hv
  obtain rfl : r8 = false := by rw [h'.1.out]; exact decide_eq_false (by omega)
  have ht := D.t
  have hlt := D.lt
  refine ⟨r9, C9, o9, e9, u, C8, o8, e8, td * U, p, A, n, c, z, ?_, h.offbox ht (noInt_four _ _ _ _ _ _ _ _) (gb4' _ _ _ _ _ _), h'.offbox ht (noInt_four _ _ _ _ _ _ _ _) (gb4' _ _ _ _ _ _), D.jn.b.grown (gb4' _ _ _ _ _ _) (by omega), D.jn.z.zi.offbox ht (noInt_four _ _ _ _ _ _ _ _) (gb4' _ _ _ _ _ _), hp, hid hl, gb_set (gb_set (gb_set (gb_set D.gb _ _) _ _) _ _) _ _, hlt⟩
  unfold Bk at ht ⊢
  simp only [World.setCell, Array.getElem?_modify, ht]
  simp
end

end Go.Proofs.YtffipjofefemiaaGreatDoor
