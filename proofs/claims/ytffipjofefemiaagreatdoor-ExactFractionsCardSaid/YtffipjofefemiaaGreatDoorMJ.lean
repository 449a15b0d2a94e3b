/- Boxes of integers and of fractions; what stays when a new box is written. -/
import Derived.Test.YtffipjofefemiaaGreatDoorME
import Derived.Test.YtffipjofefemiaaGreatDoorMI
namespace Go.Proofs.YtffipjofefemiaaGreatDoor
open Go.RowKit Kb

/-- A box of an integer that came in. -/
structure Ib (w : World) (g : Nat) (s : Bool) (A : Option Addr) (n c : Nat) (z : Int) : Prop where
  b : Bk w g (.cells #[.bool s, .slice A n c] 24 (0, 0))
  z : Zi w s A n c z
/-- A box of a normalized integer. -/
structure Jb (w : World) (g : Nat) (s : Bool) (A : Option Addr) (n c : Nat) (z : Int) : Prop where
  b : Bk w g (.cells #[.bool s, .slice A n c] 24 (0, 0))
  z : Zn w s A n c z
section
variable {w w' : World} {g h n c : Nat} {s : Bool} {A : Option Addr} {z : Int}
theorem Ib.below (k : Ib w g s A n c z) (hb : Below w.heap.size w w') : Ib w' g s A n c z := ⟨k.b.step hb, k.z.below hb⟩
theorem Jb.below (k : Jb w g s A n c z) (hb : Below w.heap.size w w') : Jb w' g s A n c z := ⟨k.b.step hb, k.z.below hb⟩
theorem Ib.off {u v : Value} (k : Ib w g s A n c z) {T : TypeId} {C : Array Value} (q : Bk w h (.cells C T (0, 0))) (hC : NoInt C) (hne : g ≠ h) : Ib ((w.setCell ⟨h, 0, none⟩ u).setCell ⟨h, 1, none⟩ v) g s A n c z :=
  ⟨k.b.grown (gb2 _ _ _ _ _ _) hne, k.z.offbox q hC (gb2 _ _ _ _ _ _)⟩
theorem Jb.off {u v : Value} (k : Jb w g s A n c z) {T : TypeId} {C : Array Value} (q : Bk w h (.cells C T (0, 0))) (hC : NoInt C) (hne : g ≠ h) : Jb ((w.setCell ⟨h, 0, none⟩ u).setCell ⟨h, 1, none⟩ v) g s A n c z :=
  ⟨k.b.grown (gb2 _ _ _ _ _ _) hne, k.z.offbox q hC (gb2 _ _ _ _ _ _)⟩
/-- Two stores fill a new box. -/
theorem Jb.fill (q : Bk w h (.cells #[.bool false, .slice none 0 0] 24 (0, 0))) (k : Zn w s A n c z) : Jb ((w.setCell ⟨h, 0, none⟩ (.bool s)).setCell ⟨h, 1, none⟩ (.slice A n c)) h s A n c z := by
  refine ⟨?_, k.offbox q (noInt_zero _ _ _ _) (gb2 _ _ _ _ _ _)⟩
  unfold Bk at q ⊢
  simp only [World.setCell, Array.getElem?_modify, q]
  simp
/-- A new box with its content. -/
theorem Jb.made (k : Zn w s A n c z) : Jb (w.alloc (.cells #[.bool s, .slice A n c] 24)) w.heap.size s A n c z :=
  ⟨Bk.of_alloc _ _ rfl, k.below ((Below.refl _ _).alloc (Nat.le_refl _) _)⟩
end

/-- The three integers that came in, in their boxes. -/
structure R3 (w : World) (g : Nat) (p1 : Bool) (A1 : Option Addr) (n1 c1 : Nat) (x : Int) (p2 : Bool) (A2 : Option Addr) (n2 c2 : Nat) (y : Int) (p3 : Bool) (A3 : Option Addr) (n3 c3 : Nat) (z : Int) (wx : World) : Prop where
  a : Ib wx g p1 A1 n1 c1 x
  b : Ib wx (g + 1) p2 A2 n2 c2 y
  c : Ib wx (g + 1 + 1) p3 A3 n3 c3 z
  tb : Tb wx
  bl : Below w.heap.size w wx
section
variable {w wx wy : World} {g n1 c1 n2 c2 n3 c3 h : Nat} {p1 p2 p3 : Bool} {A1 A2 A3 : Option Addr} {x y z : Int}
theorem R3.below (k : R3 w g p1 A1 n1 c1 x p2 A2 n2 c2 y p3 A3 n3 c3 z wx) (hb : Below wx.heap.size wx wy) : R3 w g p1 A1 n1 c1 x p2 A2 n2 c2 y p3 A3 n3 c3 z wy :=
  ⟨k.a.below hb, k.b.below hb, k.c.below hb, k.tb.below hb, bthen k.bl hb (Nat.le_refl _)⟩
theorem R3.off {u v : Value} (k : R3 w g p1 A1 n1 c1 x p2 A2 n2 c2 y p3 A3 n3 c3 z wx) {T : TypeId} {C : Array Value} (q : Bk wx h (.cells C T (0, 0))) (hC : NoInt C) (hne : g + 1 + 1 < h) (ht : 0 < h) (hw : w.heap.size ≤ h) : R3 w g p1 A1 n1 c1 x p2 A2 n2 c2 y p3 A3 n3 c3 z ((wx.setCell ⟨h, 0, none⟩ u).setCell ⟨h, 1, none⟩ v) :=
  ⟨k.a.off q hC (by omega), k.b.off q hC (by omega), k.c.off q hC (by omega), k.tb.grown (gb2 _ _ _ _ _ _) (by omega), (k.bl.setCell (p := ⟨h, 0, none⟩) hw u).setCell (p := ⟨h, 1, none⟩) hw v⟩
end

end Go.Proofs.YtffipjofefemiaaGreatDoor

namespace Go.Proofs.YtffipjofefemiaaGreatDoor
open Go.RowKit Kb

/-- A new box, not yet written, at N or behind it. -/
def Bq (v : World) (g N : Nat) : Prop := Bk v g (.cells #[.bool false, .slice none 0 0] 24 (0, 0)) ∧ N ≤ g
theorem Bq.step {v u : World} {g N : Nat} (h : Bq v g N) (hb : Below v.heap.size v u) : Bq u g N := ⟨h.1.step hb, h.2⟩
theorem Bq.lt {v : World} {g N : Nat} (h : Bq v g N) : g < v.heap.size := h.1.lt
theorem Bq.set {v : World} {g h N : Nat} (k : Bq v g N) (hne : g ≠ h) (a b : Value) : Bq ((v.setCell ⟨h, 0, none⟩ a).setCell ⟨h, 1, none⟩ b) g N := ⟨k.1.grown (gb2 _ _ _ _ _ _) hne, k.2⟩
section
variable {W v : World} {o p : Obj} {N : Nat}
theorem al1 : Below W.heap.size W (W.alloc o) := (Below.refl _ _).alloc (Nat.le_refl _) o
theorem al2 : Below W.heap.size W ((W.alloc o).alloc p) := below_two W o p
theorem dr0 : Below W.heap.size W W.drew := (Below.refl _ _).drew
theorem dr1 : Below W.heap.size W (W.alloc o).drew := al1.drew
theorem dr2 : Below W.heap.size W ((W.alloc o).alloc p).drew := al2.drew
/-- Behind a call: with no new box ahead of it, with one, with two. -/
theorem sd0 (hb : Below W.drew.heap.size W.drew v) : Below W.heap.size W v := bthen dr0 hb (Nat.le_refl _)
theorem sd1 (hN : N ≤ W.heap.size) (hb : Below (W.alloc (.cells #[.bool false, .slice none 0 0] 24)).drew.heap.size (W.alloc (.cells #[.bool false, .slice none 0 0] 24)).drew v) : Below W.heap.size W v ∧ Bq v W.heap.size N :=
  ⟨bthen dr1 hb (Nat.le_refl _), Bq.step (v := (W.alloc (.cells #[.bool false, .slice none 0 0] 24)).drew) ⟨show Bk (W.alloc (.cells #[.bool false, .slice none 0 0] 24)) W.heap.size _ from Bk.of_alloc W _ rfl, hN⟩ hb⟩
theorem sd2 (hN : N ≤ W.heap.size) (hb : Below ((W.alloc (.cells #[.bool false, .slice none 0 0] 24)).alloc (.cells #[.bool false, .slice none 0 0] 24)).drew.heap.size ((W.alloc (.cells #[.bool false, .slice none 0 0] 24)).alloc (.cells #[.bool false, .slice none 0 0] 24)).drew v) : Below W.heap.size W v ∧ Bq v W.heap.size N ∧ Bq v (W.heap.size + 1) N :=
  ⟨bthen dr2 hb (Nat.le_refl _), Bq.step (v := ((W.alloc (.cells #[.bool false, .slice none 0 0] 24)).alloc (.cells #[.bool false, .slice none 0 0] 24)).drew) ⟨show Bk ((W.alloc (.cells #[.bool false, .slice none 0 0] 24)).alloc (.cells #[.bool false, .slice none 0 0] 24)) W.heap.size _ from box1 _ _ _, hN⟩ hb,
    Bq.step (v := ((W.alloc (.cells #[.bool false, .slice none 0 0] 24)).alloc (.cells #[.bool false, .slice none 0 0] 24)).drew) ⟨show Bk ((W.alloc (.cells #[.bool false, .slice none 0 0] 24)).alloc (.cells #[.bool false, .slice none 0 0] 24)) (W.heap.size + 1) _ from box2 _ _ _, Nat.le_succ_of_le hN⟩ hb⟩
theorem se1 (hN : N ≤ W.heap.size) (hb : Below (W.alloc (.cells #[.bool false, .slice none 0 0] 24)).heap.size (W.alloc (.cells #[.bool false, .slice none 0 0] 24)) v) : Below W.heap.size W v ∧ Bq v W.heap.size N :=
  ⟨bthen al1 hb (Nat.le_refl _), Bq.step ⟨Bk.of_alloc W _ rfl, hN⟩ hb⟩
theorem se2 (hN : N ≤ W.heap.size) (hb : Below ((W.alloc (.cells #[.bool false, .slice none 0 0] 24)).alloc (.cells #[.bool false, .slice none 0 0] 24)).heap.size ((W.alloc (.cells #[.bool false, .slice none 0 0] 24)).alloc (.cells #[.bool false, .slice none 0 0] 24)) v) : Below W.heap.size W v ∧ Bq v W.heap.size N ∧ Bq v (W.heap.size + 1) N :=
  ⟨bthen al2 hb (Nat.le_refl _), Bq.step ⟨box1 _ _ _, hN⟩ hb, Bq.step ⟨box2 _ _ _, Nat.le_succ_of_le hN⟩ hb⟩
end

/-- What stays: when memory is made, and when a new box at N or behind it is written. -/
structure Clo (M : World → Prop) (N : Nat) : Prop where
  below : ∀ {a b : World}, M a → Below a.heap.size a b → M b
  set : ∀ {a : World} {h : Nat} {u v : Value}, M a → Bq a h N → M ((a.setCell ⟨h, 0, none⟩ u).setCell ⟨h, 1, none⟩ v)
/-- Two variables of integers have been made. -/
def Two (M : World → Prop) (x y : Int) (s t : Value) (w : World) : Prop :=
  ∃ g r A n c h r' A' n' c', s = .pointer (some ⟨g, 0, none⟩) ∧ t = .pointer (some ⟨h, 0, none⟩) ∧ Jb w g r A n c x ∧ Jb w h r' A' n' c' y ∧ M w
section
variable {M : World → Prop} {N g h n c n' c' : Nat} {x y : Int} {w : World} {r r' : Bool} {A A' : Option Addr}
theorem two1 (K : Clo M N) (hM : M w) (k : Zn w r A n c x) (k' : Zn w r' A' n' c' y) :
    Two M x y (.pointer (some ⟨w.heap.size, 0, none⟩)) (.pointer (some ⟨w.heap.size + 1, 0, none⟩)) ((w.alloc (.cells #[.bool r, .slice A n c] 24)).alloc (.cells #[.bool r', .slice A' n' c'] 24)) :=
  ⟨_, r, A, n, c, _, r', A', n', c', rfl, rfl, ⟨box1 _ _ _, k.below al2⟩, ⟨box2 _ _ _, k'.below al2⟩, K.below hM al2⟩
theorem two2 (K : Clo M N) (hM : M w) (k : Zn w r A n c x) (k' : Zn w r' A' n' c' y) :
    Two M x y (.pointer (some ⟨w.heap.size + 1, 0, none⟩)) (.pointer (some ⟨w.heap.size, 0, none⟩)) ((w.alloc (.cells #[.bool r', .slice A' n' c'] 24)).alloc (.cells #[.bool r, .slice A n c] 24)) :=
  ⟨_, r, A, n, c, _, r', A', n', c', rfl, rfl, ⟨box2 _ _ _, k.below al2⟩, ⟨box1 _ _ _, k'.below al2⟩, K.below hM al2⟩
theorem two3 (K : Clo M N) (hM : M w) (k : Zn w r A n c x) (k' : Zn w r' A' n' c' y) (q : Bq w g N) :
    Two M x y (.pointer (some ⟨g, 0, none⟩)) (.pointer (some ⟨w.heap.size, 0, none⟩)) (((w.setCell ⟨g, 0, none⟩ (.bool r)).setCell ⟨g, 1, none⟩ (.slice A n c)).alloc (.cells #[.bool r', .slice A' n' c'] 24)) :=
  ⟨_, r, A, n, c, _, r', A', n', c', rfl, rfl, (Jb.fill q.1 k).below al1, ⟨Bk.of_alloc _ _ (by simp [World.setCell]), (k'.offbox q.1 (noInt_zero _ _ _ _) (gb2 _ _ _ _ _ _)).below al1⟩, K.below (K.set hM q) al1⟩
theorem two4 (K : Clo M N) (hM : M w) (k : Zn w r A n c x) (k' : Zn w r' A' n' c' y) (q : Bq w h N) :
    Two M x y (.pointer (some ⟨w.heap.size, 0, none⟩)) (.pointer (some ⟨h, 0, none⟩)) (((w.setCell ⟨h, 0, none⟩ (.bool r')).setCell ⟨h, 1, none⟩ (.slice A' n' c')).alloc (.cells #[.bool r, .slice A n c] 24)) :=
  ⟨_, r, A, n, c, _, r', A', n', c', rfl, rfl, ⟨Bk.of_alloc _ _ (by simp [World.setCell]), (k.offbox q.1 (noInt_zero _ _ _ _) (gb2 _ _ _ _ _ _)).below al1⟩, (Jb.fill q.1 k').below al1, K.below (K.set hM q) al1⟩
theorem two5 (K : Clo M N) (hM : M w) (k : Zn w r A n c x) (k' : Zn w r' A' n' c' y) (q : Bq w g N) (q' : Bq w h N) (hne : g ≠ h) :
    Two M x y (.pointer (some ⟨g, 0, none⟩)) (.pointer (some ⟨h, 0, none⟩)) ((((w.setCell ⟨g, 0, none⟩ (.bool r)).setCell ⟨g, 1, none⟩ (.slice A n c)).setCell ⟨h, 0, none⟩ (.bool r')).setCell ⟨h, 1, none⟩ (.slice A' n' c')) := by
  have q1 := q'.set (h := g) (fun e => hne e.symm) (.bool r) (.slice A n c)
  exact ⟨_, r, A, n, c, _, r', A', n', c', rfl, rfl, (Jb.fill q.1 k).off q1.1 (noInt_zero _ _ _ _) hne, Jb.fill q1.1 (k'.offbox q.1 (noInt_zero _ _ _ _) (gb2 _ _ _ _ _ _)), K.set (K.set hM q) q1⟩
end

section
variable {w wx : World} {g n1 c1 n2 c2 n3 c3 : Nat} {p1 p2 p3 : Bool} {A1 A2 A3 : Option Addr} {x y z : Int}
theorem R3.clo (k : R3 w g p1 A1 n1 c1 x p2 A2 n2 c2 y p3 A3 n3 c3 z wx) : Clo (R3 w g p1 A1 n1 c1 x p2 A2 n2 c2 y p3 A3 n3 c3 z) wx.heap.size :=
  ⟨fun h hb => h.below hb, fun h q => h.off q.1 (noInt_zero _ _ _ _) (Nat.lt_of_lt_of_le k.c.b.lt q.2) (Nat.lt_of_lt_of_le k.tb.2 q.2) (Nat.le_trans k.bl.size q.2)⟩
theorem R3.cells (k : R3 w g p1 A1 n1 c1 x p2 A2 n2 c2 y p3 A3 n3 c3 z wx) : wx.cell? ⟨g, 0, none⟩ = some (.bool p1) ∧ wx.cell? ⟨g, 1, none⟩ = some (.slice A1 n1 c1) ∧ wx.cell? ⟨g + 1, 0, none⟩ = some (.bool p2) ∧ wx.cell? ⟨g + 1, 1, none⟩ = some (.slice A2 n2 c2) ∧ wx.cell? ⟨g + 1 + 1, 0, none⟩ = some (.bool p3) ∧ wx.cell? ⟨g + 1 + 1, 1, none⟩ = some (.slice A3 n3 c3) :=
  ⟨k.a.b.c2.1, k.a.b.c2.2.1, k.b.b.c2.1, k.b.b.c2.2.1, k.c.b.c2.1, k.c.b.c2.2.1⟩
end

end Go.Proofs.YtffipjofefemiaaGreatDoor

namespace Go.Proofs.YtffipjofefemiaaGreatDoor
open Go.RowKit Kb

/-- A box of a fraction that came in. -/
structure Xb (w : World) (g : Nat) (s1 : Bool) (A1 : Option Addr) (n1 c1 : Nat) (s2 : Bool) (A2 : Option Addr) (n2 c2 k : Nat) (r : Rat) : Prop where
  b : Bk w g (.cells #[.bool s1, .slice A1 n1 c1, .bool s2, .slice A2 n2 c2] 26 (0, 0))
  z : Qi w s1 A1 n1 c1 s2 A2 n2 c2 k r
/-- A box of a normalized fraction. -/
structure Jq (w : World) (g : Nat) (s1 : Bool) (A1 : Option Addr) (n1 c1 : Nat) (s2 : Bool) (A2 : Option Addr) (n2 c2 : Nat) (r : Rat) : Prop where
  b : Bk w g (.cells #[.bool s1, .slice A1 n1 c1, .bool s2, .slice A2 n2 c2] 26 (0, 0))
  z : Qf w s1 A1 n1 c1 s2 A2 n2 c2 r
/-- A new box, not yet written, at N or behind it. -/
def Bf (v : World) (g N : Nat) : Prop := Bk v g (.cells #[.bool false, .slice none 0 0, .bool false, .slice none 0 0] 26 (0, 0)) ∧ N ≤ g
section
variable {w w' : World} {g h N N' n1 c1 n2 c2 k : Nat} {s1 s2 : Bool} {A1 A2 : Option Addr} {r : Rat} {u0 u1 u2 u3 : Value}
theorem Xb.below (q : Xb w g s1 A1 n1 c1 s2 A2 n2 c2 k r) (hb : Below w.heap.size w w') : Xb w' g s1 A1 n1 c1 s2 A2 n2 c2 k r := ⟨q.b.step hb, q.z.below hb⟩
theorem Jq.below (q : Jq w g s1 A1 n1 c1 s2 A2 n2 c2 r) (hb : Below w.heap.size w w') : Jq w' g s1 A1 n1 c1 s2 A2 n2 c2 r := ⟨q.b.step hb, q.z.below hb⟩
theorem Qi.offbox {C : Array Value} {T : TypeId} (q : Qi w s1 A1 n1 c1 s2 A2 n2 c2 k r) (hb : w.heap[g]? = some (.cells C T (0, 0))) (hC : NoInt C) (hg : w.grownBy w' (some g)) : Qi w' s1 A1 n1 c1 s2 A2 n2 c2 k r := by
  obtain ⟨N, D, h1, h2, h3⟩ := q.out
  exact ⟨N, D, h1.offbox hb hC hg, h2.offbox hb hC hg, h3⟩
theorem Qf.offbox {C : Array Value} {T : TypeId} (q : Qf w s1 A1 n1 c1 s2 A2 n2 c2 r) (hb : w.heap[g]? = some (.cells C T (0, 0))) (hC : NoInt C) (hg : w.grownBy w' (some g)) : Qf w' s1 A1 n1 c1 s2 A2 n2 c2 r :=
  ⟨q.n.offbox hb hC hg, q.d.offbox hb hC hg⟩
theorem gb4' (w : World) (g : Nat) (a b c d : Value) : w.grownBy ((((w.setCell ⟨g, 0, none⟩ a).setCell ⟨g, 1, none⟩ b).setCell ⟨g, 2, none⟩ c).setCell ⟨g, 3, none⟩ d) (some g) := gb4 w g a b c d
theorem Xb.off (q : Xb w g s1 A1 n1 c1 s2 A2 n2 c2 k r) (hq : Bf w h N) (hne : g ≠ h) : Xb ((((w.setCell ⟨h, 0, none⟩ u0).setCell ⟨h, 1, none⟩ u1).setCell ⟨h, 2, none⟩ u2).setCell ⟨h, 3, none⟩ u3) g s1 A1 n1 c1 s2 A2 n2 c2 k r :=
  ⟨q.b.grown (gb4' _ _ _ _ _ _) hne, q.z.offbox hq.1 (noInt_four _ _ _ _ _ _ _ _) (gb4' _ _ _ _ _ _)⟩
theorem Jq.off (q : Jq w g s1 A1 n1 c1 s2 A2 n2 c2 r) (hq : Bf w h N) (hne : g ≠ h) : Jq ((((w.setCell ⟨h, 0, none⟩ u0).setCell ⟨h, 1, none⟩ u1).setCell ⟨h, 2, none⟩ u2).setCell ⟨h, 3, none⟩ u3) g s1 A1 n1 c1 s2 A2 n2 c2 r :=
  ⟨q.b.grown (gb4' _ _ _ _ _ _) hne, q.z.offbox hq.1 (noInt_four _ _ _ _ _ _ _ _) (gb4' _ _ _ _ _ _)⟩
theorem Jq.fill (hq : Bf w h N) (q : Qf w s1 A1 n1 c1 s2 A2 n2 c2 r) : Jq ((((w.setCell ⟨h, 0, none⟩ (.bool s1)).setCell ⟨h, 1, none⟩ (.slice A1 n1 c1)).setCell ⟨h, 2, none⟩ (.bool s2)).setCell ⟨h, 3, none⟩ (.slice A2 n2 c2)) h s1 A1 n1 c1 s2 A2 n2 c2 r := by
  refine ⟨?_, q.offbox hq.1 (noInt_four _ _ _ _ _ _ _ _) (gb4' _ _ _ _ _ _)⟩
  have q1 := hq.1
  unfold Bk at q1 ⊢
  simp only [World.setCell, Array.getElem?_modify, q1]
  simp
theorem Jq.made (q : Qf w s1 A1 n1 c1 s2 A2 n2 c2 r) : Jq (w.alloc (.cells #[.bool s1, .slice A1 n1 c1, .bool s2, .slice A2 n2 c2] 26)) w.heap.size s1 A1 n1 c1 s2 A2 n2 c2 r :=
  ⟨Bk.of_alloc _ _ rfl, q.below alo⟩
theorem Bf.step (q : Bf w g N) (hb : Below w.heap.size w w') : Bf w' g N := ⟨q.1.step hb, q.2⟩
theorem Bf.lt (q : Bf w g N) : g < w.heap.size := q.1.lt
end
section
variable {W v : World} {N : Nat}
theorem sd1q (hN : N ≤ W.heap.size) (hb : Below (W.alloc (.cells #[.bool false, .slice none 0 0, .bool false, .slice none 0 0] 26)).drew.heap.size (W.alloc (.cells #[.bool false, .slice none 0 0, .bool false, .slice none 0 0] 26)).drew v) : Below W.heap.size W v ∧ Bf v W.heap.size N :=
  ⟨bthen dr1 hb (Nat.le_refl _), Bf.step (w := (W.alloc (.cells #[.bool false, .slice none 0 0, .bool false, .slice none 0 0] 26)).drew) ⟨show Bk (W.alloc (.cells #[.bool false, .slice none 0 0, .bool false, .slice none 0 0] 26)) W.heap.size _ from Bk.of_alloc W _ rfl, hN⟩ hb⟩
theorem se1q (hN : N ≤ W.heap.size) (hb : Below (W.alloc (.cells #[.bool false, .slice none 0 0, .bool false, .slice none 0 0] 26)).heap.size (W.alloc (.cells #[.bool false, .slice none 0 0, .bool false, .slice none 0 0] 26)) v) : Below W.heap.size W v ∧ Bf v W.heap.size N :=
  ⟨bthen al1 hb (Nat.le_refl _), Bf.step ⟨Bk.of_alloc W _ rfl, hN⟩ hb⟩
end
/-- What stays: when memory is made, and when a new box at N or behind it is written. -/
structure Clo4 (M : World → Prop) (N : Nat) : Prop where
  below : ∀ {a b : World}, M a → Below a.heap.size a b → M b
  set : ∀ {a : World} {h : Nat} {u0 u1 u2 u3 : Value}, M a → Bf a h N → M ((((a.setCell ⟨h, 0, none⟩ u0).setCell ⟨h, 1, none⟩ u1).setCell ⟨h, 2, none⟩ u2).setCell ⟨h, 3, none⟩ u3)
/-- A variable of a fraction has been made. -/
def One4 (M : World → Prop) (N : Nat) (r : Rat) (s : Value) (w : World) : Prop :=
  ∃ g s1 A1 n1 c1 s2 A2 n2 c2, s = .pointer (some ⟨g, 0, none⟩) ∧ N ≤ g ∧ Jq w g s1 A1 n1 c1 s2 A2 n2 c2 r ∧ M w
/-- A box of a fraction besides. -/
structure M1 (M : World → Prop) (g : Nat) (s1 : Bool) (A1 : Option Addr) (n1 c1 : Nat) (s2 : Bool) (A2 : Option Addr) (n2 c2 : Nat) (r : Rat) (w : World) : Prop where
  o : M w
  l : Jq w g s1 A1 n1 c1 s2 A2 n2 c2 r
section
variable {w w' : World} {g h N N' n1 c1 n2 c2 k : Nat} {s1 s2 : Bool} {A1 A2 : Option Addr} {r : Rat} {u0 u1 u2 u3 : Value} {M : World → Prop}
theorem one4a (K : Clo4 M N) (hM : M w) (q : Qf w s1 A1 n1 c1 s2 A2 n2 c2 r) (hN : N ≤ w.heap.size) : One4 M N r (.pointer (some ⟨w.heap.size, 0, none⟩)) (w.alloc (.cells #[.bool s1, .slice A1 n1 c1, .bool s2, .slice A2 n2 c2] 26)) :=
  ⟨_, s1, A1, n1, c1, s2, A2, n2, c2, rfl, hN, Jq.made q, K.below hM al1⟩
theorem one4b (K : Clo4 M N) (hM : M w) (q : Qf w s1 A1 n1 c1 s2 A2 n2 c2 r) (hq : Bf w g N) : One4 M N r (.pointer (some ⟨g, 0, none⟩)) ((((w.setCell ⟨g, 0, none⟩ (.bool s1)).setCell ⟨g, 1, none⟩ (.slice A1 n1 c1)).setCell ⟨g, 2, none⟩ (.bool s2)).setCell ⟨g, 3, none⟩ (.slice A2 n2 c2)) :=
  ⟨_, s1, A1, n1, c1, s2, A2, n2, c2, rfl, hq.2, Jq.fill hq q, K.set hM hq⟩
theorem Clo4.m1 (K : Clo4 M N) (hN : N ≤ N') (hg : g < N') : Clo4 (M1 M g s1 A1 n1 c1 s2 A2 n2 c2 r) N' :=
  ⟨fun q hb => ⟨K.below q.o hb, q.l.below hb⟩, fun q hq => ⟨K.set q.o ⟨hq.1, Nat.le_trans hN hq.2⟩, q.l.off hq (Nat.ne_of_lt (Nat.lt_of_lt_of_le hg hq.2))⟩⟩
theorem M1.below (K : ∀ {a b : World}, M a → Below a.heap.size a b → M b) (q : M1 M g s1 A1 n1 c1 s2 A2 n2 c2 r w) (hb : Below w.heap.size w w') : M1 M g s1 A1 n1 c1 s2 A2 n2 c2 r w' := ⟨K q.o hb, q.l.below hb⟩
end
/-- The three fractions that came in, in their boxes. -/
structure L3 (w : World) (g : Nat) (p1 : Bool) (A1 : Option Addr) (n1 c1 : Nat) (q1 : Bool) (B1 : Option Addr) (m1 d1 : Nat) (x : Rat) (p2 : Bool) (A2 : Option Addr) (n2 c2 : Nat) (q2 : Bool) (B2 : Option Addr) (m2 d2 : Nat) (y : Rat) (p3 : Bool) (A3 : Option Addr) (n3 c3 : Nat) (q3 : Bool) (B3 : Option Addr) (m3 d3 : Nat) (z : Rat) (wx : World) : Prop where
  a : Xb wx g p1 A1 n1 c1 q1 B1 m1 d1 12 x
  b : Xb wx (g + 1) p2 A2 n2 c2 q2 B2 m2 d2 12 y
  c : Xb wx (g + 1 + 1) p3 A3 n3 c3 q3 B3 m3 d3 12 z
  tb : Tb wx
  bl : Below w.heap.size w wx
section
variable {w wx wy : World} {g h : Nat} {p1 : Bool} {A1 : Option Addr} {n1 c1 : Nat} {q1 : Bool} {B1 : Option Addr} {m1 d1 : Nat} {x : Rat} {p2 : Bool} {A2 : Option Addr} {n2 c2 : Nat} {q2 : Bool} {B2 : Option Addr} {m2 d2 : Nat} {y : Rat} {p3 : Bool} {A3 : Option Addr} {n3 c3 : Nat} {q3 : Bool} {B3 : Option Addr} {m3 d3 : Nat} {z : Rat}
theorem L3.below (k : L3 w g p1 A1 n1 c1 q1 B1 m1 d1 x p2 A2 n2 c2 q2 B2 m2 d2 y p3 A3 n3 c3 q3 B3 m3 d3 z wx) (hb : Below wx.heap.size wx wy) : L3 w g p1 A1 n1 c1 q1 B1 m1 d1 x p2 A2 n2 c2 q2 B2 m2 d2 y p3 A3 n3 c3 q3 B3 m3 d3 z wy :=
  ⟨k.a.below hb, k.b.below hb, k.c.below hb, k.tb.below hb, bthen k.bl hb (Nat.le_refl _)⟩
theorem L3.clo (k : L3 w g p1 A1 n1 c1 q1 B1 m1 d1 x p2 A2 n2 c2 q2 B2 m2 d2 y p3 A3 n3 c3 q3 B3 m3 d3 z wx) : Clo4 (L3 w g p1 A1 n1 c1 q1 B1 m1 d1 x p2 A2 n2 c2 q2 B2 m2 d2 y p3 A3 n3 c3 q3 B3 m3 d3 z) wx.heap.size :=
  ⟨fun h hb => h.below hb, fun {a h u0 u1 u2 u3} q hq => by
    have e1 := Nat.lt_of_lt_of_le k.c.b.lt hq.2
    have e2 := Nat.lt_of_lt_of_le k.tb.2 hq.2
    have e3 := Nat.le_trans k.bl.size hq.2
    exact ⟨q.a.off hq (by omega), q.b.off hq (by omega), q.c.off hq (by omega), q.tb.grown (gb4' _ _ _ _ _ _) (by omega), below4 q.bl e3 u0 u1 u2 u3⟩⟩
theorem L3.cells (k : L3 w g p1 A1 n1 c1 q1 B1 m1 d1 x p2 A2 n2 c2 q2 B2 m2 d2 y p3 A3 n3 c3 q3 B3 m3 d3 z wx) : wx.cell? ⟨g, 0, none⟩ = some (.bool p1) ∧ wx.cell? ⟨g, 1, none⟩ = some (.slice A1 n1 c1) ∧ wx.cell? ⟨g, 2, none⟩ = some (.bool q1) ∧ wx.cell? ⟨g, 3, none⟩ = some (.slice B1 m1 d1) ∧ wx.cell? ⟨g + 1, 0, none⟩ = some (.bool p2) ∧ wx.cell? ⟨g + 1, 1, none⟩ = some (.slice A2 n2 c2) ∧ wx.cell? ⟨g + 1, 2, none⟩ = some (.bool q2) ∧ wx.cell? ⟨g + 1, 3, none⟩ = some (.slice B2 m2 d2) ∧ wx.cell? ⟨g + 1 + 1, 0, none⟩ = some (.bool p3) ∧ wx.cell? ⟨g + 1 + 1, 1, none⟩ = some (.slice A3 n3 c3) ∧ wx.cell? ⟨g + 1 + 1, 2, none⟩ = some (.bool q3) ∧ wx.cell? ⟨g + 1 + 1, 3, none⟩ = some (.slice B3 m3 d3) :=
  ⟨k.a.b.c4.1, k.a.b.c4.2.1, k.a.b.c4.2.2.1, k.a.b.c4.2.2.2.1, k.b.b.c4.1, k.b.b.c4.2.1, k.b.b.c4.2.2.1, k.b.b.c4.2.2.2.1, k.c.b.c4.1, k.c.b.c4.2.1, k.c.b.c4.2.2.1, k.c.b.c4.2.2.2.1⟩
theorem m1cells {g7 : Nat} {p7 : Bool} {A7 : Option Addr} {n7 c7 : Nat} {q7 : Bool} {B7 : Option Addr} {m7 d7 : Nat} {u : Rat} (k : M1 (L3 w g p1 A1 n1 c1 q1 B1 m1 d1 x p2 A2 n2 c2 q2 B2 m2 d2 y p3 A3 n3 c3 q3 B3 m3 d3 z) g7 p7 A7 n7 c7 q7 B7 m7 d7 u wx) : wx.cell? ⟨g, 0, none⟩ = some (.bool p1) ∧ wx.cell? ⟨g, 1, none⟩ = some (.slice A1 n1 c1) ∧ wx.cell? ⟨g, 2, none⟩ = some (.bool q1) ∧ wx.cell? ⟨g, 3, none⟩ = some (.slice B1 m1 d1) ∧ wx.cell? ⟨g + 1, 0, none⟩ = some (.bool p2) ∧ wx.cell? ⟨g + 1, 1, none⟩ = some (.slice A2 n2 c2) ∧ wx.cell? ⟨g + 1, 2, none⟩ = some (.bool q2) ∧ wx.cell? ⟨g + 1, 3, none⟩ = some (.slice B2 m2 d2) ∧ wx.cell? ⟨g + 1 + 1, 0, none⟩ = some (.bool p3) ∧ wx.cell? ⟨g + 1 + 1, 1, none⟩ = some (.slice A3 n3 c3) ∧ wx.cell? ⟨g + 1 + 1, 2, none⟩ = some (.bool q3) ∧ wx.cell? ⟨g + 1 + 1, 3, none⟩ = some (.slice B3 m3 d3) ∧ wx.cell? ⟨g7, 0, none⟩ = some (.bool p7) ∧ wx.cell? ⟨g7, 1, none⟩ = some (.slice A7 n7 c7) ∧ wx.cell? ⟨g7, 2, none⟩ = some (.bool q7) ∧ wx.cell? ⟨g7, 3, none⟩ = some (.slice B7 m7 d7) :=
  ⟨k.o.a.b.c4.1, k.o.a.b.c4.2.1, k.o.a.b.c4.2.2.1, k.o.a.b.c4.2.2.2.1, k.o.b.b.c4.1, k.o.b.b.c4.2.1, k.o.b.b.c4.2.2.1, k.o.b.b.c4.2.2.2.1, k.o.c.b.c4.1, k.o.c.b.c4.2.1, k.o.c.b.c4.2.2.1, k.o.c.b.c4.2.2.2.1, k.l.b.c4.1, k.l.b.c4.2.1, k.l.b.c4.2.2.1, k.l.b.c4.2.2.2.1⟩
theorem m2cells4 {g7 g8 : Nat} {p7 : Bool} {A7 : Option Addr} {n7 c7 : Nat} {q7 : Bool} {B7 : Option Addr} {m7 d7 : Nat} {u : Rat} {p8 : Bool} {A8 : Option Addr} {n8 c8 : Nat} {q8 : Bool} {B8 : Option Addr} {m8 d8 : Nat} {v : Rat} (k : M1 (M1 (L3 w g p1 A1 n1 c1 q1 B1 m1 d1 x p2 A2 n2 c2 q2 B2 m2 d2 y p3 A3 n3 c3 q3 B3 m3 d3 z) g7 p7 A7 n7 c7 q7 B7 m7 d7 u) g8 p8 A8 n8 c8 q8 B8 m8 d8 v wx) : wx.cell? ⟨g, 0, none⟩ = some (.bool p1) ∧ wx.cell? ⟨g, 1, none⟩ = some (.slice A1 n1 c1) ∧ wx.cell? ⟨g, 2, none⟩ = some (.bool q1) ∧ wx.cell? ⟨g, 3, none⟩ = some (.slice B1 m1 d1) ∧ wx.cell? ⟨g + 1, 0, none⟩ = some (.bool p2) ∧ wx.cell? ⟨g + 1, 1, none⟩ = some (.slice A2 n2 c2) ∧ wx.cell? ⟨g + 1, 2, none⟩ = some (.bool q2) ∧ wx.cell? ⟨g + 1, 3, none⟩ = some (.slice B2 m2 d2) ∧ wx.cell? ⟨g + 1 + 1, 0, none⟩ = some (.bool p3) ∧ wx.cell? ⟨g + 1 + 1, 1, none⟩ = some (.slice A3 n3 c3) ∧ wx.cell? ⟨g + 1 + 1, 2, none⟩ = some (.bool q3) ∧ wx.cell? ⟨g + 1 + 1, 3, none⟩ = some (.slice B3 m3 d3) ∧ wx.cell? ⟨g7, 0, none⟩ = some (.bool p7) ∧ wx.cell? ⟨g7, 1, none⟩ = some (.slice A7 n7 c7) ∧ wx.cell? ⟨g7, 2, none⟩ = some (.bool q7) ∧ wx.cell? ⟨g7, 3, none⟩ = some (.slice B7 m7 d7) ∧ wx.cell? ⟨g8, 0, none⟩ = some (.bool p8) ∧ wx.cell? ⟨g8, 1, none⟩ = some (.slice A8 n8 c8) ∧ wx.cell? ⟨g8, 2, none⟩ = some (.bool q8) ∧ wx.cell? ⟨g8, 3, none⟩ = some (.slice B8 m8 d8) :=
  ⟨k.o.o.a.b.c4.1, k.o.o.a.b.c4.2.1, k.o.o.a.b.c4.2.2.1, k.o.o.a.b.c4.2.2.2.1, k.o.o.b.b.c4.1, k.o.o.b.b.c4.2.1, k.o.o.b.b.c4.2.2.1, k.o.o.b.b.c4.2.2.2.1, k.o.o.c.b.c4.1, k.o.o.c.b.c4.2.1, k.o.o.c.b.c4.2.2.1, k.o.o.c.b.c4.2.2.2.1, k.o.l.b.c4.1, k.o.l.b.c4.2.1, k.o.l.b.c4.2.2.1, k.o.l.b.c4.2.2.2.1, k.l.b.c4.1, k.l.b.c4.2.1, k.l.b.c4.2.2.1, k.l.b.c4.2.2.2.1⟩
theorem m1below {g7 : Nat} {p7 : Bool} {A7 : Option Addr} {n7 c7 : Nat} {q7 : Bool} {B7 : Option Addr} {m7 d7 : Nat} {u : Rat} (k : M1 (L3 w g p1 A1 n1 c1 q1 B1 m1 d1 x p2 A2 n2 c2 q2 B2 m2 d2 y p3 A3 n3 c3 q3 B3 m3 d3 z) g7 p7 A7 n7 c7 q7 B7 m7 d7 u wx) (hb : Below wx.heap.size wx wy) : M1 (L3 w g p1 A1 n1 c1 q1 B1 m1 d1 x p2 A2 n2 c2 q2 B2 m2 d2 y p3 A3 n3 c3 q3 B3 m3 d3 z) g7 p7 A7 n7 c7 q7 B7 m7 d7 u wy := ⟨k.o.below hb, k.l.below hb⟩
theorem m2below4 {g7 g8 : Nat} {p7 : Bool} {A7 : Option Addr} {n7 c7 : Nat} {q7 : Bool} {B7 : Option Addr} {m7 d7 : Nat} {u : Rat} {p8 : Bool} {A8 : Option Addr} {n8 c8 : Nat} {q8 : Bool} {B8 : Option Addr} {m8 d8 : Nat} {v : Rat} (k : M1 (M1 (L3 w g p1 A1 n1 c1 q1 B1 m1 d1 x p2 A2 n2 c2 q2 B2 m2 d2 y p3 A3 n3 c3 q3 B3 m3 d3 z) g7 p7 A7 n7 c7 q7 B7 m7 d7 u) g8 p8 A8 n8 c8 q8 B8 m8 d8 v wx) (hb : Below wx.heap.size wx wy) : M1 (M1 (L3 w g p1 A1 n1 c1 q1 B1 m1 d1 x p2 A2 n2 c2 q2 B2 m2 d2 y p3 A3 n3 c3 q3 B3 m3 d3 z) g7 p7 A7 n7 c7 q7 B7 m7 d7 u) g8 p8 A8 n8 c8 q8 B8 m8 d8 v wy := ⟨m1below k.o hb, k.l.below hb⟩
end
section
variable {w : World} {s1 s2 t1 t2 : Bool} {A1 A2 B1 B2 : Option Addr} {n1 c1 n2 c2 m1 d1 m2 d2 k l : Nat} {x y : Rat}
theorem CmpQeq (h : Qi w s1 A1 n1 c1 s2 A2 n2 c2 k x) (g0 : Qi w t1 B1 m1 d1 t2 B2 m2 d2 l y) (hk0 : 0 < k) (hl0 : 0 < l) (hk : k ≤ 400) (hl : l ≤ 400) (hT : Tb w) (e : x = y) :
    Calls Tryz.prog 25 #[.agg #[.bool s1, .slice A1 n1 c1, .bool s2, .slice A2 n2 c2], .agg #[.bool t1, .slice B1 m1 d1, .bool t2, .slice B2 m2 d2]] w fun e w' => e = .returned (.int .i64 0) ∧ Below w.heap.size w w' := by
  have := CmpRat_q h g0 hk0 hl0 hk hl hT
  rwa [e, cmpQ_self] at this
theorem CmpQle (h : Qi w s1 A1 n1 c1 s2 A2 n2 c2 k x) (g0 : Qi w t1 B1 m1 d1 t2 B2 m2 d2 l y) (hk0 : 0 < k) (hl0 : 0 < l) (hk : k ≤ 400) (hl : l ≤ 400) (hT : Tb w) (e : x ≤ y) :
    Calls Tryz.prog 25 #[.agg #[.bool s1, .slice A1 n1 c1, .bool s2, .slice A2 n2 c2], .agg #[.bool t1, .slice B1 m1 d1, .bool t2, .slice B2 m2 d2]] w fun e w' => ∃ i : Int, e = .returned (.int .i64 i) ∧ decide (0 < i) = false ∧ Below w.heap.size w w' := by
  refine (CmpRat_q h g0 hk0 hl0 hk hl hT).mono ?_
  rintro _ w' ⟨rfl, hb⟩
  exact ⟨_, rfl, decide_eq_false (cmpQ_le e), hb⟩
theorem CmpQgt (h : Qi w s1 A1 n1 c1 s2 A2 n2 c2 k x) (g0 : Qi w t1 B1 m1 d1 t2 B2 m2 d2 l y) (hk0 : 0 < k) (hl0 : 0 < l) (hk : k ≤ 400) (hl : l ≤ 400) (hT : Tb w) (e : y < x) :
    Calls Tryz.prog 25 #[.agg #[.bool s1, .slice A1 n1 c1, .bool s2, .slice A2 n2 c2], .agg #[.bool t1, .slice B1 m1 d1, .bool t2, .slice B2 m2 d2]] w fun e w' => ∃ i : Int, e = .returned (.int .i64 i) ∧ decide (i ≤ 0) = false ∧ Below w.heap.size w w' := by
  refine (CmpRat_q h g0 hk0 hl0 hk hl hT).mono ?_
  rintro _ w' ⟨rfl, hb⟩
  have := cmpQ_gt e
  exact ⟨_, rfl, decide_eq_false (by omega), hb⟩
end

end Go.Proofs.YtffipjofefemiaaGreatDoor
