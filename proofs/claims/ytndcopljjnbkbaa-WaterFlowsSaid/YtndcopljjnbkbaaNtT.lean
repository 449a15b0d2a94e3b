/- Two variables made in an open order: its ways, and where they meet. For any worlds. -/
import Derived.Test.YtndcopljjnbkbaaNt9
namespace Go.Proofs.Ytndcopljjnbkbaa
open Go.RowKit Go.Maps Kb Wb

theorem below_two_ (w : World) (o1 o2 : Obj) : Below w.heap.size w ((w.alloc o1).alloc o2) := ((Below.refl w.heap.size w).alloc (Nat.le_refl _) o1).alloc (by simp) o2
theorem box1 (w : World) (o1 o2 : Obj) : Bk ((w.alloc o1).alloc o2) w.heap.size o1 := (Bk.of_alloc w o1 rfl).alloc o2
theorem box2 (w : World) (o1 o2 : Obj) : Bk ((w.alloc o1).alloc o2) (w.heap.size + 1) o2 := Bk.of_alloc (w.alloc o1) o2 (by simp)
theorem bth {B : Nat} {w w1 w2 : World} (h1 : Below B w w1) (h2 : Below w1.heap.size w1 w2) (hB : B ≤ w1.heap.size) : Below B w w2 := h1.trans (h2.mono hB)
theorem Bk_grown {w w' : World} {g r : Nat} {o : Obj} (h : Bk w g o) (hb : w.grownBy w' (some r)) (hne : g ≠ r) : Bk w' g o := (hb.block g h.lt (fun e => hne (by injection e))).trans h
/-- A new box, not yet written, at B or behind it. -/
def Nw (o : Obj) (w : World) (g B : Nat) : Prop := Bk w g o ∧ B ≤ g
section
variable {W v w u : World} {o p : Obj} {B g : Nat}
theorem Nw.step (h : Nw o v g B) (hb : Below v.heap.size v u) : Nw o u g B := ⟨h.1.step hb, h.2⟩
theorem Nw.ge (h : Nw o v g B) : B ≤ g := h.2
theorem Nw.bk (h : Nw o v g B) : Bk v g o := h.1
theorem Nw.lt (h : Nw o v g B) : g < v.heap.size := h.1.lt
theorem al1 : Below W.heap.size W (W.alloc o) := (Below.refl _ _).alloc (Nat.le_refl _) o
theorem al2 : Below W.heap.size W ((W.alloc o).alloc p) := below_two_ W o p
theorem dr1 : Below W.heap.size W (W.alloc o).drew := al1.drew
theorem dr2 : Below W.heap.size W ((W.alloc o).alloc p).drew := al2.drew
theorem sd0 (hb : Below W.drew.heap.size W.drew v) : Below W.heap.size W v := bthen dr0 hb (Nat.le_refl _)
theorem sn1 (hN : B ≤ W.heap.size) (hb : Below (W.alloc o).drew.heap.size (W.alloc o).drew v) : Below W.heap.size W v ∧ Nw o v W.heap.size B :=
  ⟨bthen dr1 hb (Nat.le_refl _), Nw.step (v := (W.alloc o).drew) ⟨show Bk (W.alloc o) W.heap.size _ from Bk.of_alloc W _ rfl, hN⟩ hb⟩
theorem sn2 (hN : B ≤ W.heap.size) (hb : Below ((W.alloc o).alloc p).drew.heap.size ((W.alloc o).alloc p).drew v) : Below W.heap.size W v ∧ Nw o v W.heap.size B ∧ Nw p v (W.heap.size + 1) B :=
  ⟨bthen dr2 hb (Nat.le_refl _), Nw.step (v := ((W.alloc o).alloc p).drew) ⟨show Bk ((W.alloc o).alloc p) W.heap.size _ from box1 _ _ _, hN⟩ hb, Nw.step (v := ((W.alloc o).alloc p).drew) ⟨show Bk ((W.alloc o).alloc p) (W.heap.size + 1) _ from box2 _ _ _, Nat.le_succ_of_le hN⟩ hb⟩
theorem tn1 (hN : B ≤ W.heap.size) (hb : Below (W.alloc o).heap.size (W.alloc o) v) : Below W.heap.size W v ∧ Nw o v W.heap.size B :=
  ⟨bthen al1 hb (Nat.le_refl _), Nw.step (v := W.alloc o) ⟨Bk.of_alloc W _ rfl, hN⟩ hb⟩
theorem tn2 (hN : B ≤ W.heap.size) (hb : Below ((W.alloc o).alloc p).heap.size ((W.alloc o).alloc p) v) : Below W.heap.size W v ∧ Nw o v W.heap.size B ∧ Nw p v (W.heap.size + 1) B :=
  ⟨bthen al2 hb (Nat.le_refl _), Nw.step (v := (W.alloc o).alloc p) ⟨box1 _ _ _, hN⟩ hb, Nw.step (v := (W.alloc o).alloc p) ⟨box2 _ _ _, Nat.le_succ_of_le hN⟩ hb⟩
end
/-- Two variables have been made behind B. -/
def Tv (B : Nat) (W0 : World) (o1 o2 : Obj) (s t : Value) (w : World) : Prop :=
  ∃ g h, s = .pointer (some ⟨g, 0, none⟩) ∧ t = .pointer (some ⟨h, 0, none⟩) ∧ B ≤ g ∧ B ≤ h ∧ Bk w g o1 ∧ Bk w h o2 ∧ Below B W0 w
section
variable {W0 w : World} {g h B : Nat} {T : TypeId} {z0 u0 v0 : Value} {o : Obj}
theorem Nw.c1 (h : Nw (.cells #[z0] T (0, 0)) w g B) : w.cell? ⟨g, 0, none⟩ = some z0 ∧ w.frozen? ⟨g, 0, none⟩ = false :=
  ⟨cell_of_row _ _ 0 _ _ _ h.1, Bk.fz h.1 0⟩
theorem gbn1 (w : World) (g : Nat) (u0 : Value) : w.grownBy (w.setCell ⟨g, 0, none⟩ u0) (some g) := gb_set (World.grownBy.refl _ _) 0 u0
theorem bset1 (hM : Below B W0 w) (hg : B ≤ g) : Below B W0 (w.setCell ⟨g, 0, none⟩ u0) := hM.setCell (p := ⟨g, 0, none⟩) hg u0
theorem Nw.set1 (q : Nw o w h B) (hne : h ≠ g) : Nw o (w.setCell ⟨g, 0, none⟩ u0) h B := ⟨Bk_grown q.1 (gbn1 w g u0) hne, q.2⟩
theorem fill1 (q : Bk w g (.cells #[z0] T (0, 0))) : Bk (w.setCell ⟨g, 0, none⟩ u0) g (.cells #[u0] T (0, 0)) := by
  unfold Bk at q ⊢
  simp only [World.setCell, Array.getElem?_modify, q]
  simp
theorem tv1_1 (hM : Below B W0 w) (hN : B ≤ w.heap.size) :
    Tv B W0 (.cells #[u0] T (0, 0)) (.cells #[v0] T (0, 0)) (.pointer (some ⟨w.heap.size, 0, none⟩)) (.pointer (some ⟨w.heap.size + 1, 0, none⟩)) ((w.alloc (.cells #[u0] T)).alloc (.cells #[v0] T)) :=
  ⟨_, _, rfl, rfl, hN, Nat.le_succ_of_le hN, box1 _ _ _, box2 _ _ _, bth hM al2 hN⟩
theorem tv2_1 (hM : Below B W0 w) (hN : B ≤ w.heap.size) :
    Tv B W0 (.cells #[u0] T (0, 0)) (.cells #[v0] T (0, 0)) (.pointer (some ⟨w.heap.size + 1, 0, none⟩)) (.pointer (some ⟨w.heap.size, 0, none⟩)) ((w.alloc (.cells #[v0] T)).alloc (.cells #[u0] T)) :=
  ⟨_, _, rfl, rfl, Nat.le_succ_of_le hN, hN, box2 _ _ _, box1 _ _ _, bth hM al2 hN⟩
theorem tv3_1 (hM : Below B W0 w) (hN : B ≤ w.heap.size) (q : Nw (.cells #[z0] T (0, 0)) w g B) :
    Tv B W0 (.cells #[u0] T (0, 0)) (.cells #[v0] T (0, 0)) (.pointer (some ⟨g, 0, none⟩)) (.pointer (some ⟨w.heap.size, 0, none⟩)) ((w.setCell ⟨g, 0, none⟩ u0).alloc (.cells #[v0] T)) :=
  ⟨_, _, rfl, rfl, q.2, hN, (fill1 q.1).alloc _, Bk.of_alloc _ _ (by simp [World.setCell]), (bset1 hM q.2).alloc (by simpa [World.setCell] using hN) _⟩
theorem tv4_1 (hM : Below B W0 w) (hN : B ≤ w.heap.size) (q : Nw (.cells #[z0] T (0, 0)) w h B) :
    Tv B W0 (.cells #[u0] T (0, 0)) (.cells #[v0] T (0, 0)) (.pointer (some ⟨w.heap.size, 0, none⟩)) (.pointer (some ⟨h, 0, none⟩)) ((w.setCell ⟨h, 0, none⟩ v0).alloc (.cells #[u0] T)) :=
  ⟨_, _, rfl, rfl, hN, q.2, Bk.of_alloc _ _ (by simp [World.setCell]), (fill1 q.1).alloc _, (bset1 hM q.2).alloc (by simpa [World.setCell] using hN) _⟩
theorem tv5_1 (hM : Below B W0 w) (q : Nw (.cells #[z0] T (0, 0)) w g B) (q' : Nw (.cells #[z0] T (0, 0)) w h B) (hne : g ≠ h) :
    Tv B W0 (.cells #[u0] T (0, 0)) (.cells #[v0] T (0, 0)) (.pointer (some ⟨g, 0, none⟩)) (.pointer (some ⟨h, 0, none⟩)) ((w.setCell ⟨g, 0, none⟩ u0).setCell ⟨h, 0, none⟩ v0) :=
  ⟨_, _, rfl, rfl, q.2, q'.2, Bk_grown (fill1 q.1) (gbn1 _ h v0) hne, fill1 (q'.set1 (fun e => hne e.symm)).1, bset1 (bset1 hM q.2) q'.2⟩
end
section
variable {W0 w : World} {g h B : Nat} {T : TypeId} {z0 z1 z2 z3 z4 z5 u0 u1 u2 u3 u4 u5 v0 v1 v2 v3 v4 v5 : Value} {o : Obj}
theorem Nw.c6 (h : Nw (.cells #[z0, z1, z2, z3, z4, z5] T (0, 0)) w g B) : w.cell? ⟨g, 0, none⟩ = some z0 ∧ w.frozen? ⟨g, 0, none⟩ = false ∧ w.cell? ⟨g, 1, none⟩ = some z1 ∧ w.frozen? ⟨g, 1, none⟩ = false ∧ w.cell? ⟨g, 2, none⟩ = some z2 ∧ w.frozen? ⟨g, 2, none⟩ = false ∧ w.cell? ⟨g, 3, none⟩ = some z3 ∧ w.frozen? ⟨g, 3, none⟩ = false ∧ w.cell? ⟨g, 4, none⟩ = some z4 ∧ w.frozen? ⟨g, 4, none⟩ = false ∧ w.cell? ⟨g, 5, none⟩ = some z5 ∧ w.frozen? ⟨g, 5, none⟩ = false :=
  ⟨cell_of_row _ _ 0 _ _ _ h.1, Bk.fz h.1 0, cell_of_row _ _ 1 _ _ _ h.1, Bk.fz h.1 1, cell_of_row _ _ 2 _ _ _ h.1, Bk.fz h.1 2, cell_of_row _ _ 3 _ _ _ h.1, Bk.fz h.1 3, cell_of_row _ _ 4 _ _ _ h.1, Bk.fz h.1 4, cell_of_row _ _ 5 _ _ _ h.1, Bk.fz h.1 5⟩
theorem gbn6 (w : World) (g : Nat) (u0 u1 u2 u3 u4 u5 : Value) : w.grownBy ((((((w.setCell ⟨g, 0, none⟩ u0).setCell ⟨g, 1, none⟩ u1).setCell ⟨g, 2, none⟩ u2).setCell ⟨g, 3, none⟩ u3).setCell ⟨g, 4, none⟩ u4).setCell ⟨g, 5, none⟩ u5) (some g) := gb_set (gb_set (gb_set (gb_set (gb_set (gb_set (World.grownBy.refl _ _) 0 u0) 1 u1) 2 u2) 3 u3) 4 u4) 5 u5
theorem bset6 (hM : Below B W0 w) (hg : B ≤ g) : Below B W0 ((((((w.setCell ⟨g, 0, none⟩ u0).setCell ⟨g, 1, none⟩ u1).setCell ⟨g, 2, none⟩ u2).setCell ⟨g, 3, none⟩ u3).setCell ⟨g, 4, none⟩ u4).setCell ⟨g, 5, none⟩ u5) := (((((hM.setCell (p := ⟨g, 0, none⟩) hg u0).setCell (p := ⟨g, 1, none⟩) hg u1).setCell (p := ⟨g, 2, none⟩) hg u2).setCell (p := ⟨g, 3, none⟩) hg u3).setCell (p := ⟨g, 4, none⟩) hg u4).setCell (p := ⟨g, 5, none⟩) hg u5
theorem Nw.set6 (q : Nw o w h B) (hne : h ≠ g) : Nw o ((((((w.setCell ⟨g, 0, none⟩ u0).setCell ⟨g, 1, none⟩ u1).setCell ⟨g, 2, none⟩ u2).setCell ⟨g, 3, none⟩ u3).setCell ⟨g, 4, none⟩ u4).setCell ⟨g, 5, none⟩ u5) h B := ⟨Bk_grown q.1 (gbn6 w g u0 u1 u2 u3 u4 u5) hne, q.2⟩
theorem fill6 (q : Bk w g (.cells #[z0, z1, z2, z3, z4, z5] T (0, 0))) : Bk ((((((w.setCell ⟨g, 0, none⟩ u0).setCell ⟨g, 1, none⟩ u1).setCell ⟨g, 2, none⟩ u2).setCell ⟨g, 3, none⟩ u3).setCell ⟨g, 4, none⟩ u4).setCell ⟨g, 5, none⟩ u5) g (.cells #[u0, u1, u2, u3, u4, u5] T (0, 0)) := by
  unfold Bk at q ⊢
  simp only [World.setCell, Array.getElem?_modify, q]
  simp
theorem tv1_6 (hM : Below B W0 w) (hN : B ≤ w.heap.size) :
    Tv B W0 (.cells #[u0, u1, u2, u3, u4, u5] T (0, 0)) (.cells #[v0, v1, v2, v3, v4, v5] T (0, 0)) (.pointer (some ⟨w.heap.size, 0, none⟩)) (.pointer (some ⟨w.heap.size + 1, 0, none⟩)) ((w.alloc (.cells #[u0, u1, u2, u3, u4, u5] T)).alloc (.cells #[v0, v1, v2, v3, v4, v5] T)) :=
  ⟨_, _, rfl, rfl, hN, Nat.le_succ_of_le hN, box1 _ _ _, box2 _ _ _, bth hM al2 hN⟩
theorem tv2_6 (hM : Below B W0 w) (hN : B ≤ w.heap.size) :
    Tv B W0 (.cells #[u0, u1, u2, u3, u4, u5] T (0, 0)) (.cells #[v0, v1, v2, v3, v4, v5] T (0, 0)) (.pointer (some ⟨w.heap.size + 1, 0, none⟩)) (.pointer (some ⟨w.heap.size, 0, none⟩)) ((w.alloc (.cells #[v0, v1, v2, v3, v4, v5] T)).alloc (.cells #[u0, u1, u2, u3, u4, u5] T)) :=
  ⟨_, _, rfl, rfl, Nat.le_succ_of_le hN, hN, box2 _ _ _, box1 _ _ _, bth hM al2 hN⟩
theorem tv3_6 (hM : Below B W0 w) (hN : B ≤ w.heap.size) (q : Nw (.cells #[z0, z1, z2, z3, z4, z5] T (0, 0)) w g B) :
    Tv B W0 (.cells #[u0, u1, u2, u3, u4, u5] T (0, 0)) (.cells #[v0, v1, v2, v3, v4, v5] T (0, 0)) (.pointer (some ⟨g, 0, none⟩)) (.pointer (some ⟨w.heap.size, 0, none⟩)) (((((((w.setCell ⟨g, 0, none⟩ u0).setCell ⟨g, 1, none⟩ u1).setCell ⟨g, 2, none⟩ u2).setCell ⟨g, 3, none⟩ u3).setCell ⟨g, 4, none⟩ u4).setCell ⟨g, 5, none⟩ u5).alloc (.cells #[v0, v1, v2, v3, v4, v5] T)) :=
  ⟨_, _, rfl, rfl, q.2, hN, (fill6 q.1).alloc _, Bk.of_alloc _ _ (by simp [World.setCell]), (bset6 hM q.2).alloc (by simpa [World.setCell] using hN) _⟩
theorem tv4_6 (hM : Below B W0 w) (hN : B ≤ w.heap.size) (q : Nw (.cells #[z0, z1, z2, z3, z4, z5] T (0, 0)) w h B) :
    Tv B W0 (.cells #[u0, u1, u2, u3, u4, u5] T (0, 0)) (.cells #[v0, v1, v2, v3, v4, v5] T (0, 0)) (.pointer (some ⟨w.heap.size, 0, none⟩)) (.pointer (some ⟨h, 0, none⟩)) (((((((w.setCell ⟨h, 0, none⟩ v0).setCell ⟨h, 1, none⟩ v1).setCell ⟨h, 2, none⟩ v2).setCell ⟨h, 3, none⟩ v3).setCell ⟨h, 4, none⟩ v4).setCell ⟨h, 5, none⟩ v5).alloc (.cells #[u0, u1, u2, u3, u4, u5] T)) :=
  ⟨_, _, rfl, rfl, hN, q.2, Bk.of_alloc _ _ (by simp [World.setCell]), (fill6 q.1).alloc _, (bset6 hM q.2).alloc (by simpa [World.setCell] using hN) _⟩
theorem tv5_6 (hM : Below B W0 w) (q : Nw (.cells #[z0, z1, z2, z3, z4, z5] T (0, 0)) w g B) (q' : Nw (.cells #[z0, z1, z2, z3, z4, z5] T (0, 0)) w h B) (hne : g ≠ h) :
    Tv B W0 (.cells #[u0, u1, u2, u3, u4, u5] T (0, 0)) (.cells #[v0, v1, v2, v3, v4, v5] T (0, 0)) (.pointer (some ⟨g, 0, none⟩)) (.pointer (some ⟨h, 0, none⟩)) ((((((((((((w.setCell ⟨g, 0, none⟩ u0).setCell ⟨g, 1, none⟩ u1).setCell ⟨g, 2, none⟩ u2).setCell ⟨g, 3, none⟩ u3).setCell ⟨g, 4, none⟩ u4).setCell ⟨g, 5, none⟩ u5).setCell ⟨h, 0, none⟩ v0).setCell ⟨h, 1, none⟩ v1).setCell ⟨h, 2, none⟩ v2).setCell ⟨h, 3, none⟩ v3).setCell ⟨h, 4, none⟩ v4).setCell ⟨h, 5, none⟩ v5) :=
  ⟨_, _, rfl, rfl, q.2, q'.2, Bk_grown (fill6 q.1) (gbn6 _ h v0 v1 v2 v3 v4 v5) hne, fill6 (q'.set6 (fun e => hne e.symm)).1, bset6 (bset6 hM q.2) q'.2⟩
end

end Go.Proofs.Ytndcopljjnbkbaa
