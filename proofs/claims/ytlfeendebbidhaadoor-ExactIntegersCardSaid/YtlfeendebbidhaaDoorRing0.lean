/- The contract of long; what a statement over three integers holds. -/
import Derived.Test.YtlfeendebbidhaaDoorZi
namespace Go.Proofs.YtlfeendebbidhaaDoor
open Go.RowKit Kb

theorem long_yes (p : Bool) (A : Option Addr) (n c : Nat) (w : World) (h : 60 < n) :
    Calls Tryd.prog 6 #[.agg #[.bool p, .slice A n c]] w fun e w' => e = .returned (.bool true) ∧ Below w.heap.size w w' := by
  have hb := (Below.refl w.heap.size w).alloc (Nat.le_refl _) (.cells #[.bool p, .slice A n c] 24)
  have h' : (60 : Int) < (n : Int) := by omega
  go_enter Tryd.func6, Tryd.ntmps6
  go_wp2
  go_ret
  exact ⟨by simp, hb⟩
theorem long_no (p : Bool) (A : Option Addr) (n c : Nat) (w : World) (h : n ≤ 60) :
    Calls Tryd.prog 6 #[.agg #[.bool p, .slice A n c]] w fun e w' => e = .returned (.bool false) ∧ Below w.heap.size w w' := by
  have hb := (Below.refl w.heap.size w).alloc (Nat.le_refl _) (.cells #[.bool p, .slice A n c] 24)
  have h' : ¬ (60 : Int) < (n : Int) := by omega
  go_enter Tryd.func6, Tryd.ntmps6
  go_wp2
  go_ret
  exact ⟨by simp, hb⟩

/-- A box of an integer that came in. -/
structure Ib (w : World) (g : Nat) (s : Bool) (A : Option Addr) (n c : Nat) (z : Int) : Prop where
  b : Bk w g (.cells #[.bool s, .slice A n c] 24 (0, 0))
  z : Zi w s A n c z
/-- A box of a normalized integer. -/
structure Jb (w : World) (g : Nat) (s : Bool) (A : Option Addr) (n c : Nat) (z : Int) : Prop where
  b : Bk w g (.cells #[.bool s, .slice A n c] 24 (0, 0))
  z : Zn w s A n c z
section
variable {w w' : World} {g h n c : Nat} {s : Bool} {A : Option Addr} {z : Int}
theorem Ib.below (k : Ib w g s A n c z) (hb : Below w.heap.size w w') : Ib w' g s A n c z := ⟨k.b.step hb, k.z.below hb⟩
theorem Jb.below (k : Jb w g s A n c z) (hb : Below w.heap.size w w') : Jb w' g s A n c z := ⟨k.b.step hb, k.z.below hb⟩
theorem Ib.off {u v : Value} (k : Ib w g s A n c z) {T : TypeId} {C : Array Value} (q : Bk w h (.cells C T (0, 0))) (hC : NoInt C) (hne : g ≠ h) : Ib ((w.setCell ⟨h, 0, none⟩ u).setCell ⟨h, 1, none⟩ v) g s A n c z :=
  ⟨k.b.grown (gb2 _ _ _ _ _ _) hne, k.z.offbox q hC (gb2 _ _ _ _ _ _)⟩
theorem Jb.off {u v : Value} (k : Jb w g s A n c z) {T : TypeId} {C : Array Value} (q : Bk w h (.cells C T (0, 0))) (hC : NoInt C) (hne : g ≠ h) : Jb ((w.setCell ⟨h, 0, none⟩ u).setCell ⟨h, 1, none⟩ v) g s A n c z :=
  ⟨k.b.grown (gb2 _ _ _ _ _ _) hne, k.z.offbox q hC (gb2 _ _ _ _ _ _)⟩
/-- Two stores fill a new box. -/
theorem Jb.fill (q : Bk w h (.cells #[.bool false, .slice none 0 0] 24 (0, 0))) (k : Zn w s A n c z) : Jb ((w.setCell ⟨h, 0, none⟩ (.bool s)).setCell ⟨h, 1, none⟩ (.slice A n c)) h s A n c z := by
  refine ⟨?_, k.offbox q (noInt_zero _ _ _ _) (gb2 _ _ _ _ _ _)⟩
  unfold Bk at q ⊢
  simp only [World.setCell, Array.getElem?_modify, q]
  simp
/-- A new box with its content. -/
theorem Jb.made (k : Zn w s A n c z) : Jb (w.alloc (.cells #[.bool s, .slice A n c] 24)) w.heap.size s A n c z :=
  ⟨Bk.of_alloc _ _ rfl, k.below ((Below.refl _ _).alloc (Nat.le_refl _) _)⟩
end

/-- The three integers that came in, in their boxes. -/
structure R3 (w : World) (g : Nat) (p1 : Bool) (A1 : Option Addr) (n1 c1 : Nat) (x : Int) (p2 : Bool) (A2 : Option Addr) (n2 c2 : Nat) (y : Int) (p3 : Bool) (A3 : Option Addr) (n3 c3 : Nat) (z : Int) (wx : World) : Prop where
  a : Ib wx g p1 A1 n1 c1 x
  b : Ib wx (g + 1) p2 A2 n2 c2 y
  c : Ib wx (g + 1 + 1) p3 A3 n3 c3 z
  tb : Tb wx
  bl : Below w.heap.size w wx
section
variable {w wx wy : World} {g n1 c1 n2 c2 n3 c3 h : Nat} {p1 p2 p3 : Bool} {A1 A2 A3 : Option Addr} {x y z : Int}
theorem R3.below (k : R3 w g p1 A1 n1 c1 x p2 A2 n2 c2 y p3 A3 n3 c3 z wx) (hb : Below wx.heap.size wx wy) : R3 w g p1 A1 n1 c1 x p2 A2 n2 c2 y p3 A3 n3 c3 z wy :=
  ⟨k.a.below hb, k.b.below hb, k.c.below hb, k.tb.below hb, bthen k.bl hb (Nat.le_refl _)⟩
theorem R3.off {u v : Value} (k : R3 w g p1 A1 n1 c1 x p2 A2 n2 c2 y p3 A3 n3 c3 z wx) {T : TypeId} {C : Array Value} (q : Bk wx h (.cells C T (0, 0))) (hC : NoInt C) (hne : g + 1 + 1 < h) (ht : 0 < h) (hw : w.heap.size ≤ h) : R3 w g p1 A1 n1 c1 x p2 A2 n2 c2 y p3 A3 n3 c3 z ((wx.setCell ⟨h, 0, none⟩ u).setCell ⟨h, 1, none⟩ v) :=
  ⟨k.a.off q hC (by omega), k.b.off q hC (by omega), k.c.off q hC (by omega), k.tb.grown (gb2 _ _ _ _ _ _) (by omega), (k.bl.setCell (p := ⟨h, 0, none⟩) hw u).setCell (p := ⟨h, 1, none⟩) hw v⟩
end

end Go.Proofs.YtlfeendebbidhaaDoor
