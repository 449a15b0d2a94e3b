/- The contracts of W and SameRat: fractions as two integers. For all integers whose limbs fit into memory. -/
import Derived.Test.YtlfeendebbidhaaDoorGiven
namespace Go.Proofs.YtlfeendebbidhaaDoor
open Go.RowKit Kb

/-- The value v is a pair of integers, each normalized. -/
def Rz (w : World) (v : Value) (x y : Int) : Prop :=
  ∃ s1 A1 n1 c1 s2 A2 n2 c2, v = .agg #[.bool s1, .slice A1 n1 c1, .bool s2, .slice A2 n2 c2] ∧ Hid (s1 = decide (x < 0)) ∧ Hid (s2 = decide (y < 0)) ∧ Nm w (.slice A1 n1 c1) x.natAbs ∧ Nm w (.slice A2 n2 c2) y.natAbs
theorem Rz.below {w w' : World} {v : Value} {x y : Int} (h : Rz w v x y) (hb : Below w.heap.size w w') : Rz w' v x y := by
  obtain ⟨s1, A1, n1, c1, s2, A2, n2, c2, e, e1, e2, h1, h2⟩ := h
  exact ⟨s1, A1, n1, c1, s2, A2, n2, c2, e, e1, e2, h1.below hb, h2.below hb⟩
theorem noInt_four (a b : Bool) (A B : Option Addr) (n c m d : Nat) : NoInt #[.bool a, .slice A n c, .bool b, .slice B m d] :=
  noInt4 (fun _ _ => by simp) (fun _ _ => by simp) (fun _ _ => by simp) (fun _ _ => by simp)
/-- Four stores into one box. -/
def put4 (w : World) (g : Nat) (a b c d : Value) : World := (((w.setCell ⟨g, 0, none⟩ a).setCell ⟨g, 1, none⟩ b).setCell ⟨g, 2, none⟩ c).setCell ⟨g, 3, none⟩ d
theorem gb4 (w : World) (g : Nat) (a b c d : Value) : w.grownBy (put4 w g a b c d) (some g) := gb_set (gb_set (gb2 w g 0 1 a b) 2 c) 3 d
theorem below4 {B : Nat} {w0 w : World} {g : Nat} (h : Below B w0 w) (hg : B ≤ g) (a b c d : Value) : Below B w0 (put4 w g a b c d) :=
  (((h.setCell (p := ⟨g, 0, none⟩) hg a).setCell (p := ⟨g, 1, none⟩) hg b).setCell (p := ⟨g, 2, none⟩) hg c).setCell (p := ⟨g, 3, none⟩) hg d

set_option maxRecDepth 100000 in
set_option maxHeartbeats 1000000 in
theorem W_any (z : Int) (w : World) (h1 : -9223372036854775808 ≤ z) (h2 : z ≤ 9223372036854775807) :
    Calls Tryd.prog 32 #[.int .i64 z] w fun e w' => ∃ v, e = .returned v ∧ Rz w' v z 1 ∧ Below w.heap.size w w' := by
  have hb0 := fun o => (Below.refl w.heap.size w).alloc (Nat.le_refl _) o
  go_enter Tryd.func32, Tryd.ntmps32
  go_wp2_with fail
  refine (nz_openb (Z_any z _ h1 h2)).mono ?_
  rintro e w1 ⟨s1, A1, n1, c1, rfl, hs1, hn1, hb1⟩
  go_wp2_with fail
  refine (nz_openb (Z_any 1 _ (by decide) (by decide))).mono ?_
  rintro e w2 ⟨s2, A2, n2, c2, rfl, hs2, hn2, hb2⟩
  have hb3 := bthen hb1 hb2 (Nat.le_refl _)
  have hb4 := bthen (hb0 _) hb3 (Nat.le_refl _)
  have c0 := box_cell hb3 0
  have c1' := box_cell hb3 1
  have c2' := box_cell hb3 2
  have c3 := box_cell hb3 3
  have f0 := box_frozen hb3 0
  have f1 := box_frozen hb3 1
  have f2 := box_frozen hb3 2
  have f3 := box_frozen hb3 3
  have hbx := hid (box_heap hb3)
  have h5 := hid (below4 hb4 (Nat.le_refl _) (.bool s1) (.slice A1 n1 c1) (.bool s2) (.slice A2 n2 c2))
  have m1 := hid ((hn1.below hb2).offbox hbx.out (noInt_four _ _ _ _ _ _ _ _) (gb4 _ _ (.bool s1) (.slice A1 n1 c1) (.bool s2) (.slice A2 n2 c2)))
  have m2 := hid (hn2.offbox hbx.out (noInt_four _ _ _ _ _ _ _ _) (gb4 _ _ (.bool s1) (.slice A1 n1 c1) (.bool s2) (.slice A2 n2 c2)))
  clear hb1 hb2 hb3 hb4 hn1 hn2 hb0
  simp at c0 c1' c2' c3
  go_wp2
  exact bodyPost_ret (v := .agg #[.bool s1, .slice A1 n1 c1, .bool s2, .slice A2 n2 c2]) (by simp [results, Tryd.results32, go_sem, c0, c1', c2', c3]) rfl ⟨_, rfl, ⟨s1, A1, n1, c1, s2, A2, n2, c2, rfl, hs1, hs2, m1.out, m2.out⟩, h5.out⟩

theorem cells4 {W : World} {g : Nat} {a b c d : Value} {T : TypeId} (h : W.heap[g]? = some (.cells #[a, b, c, d] T (0, 0))) :
    W.cell? ⟨g, 0, none⟩ = some a ∧ W.cell? ⟨g, 1, none⟩ = some b ∧ W.cell? ⟨g, 2, none⟩ = some c ∧ W.cell? ⟨g, 3, none⟩ = some d ∧ W.frozen? ⟨g, 0, none⟩ = false ∧ W.frozen? ⟨g, 1, none⟩ = false ∧ W.frozen? ⟨g, 2, none⟩ = false ∧ W.frozen? ⟨g, 3, none⟩ = false := by
  refine ⟨?_, ?_, ?_, ?_, ?_, ?_, ?_, ?_⟩
  · rw [cell_of_row W _ _ _ T (0, 0) h]; rfl
  · rw [cell_of_row W _ _ _ T (0, 0) h]; rfl
  · rw [cell_of_row W _ _ _ T (0, 0) h]; rfl
  · rw [cell_of_row W _ _ _ T (0, 0) h]; rfl
  all_goals simp [World.frozen?, h]
theorem cells2 {W : World} {g : Nat} {a b : Value} {T : TypeId} (h : W.heap[g]? = some (.cells #[a, b] T (0, 0))) :
    W.cell? ⟨g, 0, none⟩ = some a ∧ W.cell? ⟨g, 1, none⟩ = some b ∧ W.frozen? ⟨g, 0, none⟩ = false ∧ W.frozen? ⟨g, 1, none⟩ = false := by
  refine ⟨?_, ?_, ?_, ?_⟩
  · rw [cell_of_row W _ _ _ T (0, 0) h]; rfl
  · rw [cell_of_row W _ _ _ T (0, 0) h]; rfl
  all_goals simp [World.frozen?, h]
/-- Two new boxes. -/
theorem two_new (w : World) (o1 o2 : Obj) : ((w.alloc o1).alloc o2).heap[w.heap.size]? = some o1 ∧ ((w.alloc o1).alloc o2).heap[w.heap.size + 1]? = some o2 := by
  constructor
  · rw [Below.heap_alloc _ _ _ (by simp)]; exact heap_alloc_new w _
  · have := heap_alloc_new (w.alloc o1) o2
    simpa using this

set_option maxRecDepth 100000 in
set_option maxHeartbeats 2000000 in
theorem SameRat_true {v u : Value} {x y : Int} {w : World} (h : Rz w v x y) (k : Rz w u x y) :
    Calls Tryd.prog 27 #[v, u] w fun e w' => e = .returned (.bool true) ∧ Below w.heap.size w w' := by
  obtain ⟨s1, A1, n1, c1, s2, A2, n2, c2, rfl, e1, e2, h1, h2⟩ := h
  obtain ⟨t1, B1, m1, d1, t2, B2, m2, d2, rfl, e1', e2', k1, k2⟩ := k
  obtain rfl : s1 = t1 := e1.out.trans e1'.out.symm
  obtain rfl : s2 = t2 := e2.out.trans e2'.out.symm
  have b0 := two_new w (.cells #[.bool s1, .slice A1 n1 c1, .bool s2, .slice A2 n2 c2] 42) (.cells #[.bool s1, .slice B1 m1 d1, .bool s2, .slice B2 m2 d2] 42)
  have hB := ((Below.refl w.heap.size w).alloc (Nat.le_refl _) (.cells #[.bool s1, .slice A1 n1 c1, .bool s2, .slice A2 n2 c2] 42)).alloc (by simp) (.cells #[.bool s1, .slice B1 m1 d1, .bool s2, .slice B2 m2 d2] 42)
  obtain ⟨g, hg⟩ : ∃ g, w.heap.size = g := ⟨_, rfl⟩
  go_enter Tryd.func27, Tryd.ntmps27
  go_wp2_with fail
  rw [hg] at b0
  generalize (w.alloc (.cells #[.bool s1, .slice A1 n1 c1, .bool s2, .slice A2 n2 c2] 42)).alloc (.cells #[.bool s1, .slice B1 m1 d1, .bool s2, .slice B2 m2 d2] 42) = W0 at *
  have HB := hid hB
  have Hg := hid hg
  have a1 := h1.below hB
  have a2 := h2.below hB
  have a3 := k1.below hB
  have a4 := k2.below hB
  have hlt := (Array.getElem?_eq_some_iff.1 b0.2).1
  clear hB hg h1 h2 k1 k2
  refine (SameInt_true s1 A1 B1 n1 c1 m1 d1 _ _ a1 a3).mono ?_
  rintro e w1 ⟨rfl, hb1⟩
  have x1 := cells4 ((hb1.block _ (by omega)).trans b0.1)
  have x2 := cells4 ((hb1.block _ hlt).trans b0.2)
  obtain ⟨y0, y1, y2, y3, _⟩ := x1
  obtain ⟨z0, z1, z2, z3, _⟩ := x2
  go_wp2_with fail
  refine (SameInt_true s2 A2 B2 n2 c2 m2 d2 _ _ (a2.below hb1) (a4.below hb1)).mono ?_
  rintro e w2 ⟨rfl, hb2⟩
  have h5 := bthen (bthen HB.out hb1 (Nat.le_refl _)) hb2 (Nat.le_refl _)
  go_wp2
  go_ret
  exact ⟨rfl, h5⟩

end Go.Proofs.YtlfeendebbidhaaDoor
