/- The contracts of opposite, parts, ratSign, number. For all fractions whose limbs fit into memory. -/
import Derived.Test.YtlfeendebbidhaaDoorFrac
namespace Go.Proofs.YtlfeendebbidhaaDoor
open Go.RowKit Kb

set_option maxRecDepth 100000 in
set_option maxHeartbeats 2000000 in
theorem parts_pos (p : Bool) (A B : Option Addr) (n c m d b : Nat) (w : World) (k : Raw w B m d b) (hb0 : b ≠ 0) :
    Calls Tryd.prog 62 #[.agg #[.bool p, .slice A n c, .bool false, .slice B m d]] w fun e w' => e = .returned (.tuple #[.agg #[.bool p, .slice A n c], .agg #[.bool false, .slice B m d]]) ∧ Below w.heap.size w w' := by
  have Hs := hid (show (toZ false b).sign = 1 from by unfold toZ; rw [if_neg (by decide)]; exact Int.sign_eq_one_of_pos (by omega))
  have b0 := three_new w (.cells #[.bool p, .slice A n c, .bool false, .slice B m d] 42) (.cells #[.bool false, .slice none 0 0] 24) (.cells #[.bool false, .slice none 0 0] 24)
  have hB := (((Below.refl w.heap.size w).alloc (Nat.le_refl _) (.cells #[.bool p, .slice A n c, .bool false, .slice B m d] 42)).alloc (by simp) (.cells #[.bool false, .slice none 0 0] 24)).alloc (by simp; omega) (.cells #[.bool false, .slice none 0 0] 24)
  obtain ⟨g, hg⟩ : ∃ g, w.heap.size = g := ⟨_, rfl⟩
  clear hb0
  go_enter Tryd.func62, Tryd.ntmps62
  go_wp2_with fail
  rw [hg] at b0
  generalize ((w.alloc (.cells #[.bool p, .slice A n c, .bool false, .slice B m d] 42)).alloc (.cells #[.bool false, .slice none 0 0] 24)).alloc (.cells #[.bool false, .slice none 0 0] 24) = W0 at *
  have k0 : Raw W0 B m d b := k.below hB
  have HB := hid hB
  have Hg := hid hg
  obtain ⟨a0, a1, a2⟩ := b0
  obtain ⟨x0, x1, x2, x3, -, -, -, -⟩ := a0.c4
  clear hB hg k
  go_wp2_with fail
  refine (sign_any false B m d b _ k0).mono ?_
  rintro e w1 ⟨rfl, hb1⟩
  rw [Hs.out]
  replace a0 := a0.step hb1
  replace a1 := a1.step hb1
  replace a2 := a2.step hb1
  obtain ⟨x0, x1, x2, x3, -, -, -, -⟩ := a0.c4
  obtain ⟨y0, y1, y2, y3⟩ := a1.c2
  obtain ⟨z0, z1, z2, z3⟩ := a2.c2
  have hB1 := bthen HB.out hb1 (Nat.le_refl _)
  go_wp2_with fail
  have hgl := Hg.out
  have h4 := hid (((((hB1.setCell (p := ⟨g + 1, 0, none⟩) (by show w.heap.size ≤ g + 1; omega) (.bool p)).setCell (p := ⟨g + 1, 1, none⟩) (by show w.heap.size ≤ g + 1; omega) (.slice A n c)).setCell (p := ⟨g + 1 + 1, 0, none⟩) (by show w.heap.size ≤ g + 1 + 1; omega) (.bool false)).setCell (p := ⟨g + 1 + 1, 1, none⟩) (by show w.heap.size ≤ g + 1 + 1; omega) (.slice B m d)).drew)
  clear hgl hB1 hb1
  go_region
  go_wp2
  exact bodyPost_ret (v := .tuple #[.agg #[.bool p, .slice A n c], .agg #[.bool false, .slice B m d]]) (by simp [results, Tryd.results62, go_sem, y0, y1, z0, z1]) rfl ⟨rfl, h4.out⟩

set_option maxRecDepth 100000 in
set_option maxHeartbeats 2000000 in
theorem opposite_any (p : Bool) (A : Option Addr) (n c : Nat) (w : World) :
    Calls Tryd.prog 78 #[.agg #[.bool p, .slice A n c]] w fun e w' => e = .returned (.agg #[.bool (!p), .slice A n c]) ∧ Below w.heap.size w w' := by
  have HB := hid (((Below.refl w.heap.size w).alloc (Nat.le_refl _) (.cells #[.bool p, .slice A n c] 24)).alloc (by simp) (.cells #[.bool (!p), .slice A n c] 24))
  go_enter Tryd.func78, Tryd.ntmps78
  go_wp2
  exact bodyPost_ret (v := .agg #[.bool (!p), .slice A n c]) (by simp [results, Tryd.results78, go_sem]) rfl ⟨rfl, HB.out⟩

set_option maxRecDepth 100000 in
set_option maxHeartbeats 2000000 in
theorem ratSign_pos (p : Bool) (A B : Option Addr) (n c m d a b : Nat) (w : World) (h : Raw w A n c a) (k : Raw w B m d b) (hb0 : b ≠ 0) :
    Calls Tryd.prog 79 #[.agg #[.bool p, .slice A n c, .bool false, .slice B m d]] w fun e w' => e = .returned (.int .i64 (toZ p a).sign) ∧ Below w.heap.size w w' := by
  have hB := (Below.refl w.heap.size w).alloc (Nat.le_refl _) (.cells #[.bool p, .slice A n c, .bool false, .slice B m d] 42)
  go_enter Tryd.func79, Tryd.ntmps79
  go_wp2_with fail
  refine (parts_pos p A B n c m d b _ (k.below hB) hb0).mono ?_
  rintro e w1 ⟨rfl, hb1⟩
  have hB1 := bthen hB hb1 (Nat.le_refl _)
  have h1 := (h.below hB).below hb1
  have hB2 := (hB1.alloc (hB1.size) (.cells #[.bool p, .slice A n c] 24)).alloc (by have := hB1.size; simp; omega) (.cells #[.bool false, .slice B m d] 24)
  have h2 := h.below hB2
  have HB2 := hid hB2
  clear hb0 hB hb1 h1 hB2 hB1 h k
  go_wp2_with fail
  refine (sign_any p A n c a _ h2).mono ?_
  rintro e w2 ⟨rfl, hb2⟩
  have hB3 := bthen HB2.out hb2 (Nat.le_refl _)
  go_wp2
  go_ret
  exact ⟨rfl, hB3⟩

set_option maxRecDepth 100000 in
set_option maxHeartbeats 2000000 in
theorem number_any (z : Int) (w : World) (h1 : -9223372036854775808 ≤ z) (h2 : z ≤ 9223372036854775807) :
    Calls Tryd.prog 82 #[.int .i64 z] w fun e w' => ∃ v, e = .returned v ∧ Rz w' v z 1 ∧ Below w.heap.size w w' := by
  have hb0 := fun o => (Below.refl w.heap.size w).alloc (Nat.le_refl _) o
  go_enter Tryd.func82, Tryd.ntmps82
  go_wp2_with fail
  refine (nz_openb (Of_any z _ h1 h2)).mono ?_
  rintro e w1 ⟨s1, A1, n1, c1, rfl, hs1, hn1, hb1⟩
  go_wp2_with fail
  refine (nz_openb (Of_any 1 _ (by decide) (by decide))).mono ?_
  rintro e w2 ⟨s2, A2, n2, c2, rfl, hs2, hn2, hb2⟩
  have hb3 := bthen hb1 hb2 (Nat.le_refl _)
  have hb4 := bthen (hb0 _) hb3 (Nat.le_refl _)
  have c0 := box_cell hb3 0
  have c1' := box_cell hb3 1
  have c2' := box_cell hb3 2
  have c3 := box_cell hb3 3
  have f0 := box_frozen hb3 0
  have f1 := box_frozen hb3 1
  have f2 := box_frozen hb3 2
  have f3 := box_frozen hb3 3
  have hbx := hid (box_heap hb3)
  have h5 := hid (below4 hb4 (Nat.le_refl _) (.bool s1) (.slice A1 n1 c1) (.bool s2) (.slice A2 n2 c2))
  have m1 := hid ((hn1.below hb2).offbox hbx.out (noInt_four _ _ _ _ _ _ _ _) (gb4 _ _ (.bool s1) (.slice A1 n1 c1) (.bool s2) (.slice A2 n2 c2)))
  have m2 := hid (hn2.offbox hbx.out (noInt_four _ _ _ _ _ _ _ _) (gb4 _ _ (.bool s1) (.slice A1 n1 c1) (.bool s2) (.slice A2 n2 c2)))
  clear hb1 hb2 hb3 hb4 hn1 hn2 hb0
  simp at c0 c1' c2' c3
  go_wp2
  exact bodyPost_ret (v := .agg #[.bool s1, .slice A1 n1 c1, .bool s2, .slice A2 n2 c2]) (by simp [results, Tryd.results82, go_sem, c0, c1', c2', c3]) rfl ⟨_, rfl, ⟨s1, A1, n1, c1, s2, A2, n2, c2, rfl, hs1, hs2, m1.out, m2.out⟩, h5.out⟩

end Go.Proofs.YtlfeendebbidhaaDoor
