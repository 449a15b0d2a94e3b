/- The contract of awake, the statements' example: it answers true. -/
import Derived.Test.YtlfeendebbidhaaDoorAwake0
import Derived.Deep.DeepCutAuto
namespace Go.Proofs.YtlfeendebbidhaaDoor
open Go.RowKit Kb

/-- What the example has made, ahead of its fourth statement. -/
structure AwMid (w : World) (g1 : Nat) (A1 : Option Addr) (n1 c1 g2 : Nat) (A2 : Option Addr) (n2 c2 g4 : Nat) (A3 : Option Addr) (n3 c3 : Nat) (A4 : Option Addr) (n4 c4 : Nat) (wx : World) : Prop where
  b1 : Bk wx g1 (.cells #[.bool true, .slice A1 n1 c1] 24 (0, 0))
  b2 : Bk wx g2 (.cells #[.bool false, .slice A2 n2 c2] 24 (0, 0))
  b4 : Bk wx g4 (.cells #[.bool true, .slice A3 n3 c3, .bool false, .slice A4 n4 c4] 42 (0, 0))
  m1 : Nm wx (.slice A1 n1 c1) 4
  m2 : Nm wx (.slice A2 n2 c2) 1
  m3 : Nm wx (.slice A3 n3 c3) 3
  m4 : Nm wx (.slice A4 n4 c4) 2
  tb : Tb wx
  bl : Below w.heap.size w wx
section
variable {w wx wy : World} {g1 n1 c1 g2 n2 c2 g4 n3 c3 n4 c4 : Nat} {A1 A2 A3 A4 : Option Addr}
theorem AwMid.below (h : AwMid w g1 A1 n1 c1 g2 A2 n2 c2 g4 A3 n3 c3 A4 n4 c4 wx) (hb : Below wx.heap.size wx wy) : AwMid w g1 A1 n1 c1 g2 A2 n2 c2 g4 A3 n3 c3 A4 n4 c4 wy :=
  ⟨h.b1.step hb, h.b2.step hb, h.b4.step hb, h.m1.below hb, h.m2.below hb, h.m3.below hb, h.m4.below hb, h.tb.below hb, bthen h.bl hb (Nat.le_refl _)⟩
theorem AwMid.put (h : AwMid w g1 A1 n1 c1 g2 A2 n2 c2 g4 A3 n3 c3 A4 n4 c4 wx) {g : Nat} {T : TypeId} (q : Bk wx g (.cells #[.bool false, .slice none 0 0, .bool false, .slice none 0 0] T (0, 0))) (h1 : g1 ≠ g) (h2 : g2 ≠ g) (h4 : g4 ≠ g) (ht : 0 ≠ g) (hw : w.heap.size ≤ g) (a b c d : Value) :
    AwMid w g1 A1 n1 c1 g2 A2 n2 c2 g4 A3 n3 c3 A4 n4 c4 (put4 wx g a b c d) :=
  ⟨h.b1.grown (gb4 _ _ a b c d) h1, h.b2.grown (gb4 _ _ a b c d) h2, h.b4.grown (gb4 _ _ a b c d) h4, h.m1.offbox q (noInt_four _ _ _ _ _ _ _ _) (gb4 _ _ a b c d), h.m2.offbox q (noInt_four _ _ _ _ _ _ _ _) (gb4 _ _ a b c d), h.m3.offbox q (noInt_four _ _ _ _ _ _ _ _) (gb4 _ _ a b c d), h.m4.offbox q (noInt_four _ _ _ _ _ _ _ _) (gb4 _ _ a b c d), h.tb.grown (gb4 _ _ a b c d) ht, below4 h.bl hw a b c d⟩
end
theorem Bk.put4 {w : World} {g : Nat} {a b c d : Value} {T : TypeId} (h : Bk w g (.cells #[a, b, c, d] T (0, 0))) (x y z u : Value) : Bk (put4 w g x y z u) g (.cells #[x, y, z, u] T (0, 0)) := by
  unfold Bk at h ⊢
  simp only [Go.Proofs.YtlfeendebbidhaaDoor.put4, World.setCell, Array.getElem?_modify, h]
  simp
/-- What stands behind the example's fourth statement. -/
def AwEnd (w : World) (g1 : Nat) (A1 : Option Addr) (n1 c1 g2 : Nat) (A2 : Option Addr) (n2 c2 g4 : Nat) (A3 : Option Addr) (n3 c3 : Nat) (A4 : Option Addr) (n4 c4 : Nat) (s7 s8 : Value) (wx : World) : Prop :=
  s8 = .int .i64 0 ∧ ∃ g7 A m c B m' d, s7 = .pointer (some ⟨g7, 0, none⟩) ∧ Bk wx g7 (.cells #[.bool false, .slice A m c, .bool false, .slice B m' d] 42 (0, 0)) ∧ Nm wx (.slice A m c) 10 ∧ Nm wx (.slice B m' d) 1 ∧
    AwMid w g1 A1 n1 c1 g2 A2 n2 c2 g4 A3 n3 c3 A4 n4 c4 wx
theorem aw_cells {w wx : World} {g1 n1 c1 g2 n2 c2 g4 n3 c3 n4 c4 g7 m c m' d : Nat} {A1 A2 A3 A4 A B : Option Addr} (h : AwMid w g1 A1 n1 c1 g2 A2 n2 c2 g4 A3 n3 c3 A4 n4 c4 wx) (b : Bk wx g7 (.cells #[.bool false, .slice A m c, .bool false, .slice B m' d] 42 (0, 0))) :
    wx.cell? ⟨g1, 0, none⟩ = some (.bool true) ∧ wx.cell? ⟨g1, 1, none⟩ = some (.slice A1 n1 c1) ∧ wx.cell? ⟨g2, 0, none⟩ = some (.bool false) ∧ wx.cell? ⟨g2, 1, none⟩ = some (.slice A2 n2 c2) ∧ wx.cell? ⟨g4, 0, none⟩ = some (.bool true) ∧ wx.cell? ⟨g4, 1, none⟩ = some (.slice A3 n3 c3) ∧ wx.cell? ⟨g4, 2, none⟩ = some (.bool false) ∧ wx.cell? ⟨g4, 3, none⟩ = some (.slice A4 n4 c4) ∧ wx.cell? ⟨g7, 0, none⟩ = some (.bool false) ∧ wx.cell? ⟨g7, 1, none⟩ = some (.slice A m c) ∧ wx.cell? ⟨g7, 2, none⟩ = some (.bool false) ∧ wx.cell? ⟨g7, 3, none⟩ = some (.slice B m' d) := by
  obtain ⟨x0, x1, -, -⟩ := h.b1.c2
  obtain ⟨x2, x3, -, -⟩ := h.b2.c2
  obtain ⟨x4, x5, x6, x7, -, -, -, -⟩ := h.b4.c4
  obtain ⟨x8, x9, x10, x11, -, -, -, -⟩ := b.c4
  exact ⟨x0, x1, x2, x3, x4, x5, x6, x7, x8, x9, x10, x11⟩
section
variable {w wx : World} {g1 n1 c1 g2 n2 c2 g4 n3 c3 n4 c4 m c m' d : Nat} {A1 A2 A3 A4 A B : Option Addr}
theorem aw_alloc (h : AwMid w g1 A1 n1 c1 g2 A2 n2 c2 g4 A3 n3 c3 A4 n4 c4 wx) (ha : Nm wx (.slice A m c) 10) (hb : Nm wx (.slice B m' d) 1) :
    AwEnd w g1 A1 n1 c1 g2 A2 n2 c2 g4 A3 n3 c3 A4 n4 c4 (.pointer (some ⟨wx.heap.size, 0, none⟩)) (.int .i64 0) (wx.alloc (.cells #[.bool false, .slice A m c, .bool false, .slice B m' d] 42)) := by
  have hq := (Below.refl wx.heap.size wx).alloc (Nat.le_refl _) (.cells #[.bool false, .slice A m c, .bool false, .slice B m' d] 42)
  exact ⟨rfl, wx.heap.size, A, m, c, B, m', d, rfl, Bk.of_alloc _ _ rfl, ha.below hq, hb.below hq, h.below hq⟩
theorem aw_put (h : AwMid w g1 A1 n1 c1 g2 A2 n2 c2 g4 A3 n3 c3 A4 n4 c4 wx) (ha : Nm wx (.slice A m c) 10) (hb : Nm wx (.slice B m' d) 1) {g : Nat} (q : Bk wx g (.cells #[.bool false, .slice none 0 0, .bool false, .slice none 0 0] 42 (0, 0))) (h1 : g1 < g) (h2 : g2 < g) (h4 : g4 < g) (ht : 0 < g) (hw : w.heap.size ≤ g) :
    AwEnd w g1 A1 n1 c1 g2 A2 n2 c2 g4 A3 n3 c3 A4 n4 c4 (.pointer (some ⟨g, 0, none⟩)) (.int .i64 0) ((((wx.setCell ⟨g, 0, none⟩ (.bool false)).setCell ⟨g, 1, none⟩ (.slice A m c)).setCell ⟨g, 2, none⟩ (.bool false)).setCell ⟨g, 3, none⟩ (.slice B m' d)) :=
  ⟨rfl, g, A, m, c, B, m', d, rfl, q.put4 _ _ _ _, ha.offbox q (noInt_four _ _ _ _ _ _ _ _) (gb4 _ _ _ _ _ _), hb.offbox q (noInt_four _ _ _ _ _ _ _ _) (gb4 _ _ _ _ _ _), h.put q (by omega) (by omega) (by omega) (by omega) hw _ _ _ _⟩
end
theorem Slp.below {w w' : World} {sb n1 c1 m1 d1 n2 c2 m2 d2 : Nat} {A1 B1 A2 B2 : Option Addr} (h : Slp w sb A1 n1 c1 B1 m1 d1 A2 n2 c2 B2 m2 d2) (hb : Below w.heap.size w w') : Slp w' sb A1 n1 c1 B1 m1 d1 A2 n2 c2 B2 m2 d2 :=
  ⟨fun j u hj => (hb.cell (by rw [block_of_add]; exact h.ls)).trans (h.cells j u hj), Nat.lt_of_lt_of_le h.ls hb.size, h.na1.below hb, h.nb1.below hb, h.na2.below hb, h.nb2.below hb⟩
theorem crv_of {w : World} {b sb n1 c1 m1 d1 n2 c2 m2 d2 : Nat} {A1 B1 A2 B2 : Option Addr} {T : TypeId} (k : Bk w b (.cells #[.int .i64 0, .int .i64 10] T (0, 0))) (h : Slp w sb A1 n1 c1 B1 m1 d1 A2 n2 c2 B2 m2 d2) : Crv w b sb A1 n1 c1 B1 m1 d1 A2 n2 c2 B2 m2 d2 := by
  have hc := h.cells
  refine ⟨k.c2.1, k.c2.2.1, k.lt, h.ls, ?_, ?_, ?_, ?_, ?_, ?_, ?_, ?_, h.na1, h.nb1, h.na2, h.nb2⟩
  · have := hc 0 _ rfl; rwa [Addr.add_lit, Nat.zero_add] at this
  · have := hc 1 _ rfl; rwa [Addr.add_lit, Nat.zero_add] at this
  · have := hc 2 _ rfl; rwa [Addr.add_lit, Nat.zero_add] at this
  · have := hc 3 _ rfl; rwa [Addr.add_lit, Nat.zero_add] at this
  · have := hc 4 _ rfl; rwa [Addr.add_lit, Nat.zero_add] at this
  · have := hc 5 _ rfl; rwa [Addr.add_lit, Nat.zero_add] at this
  · have := hc 6 _ rfl; rwa [Addr.add_lit, Nat.zero_add] at this
  · have := hc 7 _ rfl; rwa [Addr.add_lit, Nat.zero_add] at this

set_option maxRecDepth 100000 in
set_option maxHeartbeats 4000000 in
theorem awake_true (w : World) (hT : Tb w) : Calls Tryd.prog 7 #[] w fun e w' => e = .returned (.bool true) ∧ Below w.heap.size w w' := by
  go_enter Tryd.func7, Tryd.ntmps7
  go_wp2_with fail
  refine (z_m7 w).mono ?_
  rintro e w1 ⟨A1, n1, c1, rfl, hn1, hb1⟩
  go_wp2_with fail
  refine (z_2 w1).mono ?_
  rintro e w2 ⟨A2, n2, c2, rfl, hn2, hb2⟩
  go_wp2_with fail
  refine (dm_72 A1 A2 n1 c1 n2 c2 w2 (hn1.below hb2) hn2).mono ?_
  rintro e w3 ⟨A3, n3, c3, A4, n4, c4, rfl, hn3, hn4, hb3⟩
  have hB3 := bthen (bthen hb1 hb2 (Nat.le_refl _)) hb3 (Nat.le_refl _)
  have T3 := hT.below hB3
  clear hn1 hn2 hb1 hb2 hb3
  have hq3 := below_two w3 (.cells #[.bool true, .slice A3 n3 c3] 24) (.cells #[.bool false, .slice A4 n4 c4] 24)
  have j1 := box1 w3 (.cells #[.bool true, .slice A3 n3 c3] 24) (.cells #[.bool false, .slice A4 n4 c4] 24)
  have j2 := box2 w3 (.cells #[.bool true, .slice A3 n3 c3] 24) (.cells #[.bool false, .slice A4 n4 c4] 24)
  go_wp2_with fail
  have hn3' := hn3.below hq3
  have hn4' := hn4.below hq3
  have hB4 := bthen hB3 hq3 (Nat.le_refl _)
  have T4 := T3.below hq3
  generalize hg1 : w3.heap.size = g1 at *
  clear hB3 T3 hn3 hn4 hq3
  refine (ratio_64 _ T4).mono ?_
  rintro e w4 ⟨A5, n5, c5, A6, n6, c6, rfl, hn5, hn6, hb4⟩
  replace j1 := j1.step hb4
  replace j2 := j2.step hb4
  replace hn3' := hn3'.below hb4
  replace hn4' := hn4'.below hb4
  replace T4 := T4.below hb4
  have hB5 := bthen hB4 hb4 (Nat.le_refl _)
  clear hB4 hb4 hg1
  go_wp2_with fail
  have k3 := three_new w4 (.cells #[.bool true, .slice A5 n5 c5, .bool false, .slice A6 n6 c6] 42) (.cells #[.int .i64 0, .int .i64 10] 3) (.cells #[.int .i64 2, .int .i64 0] 3)
  have hq4 := (((Below.refl w4.heap.size w4).alloc (Nat.le_refl _) (.cells #[.bool true, .slice A5 n5 c5, .bool false, .slice A6 n6 c6] 42)).alloc (by simp) (.cells #[.int .i64 0, .int .i64 10] 3)).alloc (by simp; omega) (.cells #[.int .i64 2, .int .i64 0] 3)
  generalize ((w4.alloc (.cells #[.bool true, .slice A5 n5 c5, .bool false, .slice A6 n6 c6] 42)).alloc (.cells #[.int .i64 0, .int .i64 10] 3)).alloc (.cells #[.int .i64 2, .int .i64 0] 3) = W5 at *
  obtain ⟨k4, k5, k6⟩ := k3
  replace j1 := j1.step hq4
  replace j2 := j2.step hq4
  replace hn3' := hn3'.below hq4
  replace hn4' := hn4'.below hq4
  replace hn5 := hn5.below hq4
  replace hn6 := hn6.below hq4
  replace T4 := T4.below hq4
  have hB6 := bthen hB5 hq4 (Nat.le_refl _)
  clear hB5 hq4
  generalize w4.heap.size = g4 at *
  obtain ⟨x0, x1, -, -⟩ := k6.c2
  refine (Ws_ex (g4 + 1 + 1) 2 W5 x0 x1 k6.lt).mono ?_
  rintro e w6 ⟨sb, sc, B1, m1, d1, B2, m2, d2, B3, m3, d3, B4, m4, d4, rfl, hs, hb6⟩
  replace j1 := j1.step hb6
  replace j2 := j2.step hb6
  replace k4 := k4.step hb6
  replace k5 := k5.step hb6
  replace hn3' := hn3'.below hb6
  replace hn4' := hn4'.below hb6
  replace hn5 := hn5.below hb6
  replace hn6 := hn6.below hb6
  replace T4 := T4.below hb6
  have hB7 := bthen hB6 hb6 (Nat.le_refl _)
  have hq6 := (Below.refl w6.heap.size w6).alloc (Nat.le_refl _) (.cells #[.slice (some ⟨g4 + 1, 0, none⟩) 2 2, .slice (some ⟨sb, 0, none⟩) 2 sc] 58)
  have k7 := Bk.of_alloc w6 (.cells #[.slice (some ⟨g4 + 1, 0, none⟩) 2 2, .slice (some ⟨sb, 0, none⟩) 2 sc] 58) rfl
  clear hb6 hB6 x0 x1 k6
  go_upto_region 4 with fail
  replace j1 := j1.step hq6
  replace j2 := j2.step hq6
  replace k4 := k4.step hq6
  replace k5 := k5.step hq6
  replace hn3' := hn3'.below hq6
  replace hn4' := hn4'.below hq6
  replace hn5 := hn5.below hq6
  replace hn6 := hn6.below hq6
  replace T4 := T4.below hq6
  have hs7 : Slp _ sb B1 m1 d1 B2 m2 d2 B3 m3 d3 B4 m4 d4 := hs.below hq6
  have hB8 := bthen hB7 hq6 (Nat.le_refl _)
  have hcv := crv_of k5 hs7
  have hmid : AwMid w g1 A3 n3 c3 (g1 + 1) A4 n4 c4 g4 A5 n5 c5 A6 n6 c6 _ := ⟨j1, j2, k4, hn3', hn4', hn5, hn6, T4, hB8⟩
  clear hB7 hs hq6 hs7 k5 j1 j2 k4 hn3' hn4' hn5 hn6 T4 hB8
  generalize hW : w6.alloc (.cells #[.slice (some ⟨g4 + 1, 0, none⟩) 2 2, .slice (some ⟨sb, 0, none⟩) 2 sc] 58) = W7 at *
  clear hW
  generalize w6.heap.size = g6 at *
  go_cut [7, 8] (fun s7 s8 wx => AwEnd w g1 A3 n3 c3 (g1 + 1) A4 n4 c4 g4 A5 n5 c5 A6 n6 c6 s7 s8 wx)
  case first =>
    obtain ⟨x0, x1, -, -⟩ := (show Bk W7.drew g6 _ from k7).c2
    obtain ⟨x2, x3, -, -⟩ := (show Bk (W7.alloc (.cells #[.bool false, .slice none 0 0, .bool false, .slice none 0 0] 42)).drew g6 _ from k7.alloc _).c2
    have hV : ∀ (A7 A8 : Option Addr) (n7 c7 n8 c8 : Nat) (w8 X : World), Below W7.heap.size W7 w8 → Nm w8 (.slice A7 n7 c7) 5 → Nm w8 (.slice A8 n8 c8) 1 → Below w8.heap.size w8 X → _ := fun A7 A8 n7 c7 n8 c8 w8 X h8 ha hb hX => Value_ex (g4 + 1) sb sc m1 d1 m2 d2 m3 d3 m4 d4 B1 B2 B3 B4 A7 A8 n7 c7 n8 c8 X ((hcv.below h8).below hX) (ha.below hX) (hb.below hX) ((hmid.tb.below h8).below hX)
    have q7 : Bk (W7.alloc (.cells #[.bool false, .slice none 0 0, .bool false, .slice none 0 0] 42)).drew W7.heap.size (.cells #[.bool false, .slice none 0 0, .bool false, .slice none 0 0] 42) := Bk.of_alloc W7 (.cells #[.bool false, .slice none 0 0, .bool false, .slice none 0 0] 42) rfl
    have HV := hid hV
    clear hV
    go_region_held3 (fun w' => w'.cell? ⟨g6, 0, none⟩ = some (.slice (some ⟨g4 + 1, 0, none⟩) 2 2) ∧ w'.cell? ⟨g6, 1, none⟩ = some (.slice (some ⟨sb, 0, none⟩) 2 sc)) (first | with_reducible exact ⟨x0, x1⟩ | with_reducible exact ⟨x2, x3⟩ | with_reducible exact ⟨x4, x5⟩ | with_reducible exact ⟨y0, y1⟩ | with_reducible exact ⟨y2, y3⟩ | with_reducible exact ⟨z0, z1⟩ | with_reducible exact ⟨z2, z3⟩ | with_reducible exact ⟨z4, z5⟩ | with_reducible exact ⟨off_four z9 z0, off_four z9 z1⟩ | with_reducible exact ⟨off_four z8 z0, off_four z8 z1⟩) (first
      | (go_at_call 32; with_reducible refine (w_5 _).mono ?_; rintro e w8 ⟨A7, n7, c7, A8, n8, c8, rfl, hn7, hn8, hb8⟩; have h8 : Below W7.heap.size W7 w8 := (by first | exact bthen (Below.refl W7.heap.size W7).drew hb8 (Nat.le_refl _) | exact bthen ((Below.refl W7.heap.size W7).alloc (Nat.le_refl _) (.cells #[.bool false, .slice none 0 0, .bool false, .slice none 0 0] 42)).drew hb8 (by simp)); (try (have q8 := q7.step hb8)); have k8 := k7.step h8; obtain ⟨y0, y1, -, -⟩ := k8.c2; have y2 := ((k8.alloc (.cells #[.bool false, .slice none 0 0, .bool false, .slice none 0 0] 42)).c2).1; have y3 := ((k8.alloc (.cells #[.bool false, .slice none 0 0, .bool false, .slice none 0 0] 42)).c2).2.1)
      | (go_at_call 37; (first | with_reducible refine (HV.out A7 A8 n7 c7 n8 c8 w8 w8 h8 hn7 hn8 (Below.refl _ _)).mono ?_ | with_reducible refine (HV.out A7 A8 n7 c7 n8 c8 w8 _ h8 hn7 hn8 ((Below.refl _ _).alloc (Nat.le_refl _) (.cells #[.bool false, .slice none 0 0, .bool false, .slice none 0 0] 42))).mono ?_); rintro e w9 ⟨A9, n9, c9, A10, n10, c10, rfl, hn9, hn10, hb9⟩; have h9 : Below W7.heap.size W7 w9 := (by first | exact bthen h8 hb9 (Nat.le_refl _) | exact bthen (h8.alloc h8.size _) hb9 (by simp)); (try (have q9 := q8.step hb9; obtain ⟨i0, i1, i2, i3, i4, i5, i6, i7⟩ := q9.c4)); (try (have q9 : Bk w9 w8.heap.size (.cells #[.bool false, .slice none 0 0, .bool false, .slice none 0 0] 42) := Bk.step (W := w8.alloc (.cells #[.bool false, .slice none 0 0, .bool false, .slice none 0 0] 42)) (Bk.of_alloc w8 _ rfl) hb9; obtain ⟨i0, i1, i2, i3, i4, i5, i6, i7⟩ := q9.c4)); have k9 := k7.step h9; obtain ⟨z0, z1, -, -⟩ := k9.c2; obtain ⟨z2, z3, -, -⟩ := (k9.alloc (.cells #[.bool false, .slice none 0 0, .bool false, .slice none 0 0] 42)).c2; obtain ⟨z4, z5, -, -⟩ := (k9.alloc (.cells #[.bool false, .slice A9 n9 c9, .bool false, .slice A10 n10 c10] 42)).c2; (try (have z8 : W7.heap.size ≠ g6 := (by have := k7.lt; omega))); (try (have z9 : w8.heap.size ≠ g6 := (by have := (k7.step h8).lt; omega)))))
    all_goals
      have L8 := h8.size
      have L1 := hmid.b1.lt
      have L2 := hmid.b2.lt
      have L4 := hmid.b4.lt
      have Lt := hmid.tb.2
      have Lw := hmid.bl.size
      have hm9 := hmid.below h9
      clear x0 x1 x2 x3 y0 y1 y2 y3 z0 z1 z2 z3 z4 z5 z8 z9
      go_wp2_with fail
      go_meet
      have G1 : g1 < W7.heap.size ∧ g1 + 1 < W7.heap.size ∧ g4 < W7.heap.size ∧ 0 < W7.heap.size ∧ w.heap.size ≤ W7.heap.size := ⟨L1, L2, L4, Lt, Lw⟩
      have G2 : g1 < w8.heap.size ∧ g1 + 1 < w8.heap.size ∧ g4 < w8.heap.size ∧ 0 < w8.heap.size ∧ w.heap.size ≤ w8.heap.size := by omega
      first
        | with_reducible exact aw_alloc hm9 hn9 hn10
        | with_reducible exact aw_put hm9 hn9 hn10 q9 G1.1 G1.2.1 G1.2.2.1 G1.2.2.2.1 G1.2.2.2.2
        | with_reducible exact aw_put hm9 hn9 hn10 q9 G2.1 G2.2.1 G2.2.2.1 G2.2.2.2.1 G2.2.2.2.2
  case rest =>
    obtain ⟨rfl, g7, A7, n7, c7, A8, n8, c8, rfl, b7, hn7, hn8, hm⟩ := hcut
    have T0 : Tb wc.drew := hm.tb
    have M0 : AwMid w g1 A3 n3 c3 (g1 + 1) A4 n4 c4 g4 A5 n5 c5 A6 n6 c6 wc.drew := hm.below (Below.refl _ _).drew
    have b0 : Bk wc.drew g7 _ := b7
    have p0 : Nm wc.drew (.slice A7 n7 c7) 10 := hn7
    have q0 : Nm wc.drew (.slice A8 n8 c8) 1 := hn8
    obtain ⟨x0, x1, -, -⟩ := M0.b1.c2
    obtain ⟨x2, x3, -, -⟩ := M0.b2.c2
    obtain ⟨x4, x5, x6, x7, -, -, -, -⟩ := M0.b4.c4
    obtain ⟨x8, x9, x10, x11, -, -, -, -⟩ := b0.c4
    clear hm b7 hn7 hn8
    go_wp2_with fail
    go_region_held3 (fun w' => w'.cell? ⟨g1, 0, none⟩ = some (.bool true) ∧ w'.cell? ⟨g1, 1, none⟩ = some (.slice A3 n3 c3) ∧ w'.cell? ⟨g1 + 1, 0, none⟩ = some (.bool false) ∧ w'.cell? ⟨g1 + 1, 1, none⟩ = some (.slice A4 n4 c4) ∧ w'.cell? ⟨g4, 0, none⟩ = some (.bool true) ∧ w'.cell? ⟨g4, 1, none⟩ = some (.slice A5 n5 c5) ∧ w'.cell? ⟨g4, 2, none⟩ = some (.bool false) ∧ w'.cell? ⟨g4, 3, none⟩ = some (.slice A6 n6 c6) ∧ w'.cell? ⟨g7, 0, none⟩ = some (.bool false) ∧ w'.cell? ⟨g7, 1, none⟩ = some (.slice A7 n7 c7) ∧ w'.cell? ⟨g7, 2, none⟩ = some (.bool false) ∧ w'.cell? ⟨g7, 3, none⟩ = some (.slice A8 n8 c8)) (first | with_reducible exact ⟨x0, x1, x2, x3, x4, x5, x6, x7, x8, x9, x10, x11⟩ | (with_reducible exact aw_cells M1 b1) | (with_reducible exact aw_cells M2 b2) | (with_reducible exact aw_cells M3 b3) | (with_reducible exact aw_cells M4 b4) | (with_reducible exact aw_cells M5 b5) | (with_reducible exact aw_cells M6 b6) | (with_reducible exact aw_cells M7 b7) | (with_reducible exact aw_cells M8 b8)) (first
      | (go_at_call 34; with_reducible refine (z_m4 wc.drew).mono ?_; rintro e w8 ⟨D1, d1, e1, rfl, hd1, hb8⟩; have M1 := M0.below hb8; have b1 := b0.step hb8)
      | (go_at_call 12; with_reducible refine (SameInt_true true A3 D1 n3 c3 d1 e1 4 w8 M1.m1 hd1).mono ?_; rintro e w9 ⟨rfl, hb9⟩; have M2 := M1.below hb9; have b2 := b1.step hb9)
      | (go_at_call 34; with_reducible refine (z_1 w9).mono ?_; rintro e w10 ⟨D2, d2, e2, rfl, hd2, hb10⟩; have M3 := M2.below hb10; have b3 := b2.step hb10)
      | (go_at_call 12; with_reducible refine (SameInt_true false A4 D2 n4 c4 d2 e2 1 w10 M3.m2 hd2).mono ?_; rintro e w11 ⟨rfl, hb11⟩; have M4 := M3.below hb11; have b4 := b3.step hb11)
      | (go_at_call 38; with_reducible refine (q_m32 w11 M4.tb).mono ?_; rintro e w12 ⟨D3, d3, e3, D4, d4, e4, rfl, hd3, hd4, hb12⟩; have M5 := M4.below hb12; have b5 := b4.step hb12)
      | (go_at_call 27; with_reducible refine (sr_m32 A5 A6 D3 D4 n5 c5 n6 c6 d3 e3 d4 e4 w12 M5.m3 M5.m4 hd3 hd4).mono ?_; rintro e w13 ⟨rfl, hb13⟩; have M6 := M5.below hb13; have b6 := b5.step hb13)
      | (go_at_call 32; with_reducible refine (w_10 w13).mono ?_; rintro e w14 ⟨D5, d5, e5, D6, d6, e6, rfl, hd5, hd6, hb14⟩; have M7 := M6.below hb14; have b7 := b6.step hb14)
      | (go_at_call 27; with_reducible refine (sr_10 A7 A8 D5 D6 n7 c7 n8 c8 d5 e5 d6 e6 w14 (((((((p0.below hb8).below hb9).below hb10).below hb11).below hb12).below hb13).below hb14) (((((((q0.below hb8).below hb9).below hb10).below hb11).below hb12).below hb13).below hb14) hd5 hd6).mono ?_; rintro e w15 ⟨rfl, hb15⟩; have M8 := M7.below hb15; have b8 := b7.step hb15))
    have hE := M8.bl
    clear x0 x1 x2 x3 x4 x5 x6 x7 x8 x9 x10 x11 M0 M1 M2 M3 M4 M5 M6 M7 M8 b0 b1 b2 b3 b4 b5 b6 b7 b8 hb8 hb9 hb10 hb11 hb12 hb13 hb14 hb15 hd1 hd2 hd3 hd4 hd5 hd6 T0 p0 q0
    go_wp2
    go_ret
    exact ⟨rfl, hE⟩

end Go.Proofs.YtlfeendebbidhaaDoor
