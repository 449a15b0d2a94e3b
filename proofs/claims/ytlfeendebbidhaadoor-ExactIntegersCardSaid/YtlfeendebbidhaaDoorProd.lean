/- The contracts of product, Ratio, combine and SubRat. For all fractions with positive denominators whose limbs fit into memory. -/
import Derived.Test.YtlfeendebbidhaaDoorParts
namespace Go.Proofs.YtlfeendebbidhaaDoor
open Go.RowKit Kb

/-- The fields of a fraction with a positive denominator. -/
structure Fr (w : World) (p : Bool) (A : Option Addr) (n c a : Nat) (B : Option Addr) (m d b : Nat) : Prop where
  num : Raw w A n c a
  den : Raw w B m d b
  pos : b ≠ 0
  ln : (dig a).length ≤ 100000000
  ld : (dig b).length ≤ 100000000
theorem Fr.below {w w' : World} {p : Bool} {A B : Option Addr} {n c a m d b : Nat} (h : Fr w p A n c a B m d b) (hb : Below w.heap.size w w') : Fr w' p A n c a B m d b :=
  ⟨h.num.below hb, h.den.below hb, h.pos, h.ln, h.ld⟩

theorem below_two (w : World) (o1 o2 : Obj) : Below w.heap.size w ((w.alloc o1).alloc o2) := ((Below.refl w.heap.size w).alloc (Nat.le_refl _) o1).alloc (by simp) o2
theorem Bk.alloc2 {W : World} {g : Nat} {o : Obj} (h : Bk W g o) (o1 o2 : Obj) : Bk ((W.alloc o1).alloc o2) g o := (h.alloc o1).alloc o2
theorem box1 (w : World) (o1 o2 : Obj) : Bk ((w.alloc o1).alloc o2) w.heap.size o1 := (Bk.of_alloc w o1 rfl).alloc o2
theorem box2 (w : World) (o1 o2 : Obj) : Bk ((w.alloc o1).alloc o2) (w.heap.size + 1) o2 := Bk.of_alloc (w.alloc o1) o2 (by simp)

theorem off_four {W : World} {g h i : Nat} {u0 u1 u2 u3 v : Value} (hne : h ≠ g) (hc : W.cell? ⟨g, i, none⟩ = some v) : ((((W.setCell ⟨h, 0, none⟩ u0).setCell ⟨h, 1, none⟩ u1).setCell ⟨h, 2, none⟩ u2).setCell ⟨h, 3, none⟩ u3).cell? ⟨g, i, none⟩ = some v := by
  rw [World.cell?_setCell_other _ _ _ _ (fun e => by injection e with e1; omega), World.cell?_setCell_other _ _ _ _ (fun e => by injection e with e1; omega), World.cell?_setCell_other _ _ _ _ (fun e => by injection e with e1; omega), World.cell?_setCell_other _ _ _ _ (fun e => by injection e with e1; omega)]
  exact hc

set_option maxRecDepth 100000 in
set_option maxHeartbeats 4000000 in
theorem product_pos (p q : Bool) (A B C D : Option Addr) (n c m d n' c' m' d' a b a' b' : Nat) (w : World) (h : Fr w p A n c a B m d b) (k : Fr w q C n' c' a' D m' d' b') :
    Calls Tryd.prog 59 #[.agg #[.bool p, .slice A n c, .bool false, .slice B m d], .agg #[.bool q, .slice C n' c', .bool false, .slice D m' d']] w fun e w' => ∃ v, e = .returned v ∧ Rz w' v (toZ p a * toZ q a') (b * b' : Nat) ∧ Below w.heap.size w w' := by
  have b0 := three_new w (.cells #[.bool p, .slice A n c, .bool false, .slice B m d] 42) (.cells #[.bool q, .slice C n' c', .bool false, .slice D m' d'] 42) (.cells #[.bool false, .slice none 0 0, .bool false, .slice none 0 0] 42)
  have hB := (((Below.refl w.heap.size w).alloc (Nat.le_refl _) (.cells #[.bool p, .slice A n c, .bool false, .slice B m d] 42)).alloc (by simp) (.cells #[.bool q, .slice C n' c', .bool false, .slice D m' d'] 42)).alloc (by simp; omega) (.cells #[.bool false, .slice none 0 0, .bool false, .slice none 0 0] 42)
  obtain ⟨g, hg⟩ : ∃ g, w.heap.size = g := ⟨_, rfl⟩
  go_enter Tryd.func59, Tryd.ntmps59
  go_wp2_with fail
  rw [hg] at b0
  generalize ((w.alloc (.cells #[.bool p, .slice A n c, .bool false, .slice B m d] 42)).alloc (.cells #[.bool q, .slice C n' c', .bool false, .slice D m' d'] 42)).alloc (.cells #[.bool false, .slice none 0 0, .bool false, .slice none 0 0] 42) = W0 at *
  have h0 := h.below hB
  have k0 := k.below hB
  have HB := hid hB
  have Hg := hid hg
  obtain ⟨a0, a1, a2⟩ := b0
  obtain ⟨x0, x1, x2, x3, -, -, -, -⟩ := a0.c4
  clear hB hg h k
  go_wp2_with fail
  refine (parts_pos p A B n c m d b _ h0.den h0.pos).mono ?_
  rintro e w1 ⟨rfl, hb1⟩
  replace a0 := a0.step hb1
  replace a1 := a1.step hb1
  replace a2 := a2.step hb1
  clear x0 x1 x2 x3
  obtain ⟨x0, x1, x2, x3, -, -, -, -⟩ := a1.c4
  have l1 := a2.lt
  have hB1 := hid (bthen HB.out hb1 (Nat.le_refl _))
  have k1 := k0.below hb1
  have h1 := h0.below hb1
  have hBn := ((Below.refl w1.heap.size w1).alloc (Nat.le_refl _) (.cells #[.bool p, .slice A n c] 24)).alloc (by simp) (.cells #[.bool false, .slice B m d] 24)
  have k2 := k1.below hBn
  have h2 := h1.below hBn
  have c1 := Bk.of_alloc w1 (.cells #[.bool p, .slice A n c] 24) rfl
  replace c1 := c1.alloc (.cells #[.bool false, .slice B m d] 24)
  have c2 := Bk.of_alloc (w1.alloc (.cells #[.bool p, .slice A n c] 24)) (.cells #[.bool false, .slice B m d] 24) (g := w1.heap.size + 1) (by simp)
  replace a0 := (a0.alloc (.cells #[.bool p, .slice A n c] 24)).alloc (.cells #[.bool false, .slice B m d] 24)
  replace a1 := (a1.alloc (.cells #[.bool p, .slice A n c] 24)).alloc (.cells #[.bool false, .slice B m d] 24)
  replace a2 := (a2.alloc (.cells #[.bool p, .slice A n c] 24)).alloc (.cells #[.bool false, .slice B m d] 24)
  clear x0 x1 x2 x3
  obtain ⟨x0, x1, x2, x3, -, -, -, -⟩ := a1.c4
  have hBn' := hid hBn
  have l1' := hid l1
  clear hb1 h0 k0 k1 h1 hBn
  go_wp2_with fail
  refine (parts_pos q C D n' c' m' d' b' _ k2.den k2.pos).mono ?_
  rintro e w2 ⟨rfl, hb2⟩
  clear x0 x1 x2 x3
  replace a2 := a2.step hb2
  replace c1 := c1.step hb2
  replace c2 := c2.step hb2
  have hB2 := hid (bthen (bthen hB1.out hBn'.out (Nat.le_refl _)) hb2 (Nat.le_refl _))
  have hBm := hid (below_two w2 (.cells #[.bool q, .slice C n' c'] 24) (.cells #[.bool false, .slice D m' d'] 24))
  have h3 := (h2.below hb2).below hBm.out
  have k3 := (k2.below hb2).below hBm.out
  have e1 := box1 w2 (.cells #[.bool q, .slice C n' c'] 24) (.cells #[.bool false, .slice D m' d'] 24)
  have e2 := box2 w2 (.cells #[.bool q, .slice C n' c'] 24) (.cells #[.bool false, .slice D m' d'] 24)
  replace a2 := a2.alloc2 (.cells #[.bool q, .slice C n' c'] 24) (.cells #[.bool false, .slice D m' d'] 24)
  replace c1 := c1.alloc2 (.cells #[.bool q, .slice C n' c'] 24) (.cells #[.bool false, .slice D m' d'] 24)
  replace c2 := c2.alloc2 (.cells #[.bool q, .slice C n' c'] 24) (.cells #[.bool false, .slice D m' d'] 24)
  have hB3 := hid (bthen hB2.out hBm.out (Nat.le_refl _))
  obtain ⟨u0, u1, -, -⟩ := c1.c2
  obtain ⟨u2, u3, -, -⟩ := c2.c2
  obtain ⟨u4, u5, -, -⟩ := e1.c2
  obtain ⟨u6, u7, -, -⟩ := e2.c2
  clear h2 k2
  go_wp2_with fail
  have hsz : w1.heap.size + 1 < w2.heap.size := by have := e1.lt; have := hb2.size; simp at this; omega
  clear hb2
  generalize (w2.alloc (.cells #[.bool q, .slice C n' c'] 24)).alloc (.cells #[.bool false, .slice D m' d'] 24) = W3 at *
  generalize w1.heap.size = g1 at *
  generalize w2.heap.size = g2 at *
  replace hB3 := hid hB3.out.drew
  have h4 : Fr W3.drew p A n c a B m d b := h3.below (Below.refl _ _).drew
  have k4 : Fr W3.drew q C n' c' a' D m' d' b' := k3.below (Below.refl _ _).drew
  have j2 : Bk W3.drew (g + 1 + 1) _ := a2
  have j3 : Bk W3.drew g1 _ := c1
  have j4 : Bk W3.drew (g1 + 1) _ := c2
  have j5 : Bk W3.drew g2 _ := e1
  have j6 : Bk W3.drew (g2 + 1) _ := e2
  clear h3 k3 a2 c1 c2 e1 e2
  go_region_held3 (fun w' => w'.cell? ⟨g1, 0, none⟩ = some (.bool p) ∧ w'.cell? ⟨g1, 1, none⟩ = some (.slice A n c) ∧ w'.cell? ⟨g1 + 1, 0, none⟩ = some (.bool false) ∧ w'.cell? ⟨g1 + 1, 1, none⟩ = some (.slice B m d) ∧ w'.cell? ⟨g2, 0, none⟩ = some (.bool q) ∧ w'.cell? ⟨g2, 1, none⟩ = some (.slice C n' c') ∧ w'.cell? ⟨g2 + 1, 0, none⟩ = some (.bool false) ∧ w'.cell? ⟨g2 + 1, 1, none⟩ = some (.slice D m' d')) (first | exact ⟨u0, u1, u2, u3, u4, u5, u6, u7⟩ | exact ⟨y0, y1, y2, y3, y4, y5, y6, y7⟩ | exact ⟨z0, z1, z2, z3, z4, z5, z6, z7⟩ | exact ⟨off_four (by omega) z0, off_four (by omega) z1, off_four (by omega) z2, off_four (by omega) z3, off_four (by omega) z4, off_four (by omega) z5, off_four (by omega) z6, off_four (by omega) z7⟩) (first
    | (go_at_call 22; with_reducible refine (nz_openb (Mul_any p q A C n c n' c' a a' W3.drew h4.num k4.num (by have := h4.ln; omega) (by have := k4.ln; omega))).mono ?_; rintro e w4 ⟨s1, A1, n1, c1, rfl, hs1, hn1, hb4⟩; replace j2 := j2.step hb4; replace j3 := j3.step hb4; replace j4 := j4.step hb4; replace j5 := j5.step hb4; replace j6 := j6.step hb4; obtain ⟨y0, y1, -, -⟩ := j3.c2; obtain ⟨y2, y3, -, -⟩ := j4.c2; obtain ⟨y4, y5, -, -⟩ := j5.c2; obtain ⟨y6, y7, -, -⟩ := j6.c2)
    | (go_at_call 22; with_reducible refine (nz_openb (Mul_any false false B D m d m' d' b b' w4 (h4.below hb4).den (k4.below hb4).den (by have := h4.ld; omega) (by have := k4.ld; omega))).mono ?_; rintro e w5 ⟨s2, A2, n2, c2, rfl, hs2, hn2, hb5⟩; replace j2 := j2.step hb5; replace j3 := j3.step hb5; replace j4 := j4.step hb5; replace j5 := j5.step hb5; replace j6 := j6.step hb5; obtain ⟨z0, z1, -, -⟩ := j3.c2; obtain ⟨z2, z3, -, -⟩ := j4.c2; obtain ⟨z4, z5, -, -⟩ := j5.c2; obtain ⟨z6, z7, -, -⟩ := j6.c2; have hl5 := j2.lt; obtain ⟨t0, t1, t2, t3, t4, t5, t6, t7⟩ := j2.c4))
  have h5 := bthen (bthen hB3.out hb4 (Nat.le_refl _)) hb5 (Nat.le_refl _)
  have hgl := Hg.out
  have hN1 := hn1.below hb5
  have h6 := hid (below4 h5 (show w.heap.size ≤ g + 1 + 1 by omega) (.bool s1) (.slice A1 n1 c1) (.bool s2) (.slice A2 n2 c2))
  have m1 := hid (hN1.offbox j2 (noInt_four _ _ _ _ _ _ _ _) (gb4 _ _ (.bool s1) (.slice A1 n1 c1) (.bool s2) (.slice A2 n2 c2)))
  have m2 := hid (hn2.offbox j2 (noInt_four _ _ _ _ _ _ _ _) (gb4 _ _ (.bool s1) (.slice A1 n1 c1) (.bool s2) (.slice A2 n2 c2)))
  clear u0 u1 u2 u3 u4 u5 u6 u7 y0 y1 y2 y3 y4 y5 y6 y7 z0 z1 z2 z3 z4 z5 z6 z7 hgl h5 hn1 hn2 hN1 j2 j3 j4 j5 j6 hb4 hb5 a0 a1
  go_wp2
  exact bodyPost_ret (v := .agg #[.bool s1, .slice A1 n1 c1, .bool s2, .slice A2 n2 c2]) (by simp [results, Tryd.results59, go_sem, t0, t1, t2, t3]) rfl ⟨_, rfl, ⟨s1, A1, n1, c1, s2, A2, n2, c2, rfl, hs1, hid (by rw [hs2.out]; unfold toZ; rw [if_neg (by decide), if_neg (by decide), Int.natCast_mul]), m1.out, by have := m2.out; unfold toZ at this; rw [if_neg (by decide), if_neg (by decide), ← Int.natCast_mul] at this; exact this⟩, h6.out⟩

end Go.Proofs.YtlfeendebbidhaaDoor
