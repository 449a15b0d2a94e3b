/- The contract of fraction, given that of commonDivisor at its numbers. For all integers whose limbs fit into memory, the denominator not 0. -/
import Derived.Test.YtlfeendebbidhaaDoorZero
namespace Go.Proofs.YtlfeendebbidhaaDoor
open Go.RowKit Kb

/-- The table of the library stands. -/
def Tb (w : World) : Prop := Tab w ∧ 0 < w.heap.size
theorem Tb.below {w w' : World} (h : Tb w) (hb : Below w.heap.size w w') : Tb w' := ⟨h.1.below hb h.2, Nat.lt_of_lt_of_le h.2 hb.size⟩
/-- The contract of commonDivisor at two numbers. -/
def CD (a b : Nat) : Prop := ∀ (v u : Value) (w : World), Nm w v a → Nm w u b → Tb w →
  Calls Tryd.prog 76 #[v, u] w fun e w' => ∃ r, e = .returned r ∧ Nm w' r (Nat.gcd a b) ∧ Below w.heap.size w w'

/-- A block that stands. -/
def Bk (W : World) (g : Nat) (o : Obj) : Prop := W.heap[g]? = some o
theorem Bk.below {W W' : World} {g N : Nat} {o : Obj} (h : Bk W g o) (hb : Below N W W') (hN : g < N) : Bk W' g o := (hb.block _ hN).trans h
theorem Bk.step {W W' : World} {g : Nat} {o : Obj} (h : Bk W g o) (hb : Below W.heap.size W W') : Bk W' g o := h.below hb (Array.getElem?_eq_some_iff.1 h).1
theorem Bk.lt {W : World} {g : Nat} {o : Obj} (h : Bk W g o) : g < W.heap.size := (Array.getElem?_eq_some_iff.1 h).1
theorem Bk.of_alloc (w : World) (o : Obj) {g : Nat} (hg : w.heap.size = g) : Bk (w.alloc o) g o := by subst hg; exact heap_alloc_new w o
theorem Bk.alloc {W : World} {g : Nat} {o : Obj} (h : Bk W g o) (o' : Obj) : Bk (W.alloc o') g o := (Below.heap_alloc _ _ _ h.lt).trans h
theorem Bk.set {W : World} {g : Nat} {o : Obj} (h : Bk W g o) {p : Addr} (hp : g ≠ p.block) (u : Value) : Bk (W.setCell p u) g o := (Below.heap_setCell W p u g hp).trans h
theorem Bk.c2 {W : World} {g : Nat} {a b : Value} {T : TypeId} (h : Bk W g (.cells #[a, b] T (0, 0))) :
    W.cell? ⟨g, 0, none⟩ = some a ∧ W.cell? ⟨g, 1, none⟩ = some b ∧ W.frozen? ⟨g, 0, none⟩ = false ∧ W.frozen? ⟨g, 1, none⟩ = false := cells2 h
theorem Bk.c4 {W : World} {g : Nat} {a b c d : Value} {T : TypeId} (h : Bk W g (.cells #[a, b, c, d] T (0, 0))) :
    W.cell? ⟨g, 0, none⟩ = some a ∧ W.cell? ⟨g, 1, none⟩ = some b ∧ W.cell? ⟨g, 2, none⟩ = some c ∧ W.cell? ⟨g, 3, none⟩ = some d ∧ W.frozen? ⟨g, 0, none⟩ = false ∧ W.frozen? ⟨g, 1, none⟩ = false ∧ W.frozen? ⟨g, 2, none⟩ = false ∧ W.frozen? ⟨g, 3, none⟩ = false := cells4 h
theorem three_new (w : World) (o1 o2 o3 : Obj) : Bk (((w.alloc o1).alloc o2).alloc o3) w.heap.size o1 ∧ Bk (((w.alloc o1).alloc o2).alloc o3) (w.heap.size + 1) o2 ∧ Bk (((w.alloc o1).alloc o2).alloc o3) (w.heap.size + 1 + 1) o3 :=
  ⟨((Bk.of_alloc w o1 rfl).alloc o2).alloc o3, (Bk.of_alloc (w.alloc o1) o2 (by simp)).alloc o3, Bk.of_alloc ((w.alloc o1).alloc o2) o3 (by simp)⟩

theorem integer_same (p q : Bool) {v : Value} {a : Nat} {w : World} (h : Nm w v a) :
    Calls Tryd.prog 42 #[.bool (!(p == q)), v] w fun e w' => ∃ v, e = .returned v ∧ Nz w' v (toZ (p != q) a) ∧ Below w.heap.size w w' := integer_nm (neg := (!(p == q))) h

set_option maxRecDepth 100000 in
set_option maxHeartbeats 4000000 in
theorem fraction_one (p q : Bool) (A B : Option Addr) (n c m d a b : Nat) (w : World) (h : Raw w A n c a) (k : Raw w B m d b) (hT : Tb w) (hC : CD a b) (hg1 : Nat.gcd a b = 1) :
    Calls Tryd.prog 60 #[.agg #[.bool p, .slice A n c], .agg #[.bool q, .slice B m d]] w fun e w' => ∃ v, e = .returned v ∧ Rz w' v (toZ (p != q) a) b ∧ Below w.heap.size w w' := by
  have b0 := three_new w (.cells #[.bool p, .slice A n c] 24) (.cells #[.bool q, .slice B m d] 24) (.cells #[.bool false, .slice none 0 0, .bool false, .slice none 0 0] 42)
  have hB := (((Below.refl w.heap.size w).alloc (Nat.le_refl _) (.cells #[.bool p, .slice A n c] 24)).alloc (by simp) (.cells #[.bool q, .slice B m d] 24)).alloc (by simp; omega) (.cells #[.bool false, .slice none 0 0, .bool false, .slice none 0 0] 42)
  obtain ⟨g, hg⟩ : ∃ g, w.heap.size = g := ⟨_, rfl⟩
  go_enter Tryd.func60, Tryd.ntmps60
  go_wp2_with fail
  rw [hg] at b0
  generalize ((w.alloc (.cells #[.bool p, .slice A n c] 24)).alloc (.cells #[.bool q, .slice B m d] 24)).alloc (.cells #[.bool false, .slice none 0 0, .bool false, .slice none 0 0] 42) = W0 at *
  have h0 : Raw W0.drew A n c a := h.below hB.drew
  have k0 : Raw W0.drew B m d b := k.below hB.drew
  have T0 : Tb W0.drew := hT.below hB.drew
  have HB := hid hB.drew
  have Hg := hid hg
  have hab : Bk W0.drew g _ ∧ Bk W0.drew (g + 1) _ ∧ Bk W0.drew (g + 1 + 1) _ := b0
  obtain ⟨a0, a1, a2⟩ := hab
  obtain ⟨x0, x1, -, -⟩ := b0.1.c2
  obtain ⟨x2, x3, -, -⟩ := b0.2.1.c2
  have Hg1 := hid hg1
  have l0 := a2.lt
  have l0' := b0.2.2.lt
  clear hB hg h k hT hg1 b0
  go_region_held3 (fun w' => w'.cell? ⟨g, 0, none⟩ = some (.bool p) ∧ w'.cell? ⟨g, 1, none⟩ = some (.slice A n c) ∧ w'.cell? ⟨g + 1, 0, none⟩ = some (.bool q) ∧ w'.cell? ⟨g + 1, 1, none⟩ = some (.slice B m d)) (first | exact ⟨x0, x1, x2, x3⟩ | exact ⟨y0, y1, y2, y3⟩ | exact ⟨z0, z1, z2, z3⟩) (first
    | (go_at_call 39; with_reducible refine (size_any p A n c a W0.drew h0).mono ?_; rintro e w1 ⟨v1, rfl, hv1, hb1⟩; replace a0 := a0.step hb1; replace a1 := a1.step hb1; replace a2 := a2.step hb1; obtain ⟨y0, y1, -, -⟩ := a0.c2; obtain ⟨y2, y3, -, -⟩ := a1.c2)
    | (go_at_call 39; with_reducible refine (size_any q B m d b _ (k0.below hb1)).mono ?_; rintro e w2 ⟨v2, rfl, hv2, hb2⟩; replace a0 := a0.step hb2; replace a1 := a1.step hb2; replace a2 := a2.step hb2; obtain ⟨z0, z1, -, -⟩ := a0.c2; obtain ⟨z2, z3, -, -⟩ := a1.c2))
  have T2 := (T0.below hb1).below hb2
  have hB2 := hid (bthen (bthen HB.out hb1 (Nat.le_refl _)) hb2 (Nat.le_refl _))
  have u1 := hv1.below hb2
  clear x0 x1 x2 x3 y0 y1 y2 y3 hb1 hb2 hv1
  go_wp2_with fail
  refine (hC v1 v2 _ u1 hv2 T2).mono ?_
  rintro e w3 ⟨v3, rfl, hv3, hb3⟩
  replace a0 := a0.step hb3
  replace a1 := a1.step hb3
  replace a2 := a2.step hb3
  rw [Hg1.out] at hv3
  go_wp2_with fail
  refine (isOne_nm hv3).mono ?_
  rintro e w4 ⟨rfl, rfl⟩
  obtain ⟨x0, x1, -, -⟩ := a0.c2
  obtain ⟨x2, x3, -, -⟩ := a1.c2
  go_wp2_with fail
  have hB3 := hid (bthen hB2.out hb3 (Nat.le_refl _))
  have U1 := u1.below hb3
  have U2 := hv2.below hb3
  refine (nz_openb (integer_same p q U1)).mono ?_
  rintro e w5 ⟨s1, A1, n1, c1, rfl, hs1, hn1, hb5⟩
  replace a2 := a2.step hb5
  go_wp2_with fail
  refine (nz_openb (integer_nm (neg := false) (U2.below hb5))).mono ?_
  rintro e w6 ⟨s2, A2, n2, c2, rfl, hs2, hn2, hb6⟩
  replace a2 := a2.step hb6
  have hN1 := hn1.below hb6
  have h5 := bthen (bthen hB3.out hb5 (Nat.le_refl _)) hb6 (Nat.le_refl _)
  have hgl := Hg.out
  have h4 := hid (below4 h5 (show w.heap.size ≤ g + 1 + 1 by omega) (.bool s1) (.slice A1 n1 c1) (.bool s2) (.slice A2 n2 c2))
  have m1 := hid (hN1.offbox a2 (noInt_four _ _ _ _ _ _ _ _) (gb4 _ _ (.bool s1) (.slice A1 n1 c1) (.bool s2) (.slice A2 n2 c2)))
  have m2 := hid (hn2.offbox a2 (noInt_four _ _ _ _ _ _ _ _) (gb4 _ _ (.bool s1) (.slice A1 n1 c1) (.bool s2) (.slice A2 n2 c2)))
  obtain ⟨t0, t1, t2, t3, t4, t5, t6, t7⟩ := a2.c4
  clear x0 x1 x2 x3 hgl h5 hn1 hn2 hN1 a2 U1 U2 hb5 hb6
  go_wp2
  exact bodyPost_ret (v := .agg #[.bool s1, .slice A1 n1 c1, .bool s2, .slice A2 n2 c2]) (by simp [results, Tryd.results60, go_sem, t0, t1, t2, t3]) rfl ⟨_, rfl, ⟨s1, A1, n1, c1, s2, A2, n2, c2, rfl, hs1, hid (by rw [hs2.out]; rfl), m1.out, m2.out⟩, h4.out⟩

set_option maxRecDepth 100000 in
set_option maxHeartbeats 4000000 in
theorem fraction_div (p q : Bool) (A B : Option Addr) (n c m d a b : Nat) (w : World) (h : Raw w A n c a) (k : Raw w B m d b) (hT : Tb w) (hC : CD a b) (hg1 : Nat.gcd a b ≠ 1) (hb0 : b ≠ 0) (ha : (dig a).length ≤ 400000000) (hb : (dig b).length ≤ 400000000) :
    Calls Tryd.prog 60 #[.agg #[.bool p, .slice A n c], .agg #[.bool q, .slice B m d]] w fun e w' => ∃ v, e = .returned v ∧ Rz w' v (toZ (p != q) (a / Nat.gcd a b)) ((b / Nat.gcd a b : Nat)) ∧ Below w.heap.size w w' := by
  have b0 := three_new w (.cells #[.bool p, .slice A n c] 24) (.cells #[.bool q, .slice B m d] 24) (.cells #[.bool false, .slice none 0 0, .bool false, .slice none 0 0] 42)
  have hB := (((Below.refl w.heap.size w).alloc (Nat.le_refl _) (.cells #[.bool p, .slice A n c] 24)).alloc (by simp) (.cells #[.bool q, .slice B m d] 24)).alloc (by simp; omega) (.cells #[.bool false, .slice none 0 0, .bool false, .slice none 0 0] 42)
  obtain ⟨g, hg⟩ : ∃ g, w.heap.size = g := ⟨_, rfl⟩
  go_enter Tryd.func60, Tryd.ntmps60
  go_wp2_with fail
  rw [hg] at b0
  generalize ((w.alloc (.cells #[.bool p, .slice A n c] 24)).alloc (.cells #[.bool q, .slice B m d] 24)).alloc (.cells #[.bool false, .slice none 0 0, .bool false, .slice none 0 0] 42) = W0 at *
  have h0 : Raw W0.drew A n c a := h.below hB.drew
  have k0 : Raw W0.drew B m d b := k.below hB.drew
  have T0 : Tb W0.drew := hT.below hB.drew
  have HB := hid hB.drew
  have Hg := hid hg
  have hab : Bk W0.drew g _ ∧ Bk W0.drew (g + 1) _ ∧ Bk W0.drew (g + 1 + 1) _ := b0
  obtain ⟨a0, a1, a2⟩ := hab
  obtain ⟨x0, x1, -, -⟩ := b0.1.c2
  obtain ⟨x2, x3, -, -⟩ := b0.2.1.c2
  have Hg1 := hid (decide_eq_false hg1)
  have Hg0 := hid (show Nat.gcd a b ≠ 0 from fun e => hb0 (Nat.eq_zero_of_gcd_eq_zero_right e))
  clear hb0
  have l0 := a2.lt
  have l0' := b0.2.2.lt
  clear hB hg h k hT hg1 b0
  go_region_held3 (fun w' => w'.cell? ⟨g, 0, none⟩ = some (.bool p) ∧ w'.cell? ⟨g, 1, none⟩ = some (.slice A n c) ∧ w'.cell? ⟨g + 1, 0, none⟩ = some (.bool q) ∧ w'.cell? ⟨g + 1, 1, none⟩ = some (.slice B m d)) (first | exact ⟨x0, x1, x2, x3⟩ | exact ⟨y0, y1, y2, y3⟩ | exact ⟨z0, z1, z2, z3⟩) (first
    | (go_at_call 39; with_reducible refine (size_any p A n c a W0.drew h0).mono ?_; rintro e w1 ⟨v1, rfl, hv1, hb1⟩; replace a0 := a0.step hb1; replace a1 := a1.step hb1; replace a2 := a2.step hb1; obtain ⟨y0, y1, -, -⟩ := a0.c2; obtain ⟨y2, y3, -, -⟩ := a1.c2)
    | (go_at_call 39; with_reducible refine (size_any q B m d b _ (k0.below hb1)).mono ?_; rintro e w2 ⟨v2, rfl, hv2, hb2⟩; replace a0 := a0.step hb2; replace a1 := a1.step hb2; replace a2 := a2.step hb2; obtain ⟨z0, z1, -, -⟩ := a0.c2; obtain ⟨z2, z3, -, -⟩ := a1.c2))
  have T2 := (T0.below hb1).below hb2
  have hB2 := hid (bthen (bthen HB.out hb1 (Nat.le_refl _)) hb2 (Nat.le_refl _))
  have u1 := hv1.below hb2
  clear x0 x1 x2 x3 y0 y1 y2 y3 hb1 hb2 hv1
  go_wp2_with fail
  refine (hC v1 v2 _ u1 hv2 T2).mono ?_
  rintro e w3 ⟨v3, rfl, hv3, hb3⟩
  replace a0 := a0.step hb3
  replace a1 := a1.step hb3
  replace a2 := a2.step hb3
  go_wp2_with fail
  refine (isOne_nm hv3).mono ?_
  rintro e w4 ⟨rfl, rfl⟩
  rw [Hg1.out]
  have hB3' := hid (bthen hB2.out hb3 (Nat.le_refl _))
  go_wp2_with fail
  refine (divLimbs_nm (u1.below hb3) hv3 Hg0.out ha).mono ?_
  rintro e w7 ⟨v7, r7, rfl, hv7, -, hb7⟩
  replace a0 := a0.step hb7
  replace a1 := a1.step hb7
  replace a2 := a2.step hb7
  go_wp2_with fail
  refine (divLimbs_nm ((hv2.below hb3).below hb7) (hv3.below hb7) Hg0.out hb).mono ?_
  rintro e w8 ⟨v8, r8, rfl, hv8, -, hb8⟩
  replace a0 := a0.step hb8
  replace a1 := a1.step hb8
  replace a2 := a2.step hb8
  obtain ⟨x0, x1, -, -⟩ := a0.c2
  obtain ⟨x2, x3, -, -⟩ := a1.c2
  have hB3 := hid (bthen (bthen hB3'.out hb7 (Nat.le_refl _)) hb8 (Nat.le_refl _))
  have U1 := hv7.below hb8
  have U2 := hv8
  clear hb3 hb7 hb8 hv7 hv8 hv3 hv2 u1
  go_wp2_with fail
  refine (nz_openb (integer_same p q U1)).mono ?_
  rintro e w5 ⟨s1, A1, n1, c1, rfl, hs1, hn1, hb5⟩
  replace a2 := a2.step hb5
  go_wp2_with fail
  refine (nz_openb (integer_nm (neg := false) (U2.below hb5))).mono ?_
  rintro e w6 ⟨s2, A2, n2, c2, rfl, hs2, hn2, hb6⟩
  replace a2 := a2.step hb6
  have hN1 := hn1.below hb6
  have h5 := bthen (bthen hB3.out hb5 (Nat.le_refl _)) hb6 (Nat.le_refl _)
  have hgl := Hg.out
  have h4 := hid (below4 h5 (show w.heap.size ≤ g + 1 + 1 by omega) (.bool s1) (.slice A1 n1 c1) (.bool s2) (.slice A2 n2 c2))
  have m1 := hid (hN1.offbox a2 (noInt_four _ _ _ _ _ _ _ _) (gb4 _ _ (.bool s1) (.slice A1 n1 c1) (.bool s2) (.slice A2 n2 c2)))
  have m2 := hid (hn2.offbox a2 (noInt_four _ _ _ _ _ _ _ _) (gb4 _ _ (.bool s1) (.slice A1 n1 c1) (.bool s2) (.slice A2 n2 c2)))
  obtain ⟨t0, t1, t2, t3, t4, t5, t6, t7⟩ := a2.c4
  clear x0 x1 x2 x3 hgl h5 hn1 hn2 hN1 a2 U1 U2 hb5 hb6
  go_wp2
  exact bodyPost_ret (v := .agg #[.bool s1, .slice A1 n1 c1, .bool s2, .slice A2 n2 c2]) (by simp [results, Tryd.results60, go_sem, t0, t1, t2, t3]) rfl ⟨_, rfl, ⟨s1, A1, n1, c1, s2, A2, n2, c2, rfl, hs1, hid (by rw [hs2.out]; rfl), m1.out, m2.out⟩, h4.out⟩

end Go.Proofs.YtlfeendebbidhaaDoor
