/- The contract of total.add at whole numbers. For all integers whose limbs fit into memory. -/
import Derived.Test.YtlfeendebbidhaaDoorTot
namespace Go.Proofs.YtlfeendebbidhaaDoor
open Go.RowKit Kb

theorem Bk.put2 {w : World} {g : Nat} {a b c d : Value} {T : TypeId} (h : Bk w g (.cells #[a, b, c, d] T (0, 0))) (x y : Value) : Bk ((w.setCell ⟨g, 0, none⟩ x).setCell ⟨g, 1, none⟩ y) g (.cells #[x, y, c, d] T (0, 0)) := by
  unfold Bk at h ⊢
  simp only [World.setCell, Array.getElem?_modify, h]
  simp

set_option maxRecDepth 100000 in
set_option maxHeartbeats 2000000 in
theorem total_add (g : Nat) (z x : Int) (s : Bool) (A B : Option Addr) (n c m d : Nat) (w : World) (h : Tot w g z) (k : Nm w (.slice A n c) x.natAbs) (hs : Hid (s = decide (x < 0))) (kd : Nm w (.slice B m d) 1) (hlz : (dig z.natAbs).length ≤ 100000000) (hlx : (dig x.natAbs).length ≤ 100000000) :
    Calls Tryd.prog 83 #[.pointer (some ⟨g, 0, none⟩), .agg #[.bool s, .slice A n c, .bool false, .slice B m d]] w fun e w' => e = .returned (.tuple #[]) ∧ Tot w' g (z + x) ∧ w.grownBy w' (some g) := by
  have hal := (Below.refl w.heap.size w).alloc (Nat.le_refl _) (.cells #[.bool s, .slice A n c, .bool false, .slice B m d] 42)
  have Hlt := h.lt
  have h0 := h.below hal
  have k0 := k.below hal
  have kd0 := kd.below hal
  clear h k kd
  go_enter Tryd.func83, Tryd.ntmps83
  go_wp2_with fail
  refine (parts_pos s A B n c m d 1 _ kd0.raw (by decide)).mono ?_
  rintro e w1 ⟨rfl, hb1⟩
  have h1 := h0.below hb1
  have k1 := k0.below hb1
  have kd1 := kd0.below hb1
  have hB1 := hid (bthen hal hb1 (Nat.le_refl _))
  have hal2 := below_two w1 (.cells #[.bool s, .slice A n c] 24) (.cells #[.bool false, .slice B m d] 24)
  have h2 := h1.below hal2.drew
  have k2 := k1.below hal2.drew
  have kd2 := kd1.below hal2.drew
  have e1 : Bk (((w1.alloc (.cells #[.bool s, .slice A n c] 24)).alloc (.cells #[.bool false, .slice B m d] 24))).drew w1.heap.size _ := box1 w1 (.cells #[.bool s, .slice A n c] 24) (.cells #[.bool false, .slice B m d] 24)
  have e2 : Bk (((w1.alloc (.cells #[.bool s, .slice A n c] 24)).alloc (.cells #[.bool false, .slice B m d] 24))).drew (w1.heap.size + 1) _ := box2 w1 (.cells #[.bool s, .slice A n c] 24) (.cells #[.bool false, .slice B m d] 24)
  have hB2 := hid ((bthen hB1.out hal2 (Nat.le_refl _)).drew)
  have hlt1 : g < w1.heap.size := h1.lt
  clear hb1 hal h0 k0 kd0 h1 k1 kd1 hal2
  generalize hW : (w1.alloc (.cells #[.bool s, .slice A n c] 24)).alloc (.cells #[.bool false, .slice B m d] 24) = W2 at *
  go_wp2_with fail
  obtain ⟨s1, A1, n1, c1, s2, A2, n2, c2, hb, hs1, hs2, hn1, hn2⟩ := h2
  obtain rfl : s2 = false := hs2.out
  clear hW
  obtain ⟨g1, hg1⟩ : ∃ g1, w1.heap.size = g1 := ⟨_, rfl⟩
  rw [hg1] at e1 e2 hlt1 ⊢
  have q1 : Bk W2 g1 _ := e1
  have q2 : Bk W2 (g1 + 1) _ := e2
  have q3 : Bk W2 g _ := hb
  obtain ⟨u0, u1, -, -⟩ := q1.c2
  obtain ⟨u2, u3, -, -⟩ := q2.c2
  obtain ⟨u4, u5, u6, u7, -, -, -, -⟩ := q3.c4
  have hl := e2.lt
  have hl' := q2.lt
  go_region_held3 (fun w' => w'.cell? ⟨g1, 0, none⟩ = some (.bool s) ∧ w'.cell? ⟨g1, 1, none⟩ = some (.slice A n c) ∧ w'.cell? ⟨g1 + 1, 0, none⟩ = some (.bool false) ∧ w'.cell? ⟨g1 + 1, 1, none⟩ = some (.slice B m d) ∧ w'.cell? ⟨g, 0, none⟩ = some (.bool s1) ∧ w'.cell? ⟨g, 1, none⟩ = some (.slice A1 n1 c1) ∧ w'.cell? ⟨g, 2, none⟩ = some (.bool false) ∧ w'.cell? ⟨g, 3, none⟩ = some (.slice A2 n2 c2)) (first | exact ⟨u0, u1, u2, u3, u4, u5, u6, u7⟩ | exact ⟨v0, v1, v2, v3, v4, v5, v6, v7⟩ | exact ⟨x0, x1, x2, x3, x4, x5, x6, x7⟩ | exact ⟨y0, y1, y2, y3, y4, y5, y6, y7⟩) (first
    | (go_at_call 39; with_reducible refine (size_any false B m d 1 W2.drew kd2.raw).mono ?_; rintro e w4 ⟨r1, rfl, hr1, hb4⟩; replace e1 := e1.step hb4; replace e2 := e2.step hb4; replace hb := hb.step hb4; obtain ⟨v0, v1, -, -⟩ := e1.c2; obtain ⟨v2, v3, -, -⟩ := e2.c2; obtain ⟨v4, v5, v6, v7, -, -, -, -⟩ := hb.c4)
    | (go_at_call 39; with_reducible refine (size_any false A2 n2 c2 1 w4 (hn2.below hb4).raw).mono ?_; rintro e w5 ⟨r2, rfl, hr2, hb5⟩; replace e1 := e1.step hb5; replace e2 := e2.step hb5; replace hb := hb.step hb5; obtain ⟨x0, x1, -, -⟩ := e1.c2; obtain ⟨x2, x3, -, -⟩ := e2.c2; obtain ⟨x4, x5, x6, x7, -, -, -, -⟩ := hb.c4)
    | (go_at_call 50; with_reducible refine (compareLimbs_nm (hr1.below hb5) hr2).mono ?_; rintro e w6 ⟨rfl, hq6⟩; have hb6 := hq6.below w5.heap.size; replace e1 := e1.step hb6; replace e2 := e2.step hb6; replace hb := hb.step hb6; obtain ⟨y0, y1, -, -⟩ := e1.c2; obtain ⟨y2, y3, -, -⟩ := e2.c2; obtain ⟨y4, y5, y6, y7, -, -, -, -⟩ := hb.c4))
  rw [sgn_eq]
  have hB6 := hid (bthen (bthen (bthen hB2.out hb4 (Nat.le_refl _)) hb5 (Nat.le_refl _)) hb6 (Nat.le_refl _))
  have f1 := ((hn1.below hb4).below hb5).below hb6
  have f2 := ((hn2.below hb4).below hb5).below hb6
  have f3 := ((k2.below hb4).below hb5).below hb6
  clear u0 u1 u2 u3 u4 u5 u6 u7 v0 v1 v2 v3 v4 v5 v6 v7 x0 x1 x2 x3 x4 x5 x6 x7 hb4 hb5 hb6 hq6 hr1 hr2 hn1 hn2 k2 kd2 q1 q2 q3
  go_wp2_with fail
  obtain ⟨-, -, -, -, z0, z1, z2, z3⟩ := hb.c4
  have j1 : Nm w6.drew (.slice A1 n1 c1) z.natAbs := f1
  have j2 : Nm w6.drew (.slice A2 n2 c2) 1 := f2
  have j3 : Nm w6.drew (.slice A n c) x.natAbs := f3
  have hbd : Bk w6.drew g _ := hb
  have hB7 := hid hB6.out.drew
  have hltg := hb.lt
  go_region_with (go_at_call 18; with_reducible refine (nz_openb (Add_any s1 s A1 A n1 c1 n c z.natAbs x.natAbs w6.drew j1.raw j3.raw (by omega) (by omega))).mono ?_; rintro e w8 ⟨t1, A3, n3, c3, rfl, ht1, hn3, hb8⟩; have hbe := hbd.step hb8; obtain ⟨i0, i1, i2, i3, i4, i5, i6, i7⟩ := hbe.c4)
  all_goals
    have hB8 := bthen hB7.out hb8 (Nat.le_refl _)
    have hgb := hid (gb_set (gb_set (gb_of_below (r := some g) hB8) 0 (.bool t1)) 1 (.slice A3 n3 c3))
    have hbk := hid (hbe.put2 (.bool t1) (.slice A3 n3 c3))
    have hm1 := hid (hn3.offbox hbe (noInt_four _ _ _ _ _ _ _ _) (gb2 w8 g 0 1 (.bool t1) (.slice A3 n3 c3)))
    have hm2 := hid ((j2.below hb8).offbox hbe (noInt_four _ _ _ _ _ _ _ _) (gb2 w8 g 0 1 (.bool t1) (.slice A3 n3 c3)))
    have ez : toZ s1 z.natAbs + toZ s x.natAbs = z + x := by rw [hs1.out, hs.out, toZ_of, toZ_of]
    rw [ez] at ht1 hm1
    have HT := hid (show Tot ((w8.setCell ⟨g, 0, none⟩ (.bool t1)).setCell ⟨g, 1, none⟩ (.slice A3 n3 c3)) g (z + x) from ⟨t1, A3, n3, c3, false, A2, n2, c2, hbk.out, ht1, hid rfl, hm1.out, hm2.out⟩)
    clear hB8 hn3 hbe i0 i1 i2 i3 i4 i5 i6 i7 hb8 j1 j2 j3 hbd y0 y1 y2 y3 y4 y5 y6 y7 e1 e2 hb z0 z1 z2 z3 f1 f2 f3 hbk hm1 hm2
    go_wp2
    go_end0
    exact ⟨rfl, HT.out, hgb.out⟩

end Go.Proofs.YtlfeendebbidhaaDoor
