/- The contracts of combine, AddRat and SubRat in general. -/
import Derived.Test.YtffipjofefemiaaGreatDoorMG
namespace Go.Proofs.YtffipjofefemiaaGreatDoor
open Go.RowKit Kb

set_option maxRecDepth 100000 in
set_option maxHeartbeats 80000000 in
theorem combine_Add {w : World} {s1 s2 t1 t2 : Bool} {A1 A2 B1 B2 : Option Addr} {n1 c1 n2 c2 m1 d1 m2 d2 k l : Nat} {x y : Rat} (h : Qi w s1 A1 n1 c1 s2 A2 n2 c2 k x) (g0 : Qi w t1 B1 m1 d1 t2 B2 m2 d2 l y) (hk0 : 0 < k) (hl0 : 0 < l) (hk : k ≤ 400) (hl : l ≤ 400) (hT : Tb w) :
    Calls Tryz.prog 67 #[.agg #[.bool s1, .slice A1 n1 c1, .bool s2, .slice A2 n2 c2], .agg #[.bool t1, .slice B1 m1 d1, .bool t2, .slice B2 m2 d2], .func (.func 68) #[] #[]] w fun e w' => ∃ s1 A1 n1 c1 s2 A2 n2 c2, e = .returned (.agg #[.bool s1, .slice A1 n1 c1, .bool s2, .slice A2 n2 c2]) ∧ Qf w' s1 A1 n1 c1 s2 A2 n2 c2 (x + y) ∧ Below w.heap.size w w' := by
  have b0 := three_new w (.cells #[.bool s1, .slice A1 n1 c1, .bool s2, .slice A2 n2 c2] 26) (.cells #[.bool t1, .slice B1 m1 d1, .bool t2, .slice B2 m2 d2] 26) (.cells #[.bool false, .slice none 0 0, .bool false, .slice none 0 0] 26)
  have hB := (((Below.refl w.heap.size w).alloc (Nat.le_refl _) (.cells #[.bool s1, .slice A1 n1 c1, .bool s2, .slice A2 n2 c2] 26)).alloc (by simp) (.cells #[.bool t1, .slice B1 m1 d1, .bool t2, .slice B2 m2 d2] 26)).alloc (by simp; omega) (.cells #[.bool false, .slice none 0 0, .bool false, .slice none 0 0] 26)
  obtain ⟨g, hg⟩ : ∃ g, w.heap.size = g := ⟨_, rfl⟩
  go_enter Tryz.func67, Tryz.ntmps67
  go_wp2_with fail
  rw [hg] at b0
  generalize ((w.alloc (.cells #[.bool s1, .slice A1 n1 c1, .bool s2, .slice A2 n2 c2] 26)).alloc (.cells #[.bool t1, .slice B1 m1 d1, .bool t2, .slice B2 m2 d2] 26)).alloc (.cells #[.bool false, .slice none 0 0, .bool false, .slice none 0 0] 26) = W0 at *
  have h0 := h.below hB
  have k0 := g0.below hB
  have T0 := hT.below hB
  have HB := hid hB
  have Hg := hid hg
  obtain ⟨a0, a1, a2⟩ := b0
  replace a0 : Bk W0 g _ := a0
  replace a1 : Bk W0 (g + 1) _ := a1
  obtain ⟨x0, x1, x2, x3, -, -, -, -⟩ := a0.c4
  clear hB hg h g0 hT
  go_wp2_with fail
  refine (parts_q h0 hk0).mono ?_
  rintro e w1 ⟨p, A, n, c, B, m, d, a, b, rfl, h1, hb1⟩
  replace a1 := a1.step hb1
  replace a2 := a2.step hb1
  clear x0 x1 x2 x3
  obtain ⟨x0, x1, x2, x3, -, -, -, -⟩ := a1.c4
  have l1 := a2.lt
  have hB1 := hid (bthen HB.out hb1 (Nat.le_refl _))
  have k1 := k0.below hb1
  have T1 := T0.below hb1
  have hBn := below_two w1 (.cells #[.bool p, .slice A n c] 24) (.cells #[.bool false, .slice B m d] 24)
  have k2 := k1.below hBn
  have T2 := T1.below hBn
  have h2 := h1.below hBn
  have c1 := box1 w1 (.cells #[.bool p, .slice A n c] 24) (.cells #[.bool false, .slice B m d] 24)
  have c2 := box2 w1 (.cells #[.bool p, .slice A n c] 24) (.cells #[.bool false, .slice B m d] 24)
  replace a1 := a1.alloc2 (.cells #[.bool p, .slice A n c] 24) (.cells #[.bool false, .slice B m d] 24)
  replace a2 := a2.alloc2 (.cells #[.bool p, .slice A n c] 24) (.cells #[.bool false, .slice B m d] 24)
  clear x0 x1 x2 x3
  obtain ⟨x0, x1, x2, x3, -, -, -, -⟩ := a1.c4
  have hBn' := hid hBn
  have l1' := hid l1
  clear hb1 h0 k0 k1 h1 hBn T0 T1 a0
  go_wp2_with fail
  refine (parts_q k2 hl0).mono ?_
  rintro e w2 ⟨q, C, n', c', D, m', d', a', b', rfl, k2', hb2⟩
  clear x0 x1 x2 x3
  replace a2 := a2.step hb2
  replace c1 := c1.step hb2
  replace c2 := c2.step hb2
  have hB2 := hid (bthen (bthen hB1.out hBn'.out (Nat.le_refl _)) hb2 (Nat.le_refl _))
  have hBm := hid (below_two w2 (.cells #[.bool q, .slice C n' c'] 24) (.cells #[.bool false, .slice D m' d'] 24))
  have h3 := (h2.below hb2).below hBm.out
  have k3 := k2'.below hBm.out
  have T3 := (T2.below hb2).below hBm.out
  have e1 := box1 w2 (.cells #[.bool q, .slice C n' c'] 24) (.cells #[.bool false, .slice D m' d'] 24)
  have e2 := box2 w2 (.cells #[.bool q, .slice C n' c'] 24) (.cells #[.bool false, .slice D m' d'] 24)
  replace a2 := a2.alloc2 (.cells #[.bool q, .slice C n' c'] 24) (.cells #[.bool false, .slice D m' d'] 24)
  replace c1 := c1.alloc2 (.cells #[.bool q, .slice C n' c'] 24) (.cells #[.bool false, .slice D m' d'] 24)
  replace c2 := c2.alloc2 (.cells #[.bool q, .slice C n' c'] 24) (.cells #[.bool false, .slice D m' d'] 24)
  have hB3 := hid (bthen hB2.out hBm.out (Nat.le_refl _))
  obtain ⟨u0, u1, -, -⟩ := c1.c2
  obtain ⟨u2, u3, -, -⟩ := c2.c2
  obtain ⟨u4, u5, -, -⟩ := e1.c2
  obtain ⟨u6, u7, -, -⟩ := e2.c2
  clear h2 k2 k2' T2 a1
  go_wp2_with fail
  have hsz : w1.heap.size + 1 < w2.heap.size := by have := e1.lt; have := hb2.size; simp at this; omega
  clear hb2
  generalize (w2.alloc (.cells #[.bool q, .slice C n' c'] 24)).alloc (.cells #[.bool false, .slice D m' d'] 24) = W3 at *
  generalize w1.heap.size = g1 at *
  generalize w2.heap.size = g2 at *
  have Y0 := Cy.mk (show Bk W3.drew g1 _ from c1) (show Bk W3.drew (g1 + 1) _ from c2) (show Bk W3.drew g2 _ from e1) (show Bk W3.drew (g2 + 1) _ from e2) h3.drew k3.drew (show Tb W3.drew from T3.below (Below.refl _ _).drew) hB3.out.drew
  have Q0 := Cx.mk Y0 (show Bk W3.drew (g + 1 + 1) _ from a2)
  have hg1 : g + 1 + 1 < g1 := l1'.out; have hg2 : g + 1 + 1 < g2 := by omega
  clear h3 k3 a2 c1 c2 e1 e2 T3 hB3 hBn' hBm hB2 hB1 Y0 HB l1' u0 u1 u2 u3 u4 u5 u6 u7
  have hcells := Q0.cells
  by_cases hbb : b = b'
  · have Hs := hid (show sgn b b' = 0 by rw [hbb, sgn_eq])
    have Hbb := hid hbb
    clear hbb
    go_region_held3 (fun w' => w'.cell? ⟨g1, 0, none⟩ = some (.bool p) ∧ w'.cell? ⟨g1, 1, none⟩ = some (.slice A n c) ∧ w'.cell? ⟨g1 + 1, 0, none⟩ = some (.bool false) ∧ w'.cell? ⟨g1 + 1, 1, none⟩ = some (.slice B m d) ∧ w'.cell? ⟨g2, 0, none⟩ = some (.bool q) ∧ w'.cell? ⟨g2, 1, none⟩ = some (.slice C n' c') ∧ w'.cell? ⟨g2 + 1, 0, none⟩ = some (.bool false) ∧ w'.cell? ⟨g2 + 1, 1, none⟩ = some (.slice D m' d')) (first | with_reducible exact Cx.cells Q0 | with_reducible exact Cx.cells Q1 | with_reducible exact Cx.cells Q2 | with_reducible exact Cx.cells Q3) (first
      | (go_at_call 76; with_reducible refine (size_any false B m d b W3.drew Q0.o.f.den).mono ?_; rintro e wv1 ⟨f1, rfl, hf1, hb1⟩; have Q1 := Q0.below hb1)
      | (go_at_call 76; with_reducible refine (size_any false D m' d' b' wv1 Q1.o.e.den).mono ?_; rintro e wv2 ⟨f2, rfl, hf2, hb2⟩; have Q2 := Q1.below hb2; replace hf1 := hf1.below hb2)
      | (go_at_call 75; with_reducible refine (compareLimbs_nm hf1 hf2).mono ?_; rintro e wv3 ⟨rfl, hq6⟩; have hb3 := hq6.below wv2.heap.size; have Q3 := Q2.below hb3))
    rw [Hs.out]
    have Q4 := Q3.below ((Below.refl _ _).drew)
    clear Q0 Q1 Q2 Q3 hb1 hb2 hb3 hq6 hf1 hf2 hcells
    have hcells := Q4.cells
    go_wp2_with fail
    have Q := Q4.o.f.pq.add_same (show Pq l y a' b from by rw [Hbb.out]; exact Q4.o.e.pq)
    go_region_held3 (fun w' => w'.cell? ⟨g1, 0, none⟩ = some (.bool p) ∧ w'.cell? ⟨g1, 1, none⟩ = some (.slice A n c) ∧ w'.cell? ⟨g1 + 1, 0, none⟩ = some (.bool false) ∧ w'.cell? ⟨g1 + 1, 1, none⟩ = some (.slice B m d) ∧ w'.cell? ⟨g2, 0, none⟩ = some (.bool q) ∧ w'.cell? ⟨g2, 1, none⟩ = some (.slice C n' c') ∧ w'.cell? ⟨g2 + 1, 0, none⟩ = some (.bool false) ∧ w'.cell? ⟨g2 + 1, 1, none⟩ = some (.slice D m' d')) (first | with_reducible exact Cx.cells Q4 | with_reducible exact Cx.cells Q5 | with_reducible exact Cx.cells Q6 | with_reducible exact Cx.cells Q7 | with_reducible exact Cx.off Q7 hg1 hg2) (first
      | (go_at_call 68; with_reducible refine (AddZ Q4.o.f.num Q4.o.e.num (Q4.o.f.pq.la.mono (by omega)) (Q4.o.e.pq.la.mono (by omega))).mono ?_; rintro e wv5 ⟨a1', E1, u1, v1', rfl, hn1, hb5⟩; have Q5 := Q4.below hb5)
      | (go_at_call 73; with_reducible refine (zn_open (duplicate_any false B m d b wv5 Q5.o.f.den (by have := Q5.o.f.pq.lb.len; rw [Int.natAbs_natCast] at this; omega))).mono ?_; rintro e wv6 ⟨a2', E2, u2, v2', rfl, hn2, hb6⟩; have Q6 := Q5.below hb6; replace hn1 := hn1.below hb6)
      | (go_at_call 58; with_reducible refine (fraction_q hn1.zi hn2.zi (ne_toZ Q6.o.f.pq.nz) (Q.la.mono (by omega)) (le_toZ Q.lb (by omega)) Q6.o.tb).mono ?_; rintro e wv7 ⟨r1, R1, o1, e1', r2, R2, o2, e2', rfl, hq, hb7⟩; have Q7 := Q6.below hb7; have hl10 := Q7.r.lt; obtain ⟨i0, i1, i2, i3, i4, i5, i6, i7⟩ := Q7.r.c4))
    rw [rv_toZ Q.nz, Q.eq] at hq
    have hgl := Hg.out
    have h11 := hid (below4 Q7.o.bl (show w.heap.size ≤ g + 1 + 1 by omega) (.bool r1) (.slice R1 o1 e1') (.bool r2) (.slice R2 o2 e2'))
    have m1 := hid (hq.n.offbox Q7.r (noInt_four _ _ _ _ _ _ _ _) (gb4 _ _ (.bool r1) (.slice R1 o1 e1') (.bool r2) (.slice R2 o2 e2')))
    have m2 := hid (hq.d.offbox Q7.r (noInt_four _ _ _ _ _ _ _ _) (gb4 _ _ (.bool r1) (.slice R1 o1 e1') (.bool r2) (.slice R2 o2 e2')))
    clear hgl Q7 Q4 Q5 Q6 hb5 hb6 hb7 hn1 hn2 Q hcells
    go_wp2
    exact bodyPost_ret (v := .agg #[.bool r1, .slice R1 o1 e1', .bool r2, .slice R2 o2 e2']) (by simp [results, Tryz.results67, go_sem, i0, i1, i2, i3]) rfl ⟨_, _, _, _, _, _, _, _, rfl, ⟨m1.out, m2.out⟩, h11.out⟩
  · have Hs := hid (beq_eq_false_iff_ne.2 (sgn_ne hbb))
    clear hbb
    go_region_held3 (fun w' => w'.cell? ⟨g1, 0, none⟩ = some (.bool p) ∧ w'.cell? ⟨g1, 1, none⟩ = some (.slice A n c) ∧ w'.cell? ⟨g1 + 1, 0, none⟩ = some (.bool false) ∧ w'.cell? ⟨g1 + 1, 1, none⟩ = some (.slice B m d) ∧ w'.cell? ⟨g2, 0, none⟩ = some (.bool q) ∧ w'.cell? ⟨g2, 1, none⟩ = some (.slice C n' c') ∧ w'.cell? ⟨g2 + 1, 0, none⟩ = some (.bool false) ∧ w'.cell? ⟨g2 + 1, 1, none⟩ = some (.slice D m' d')) (first | with_reducible exact Cx.cells Q0 | with_reducible exact Cx.cells Q1 | with_reducible exact Cx.cells Q2 | with_reducible exact Cx.cells Q3) (first
      | (go_at_call 76; with_reducible refine (size_any false B m d b W3.drew Q0.o.f.den).mono ?_; rintro e wv1 ⟨f1, rfl, hf1, hb1⟩; have Q1 := Q0.below hb1)
      | (go_at_call 76; with_reducible refine (size_any false D m' d' b' wv1 Q1.o.e.den).mono ?_; rintro e wv2 ⟨f2, rfl, hf2, hb2⟩; have Q2 := Q1.below hb2; replace hf1 := hf1.below hb2)
      | (go_at_call 75; with_reducible refine (compareLimbs_nm hf1 hf2).mono ?_; rintro e wv3 ⟨rfl, hq6⟩; have hb3 := hq6.below wv2.heap.size; have Q3 := Q2.below hb3))
    rw [Hs.out]
    have Q4 := Q3.below ((Below.refl _ _).drew)
    clear Q0 Q1 Q2 Q3 hb1 hb2 hb3 hq6 hf1 hf2 hcells
    have hcells := Q4.cells
    go_wp2_with fail
    have Q := Q4.o.f.pq.add Q4.o.e.pq
    go_region_held3 (fun w' => w'.cell? ⟨g1, 0, none⟩ = some (.bool p) ∧ w'.cell? ⟨g1, 1, none⟩ = some (.slice A n c) ∧ w'.cell? ⟨g1 + 1, 0, none⟩ = some (.bool false) ∧ w'.cell? ⟨g1 + 1, 1, none⟩ = some (.slice B m d) ∧ w'.cell? ⟨g2, 0, none⟩ = some (.bool q) ∧ w'.cell? ⟨g2, 1, none⟩ = some (.slice C n' c') ∧ w'.cell? ⟨g2 + 1, 0, none⟩ = some (.bool false) ∧ w'.cell? ⟨g2 + 1, 1, none⟩ = some (.slice D m' d')) (first | with_reducible exact Cx.cells Q4 | with_reducible exact Cx.cells Q5 | with_reducible exact Cx.cells Q6 | with_reducible exact Cx.cells Q7 | with_reducible exact Cx.cells Q8 | with_reducible exact Cx.cells Q9 | with_reducible exact Cx.off Q9 hg1 hg2) (first
      | (go_at_call 59; with_reducible refine (MulZ Q4.o.f.num Q4.o.e.zi (Q4.o.f.pq.la.mono (by omega)) (Q4.o.e.pq.lb.mono (by omega))).mono ?_; rintro e wv5 ⟨a1', E1, u1, v1', rfl, hn1, hb5⟩; have Q5 := Q4.below hb5)
      | (go_at_call 59; with_reducible refine (MulZ Q5.o.e.num Q5.o.f.zi (Q5.o.e.pq.la.mono (by omega)) (Q5.o.f.pq.lb.mono (by omega))).mono ?_; rintro e wv6 ⟨a2', E2, u2, v2', rfl, hn2, hb6⟩; have Q6 := Q5.below hb6; replace hn1 := hn1.below hb6)
      | (go_at_call 68; with_reducible refine (AddZ hn1.zi hn2.zi ((Le.mul Q6.o.f.pq.la Q6.o.e.pq.lb).mono (by omega)) ((Le.mul Q6.o.e.pq.la Q6.o.f.pq.lb).mono (by omega))).mono ?_; rintro e wv7 ⟨a3', E3, u3, v3', rfl, hn3, hb7⟩; have Q7 := Q6.below hb7)
      | (go_at_call 59; with_reducible refine (MulZ Q7.o.f.zi Q7.o.e.zi (Q7.o.f.pq.lb.mono (by omega)) (Q7.o.e.pq.lb.mono (by omega))).mono ?_; rintro e wv8 ⟨a4', E4, u4, v4', rfl, hn4, hb8⟩; have Q8 := Q7.below hb8; replace hn3 := hn3.below hb8)
      | (go_at_call 58; with_reducible refine (fraction_q hn3.zi hn4.zi (ne_mul Q.nz) (Q.la.mono (by omega)) (le_mul Q.lb (by omega)) Q8.o.tb).mono ?_; rintro e wv9 ⟨r1, R1, o1, e1', r2, R2, o2, e2', rfl, hq, hb9⟩; have Q9 := Q8.below hb9; have hl10 := Q9.r.lt; obtain ⟨i0, i1, i2, i3, i4, i5, i6, i7⟩ := Q9.r.c4))
    rw [rv_mul Q.nz, Q.eq] at hq
    have hgl := Hg.out
    have h11 := hid (below4 Q9.o.bl (show w.heap.size ≤ g + 1 + 1 by omega) (.bool r1) (.slice R1 o1 e1') (.bool r2) (.slice R2 o2 e2'))
    have m1 := hid (hq.n.offbox Q9.r (noInt_four _ _ _ _ _ _ _ _) (gb4 _ _ (.bool r1) (.slice R1 o1 e1') (.bool r2) (.slice R2 o2 e2')))
    have m2 := hid (hq.d.offbox Q9.r (noInt_four _ _ _ _ _ _ _ _) (gb4 _ _ (.bool r1) (.slice R1 o1 e1') (.bool r2) (.slice R2 o2 e2')))
    clear hgl Q9 Q4 Q5 Q6 Q7 Q8 hb5 hb6 hb7 hb8 hb9 hn1 hn2 hn3 hn4 Q hcells
    go_wp2
    exact bodyPost_ret (v := .agg #[.bool r1, .slice R1 o1 e1', .bool r2, .slice R2 o2 e2']) (by simp [results, Tryz.results67, go_sem, i0, i1, i2, i3]) rfl ⟨_, _, _, _, _, _, _, _, rfl, ⟨m1.out, m2.out⟩, h11.out⟩

end Go.Proofs.YtffipjofefemiaaGreatDoor

namespace Go.Proofs.YtffipjofefemiaaGreatDoor
open Go.RowKit Kb

set_option maxRecDepth 100000 in
set_option maxHeartbeats 80000000 in
theorem combine_Sub {w : World} {s1 s2 t1 t2 : Bool} {A1 A2 B1 B2 : Option Addr} {n1 c1 n2 c2 m1 d1 m2 d2 k l : Nat} {x y : Rat} (h : Qi w s1 A1 n1 c1 s2 A2 n2 c2 k x) (g0 : Qi w t1 B1 m1 d1 t2 B2 m2 d2 l y) (hk0 : 0 < k) (hl0 : 0 < l) (hk : k ≤ 400) (hl : l ≤ 400) (hT : Tb w) :
    Calls Tryz.prog 67 #[.agg #[.bool s1, .slice A1 n1 c1, .bool s2, .slice A2 n2 c2], .agg #[.bool t1, .slice B1 m1 d1, .bool t2, .slice B2 m2 d2], .func (.func 70) #[] #[]] w fun e w' => ∃ s1 A1 n1 c1 s2 A2 n2 c2, e = .returned (.agg #[.bool s1, .slice A1 n1 c1, .bool s2, .slice A2 n2 c2]) ∧ Qf w' s1 A1 n1 c1 s2 A2 n2 c2 (x - y) ∧ Below w.heap.size w w' := by
  have b0 := three_new w (.cells #[.bool s1, .slice A1 n1 c1, .bool s2, .slice A2 n2 c2] 26) (.cells #[.bool t1, .slice B1 m1 d1, .bool t2, .slice B2 m2 d2] 26) (.cells #[.bool false, .slice none 0 0, .bool false, .slice none 0 0] 26)
  have hB := (((Below.refl w.heap.size w).alloc (Nat.le_refl _) (.cells #[.bool s1, .slice A1 n1 c1, .bool s2, .slice A2 n2 c2] 26)).alloc (by simp) (.cells #[.bool t1, .slice B1 m1 d1, .bool t2, .slice B2 m2 d2] 26)).alloc (by simp; omega) (.cells #[.bool false, .slice none 0 0, .bool false, .slice none 0 0] 26)
  obtain ⟨g, hg⟩ : ∃ g, w.heap.size = g := ⟨_, rfl⟩
  go_enter Tryz.func67, Tryz.ntmps67
  go_wp2_with fail
  rw [hg] at b0
  generalize ((w.alloc (.cells #[.bool s1, .slice A1 n1 c1, .bool s2, .slice A2 n2 c2] 26)).alloc (.cells #[.bool t1, .slice B1 m1 d1, .bool t2, .slice B2 m2 d2] 26)).alloc (.cells #[.bool false, .slice none 0 0, .bool false, .slice none 0 0] 26) = W0 at *
  have h0 := h.below hB
  have k0 := g0.below hB
  have T0 := hT.below hB
  have HB := hid hB
  have Hg := hid hg
  obtain ⟨a0, a1, a2⟩ := b0
  replace a0 : Bk W0 g _ := a0
  replace a1 : Bk W0 (g + 1) _ := a1
  obtain ⟨x0, x1, x2, x3, -, -, -, -⟩ := a0.c4
  clear hB hg h g0 hT
  go_wp2_with fail
  refine (parts_q h0 hk0).mono ?_
  rintro e w1 ⟨p, A, n, c, B, m, d, a, b, rfl, h1, hb1⟩
  replace a1 := a1.step hb1
  replace a2 := a2.step hb1
  clear x0 x1 x2 x3
  obtain ⟨x0, x1, x2, x3, -, -, -, -⟩ := a1.c4
  have l1 := a2.lt
  have hB1 := hid (bthen HB.out hb1 (Nat.le_refl _))
  have k1 := k0.below hb1
  have T1 := T0.below hb1
  have hBn := below_two w1 (.cells #[.bool p, .slice A n c] 24) (.cells #[.bool false, .slice B m d] 24)
  have k2 := k1.below hBn
  have T2 := T1.below hBn
  have h2 := h1.below hBn
  have c1 := box1 w1 (.cells #[.bool p, .slice A n c] 24) (.cells #[.bool false, .slice B m d] 24)
  have c2 := box2 w1 (.cells #[.bool p, .slice A n c] 24) (.cells #[.bool false, .slice B m d] 24)
  replace a1 := a1.alloc2 (.cells #[.bool p, .slice A n c] 24) (.cells #[.bool false, .slice B m d] 24)
  replace a2 := a2.alloc2 (.cells #[.bool p, .slice A n c] 24) (.cells #[.bool false, .slice B m d] 24)
  clear x0 x1 x2 x3
  obtain ⟨x0, x1, x2, x3, -, -, -, -⟩ := a1.c4
  have hBn' := hid hBn
  have l1' := hid l1
  clear hb1 h0 k0 k1 h1 hBn T0 T1 a0
  go_wp2_with fail
  refine (parts_q k2 hl0).mono ?_
  rintro e w2 ⟨q, C, n', c', D, m', d', a', b', rfl, k2', hb2⟩
  clear x0 x1 x2 x3
  replace a2 := a2.step hb2
  replace c1 := c1.step hb2
  replace c2 := c2.step hb2
  have hB2 := hid (bthen (bthen hB1.out hBn'.out (Nat.le_refl _)) hb2 (Nat.le_refl _))
  have hBm := hid (below_two w2 (.cells #[.bool q, .slice C n' c'] 24) (.cells #[.bool false, .slice D m' d'] 24))
  have h3 := (h2.below hb2).below hBm.out
  have k3 := k2'.below hBm.out
  have T3 := (T2.below hb2).below hBm.out
  have e1 := box1 w2 (.cells #[.bool q, .slice C n' c'] 24) (.cells #[.bool false, .slice D m' d'] 24)
  have e2 := box2 w2 (.cells #[.bool q, .slice C n' c'] 24) (.cells #[.bool false, .slice D m' d'] 24)
  replace a2 := a2.alloc2 (.cells #[.bool q, .slice C n' c'] 24) (.cells #[.bool false, .slice D m' d'] 24)
  replace c1 := c1.alloc2 (.cells #[.bool q, .slice C n' c'] 24) (.cells #[.bool false, .slice D m' d'] 24)
  replace c2 := c2.alloc2 (.cells #[.bool q, .slice C n' c'] 24) (.cells #[.bool false, .slice D m' d'] 24)
  have hB3 := hid (bthen hB2.out hBm.out (Nat.le_refl _))
  obtain ⟨u0, u1, -, -⟩ := c1.c2
  obtain ⟨u2, u3, -, -⟩ := c2.c2
  obtain ⟨u4, u5, -, -⟩ := e1.c2
  obtain ⟨u6, u7, -, -⟩ := e2.c2
  clear h2 k2 k2' T2 a1
  go_wp2_with fail
  have hsz : w1.heap.size + 1 < w2.heap.size := by have := e1.lt; have := hb2.size; simp at this; omega
  clear hb2
  generalize (w2.alloc (.cells #[.bool q, .slice C n' c'] 24)).alloc (.cells #[.bool false, .slice D m' d'] 24) = W3 at *
  generalize w1.heap.size = g1 at *
  generalize w2.heap.size = g2 at *
  have Y0 := Cy.mk (show Bk W3.drew g1 _ from c1) (show Bk W3.drew (g1 + 1) _ from c2) (show Bk W3.drew g2 _ from e1) (show Bk W3.drew (g2 + 1) _ from e2) h3.drew k3.drew (show Tb W3.drew from T3.below (Below.refl _ _).drew) hB3.out.drew
  have Q0 := Cx.mk Y0 (show Bk W3.drew (g + 1 + 1) _ from a2)
  have hg1 : g + 1 + 1 < g1 := l1'.out; have hg2 : g + 1 + 1 < g2 := by omega
  clear h3 k3 a2 c1 c2 e1 e2 T3 hB3 hBn' hBm hB2 hB1 Y0 HB l1' u0 u1 u2 u3 u4 u5 u6 u7
  have hcells := Q0.cells
  by_cases hbb : b = b'
  · have Hs := hid (show sgn b b' = 0 by rw [hbb, sgn_eq])
    have Hbb := hid hbb
    clear hbb
    go_region_held3 (fun w' => w'.cell? ⟨g1, 0, none⟩ = some (.bool p) ∧ w'.cell? ⟨g1, 1, none⟩ = some (.slice A n c) ∧ w'.cell? ⟨g1 + 1, 0, none⟩ = some (.bool false) ∧ w'.cell? ⟨g1 + 1, 1, none⟩ = some (.slice B m d) ∧ w'.cell? ⟨g2, 0, none⟩ = some (.bool q) ∧ w'.cell? ⟨g2, 1, none⟩ = some (.slice C n' c') ∧ w'.cell? ⟨g2 + 1, 0, none⟩ = some (.bool false) ∧ w'.cell? ⟨g2 + 1, 1, none⟩ = some (.slice D m' d')) (first | with_reducible exact Cx.cells Q0 | with_reducible exact Cx.cells Q1 | with_reducible exact Cx.cells Q2 | with_reducible exact Cx.cells Q3) (first
      | (go_at_call 76; with_reducible refine (size_any false B m d b W3.drew Q0.o.f.den).mono ?_; rintro e wv1 ⟨f1, rfl, hf1, hb1⟩; have Q1 := Q0.below hb1)
      | (go_at_call 76; with_reducible refine (size_any false D m' d' b' wv1 Q1.o.e.den).mono ?_; rintro e wv2 ⟨f2, rfl, hf2, hb2⟩; have Q2 := Q1.below hb2; replace hf1 := hf1.below hb2)
      | (go_at_call 75; with_reducible refine (compareLimbs_nm hf1 hf2).mono ?_; rintro e wv3 ⟨rfl, hq6⟩; have hb3 := hq6.below wv2.heap.size; have Q3 := Q2.below hb3))
    rw [Hs.out]
    have Q4 := Q3.below ((Below.refl _ _).drew)
    clear Q0 Q1 Q2 Q3 hb1 hb2 hb3 hq6 hf1 hf2 hcells
    have hcells := Q4.cells
    go_wp2_with fail
    have Q := Q4.o.f.pq.sub_same (show Pq l y a' b from by rw [Hbb.out]; exact Q4.o.e.pq)
    go_region_held3 (fun w' => w'.cell? ⟨g1, 0, none⟩ = some (.bool p) ∧ w'.cell? ⟨g1, 1, none⟩ = some (.slice A n c) ∧ w'.cell? ⟨g1 + 1, 0, none⟩ = some (.bool false) ∧ w'.cell? ⟨g1 + 1, 1, none⟩ = some (.slice B m d) ∧ w'.cell? ⟨g2, 0, none⟩ = some (.bool q) ∧ w'.cell? ⟨g2, 1, none⟩ = some (.slice C n' c') ∧ w'.cell? ⟨g2 + 1, 0, none⟩ = some (.bool false) ∧ w'.cell? ⟨g2 + 1, 1, none⟩ = some (.slice D m' d')) (first | with_reducible exact Cx.cells Q4 | with_reducible exact Cx.cells Q5 | with_reducible exact Cx.cells Q6 | with_reducible exact Cx.cells Q7 | with_reducible exact Cx.off Q7 hg1 hg2) (first
      | (go_at_call 70; with_reducible refine (SubZ Q4.o.f.num Q4.o.e.num (Q4.o.f.pq.la.mono (by omega)) (Q4.o.e.pq.la.mono (by omega))).mono ?_; rintro e wv5 ⟨a1', E1, u1, v1', rfl, hn1, hb5⟩; have Q5 := Q4.below hb5)
      | (go_at_call 73; with_reducible refine (zn_open (duplicate_any false B m d b wv5 Q5.o.f.den (by have := Q5.o.f.pq.lb.len; rw [Int.natAbs_natCast] at this; omega))).mono ?_; rintro e wv6 ⟨a2', E2, u2, v2', rfl, hn2, hb6⟩; have Q6 := Q5.below hb6; replace hn1 := hn1.below hb6)
      | (go_at_call 58; with_reducible refine (fraction_q hn1.zi hn2.zi (ne_toZ Q6.o.f.pq.nz) (Q.la.mono (by omega)) (le_toZ Q.lb (by omega)) Q6.o.tb).mono ?_; rintro e wv7 ⟨r1, R1, o1, e1', r2, R2, o2, e2', rfl, hq, hb7⟩; have Q7 := Q6.below hb7; have hl10 := Q7.r.lt; obtain ⟨i0, i1, i2, i3, i4, i5, i6, i7⟩ := Q7.r.c4))
    rw [rv_toZ Q.nz, Q.eq] at hq
    have hgl := Hg.out
    have h11 := hid (below4 Q7.o.bl (show w.heap.size ≤ g + 1 + 1 by omega) (.bool r1) (.slice R1 o1 e1') (.bool r2) (.slice R2 o2 e2'))
    have m1 := hid (hq.n.offbox Q7.r (noInt_four _ _ _ _ _ _ _ _) (gb4 _ _ (.bool r1) (.slice R1 o1 e1') (.bool r2) (.slice R2 o2 e2')))
    have m2 := hid (hq.d.offbox Q7.r (noInt_four _ _ _ _ _ _ _ _) (gb4 _ _ (.bool r1) (.slice R1 o1 e1') (.bool r2) (.slice R2 o2 e2')))
    clear hgl Q7 Q4 Q5 Q6 hb5 hb6 hb7 hn1 hn2 Q hcells
    go_wp2
    exact bodyPost_ret (v := .agg #[.bool r1, .slice R1 o1 e1', .bool r2, .slice R2 o2 e2']) (by simp [results, Tryz.results67, go_sem, i0, i1, i2, i3]) rfl ⟨_, _, _, _, _, _, _, _, rfl, ⟨m1.out, m2.out⟩, h11.out⟩
  · have Hs := hid (beq_eq_false_iff_ne.2 (sgn_ne hbb))
    clear hbb
    go_region_held3 (fun w' => w'.cell? ⟨g1, 0, none⟩ = some (.bool p) ∧ w'.cell? ⟨g1, 1, none⟩ = some (.slice A n c) ∧ w'.cell? ⟨g1 + 1, 0, none⟩ = some (.bool false) ∧ w'.cell? ⟨g1 + 1, 1, none⟩ = some (.slice B m d) ∧ w'.cell? ⟨g2, 0, none⟩ = some (.bool q) ∧ w'.cell? ⟨g2, 1, none⟩ = some (.slice C n' c') ∧ w'.cell? ⟨g2 + 1, 0, none⟩ = some (.bool false) ∧ w'.cell? ⟨g2 + 1, 1, none⟩ = some (.slice D m' d')) (first | with_reducible exact Cx.cells Q0 | with_reducible exact Cx.cells Q1 | with_reducible exact Cx.cells Q2 | with_reducible exact Cx.cells Q3) (first
      | (go_at_call 76; with_reducible refine (size_any false B m d b W3.drew Q0.o.f.den).mono ?_; rintro e wv1 ⟨f1, rfl, hf1, hb1⟩; have Q1 := Q0.below hb1)
      | (go_at_call 76; with_reducible refine (size_any false D m' d' b' wv1 Q1.o.e.den).mono ?_; rintro e wv2 ⟨f2, rfl, hf2, hb2⟩; have Q2 := Q1.below hb2; replace hf1 := hf1.below hb2)
      | (go_at_call 75; with_reducible refine (compareLimbs_nm hf1 hf2).mono ?_; rintro e wv3 ⟨rfl, hq6⟩; have hb3 := hq6.below wv2.heap.size; have Q3 := Q2.below hb3))
    rw [Hs.out]
    have Q4 := Q3.below ((Below.refl _ _).drew)
    clear Q0 Q1 Q2 Q3 hb1 hb2 hb3 hq6 hf1 hf2 hcells
    have hcells := Q4.cells
    go_wp2_with fail
    have Q := Q4.o.f.pq.sub Q4.o.e.pq
    go_region_held3 (fun w' => w'.cell? ⟨g1, 0, none⟩ = some (.bool p) ∧ w'.cell? ⟨g1, 1, none⟩ = some (.slice A n c) ∧ w'.cell? ⟨g1 + 1, 0, none⟩ = some (.bool false) ∧ w'.cell? ⟨g1 + 1, 1, none⟩ = some (.slice B m d) ∧ w'.cell? ⟨g2, 0, none⟩ = some (.bool q) ∧ w'.cell? ⟨g2, 1, none⟩ = some (.slice C n' c') ∧ w'.cell? ⟨g2 + 1, 0, none⟩ = some (.bool false) ∧ w'.cell? ⟨g2 + 1, 1, none⟩ = some (.slice D m' d')) (first | with_reducible exact Cx.cells Q4 | with_reducible exact Cx.cells Q5 | with_reducible exact Cx.cells Q6 | with_reducible exact Cx.cells Q7 | with_reducible exact Cx.cells Q8 | with_reducible exact Cx.cells Q9 | with_reducible exact Cx.off Q9 hg1 hg2) (first
      | (go_at_call 59; with_reducible refine (MulZ Q4.o.f.num Q4.o.e.zi (Q4.o.f.pq.la.mono (by omega)) (Q4.o.e.pq.lb.mono (by omega))).mono ?_; rintro e wv5 ⟨a1', E1, u1, v1', rfl, hn1, hb5⟩; have Q5 := Q4.below hb5)
      | (go_at_call 59; with_reducible refine (MulZ Q5.o.e.num Q5.o.f.zi (Q5.o.e.pq.la.mono (by omega)) (Q5.o.f.pq.lb.mono (by omega))).mono ?_; rintro e wv6 ⟨a2', E2, u2, v2', rfl, hn2, hb6⟩; have Q6 := Q5.below hb6; replace hn1 := hn1.below hb6)
      | (go_at_call 70; with_reducible refine (SubZ hn1.zi hn2.zi ((Le.mul Q6.o.f.pq.la Q6.o.e.pq.lb).mono (by omega)) ((Le.mul Q6.o.e.pq.la Q6.o.f.pq.lb).mono (by omega))).mono ?_; rintro e wv7 ⟨a3', E3, u3, v3', rfl, hn3, hb7⟩; have Q7 := Q6.below hb7)
      | (go_at_call 59; with_reducible refine (MulZ Q7.o.f.zi Q7.o.e.zi (Q7.o.f.pq.lb.mono (by omega)) (Q7.o.e.pq.lb.mono (by omega))).mono ?_; rintro e wv8 ⟨a4', E4, u4, v4', rfl, hn4, hb8⟩; have Q8 := Q7.below hb8; replace hn3 := hn3.below hb8)
      | (go_at_call 58; with_reducible refine (fraction_q hn3.zi hn4.zi (ne_mul Q.nz) (Q.la.mono (by omega)) (le_mul Q.lb (by omega)) Q8.o.tb).mono ?_; rintro e wv9 ⟨r1, R1, o1, e1', r2, R2, o2, e2', rfl, hq, hb9⟩; have Q9 := Q8.below hb9; have hl10 := Q9.r.lt; obtain ⟨i0, i1, i2, i3, i4, i5, i6, i7⟩ := Q9.r.c4))
    rw [rv_mul Q.nz, Q.eq] at hq
    have hgl := Hg.out
    have h11 := hid (below4 Q9.o.bl (show w.heap.size ≤ g + 1 + 1 by omega) (.bool r1) (.slice R1 o1 e1') (.bool r2) (.slice R2 o2 e2'))
    have m1 := hid (hq.n.offbox Q9.r (noInt_four _ _ _ _ _ _ _ _) (gb4 _ _ (.bool r1) (.slice R1 o1 e1') (.bool r2) (.slice R2 o2 e2')))
    have m2 := hid (hq.d.offbox Q9.r (noInt_four _ _ _ _ _ _ _ _) (gb4 _ _ (.bool r1) (.slice R1 o1 e1') (.bool r2) (.slice R2 o2 e2')))
    clear hgl Q9 Q4 Q5 Q6 Q7 Q8 hb5 hb6 hb7 hb8 hb9 hn1 hn2 hn3 hn4 Q hcells
    go_wp2
    exact bodyPost_ret (v := .agg #[.bool r1, .slice R1 o1 e1', .bool r2, .slice R2 o2 e2']) (by simp [results, Tryz.results67, go_sem, i0, i1, i2, i3]) rfl ⟨_, _, _, _, _, _, _, _, rfl, ⟨m1.out, m2.out⟩, h11.out⟩

end Go.Proofs.YtffipjofefemiaaGreatDoor

namespace Go.Proofs.YtffipjofefemiaaGreatDoor
open Go.RowKit Kb

set_option maxRecDepth 100000 in
set_option maxHeartbeats 80000000 in
theorem AddRat_q {w : World} {s1 s2 t1 t2 : Bool} {A1 A2 B1 B2 : Option Addr} {n1 c1 n2 c2 m1 d1 m2 d2 k l : Nat} {x y : Rat} (h : Qi w s1 A1 n1 c1 s2 A2 n2 c2 k x) (g0 : Qi w t1 B1 m1 d1 t2 B2 m2 d2 l y) (hk0 : 0 < k) (hl0 : 0 < l) (hk : k ≤ 400) (hl : l ≤ 400) (hT : Tb w) :
    Calls Tryz.prog 17 #[.agg #[.bool s1, .slice A1 n1 c1, .bool s2, .slice A2 n2 c2], .agg #[.bool t1, .slice B1 m1 d1, .bool t2, .slice B2 m2 d2]] w fun e w' => ∃ s1 A1 n1 c1 s2 A2 n2 c2, e = .returned (.agg #[.bool s1, .slice A1 n1 c1, .bool s2, .slice A2 n2 c2]) ∧ Qf w' s1 A1 n1 c1 s2 A2 n2 c2 (x + y) ∧ Below w.heap.size w w' := by
  have b0 := three_new w (.cells #[.bool s1, .slice A1 n1 c1, .bool s2, .slice A2 n2 c2] 26) (.cells #[.bool t1, .slice B1 m1 d1, .bool t2, .slice B2 m2 d2] 26) (.cells #[.bool false, .slice none 0 0, .bool false, .slice none 0 0] 26)
  have hB := (((Below.refl w.heap.size w).alloc (Nat.le_refl _) (.cells #[.bool s1, .slice A1 n1 c1, .bool s2, .slice A2 n2 c2] 26)).alloc (by simp) (.cells #[.bool t1, .slice B1 m1 d1, .bool t2, .slice B2 m2 d2] 26)).alloc (by simp; omega) (.cells #[.bool false, .slice none 0 0, .bool false, .slice none 0 0] 26)
  obtain ⟨g, hg⟩ : ∃ g, w.heap.size = g := ⟨_, rfl⟩
  go_enter Tryz.func17, Tryz.ntmps17
  go_wp2_with fail
  rw [hg] at b0
  generalize ((w.alloc (.cells #[.bool s1, .slice A1 n1 c1, .bool s2, .slice A2 n2 c2] 26)).alloc (.cells #[.bool t1, .slice B1 m1 d1, .bool t2, .slice B2 m2 d2] 26)).alloc (.cells #[.bool false, .slice none 0 0, .bool false, .slice none 0 0] 26) = W0 at *
  have HB := hid hB
  have Hg := hid hg
  refine (combine_Add (h.below hB) (g0.below hB) hk0 hl0 hk hl (hT.below hB)).mono ?_
  rintro e w1 ⟨r1, R1, o1, e1', r2, R2, o2, e2', rfl, hq, hb1⟩
  have j2 := b0.2.2.step hb1
  have h10 := hid (bthen HB.out hb1 (Nat.le_refl _))
  clear hb1 hB h g0 hT b0 hg
  have h11 := hid (below4 h10.out (show w.heap.size ≤ g + 1 + 1 by have := Hg.out; omega) (.bool r1) (.slice R1 o1 e1') (.bool r2) (.slice R2 o2 e2'))
  have m1 := hid (hq.n.offbox j2 (noInt_four _ _ _ _ _ _ _ _) (gb4 _ _ (.bool r1) (.slice R1 o1 e1') (.bool r2) (.slice R2 o2 e2')))
  have m2 := hid (hq.d.offbox j2 (noInt_four _ _ _ _ _ _ _ _) (gb4 _ _ (.bool r1) (.slice R1 o1 e1') (.bool r2) (.slice R2 o2 e2')))
  have hl10 := j2.lt
  obtain ⟨i0, i1, i2, i3, i4, i5, i6, i7⟩ := j2.c4
  clear j2 hq 
  go_wp2
  exact bodyPost_ret (v := .agg #[.bool r1, .slice R1 o1 e1', .bool r2, .slice R2 o2 e2']) (by simp [results, Tryz.results17, go_sem, i0, i1, i2, i3]) rfl ⟨_, _, _, _, _, _, _, _, rfl, ⟨m1.out, m2.out⟩, h11.out⟩
set_option maxRecDepth 100000 in
set_option maxHeartbeats 80000000 in
theorem SubRat_q {w : World} {s1 s2 t1 t2 : Bool} {A1 A2 B1 B2 : Option Addr} {n1 c1 n2 c2 m1 d1 m2 d2 k l : Nat} {x y : Rat} (h : Qi w s1 A1 n1 c1 s2 A2 n2 c2 k x) (g0 : Qi w t1 B1 m1 d1 t2 B2 m2 d2 l y) (hk0 : 0 < k) (hl0 : 0 < l) (hk : k ≤ 400) (hl : l ≤ 400) (hT : Tb w) :
    Calls Tryz.prog 19 #[.agg #[.bool s1, .slice A1 n1 c1, .bool s2, .slice A2 n2 c2], .agg #[.bool t1, .slice B1 m1 d1, .bool t2, .slice B2 m2 d2]] w fun e w' => ∃ s1 A1 n1 c1 s2 A2 n2 c2, e = .returned (.agg #[.bool s1, .slice A1 n1 c1, .bool s2, .slice A2 n2 c2]) ∧ Qf w' s1 A1 n1 c1 s2 A2 n2 c2 (x - y) ∧ Below w.heap.size w w' := by
  have b0 := three_new w (.cells #[.bool s1, .slice A1 n1 c1, .bool s2, .slice A2 n2 c2] 26) (.cells #[.bool t1, .slice B1 m1 d1, .bool t2, .slice B2 m2 d2] 26) (.cells #[.bool false, .slice none 0 0, .bool false, .slice none 0 0] 26)
  have hB := (((Below.refl w.heap.size w).alloc (Nat.le_refl _) (.cells #[.bool s1, .slice A1 n1 c1, .bool s2, .slice A2 n2 c2] 26)).alloc (by simp) (.cells #[.bool t1, .slice B1 m1 d1, .bool t2, .slice B2 m2 d2] 26)).alloc (by simp; omega) (.cells #[.bool false, .slice none 0 0, .bool false, .slice none 0 0] 26)
  obtain ⟨g, hg⟩ : ∃ g, w.heap.size = g := ⟨_, rfl⟩
  go_enter Tryz.func19, Tryz.ntmps19
  go_wp2_with fail
  rw [hg] at b0
  generalize ((w.alloc (.cells #[.bool s1, .slice A1 n1 c1, .bool s2, .slice A2 n2 c2] 26)).alloc (.cells #[.bool t1, .slice B1 m1 d1, .bool t2, .slice B2 m2 d2] 26)).alloc (.cells #[.bool false, .slice none 0 0, .bool false, .slice none 0 0] 26) = W0 at *
  have HB := hid hB
  have Hg := hid hg
  refine (combine_Sub (h.below hB) (g0.below hB) hk0 hl0 hk hl (hT.below hB)).mono ?_
  rintro e w1 ⟨r1, R1, o1, e1', r2, R2, o2, e2', rfl, hq, hb1⟩
  have j2 := b0.2.2.step hb1
  have h10 := hid (bthen HB.out hb1 (Nat.le_refl _))
  clear hb1 hB h g0 hT b0 hg
  have h11 := hid (below4 h10.out (show w.heap.size ≤ g + 1 + 1 by have := Hg.out; omega) (.bool r1) (.slice R1 o1 e1') (.bool r2) (.slice R2 o2 e2'))
  have m1 := hid (hq.n.offbox j2 (noInt_four _ _ _ _ _ _ _ _) (gb4 _ _ (.bool r1) (.slice R1 o1 e1') (.bool r2) (.slice R2 o2 e2')))
  have m2 := hid (hq.d.offbox j2 (noInt_four _ _ _ _ _ _ _ _) (gb4 _ _ (.bool r1) (.slice R1 o1 e1') (.bool r2) (.slice R2 o2 e2')))
  have hl10 := j2.lt
  obtain ⟨i0, i1, i2, i3, i4, i5, i6, i7⟩ := j2.c4
  clear j2 hq 
  go_wp2
  exact bodyPost_ret (v := .agg #[.bool r1, .slice R1 o1 e1', .bool r2, .slice R2 o2 e2']) (by simp [results, Tryz.results19, go_sem, i0, i1, i2, i3]) rfl ⟨_, _, _, _, _, _, _, _, rfl, ⟨m1.out, m2.out⟩, h11.out⟩

end Go.Proofs.YtffipjofefemiaaGreatDoor
