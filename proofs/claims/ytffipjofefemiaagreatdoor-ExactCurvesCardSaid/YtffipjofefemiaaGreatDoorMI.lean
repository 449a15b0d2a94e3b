/- The contracts of CmpRat, QuoRat, Whole and Floor in general. -/
import Derived.Test.YtffipjofefemiaaGreatDoorMG
import Derived.Test.YtffipjofefemiaaGreatDoorMH
namespace Go.Proofs.YtffipjofefemiaaGreatDoor
open Go.RowKit Kb

theorem cmpZ_mul {a c : Int} {b : Nat} (h0 : b ≠ 0) : cmpZ (a * b) (c * b) = cmpZ a c := by
  unfold cmpZ
  rw [← Int.sub_mul, Int.sign_mul, Int.sign_eq_one_of_pos (show (0 : Int) < (b : Int) by omega), Int.mul_one]
theorem cmpZ_sign {a c : Int} {b d : Nat} (h0 : b ≠ 0) (g0 : d ≠ 0) (h : ¬ a.sign = c.sign) : cmpZ (a * d) (c * b) = cmpZ a c := by
  have hb : (0 : Int) < (b : Int) := by omega
  have hd : (0 : Int) < (d : Int) := by omega
  unfold cmpZ
  have e1 : (a * d).sign = a.sign := by rw [Int.sign_mul, Int.sign_eq_one_of_pos hd, Int.mul_one]
  have e2 : (c * b).sign = c.sign := by rw [Int.sign_mul, Int.sign_eq_one_of_pos hb, Int.mul_one]
  rw [← e1, ← e2] at h
  have key : ∀ s t : Int, ¬ s.sign = t.sign → (s - t).sign = if s.sign < t.sign then -1 else 1 := fun s t hst => by
    rcases Int.lt_trichotomy s 0 with hs | hs | hs <;> rcases Int.lt_trichotomy t 0 with ht | ht | ht
    · rw [Int.sign_eq_neg_one_of_neg hs, Int.sign_eq_neg_one_of_neg ht] at hst; exact absurd rfl hst
    · rw [Int.sign_eq_neg_one_of_neg hs, ht, Int.sign_eq_neg_one_of_neg (by omega)]; rfl
    · rw [Int.sign_eq_neg_one_of_neg hs, Int.sign_eq_one_of_pos ht, Int.sign_eq_neg_one_of_neg (by omega)]; rfl
    · rw [hs, Int.sign_eq_neg_one_of_neg ht, Int.sign_eq_one_of_pos (by omega)]; rfl
    · rw [hs, ht] at hst; exact absurd rfl hst
    · rw [hs, Int.sign_eq_one_of_pos ht, Int.sign_eq_neg_one_of_neg (by omega)]; rfl
    · rw [Int.sign_eq_one_of_pos hs, Int.sign_eq_neg_one_of_neg ht, Int.sign_eq_one_of_pos (by omega)]; rfl
    · rw [Int.sign_eq_one_of_pos hs, ht, Int.sign_eq_one_of_pos (by omega)]; rfl
    · rw [Int.sign_eq_one_of_pos hs, Int.sign_eq_one_of_pos ht] at hst; exact absurd rfl hst
  rw [key _ _ h, e1, e2]
  rw [e1, e2] at h
  rw [key _ _ h]
set_option maxRecDepth 100000 in
set_option maxHeartbeats 80000000 in
theorem CmpRat_q {w : World} {s1 s2 t1 t2 : Bool} {A1 A2 B1 B2 : Option Addr} {n1 c1 n2 c2 m1 d1 m2 d2 k l : Nat} {x y : Rat} (h : Qi w s1 A1 n1 c1 s2 A2 n2 c2 k x) (g0 : Qi w t1 B1 m1 d1 t2 B2 m2 d2 l y) (hk0 : 0 < k) (hl0 : 0 < l) (hk : k ≤ 400) (hl : l ≤ 400) (hT : Tb w) :
    Calls Tryz.prog 25 #[.agg #[.bool s1, .slice A1 n1 c1, .bool s2, .slice A2 n2 c2], .agg #[.bool t1, .slice B1 m1 d1, .bool t2, .slice B2 m2 d2]] w fun e w' => e = .returned (.int .i64 (cmpQ x y)) ∧ Below w.heap.size w w' := by
  have _hT := hT
  have b0 := two_new w (.cells #[.bool s1, .slice A1 n1 c1, .bool s2, .slice A2 n2 c2] 26) (.cells #[.bool t1, .slice B1 m1 d1, .bool t2, .slice B2 m2 d2] 26)
  have hB := ((Below.refl w.heap.size w).alloc (Nat.le_refl _) (.cells #[.bool s1, .slice A1 n1 c1, .bool s2, .slice A2 n2 c2] 26)).alloc (by simp) (.cells #[.bool t1, .slice B1 m1 d1, .bool t2, .slice B2 m2 d2] 26)
  obtain ⟨g, hg⟩ : ∃ g, w.heap.size = g := ⟨_, rfl⟩
  go_enter Tryz.func25, Tryz.ntmps25
  go_wp2_with fail
  rw [hg] at b0
  generalize (w.alloc (.cells #[.bool s1, .slice A1 n1 c1, .bool s2, .slice A2 n2 c2] 26)).alloc (.cells #[.bool t1, .slice B1 m1 d1, .bool t2, .slice B2 m2 d2] 26) = W0 at *
  have h0 := h.below hB
  have k0 := g0.below hB
  have T0 := hT.below hB
  have HB := hid hB
  have Hg := hid hg
  obtain ⟨a0, a1⟩ := b0
  replace a0 : Bk W0 g _ := a0
  replace a1 : Bk W0 (g + 1) _ := a1
  obtain ⟨x0, x1, x2, x3, -, -, -, -⟩ := a0.c4
  clear hB hg h g0 hT
  skip
  refine (parts_q h0 hk0).mono ?_
  rintro e w1 ⟨p, A, n, c, B, m, d, a, b, rfl, h1, hb1⟩
  replace a1 := a1.step hb1
  
  clear x0 x1 x2 x3
  obtain ⟨x0, x1, x2, x3, -, -, -, -⟩ := a1.c4
  have l1 := a1.lt
  have hB1 := hid (bthen HB.out hb1 (Nat.le_refl _))
  have k1 := k0.below hb1
  have T1 := T0.below hb1
  have hBn := below_two w1 (.cells #[.bool p, .slice A n c] 24) (.cells #[.bool false, .slice B m d] 24)
  have k2 := k1.below hBn
  have T2 := T1.below hBn
  have h2 := h1.below hBn
  have c1 := box1 w1 (.cells #[.bool p, .slice A n c] 24) (.cells #[.bool false, .slice B m d] 24)
  have c2 := box2 w1 (.cells #[.bool p, .slice A n c] 24) (.cells #[.bool false, .slice B m d] 24)
  replace a1 := a1.alloc2 (.cells #[.bool p, .slice A n c] 24) (.cells #[.bool false, .slice B m d] 24)
  
  clear x0 x1 x2 x3
  obtain ⟨x0, x1, x2, x3, -, -, -, -⟩ := a1.c4
  have hBn' := hid hBn
  have l1' := hid l1
  clear hb1 h0 k0 k1 h1 hBn T0 T1 a0
  go_wp2_with fail
  refine (parts_q k2 hl0).mono ?_
  rintro e w2 ⟨q, C, n', c', D, m', d', a', b', rfl, k2', hb2⟩
  clear x0 x1 x2 x3
  
  replace c1 := c1.step hb2
  replace c2 := c2.step hb2
  have hB2 := hid (bthen (bthen hB1.out hBn'.out (Nat.le_refl _)) hb2 (Nat.le_refl _))
  have hBm := hid (below_two w2 (.cells #[.bool q, .slice C n' c'] 24) (.cells #[.bool false, .slice D m' d'] 24))
  have h3 := (h2.below hb2).below hBm.out
  have k3 := k2'.below hBm.out
  have T3 := (T2.below hb2).below hBm.out
  have e1 := box1 w2 (.cells #[.bool q, .slice C n' c'] 24) (.cells #[.bool false, .slice D m' d'] 24)
  have e2 := box2 w2 (.cells #[.bool q, .slice C n' c'] 24) (.cells #[.bool false, .slice D m' d'] 24)
  
  replace c1 := c1.alloc2 (.cells #[.bool q, .slice C n' c'] 24) (.cells #[.bool false, .slice D m' d'] 24)
  replace c2 := c2.alloc2 (.cells #[.bool q, .slice C n' c'] 24) (.cells #[.bool false, .slice D m' d'] 24)
  have hB3 := hid (bthen hB2.out hBm.out (Nat.le_refl _))
  obtain ⟨u0, u1, -, -⟩ := c1.c2
  obtain ⟨u2, u3, -, -⟩ := c2.c2
  obtain ⟨u4, u5, -, -⟩ := e1.c2
  obtain ⟨u6, u7, -, -⟩ := e2.c2
  clear h2 k2 k2' T2 a1
  go_wp2_with fail
  have hsz : w1.heap.size + 1 < w2.heap.size := by have := e1.lt; have := hb2.size; simp at this; omega
  clear hb2
  generalize (w2.alloc (.cells #[.bool q, .slice C n' c'] 24)).alloc (.cells #[.bool false, .slice D m' d'] 24) = W3 at *
  generalize w1.heap.size = g1 at *
  generalize w2.heap.size = g2 at *
  have Y0 := Cy.mk (show Bk W3.drew g1 _ from c1) (show Bk W3.drew (g1 + 1) _ from c2) (show Bk W3.drew g2 _ from e1) (show Bk W3.drew (g2 + 1) _ from e2) h3.drew k3.drew (show Tb W3.drew from T3.below (Below.refl _ _).drew) hB3.out.drew
  have Q0 := Y0
  skip
  clear h3 k3  c1 c2 e1 e2 T3 hB3 hBn' hBm hB2 hB1 Y0 HB l1' u0 u1 u2 u3 u4 u5 u6 u7
  have hcells := Q0.cells
  have HQ := hid (cmpQ_of Q0.f.pq Q0.e.pq)
  by_cases hbb : b = b'
  · have Hs := hid (show sgn b b' = 0 by rw [hbb, sgn_eq])
    have Hc := hid (show cmpZ a a' = cmpQ x y by rw [← HQ.out, ← hbb, cmpZ_mul Q0.f.pq.nz])
    clear hbb
    go_region_with (first
      | (go_at_call 76; with_reducible refine (size_any false B m d b _ Q0.f.den).mono ?_; rintro e wv1 ⟨f1, rfl, hf1, hb1⟩; have Q1 := Q0.below hb1; have hcl1 := Q1.cells)
      | (go_at_call 76; with_reducible refine (size_any false D m' d' b' _ Q1.e.den).mono ?_; rintro e wv2 ⟨f2, rfl, hf2, hb2⟩; have Q2 := Q1.below hb2; replace hf1 := hf1.below hb2; have hcl2 := Q2.cells)
      | (go_at_call 75; with_reducible refine (compareLimbs_nm hf1 hf2).mono ?_; rintro e wv3 ⟨rfl, hq6⟩; have hb3 := hq6.below wv2.heap.size; rw [Hs.out]; have Q3 := Q2.below hb3; have hcl3 := Q3.cells))
    all_goals
      clear Q0 Q1 Q2 hb1 hb2 hb3 hq6 hf1 hf2 hcells hcl1 hcl2 hcl3
      have hcells := Q3.cells
      go_wp2_with fail
      refine (CmpZ Q3.f.num Q3.e.num (Q3.f.pq.la.mono (by omega))).mono ?_
      rintro e w9 ⟨rfl, hb9⟩
      rw [Hc.out]
      have hE := bthen Q3.bl hb9 (Nat.le_refl _)
      clear Q3 hcells hb9
      go_wp2
      go_ret
      exact ⟨rfl, hE⟩
  · rcases (show b < b' ∨ b' < b by omega) with hlt | hlt
    · have Hs := hid (show sgn b b' = -1 by unfold sgn; rw [if_pos hlt])
      clear hbb hlt
      by_cases hsg : a.sign = a'.sign
      · have hsB : (a.sign != a'.sign) = false := by rw [hsg]; simp
        clear hsg
        go_region_held3 (fun w' => w'.cell? ⟨g1, 0, none⟩ = some (.bool p) ∧ w'.cell? ⟨g1, 1, none⟩ = some (.slice A n c) ∧ w'.cell? ⟨g1 + 1, 0, none⟩ = some (.bool false) ∧ w'.cell? ⟨g1 + 1, 1, none⟩ = some (.slice B m d) ∧ w'.cell? ⟨g2, 0, none⟩ = some (.bool q) ∧ w'.cell? ⟨g2, 1, none⟩ = some (.slice C n' c') ∧ w'.cell? ⟨g2 + 1, 0, none⟩ = some (.bool false) ∧ w'.cell? ⟨g2 + 1, 1, none⟩ = some (.slice D m' d')) (first | with_reducible exact Cy.cells Q0 | with_reducible exact Cy.cells Q1 | with_reducible exact Cy.cells Q2 | with_reducible exact Cy.cells Q3 | with_reducible exact Cy.cells Q4 | with_reducible exact Cy.cells Q5) (first
          | (go_at_call 76; with_reducible refine (size_any false B m d b W3.drew Q0.f.den).mono ?_; rintro e wv1 ⟨f1, rfl, hf1, hb1⟩; have Q1 := Q0.below hb1)
          | (go_at_call 76; with_reducible refine (size_any false D m' d' b' wv1 Q1.e.den).mono ?_; rintro e wv2 ⟨f2, rfl, hf2, hb2⟩; have Q2 := Q1.below hb2; replace hf1 := hf1.below hb2)
          | (go_at_call 75; with_reducible refine (compareLimbs_nm hf1 hf2).mono ?_; rintro e wv3 ⟨rfl, hq6⟩; have hb3 := hq6.below wv2.heap.size; rw [Hs.out]; have Q3 := Q2.below hb3)
          | (go_at_call 57; with_reducible refine (SignZ Q3.f.num).mono ?_; rintro e wv4 ⟨rfl, hb4⟩; have Q4 := Q3.below hb4)
          | (go_at_call 57; with_reducible refine (SignZ Q4.e.num).mono ?_; rintro e wv5 ⟨rfl, hb5⟩; have Q5 := Q4.below hb5))
        have Q6 := Q5.below ((Below.refl _ _).drew)
        clear Q0 Q1 Q2 Q3 Q4 Q5 hb1 hb2 hb3 hb4 hb5 hq6 hf1 hf2 hcells
        have hcells := Q6.cells
        go_wp2_with fail
        go_region_held3 (fun w' => w'.cell? ⟨g1, 0, none⟩ = some (.bool p) ∧ w'.cell? ⟨g1, 1, none⟩ = some (.slice A n c) ∧ w'.cell? ⟨g1 + 1, 0, none⟩ = some (.bool false) ∧ w'.cell? ⟨g1 + 1, 1, none⟩ = some (.slice B m d) ∧ w'.cell? ⟨g2, 0, none⟩ = some (.bool q) ∧ w'.cell? ⟨g2, 1, none⟩ = some (.slice C n' c') ∧ w'.cell? ⟨g2 + 1, 0, none⟩ = some (.bool false) ∧ w'.cell? ⟨g2 + 1, 1, none⟩ = some (.slice D m' d')) (first | with_reducible exact Cy.cells Q6 | with_reducible exact Cy.cells Q7 | with_reducible exact Cy.cells Q8 | with_reducible exact Cy.cells Q9) (first
          | (go_at_call 59; with_reducible refine (MulZ Q6.f.num Q6.e.zi (Q6.f.pq.la.mono (by omega)) (Q6.e.pq.lb.mono (by omega))).mono ?_; rintro e wv7 ⟨a1', E1, f1, g1', rfl, hn1, hb7⟩; have Q7 := Q6.below hb7)
          | (go_at_call 59; with_reducible refine (MulZ Q7.e.num Q7.f.zi (Q7.e.pq.la.mono (by omega)) (Q7.f.pq.lb.mono (by omega))).mono ?_; rintro e wv8 ⟨a2', E2, f2, g2', rfl, hn2, hb8⟩; have Q8 := Q7.below hb8; replace hn1 := hn1.below hb8)
          | (go_at_call 77; with_reducible refine (CmpZ hn1.zi hn2.zi ((Le.mul Q8.f.pq.la Q8.e.pq.lb).mono (by omega))).mono ?_; rintro e wv9 ⟨rfl, hb9⟩; have Q9 := Q8.below hb9))
        rw [HQ.out]
        have hE := Q9.bl
        clear Q6 Q7 Q8 hb7 hb8 hb9 hn1 hn2 hcells Q9
        go_wp2
        go_ret
        exact ⟨rfl, hE⟩
      · have hsB : (a.sign != a'.sign) = true := by simpa using hsg
        have Hc := hid (show cmpZ a a' = cmpQ x y by rw [← HQ.out, cmpZ_sign Q0.f.pq.nz Q0.e.pq.nz hsg])
        clear hsg
        go_region_held3 (fun w' => w'.cell? ⟨g1, 0, none⟩ = some (.bool p) ∧ w'.cell? ⟨g1, 1, none⟩ = some (.slice A n c) ∧ w'.cell? ⟨g1 + 1, 0, none⟩ = some (.bool false) ∧ w'.cell? ⟨g1 + 1, 1, none⟩ = some (.slice B m d) ∧ w'.cell? ⟨g2, 0, none⟩ = some (.bool q) ∧ w'.cell? ⟨g2, 1, none⟩ = some (.slice C n' c') ∧ w'.cell? ⟨g2 + 1, 0, none⟩ = some (.bool false) ∧ w'.cell? ⟨g2 + 1, 1, none⟩ = some (.slice D m' d')) (first | with_reducible exact Cy.cells Q0 | with_reducible exact Cy.cells Q1 | with_reducible exact Cy.cells Q2 | with_reducible exact Cy.cells Q3 | with_reducible exact Cy.cells Q4 | with_reducible exact Cy.cells Q5) (first
          | (go_at_call 76; with_reducible refine (size_any false B m d b W3.drew Q0.f.den).mono ?_; rintro e wv1 ⟨f1, rfl, hf1, hb1⟩; have Q1 := Q0.below hb1)
          | (go_at_call 76; with_reducible refine (size_any false D m' d' b' wv1 Q1.e.den).mono ?_; rintro e wv2 ⟨f2, rfl, hf2, hb2⟩; have Q2 := Q1.below hb2; replace hf1 := hf1.below hb2)
          | (go_at_call 75; with_reducible refine (compareLimbs_nm hf1 hf2).mono ?_; rintro e wv3 ⟨rfl, hq6⟩; have hb3 := hq6.below wv2.heap.size; rw [Hs.out]; have Q3 := Q2.below hb3)
          | (go_at_call 57; with_reducible refine (SignZ Q3.f.num).mono ?_; rintro e wv4 ⟨rfl, hb4⟩; have Q4 := Q3.below hb4)
          | (go_at_call 57; with_reducible refine (SignZ Q4.e.num).mono ?_; rintro e wv5 ⟨rfl, hb5⟩; have Q5 := Q4.below hb5))
        clear Q0 Q1 Q2 Q3 Q4 hb1 hb2 hb3 hb4 hb5 hq6 hf1 hf2 hcells
        have hcells := Q5.cells
        go_wp2_with fail
        refine (CmpZ Q5.f.num Q5.e.num (Q5.f.pq.la.mono (by omega))).mono ?_
        rintro e w9 ⟨rfl, hb9⟩
        rw [Hc.out]
        have hE := bthen Q5.bl hb9 (Nat.le_refl _)
        clear Q5 hcells hb9
        go_wp2
        go_ret
        exact ⟨rfl, hE⟩
    · have Hs := hid (show sgn b b' = 1 by unfold sgn; rw [if_neg (by omega), if_neg (by omega)])
      clear hbb hlt
      by_cases hsg : a.sign = a'.sign
      · have hsB : (a.sign != a'.sign) = false := by rw [hsg]; simp
        clear hsg
        go_region_held3 (fun w' => w'.cell? ⟨g1, 0, none⟩ = some (.bool p) ∧ w'.cell? ⟨g1, 1, none⟩ = some (.slice A n c) ∧ w'.cell? ⟨g1 + 1, 0, none⟩ = some (.bool false) ∧ w'.cell? ⟨g1 + 1, 1, none⟩ = some (.slice B m d) ∧ w'.cell? ⟨g2, 0, none⟩ = some (.bool q) ∧ w'.cell? ⟨g2, 1, none⟩ = some (.slice C n' c') ∧ w'.cell? ⟨g2 + 1, 0, none⟩ = some (.bool false) ∧ w'.cell? ⟨g2 + 1, 1, none⟩ = some (.slice D m' d')) (first | with_reducible exact Cy.cells Q0 | with_reducible exact Cy.cells Q1 | with_reducible exact Cy.cells Q2 | with_reducible exact Cy.cells Q3 | with_reducible exact Cy.cells Q4 | with_reducible exact Cy.cells Q5) (first
          | (go_at_call 76; with_reducible refine (size_any false B m d b W3.drew Q0.f.den).mono ?_; rintro e wv1 ⟨f1, rfl, hf1, hb1⟩; have Q1 := Q0.below hb1)
          | (go_at_call 76; with_reducible refine (size_any false D m' d' b' wv1 Q1.e.den).mono ?_; rintro e wv2 ⟨f2, rfl, hf2, hb2⟩; have Q2 := Q1.below hb2; replace hf1 := hf1.below hb2)
          | (go_at_call 75; with_reducible refine (compareLimbs_nm hf1 hf2).mono ?_; rintro e wv3 ⟨rfl, hq6⟩; have hb3 := hq6.below wv2.heap.size; rw [Hs.out]; have Q3 := Q2.below hb3)
          | (go_at_call 57; with_reducible refine (SignZ Q3.f.num).mono ?_; rintro e wv4 ⟨rfl, hb4⟩; have Q4 := Q3.below hb4)
          | (go_at_call 57; with_reducible refine (SignZ Q4.e.num).mono ?_; rintro e wv5 ⟨rfl, hb5⟩; have Q5 := Q4.below hb5))
        have Q6 := Q5.below ((Below.refl _ _).drew)
        clear Q0 Q1 Q2 Q3 Q4 Q5 hb1 hb2 hb3 hb4 hb5 hq6 hf1 hf2 hcells
        have hcells := Q6.cells
        go_wp2_with fail
        go_region_held3 (fun w' => w'.cell? ⟨g1, 0, none⟩ = some (.bool p) ∧ w'.cell? ⟨g1, 1, none⟩ = some (.slice A n c) ∧ w'.cell? ⟨g1 + 1, 0, none⟩ = some (.bool false) ∧ w'.cell? ⟨g1 + 1, 1, none⟩ = some (.slice B m d) ∧ w'.cell? ⟨g2, 0, none⟩ = some (.bool q) ∧ w'.cell? ⟨g2, 1, none⟩ = some (.slice C n' c') ∧ w'.cell? ⟨g2 + 1, 0, none⟩ = some (.bool false) ∧ w'.cell? ⟨g2 + 1, 1, none⟩ = some (.slice D m' d')) (first | with_reducible exact Cy.cells Q6 | with_reducible exact Cy.cells Q7 | with_reducible exact Cy.cells Q8 | with_reducible exact Cy.cells Q9) (first
          | (go_at_call 59; with_reducible refine (MulZ Q6.f.num Q6.e.zi (Q6.f.pq.la.mono (by omega)) (Q6.e.pq.lb.mono (by omega))).mono ?_; rintro e wv7 ⟨a1', E1, f1, g1', rfl, hn1, hb7⟩; have Q7 := Q6.below hb7)
          | (go_at_call 59; with_reducible refine (MulZ Q7.e.num Q7.f.zi (Q7.e.pq.la.mono (by omega)) (Q7.f.pq.lb.mono (by omega))).mono ?_; rintro e wv8 ⟨a2', E2, f2, g2', rfl, hn2, hb8⟩; have Q8 := Q7.below hb8; replace hn1 := hn1.below hb8)
          | (go_at_call 77; with_reducible refine (CmpZ hn1.zi hn2.zi ((Le.mul Q8.f.pq.la Q8.e.pq.lb).mono (by omega))).mono ?_; rintro e wv9 ⟨rfl, hb9⟩; have Q9 := Q8.below hb9))
        rw [HQ.out]
        have hE := Q9.bl
        clear Q6 Q7 Q8 hb7 hb8 hb9 hn1 hn2 hcells Q9
        go_wp2
        go_ret
        exact ⟨rfl, hE⟩
      · have hsB : (a.sign != a'.sign) = true := by simpa using hsg
        have Hc := hid (show cmpZ a a' = cmpQ x y by rw [← HQ.out, cmpZ_sign Q0.f.pq.nz Q0.e.pq.nz hsg])
        clear hsg
        go_region_held3 (fun w' => w'.cell? ⟨g1, 0, none⟩ = some (.bool p) ∧ w'.cell? ⟨g1, 1, none⟩ = some (.slice A n c) ∧ w'.cell? ⟨g1 + 1, 0, none⟩ = some (.bool false) ∧ w'.cell? ⟨g1 + 1, 1, none⟩ = some (.slice B m d) ∧ w'.cell? ⟨g2, 0, none⟩ = some (.bool q) ∧ w'.cell? ⟨g2, 1, none⟩ = some (.slice C n' c') ∧ w'.cell? ⟨g2 + 1, 0, none⟩ = some (.bool false) ∧ w'.cell? ⟨g2 + 1, 1, none⟩ = some (.slice D m' d')) (first | with_reducible exact Cy.cells Q0 | with_reducible exact Cy.cells Q1 | with_reducible exact Cy.cells Q2 | with_reducible exact Cy.cells Q3 | with_reducible exact Cy.cells Q4 | with_reducible exact Cy.cells Q5) (first
          | (go_at_call 76; with_reducible refine (size_any false B m d b W3.drew Q0.f.den).mono ?_; rintro e wv1 ⟨f1, rfl, hf1, hb1⟩; have Q1 := Q0.below hb1)
          | (go_at_call 76; with_reducible refine (size_any false D m' d' b' wv1 Q1.e.den).mono ?_; rintro e wv2 ⟨f2, rfl, hf2, hb2⟩; have Q2 := Q1.below hb2; replace hf1 := hf1.below hb2)
          | (go_at_call 75; with_reducible refine (compareLimbs_nm hf1 hf2).mono ?_; rintro e wv3 ⟨rfl, hq6⟩; have hb3 := hq6.below wv2.heap.size; rw [Hs.out]; have Q3 := Q2.below hb3)
          | (go_at_call 57; with_reducible refine (SignZ Q3.f.num).mono ?_; rintro e wv4 ⟨rfl, hb4⟩; have Q4 := Q3.below hb4)
          | (go_at_call 57; with_reducible refine (SignZ Q4.e.num).mono ?_; rintro e wv5 ⟨rfl, hb5⟩; have Q5 := Q4.below hb5))
        clear Q0 Q1 Q2 Q3 Q4 hb1 hb2 hb3 hb4 hb5 hq6 hf1 hf2 hcells
        have hcells := Q5.cells
        go_wp2_with fail
        refine (CmpZ Q5.f.num Q5.e.num (Q5.f.pq.la.mono (by omega))).mono ?_
        rintro e w9 ⟨rfl, hb9⟩
        rw [Hc.out]
        have hE := bthen Q5.bl hb9 (Nat.le_refl _)
        clear Q5 hcells hb9
        go_wp2
        go_ret
        exact ⟨rfl, hE⟩

end Go.Proofs.YtffipjofefemiaaGreatDoor

namespace Go.Proofs.YtffipjofefemiaaGreatDoor
open Go.RowKit Kb

set_option maxRecDepth 100000 in
set_option maxHeartbeats 80000000 in
theorem QuoRat_q {w : World} {s1 s2 t1 t2 : Bool} {A1 A2 B1 B2 : Option Addr} {n1 c1 n2 c2 m1 d1 m2 d2 k l : Nat} {x y : Rat} (h : Qi w s1 A1 n1 c1 s2 A2 n2 c2 k x) (g0 : Qi w t1 B1 m1 d1 t2 B2 m2 d2 l y) (hk0 : 0 < k) (hl0 : 0 < l) (hk : k ≤ 400) (hl : l ≤ 400) (hT : Tb w) (hy : y ≠ 0) :
    Calls Tryz.prog 9 #[.agg #[.bool s1, .slice A1 n1 c1, .bool s2, .slice A2 n2 c2], .agg #[.bool t1, .slice B1 m1 d1, .bool t2, .slice B2 m2 d2]] w fun e w' => ∃ s1 A1 n1 c1 s2 A2 n2 c2, e = .returned (.tuple #[.agg #[.bool s1, .slice A1 n1 c1, .bool s2, .slice A2 n2 c2], .int .i64 0]) ∧ Qf w' s1 A1 n1 c1 s2 A2 n2 c2 (x / y) ∧ Below w.heap.size w w' := by
  have Hy := hid hy
  clear hy
  have b0 := three_new w (.cells #[.bool s1, .slice A1 n1 c1, .bool s2, .slice A2 n2 c2] 26) (.cells #[.bool t1, .slice B1 m1 d1, .bool t2, .slice B2 m2 d2] 26) (.cells #[.bool false, .slice none 0 0, .bool false, .slice none 0 0] 26)
  have hB := (((Below.refl w.heap.size w).alloc (Nat.le_refl _) (.cells #[.bool s1, .slice A1 n1 c1, .bool s2, .slice A2 n2 c2] 26)).alloc (by simp) (.cells #[.bool t1, .slice B1 m1 d1, .bool t2, .slice B2 m2 d2] 26)).alloc (by simp; omega) (.cells #[.bool false, .slice none 0 0, .bool false, .slice none 0 0] 26)
  obtain ⟨g, hg⟩ : ∃ g, w.heap.size = g := ⟨_, rfl⟩
  go_enter Tryz.func9, Tryz.ntmps9
  go_wp2_with fail
  rw [hg] at b0
  generalize ((w.alloc (.cells #[.bool s1, .slice A1 n1 c1, .bool s2, .slice A2 n2 c2] 26)).alloc (.cells #[.bool t1, .slice B1 m1 d1, .bool t2, .slice B2 m2 d2] 26)).alloc (.cells #[.bool false, .slice none 0 0, .bool false, .slice none 0 0] 26) = W0 at *
  have h0 := h.below hB
  have k0 := g0.below hB
  have T0 := hT.below hB
  have HB := hid hB
  have Hg := hid hg
  obtain ⟨a0, a1, a2⟩ := b0
  replace a0 : Bk W0 g _ := a0
  replace a1 : Bk W0 (g + 1) _ := a1
  obtain ⟨x0, x1, x2, x3, -, -, -, -⟩ := a0.c4
  clear hB hg h g0 hT
  go_wp2_with fail
  refine (parts_q h0 hk0).mono ?_
  rintro e w1 ⟨p, A, n, c, B, m, d, a, b, rfl, h1, hb1⟩
  replace a1 := a1.step hb1
  replace a2 := a2.step hb1
  clear x0 x1 x2 x3
  obtain ⟨x0, x1, x2, x3, -, -, -, -⟩ := a1.c4
  have l1 := a2.lt
  have hB1 := hid (bthen HB.out hb1 (Nat.le_refl _))
  have k1 := k0.below hb1
  have T1 := T0.below hb1
  have hBn := below_two w1 (.cells #[.bool p, .slice A n c] 24) (.cells #[.bool false, .slice B m d] 24)
  have k2 := k1.below hBn
  have T2 := T1.below hBn
  have h2 := h1.below hBn
  have c1 := box1 w1 (.cells #[.bool p, .slice A n c] 24) (.cells #[.bool false, .slice B m d] 24)
  have c2 := box2 w1 (.cells #[.bool p, .slice A n c] 24) (.cells #[.bool false, .slice B m d] 24)
  replace a1 := a1.alloc2 (.cells #[.bool p, .slice A n c] 24) (.cells #[.bool false, .slice B m d] 24)
  replace a2 := a2.alloc2 (.cells #[.bool p, .slice A n c] 24) (.cells #[.bool false, .slice B m d] 24)
  clear x0 x1 x2 x3
  obtain ⟨x0, x1, x2, x3, -, -, -, -⟩ := a1.c4
  have hBn' := hid hBn
  have l1' := hid l1
  clear hb1 h0 k0 k1 h1 hBn T0 T1 a0
  go_wp2_with fail
  refine (parts_q k2 hl0).mono ?_
  rintro e w2 ⟨q, C, n', c', D, m', d', a', b', rfl, k2', hb2⟩
  clear x0 x1 x2 x3
  replace a2 := a2.step hb2
  replace c1 := c1.step hb2
  replace c2 := c2.step hb2
  have hB2 := hid (bthen (bthen hB1.out hBn'.out (Nat.le_refl _)) hb2 (Nat.le_refl _))
  have hBm := hid (below_two w2 (.cells #[.bool q, .slice C n' c'] 24) (.cells #[.bool false, .slice D m' d'] 24))
  have h3 := (h2.below hb2).below hBm.out
  have k3 := k2'.below hBm.out
  have T3 := (T2.below hb2).below hBm.out
  have e1 := box1 w2 (.cells #[.bool q, .slice C n' c'] 24) (.cells #[.bool false, .slice D m' d'] 24)
  have e2 := box2 w2 (.cells #[.bool q, .slice C n' c'] 24) (.cells #[.bool false, .slice D m' d'] 24)
  replace a2 := a2.alloc2 (.cells #[.bool q, .slice C n' c'] 24) (.cells #[.bool false, .slice D m' d'] 24)
  replace c1 := c1.alloc2 (.cells #[.bool q, .slice C n' c'] 24) (.cells #[.bool false, .slice D m' d'] 24)
  replace c2 := c2.alloc2 (.cells #[.bool q, .slice C n' c'] 24) (.cells #[.bool false, .slice D m' d'] 24)
  have hB3 := hid (bthen hB2.out hBm.out (Nat.le_refl _))
  obtain ⟨u0, u1, -, -⟩ := c1.c2
  obtain ⟨u2, u3, -, -⟩ := c2.c2
  obtain ⟨u4, u5, -, -⟩ := e1.c2
  obtain ⟨u6, u7, -, -⟩ := e2.c2
  clear h2 k2 k2' T2 a1
  have hne : a' ≠ 0 := fun e => Hy.out (k3.pq.zero_iff.1 e)
  have HneA := hid hne
  have hsg : (a'.sign == 0) = false := by rw [beq_eq_false_iff_ne]; exact fun e => hne (Int.sign_eq_zero_iff_zero.1 e)
  clear hne
  go_wp2_with fail
  have hsz : w1.heap.size + 1 < w2.heap.size := by have := e1.lt; have := hb2.size; simp at this; omega
  clear hb2
  generalize (w2.alloc (.cells #[.bool q, .slice C n' c'] 24)).alloc (.cells #[.bool false, .slice D m' d'] 24) = W3 at *
  generalize w1.heap.size = g1 at *
  generalize w2.heap.size = g2 at *
  refine (SignZ k3.num).mono ?_
  rintro e w5 ⟨rfl, hb5⟩
  have hb5d := hb5.drew
  have Y0 := Cy.mk (c1.step hb5d) (c2.step hb5d) (e1.step hb5d) (e2.step hb5d) (h3.below hb5).drew (k3.below hb5).drew ((T3.below hb5).below ((Below.refl _ _).drew)) (bthen hB3.out hb5 (Nat.le_refl _)).drew
  have Q0 := Cx.mk Y0 (a2.step hb5d)
  have hg1 : g + 1 + 1 < g1 := l1'.out
  have hg2 : g + 1 + 1 < g2 := by omega
  clear h3 k3 a2 c1 c2 e1 e2 T3 hB3 hBn' hBm hB2 hB1 Y0 HB l1' hb5 hb5d u0 u1 u2 u3 u4 u5 u6 u7
  have hcells := Q0.cells
  go_wp2_with fail
  obtain ⟨Q1', Q2', Q3'⟩ := Q0.o.f.pq.div Q0.o.e.pq HneA.out
  have HQ1 := hid Q1'
  have Hn := hid (show (b : Int) * a' ≠ 0 from Int.mul_ne_zero (by have := Q0.o.f.pq.nz; omega) HneA.out)
  clear Q1'
  go_region_held3 (fun w' => w'.cell? ⟨g1, 0, none⟩ = some (.bool p) ∧ w'.cell? ⟨g1, 1, none⟩ = some (.slice A n c) ∧ w'.cell? ⟨g1 + 1, 0, none⟩ = some (.bool false) ∧ w'.cell? ⟨g1 + 1, 1, none⟩ = some (.slice B m d) ∧ w'.cell? ⟨g2, 0, none⟩ = some (.bool q) ∧ w'.cell? ⟨g2, 1, none⟩ = some (.slice C n' c') ∧ w'.cell? ⟨g2 + 1, 0, none⟩ = some (.bool false) ∧ w'.cell? ⟨g2 + 1, 1, none⟩ = some (.slice D m' d')) (first | with_reducible exact Cx.cells Q0 | with_reducible exact Cx.cells Q1 | with_reducible exact Cx.cells Q2 | with_reducible exact Cx.cells Q3 | with_reducible exact Cx.off Q3 hg1 hg2) (first
    | (go_at_call 59; with_reducible refine (MulZ Q0.o.f.num Q0.o.e.zi (Q0.o.f.pq.la.mono (by omega)) (Q0.o.e.pq.lb.mono (by omega))).mono ?_; rintro e wv1 ⟨a1', E1, f1, g1', rfl, hn1, hb1⟩; have Q1 := Q0.below hb1)
    | (go_at_call 59; with_reducible refine (MulZ Q1.o.f.zi Q1.o.e.num (Q1.o.f.pq.lb.mono (by omega)) (Q1.o.e.pq.la.mono (by omega))).mono ?_; rintro e wv2 ⟨a2', E2, f2, g2', rfl, hn2, hb2⟩; have Q2 := Q1.below hb2; replace hn1 := hn1.below hb2)
    | (go_at_call 58; with_reducible refine (fraction_q hn1.zi hn2.zi Hn.out (Q2'.mono (by omega)) (Q3'.mono (by omega)) Q2.o.tb).mono ?_; rintro e wv3 ⟨r1, R1, o1, e1', r2, R2, o2, e2', rfl, hq, hb3⟩; have Q3 := Q2.below hb3; have hl10 := Q3.r.lt; obtain ⟨i0, i1, i2, i3, i4, i5, i6, i7⟩ := Q3.r.c4))
  rw [HQ1.out] at hq
  have hgl := Hg.out
  have h11 := hid (below4 Q3.o.bl (show w.heap.size ≤ g + 1 + 1 by omega) (.bool r1) (.slice R1 o1 e1') (.bool r2) (.slice R2 o2 e2'))
  have m1 := hid (hq.n.offbox Q3.r (noInt_four _ _ _ _ _ _ _ _) (gb4 _ _ (.bool r1) (.slice R1 o1 e1') (.bool r2) (.slice R2 o2 e2')))
  have m2 := hid (hq.d.offbox Q3.r (noInt_four _ _ _ _ _ _ _ _) (gb4 _ _ (.bool r1) (.slice R1 o1 e1') (.bool r2) (.slice R2 o2 e2')))
  clear hgl Q3 Q0 Q1 Q2 hb1 hb2 hb3 hn1 hn2 hcells
  go_wp2
  exact bodyPost_ret (v := .tuple #[.agg #[.bool r1, .slice R1 o1 e1', .bool r2, .slice R2 o2 e2'], .int .i64 0]) (by simp [results, Tryz.results9, go_sem, i0, i1, i2, i3]) rfl ⟨_, _, _, _, _, _, _, _, rfl, ⟨m1.out, m2.out⟩, h11.out⟩
set_option maxRecDepth 100000 in
set_option maxHeartbeats 80000000 in
theorem QuoRat_zero {w : World} {s1 s2 t1 t2 : Bool} {A1 A2 B1 B2 : Option Addr} {n1 c1 n2 c2 m1 d1 m2 d2 k l : Nat} {x y : Rat} (h : Qi w s1 A1 n1 c1 s2 A2 n2 c2 k x) (g0 : Qi w t1 B1 m1 d1 t2 B2 m2 d2 l y) (hk0 : 0 < k) (hl0 : 0 < l) (hk : k ≤ 400) (hl : l ≤ 400) (hT : Tb w) (hy : y = 0) :
    Calls Tryz.prog 9 #[.agg #[.bool s1, .slice A1 n1 c1, .bool s2, .slice A2 n2 c2], .agg #[.bool t1, .slice B1 m1 d1, .bool t2, .slice B2 m2 d2]] w fun e w' => e = .returned (.tuple #[.agg #[.bool false, .slice none 0 0, .bool false, .slice none 0 0], .int .i64 9]) ∧ Below w.heap.size w w' := by
  have _hk := hk
  have _hl := hl
  have Hy := hid hy
  clear hy
  have b0 := three_new w (.cells #[.bool s1, .slice A1 n1 c1, .bool s2, .slice A2 n2 c2] 26) (.cells #[.bool t1, .slice B1 m1 d1, .bool t2, .slice B2 m2 d2] 26) (.cells #[.bool false, .slice none 0 0, .bool false, .slice none 0 0] 26)
  have hB := (((Below.refl w.heap.size w).alloc (Nat.le_refl _) (.cells #[.bool s1, .slice A1 n1 c1, .bool s2, .slice A2 n2 c2] 26)).alloc (by simp) (.cells #[.bool t1, .slice B1 m1 d1, .bool t2, .slice B2 m2 d2] 26)).alloc (by simp; omega) (.cells #[.bool false, .slice none 0 0, .bool false, .slice none 0 0] 26)
  obtain ⟨g, hg⟩ : ∃ g, w.heap.size = g := ⟨_, rfl⟩
  go_enter Tryz.func9, Tryz.ntmps9
  go_wp2_with fail
  rw [hg] at b0
  generalize ((w.alloc (.cells #[.bool s1, .slice A1 n1 c1, .bool s2, .slice A2 n2 c2] 26)).alloc (.cells #[.bool t1, .slice B1 m1 d1, .bool t2, .slice B2 m2 d2] 26)).alloc (.cells #[.bool false, .slice none 0 0, .bool false, .slice none 0 0] 26) = W0 at *
  have h0 := h.below hB
  have k0 := g0.below hB
  have T0 := hT.below hB
  have HB := hid hB
  have Hg := hid hg
  obtain ⟨a0, a1, a2⟩ := b0
  replace a0 : Bk W0 g _ := a0
  replace a1 : Bk W0 (g + 1) _ := a1
  obtain ⟨x0, x1, x2, x3, -, -, -, -⟩ := a0.c4
  clear hB hg h g0 hT
  go_wp2_with fail
  refine (parts_q h0 hk0).mono ?_
  rintro e w1 ⟨p, A, n, c, B, m, d, a, b, rfl, h1, hb1⟩
  replace a1 := a1.step hb1
  replace a2 := a2.step hb1
  clear x0 x1 x2 x3
  obtain ⟨x0, x1, x2, x3, -, -, -, -⟩ := a1.c4
  have l1 := a2.lt
  have hB1 := hid (bthen HB.out hb1 (Nat.le_refl _))
  have k1 := k0.below hb1
  have T1 := T0.below hb1
  have hBn := below_two w1 (.cells #[.bool p, .slice A n c] 24) (.cells #[.bool false, .slice B m d] 24)
  have k2 := k1.below hBn
  have T2 := T1.below hBn
  have h2 := h1.below hBn
  have c1 := box1 w1 (.cells #[.bool p, .slice A n c] 24) (.cells #[.bool false, .slice B m d] 24)
  have c2 := box2 w1 (.cells #[.bool p, .slice A n c] 24) (.cells #[.bool false, .slice B m d] 24)
  replace a1 := a1.alloc2 (.cells #[.bool p, .slice A n c] 24) (.cells #[.bool false, .slice B m d] 24)
  replace a2 := a2.alloc2 (.cells #[.bool p, .slice A n c] 24) (.cells #[.bool false, .slice B m d] 24)
  clear x0 x1 x2 x3
  obtain ⟨x0, x1, x2, x3, -, -, -, -⟩ := a1.c4
  have hBn' := hid hBn
  have l1' := hid l1
  clear hb1 h0 k0 k1 h1 hBn T0 T1 a0
  go_wp2_with fail
  refine (parts_q k2 hl0).mono ?_
  rintro e w2 ⟨q, C, n', c', D, m', d', a', b', rfl, k2', hb2⟩
  clear x0 x1 x2 x3
  replace a2 := a2.step hb2
  replace c1 := c1.step hb2
  replace c2 := c2.step hb2
  have hB2 := hid (bthen (bthen hB1.out hBn'.out (Nat.le_refl _)) hb2 (Nat.le_refl _))
  have hBm := hid (below_two w2 (.cells #[.bool q, .slice C n' c'] 24) (.cells #[.bool false, .slice D m' d'] 24))
  have h3 := (h2.below hb2).below hBm.out
  have k3 := k2'.below hBm.out
  have T3 := (T2.below hb2).below hBm.out
  have e1 := box1 w2 (.cells #[.bool q, .slice C n' c'] 24) (.cells #[.bool false, .slice D m' d'] 24)
  have e2 := box2 w2 (.cells #[.bool q, .slice C n' c'] 24) (.cells #[.bool false, .slice D m' d'] 24)
  replace a2 := a2.alloc2 (.cells #[.bool q, .slice C n' c'] 24) (.cells #[.bool false, .slice D m' d'] 24)
  replace c1 := c1.alloc2 (.cells #[.bool q, .slice C n' c'] 24) (.cells #[.bool false, .slice D m' d'] 24)
  replace c2 := c2.alloc2 (.cells #[.bool q, .slice C n' c'] 24) (.cells #[.bool false, .slice D m' d'] 24)
  have hB3 := hid (bthen hB2.out hBm.out (Nat.le_refl _))
  obtain ⟨u0, u1, -, -⟩ := c1.c2
  obtain ⟨u2, u3, -, -⟩ := c2.c2
  obtain ⟨u4, u5, -, -⟩ := e1.c2
  obtain ⟨u6, u7, -, -⟩ := e2.c2
  clear h2 k2 k2' T2 a1
  have hne : a' = 0 := k3.pq.zero_iff.2 Hy.out
  have HneA := hid (show a'.sign = 0 by rw [hne]; rfl)
  clear hne
  go_wp2_with fail
  have hsz : w1.heap.size + 1 < w2.heap.size := by have := e1.lt; have := hb2.size; simp at this; omega
  clear hb2
  generalize (w2.alloc (.cells #[.bool q, .slice C n' c'] 24)).alloc (.cells #[.bool false, .slice D m' d'] 24) = W3 at *
  generalize w1.heap.size = g1 at *
  generalize w2.heap.size = g2 at *
  refine (SignZ k3.num).mono ?_
  rintro e w5 ⟨rfl, hb5⟩
  rw [HneA.out]
  have hB5 := hid (bthen hB3.out hb5 (Nat.le_refl _))
  replace a2 := a2.step hb5
  have hgl := Hg.out
  have h11 := hid (below4 hB5.out (show w.heap.size ≤ g + 1 + 1 by omega) (.bool false) (.slice none 0 0) (.bool false) (.slice none 0 0))
  have hl10 := a2.lt
  obtain ⟨i0, i1, i2, i3, i4, i5, i6, i7⟩ := a2.c4
  clear h3 k3 a2 c1 c2 e1 e2 T3 hb5 hgl hB3 u0 u1 u2 u3 u4 u5 u6 u7
  go_wp2
  exact bodyPost_ret (v := .tuple #[.agg #[.bool false, .slice none 0 0, .bool false, .slice none 0 0], .int .i64 9]) (by simp [results, Tryz.results9, go_sem, i0, i1, i2, i3]) rfl ⟨rfl, h11.out⟩

end Go.Proofs.YtffipjofefemiaaGreatDoor

namespace Go.Proofs.YtffipjofefemiaaGreatDoor
open Go.RowKit Kb

set_option maxRecDepth 100000 in
set_option maxHeartbeats 80000000 in
theorem Whole_q {w : World} {s : Bool} {A : Option Addr} {n c : Nat} {z : Int} (h : Zi w s A n c z) (lz : Le 1000 z) :
    Calls Tryz.prog 23 #[.agg #[.bool s, .slice A n c]] w fun e w' => ∃ s1 A1 n1 c1 s2 A2 n2 c2, e = .returned (.agg #[.bool s1, .slice A1 n1 c1, .bool s2, .slice A2 n2 c2]) ∧ Qf w' s1 A1 n1 c1 s2 A2 n2 c2 ((z : Rat)) ∧ Below w.heap.size w w' := by
  obtain ⟨a, ha, ea⟩ := h
  have la : (dig a).length ≤ 1000 := by rw [Zi.nat ea.out]; exact lz.len
  have b0 := two_new w (.cells #[.bool s, .slice A n c] 24) (.cells #[.bool false, .slice none 0 0, .bool false, .slice none 0 0] 26)
  have hB := below_two w (.cells #[.bool s, .slice A n c] 24) (.cells #[.bool false, .slice none 0 0, .bool false, .slice none 0 0] 26)
  obtain ⟨g, hg⟩ : ∃ g, w.heap.size = g := ⟨_, rfl⟩
  clear lz
  go_enter Tryz.func23, Tryz.ntmps23
  go_wp2_with fail
  rw [hg] at b0
  generalize (w.alloc (.cells #[.bool s, .slice A n c] 24)).alloc (.cells #[.bool false, .slice none 0 0, .bool false, .slice none 0 0] 26) = W0 at *
  have h0 := ha.below hB
  have HB := hid hB
  have Hg := hid hg
  obtain ⟨a0, a1⟩ := b0
  replace a1 : Bk W0 (g + 1) _ := a1
  clear hB hg ha a0
  refine (zn_open (duplicate_any s A n c a _ h0 (by omega))).mono ?_
  rintro e w1 ⟨r1, R1, o1, e1', rfl, hn1, hb1⟩
  rw [ea.out] at hn1
  replace a1 := a1.step hb1
  have hB1 := hid (bthen HB.out hb1 (Nat.le_refl _))
  clear hb1 h0
  go_wp2_with fail
  refine (Of1 _).mono ?_
  rintro e w2 ⟨r2, R2, o2, e2', rfl, hn2, hb2⟩
  replace a1 := a1.step hb2
  replace hn1 := hn1.below hb2
  have hB2 := hid (bthen hB1.out hb2 (Nat.le_refl _))
  have hgl := Hg.out
  have h11 := hid (below4 hB2.out (show w.heap.size ≤ g + 1 by omega) (.bool r1) (.slice R1 o1 e1') (.bool r2) (.slice R2 o2 e2'))
  have m1 := hid (hn1.offbox a1 (noInt_four _ _ _ _ _ _ _ _) (gb4 _ _ (.bool r1) (.slice R1 o1 e1') (.bool r2) (.slice R2 o2 e2')))
  have m2 := hid (hn2.offbox a1 (noInt_four _ _ _ _ _ _ _ _) (gb4 _ _ (.bool r1) (.slice R1 o1 e1') (.bool r2) (.slice R2 o2 e2')))
  have hl10 := a1.lt
  obtain ⟨i0, i1, i2, i3, i4, i5, i6, i7⟩ := a1.c4
  clear hgl a1 hn1 hn2 hb2
  go_wp2
  exact bodyPost_ret (v := .agg #[.bool r1, .slice R1 o1 e1', .bool r2, .slice R2 o2 e2']) (by simp [results, Tryz.results23, go_sem, i0, i1, i2, i3]) rfl ⟨_, _, _, _, _, _, _, _, rfl, ⟨m1.out, m2.out⟩, h11.out⟩
set_option maxRecDepth 100000 in
set_option maxHeartbeats 80000000 in
theorem Floor_q {w : World} {s1 s2 : Bool} {A1 A2 : Option Addr} {n1 c1 n2 c2 k : Nat} {x : Rat} (h : Qi w s1 A1 n1 c1 s2 A2 n2 c2 k x) (hk0 : 0 < k) (hk : k ≤ 400) :
    Calls Tryz.prog 28 #[.agg #[.bool s1, .slice A1 n1 c1, .bool s2, .slice A2 n2 c2]] w fun e w' => ∃ r R o e1 z, e = .returned (.agg #[.bool r, .slice R o e1]) ∧ Zn w' r R o e1 z ∧ Hid (Le (k + 1) z ∧ (z : Rat) ≤ x ∧ x < (z : Rat) + 1) ∧ Below w.heap.size w w' := by
  have hb0 := below_two w (.cells #[.bool s1, .slice A1 n1 c1, .bool s2, .slice A2 n2 c2] 26) (.cells #[.bool false, .slice none 0 0] 24)
  have j1 := box1 w (.cells #[.bool s1, .slice A1 n1 c1, .bool s2, .slice A2 n2 c2] 26) (.cells #[.bool false, .slice none 0 0] 24)
  have j2 := box2 w (.cells #[.bool s1, .slice A1 n1 c1, .bool s2, .slice A2 n2 c2] 26) (.cells #[.bool false, .slice none 0 0] 24)
  have h0 := h.below hb0
  obtain ⟨g, hg⟩ : ∃ g, w.heap.size = g := ⟨_, rfl⟩
  go_enter Tryz.func28, Tryz.ntmps28
  go_wp2_with fail
  rw [hg] at j2 j1
  generalize (w.alloc (.cells #[.bool s1, .slice A1 n1 c1, .bool s2, .slice A2 n2 c2] 26)).alloc (.cells #[.bool false, .slice none 0 0] 24) = W0 at *
  have HB := hid hb0
  have Hg := hid hg
  clear h hb0 hg j1
  refine (parts_q h0 hk0).mono ?_
  rintro e w1 ⟨p, A, n, c, B, m, d, a, b, rfl, hf, hb1⟩
  replace j2 := j2.step hb1
  have hB1 := hid (bthen HB.out hb1 (Nat.le_refl _))
  clear hb1 h0
  go_wp2_with fail
  refine (DivModZ hf.num hf.zi (hf.pq.la.mono (by omega)) (hf.pq.lb.mono (by omega)) (by have := hf.pq.nz; omega)).mono ?_
  rintro e w2 ⟨r, R, o, e1, r', R', o', e1', rfl, hn, -, hb2⟩
  replace j2 := j2.step hb2
  have hB2 := hid (bthen hB1.out hb2 (Nat.le_refl _))
  have hqb := below_two w2 (.cells #[.bool r, .slice R o e1] 24) (.cells #[.bool r', .slice R' o' e1'] 24)
  have j3 := j2.alloc2 (.cells #[.bool r, .slice R o e1] 24) (.cells #[.bool r', .slice R' o' e1'] 24)
  have hn3 := hn.below hqb
  have hB3 := bthen hB2.out hqb (Nat.le_refl _)
  have hlq := j2.lt
  have hgl := Hg.out
  have h5 := hid ((hB3.setCell (p := ⟨g + 1, 0, none⟩) (by show w.heap.size ≤ g + 1; omega) (.bool r)).setCell (p := ⟨g + 1, 1, none⟩) (by show w.heap.size ≤ g + 1; omega) (.slice R o e1))
  have hN := hid (hn3.offbox j3 (noInt_zero _ _ _ _) (gb2 _ (g + 1) 0 1 (.bool r) (.slice R o e1)))
  have hF := hid (And.intro (hf.pq.la.div (show (b : Int) ≠ 0 by have := hf.pq.nz; omega)) (And.intro (floor_le hf.pq) (lt_floor hf.pq)))
  obtain ⟨y0, y1, y2, y3⟩ := j3.c2
  have hl3 := j3.lt
  clear hqb hn3 hB3 hn hb2 hf j2 j3 hgl
  go_wp2
  exact bodyPost_ret (v := .agg #[.bool r, .slice R o e1]) (by simp [results, Tryz.results28, go_sem, y0, y1]) rfl ⟨_, _, _, _, _, rfl, hN.out, hF, h5.out⟩
section
variable {w : World} {s1 s2 : Bool} {A1 A2 : Option Addr} {n1 c1 n2 c2 : Nat}
theorem wide_no (h1 : n1 ≤ 12) (h2 : n2 ≤ 12) :
    Calls Tryz.prog 7 #[.agg #[.bool s1, .slice A1 n1 c1, .bool s2, .slice A2 n2 c2]] w fun e w' => e = .returned (.bool false) ∧ Below w.heap.size w w' := by
  have hb := alo (W := w) (o := (.cells #[.bool s1, .slice A1 n1 c1, .bool s2, .slice A2 n2 c2] 26))
  have h1' : ¬ (12 : Int) < (n1 : Int) := by omega
  have h2' : ¬ (12 : Int) < (n2 : Int) := by omega
  have hd1 : decide ((12 : Int) < (n1 : Int)) = false := decide_eq_false h1'
  have hd2 : decide ((12 : Int) < (n2 : Int)) = false := decide_eq_false h2'
  clear h1' h2'
  go_enter Tryz.func7, Tryz.ntmps7
  go_wp2
  go_ret
  exact ⟨by simp, hb⟩
theorem wide_yes (h : 12 < n1 ∨ (n1 ≤ 12 ∧ 12 < n2)) :
    Calls Tryz.prog 7 #[.agg #[.bool s1, .slice A1 n1 c1, .bool s2, .slice A2 n2 c2]] w fun e w' => e = .returned (.bool true) ∧ Below w.heap.size w w' := by
  have hb := alo (W := w) (o := (.cells #[.bool s1, .slice A1 n1 c1, .bool s2, .slice A2 n2 c2] 26))
  rcases h with h1 | ⟨h1, h2⟩
  · have hd1 : decide ((12 : Int) < (n1 : Int)) = true := decide_eq_true (by omega)
    go_enter Tryz.func7, Tryz.ntmps7
    go_wp2
    go_ret
    exact ⟨by simp, hb⟩
  · have hd1 : decide ((12 : Int) < (n1 : Int)) = false := decide_eq_false (by omega)
    have hd2 : decide ((12 : Int) < (n2 : Int)) = true := decide_eq_true (by omega)
    go_enter Tryz.func7, Tryz.ntmps7
    go_wp2
    go_ret
    exact ⟨by simp, hb⟩
end
/-- The size of what comes of fractions. -/
theorem QL.pq {k : Nat} {r : Rat} (h : QL k r) : Pq k r r.num r.den := ⟨r.den_nz, Rat.mkRat_self r, h.num, h.den⟩
section
variable {k l : Nat} {x y : Rat}
theorem QL.add (h : QL k x) (g : QL l y) : QL (k + l + 1) (x + y) := (h.pq.add g.pq).ql
theorem QL.sub (h : QL k x) (g : QL l y) : QL (k + l + 1) (x - y) := (h.pq.sub g.pq).ql
theorem QL.mul (h : QL k x) (g : QL l y) : QL (k + l) (x * y) := (h.pq.mul g.pq).ql
theorem rv_ql {k : Nat} {N D : Int} (hk : 0 < k) (hN : Le k N) (hD : Le k D) : QL k (rv N D) := by
  refine mk_ql (pd_ne D) ?_ ?_
  · unfold pn; split; exact hN.neg; exact hN
  · unfold pd; split
    · exact Le.one hk
    · unfold Le at hD ⊢; rwa [Int.natAbs_natCast]
theorem Qi.ql {w : World} {s1 s2 : Bool} {A1 A2 : Option Addr} {n1 c1 n2 c2 : Nat} (h : Qi w s1 A1 n1 c1 s2 A2 n2 c2 k x) (hk : 0 < k) : QL k x := by
  obtain ⟨N, D, _, _, rfl, h1, h2⟩ := h.out
  exact rv_ql hk h1 h2
end
/-- The number of a machine integer, as a fraction. -/
theorem W_q (z : Int) (w : World) (h1 : -9223372036854775808 ≤ z) (h2 : z ≤ 9223372036854775807) :
    Calls Tryz.prog 50 #[.int .i64 z] w fun e w' => ∃ s1 A1 n1 c1 s2 A2 n2 c2, e = .returned (.agg #[.bool s1, .slice A1 n1 c1, .bool s2, .slice A2 n2 c2]) ∧ Qf w' s1 A1 n1 c1 s2 A2 n2 c2 ((z : Rat)) ∧ Below w.heap.size w w' := qf_open rfl rfl (W_any z w h1 h2)
theorem SameQ {w : World} {s1 s2 t1 t2 : Bool} {A1 A2 B1 B2 : Option Addr} {n1 c1 n2 c2 m1 d1 m2 d2 : Nat} {x y : Rat} (h : Qf w s1 A1 n1 c1 s2 A2 n2 c2 x) (g : Qf w t1 B1 m1 d1 t2 B2 m2 d2 y) (e : x = y) :
    Calls Tryz.prog 16 #[.agg #[.bool s1, .slice A1 n1 c1, .bool s2, .slice A2 n2 c2], .agg #[.bool t1, .slice B1 m1 d1, .bool t2, .slice B2 m2 d2]] w fun e w' => e = .returned (.bool true) ∧ Below w.heap.size w w' := by
  subst e
  exact SameRat_true ⟨s1, A1, n1, c1, s2, A2, n2, c2, rfl, h.n.1, h.d.1, h.n.2, h.d.2⟩ ⟨t1, B1, m1, d1, t2, B2, m2, d2, rfl, g.n.1, g.d.1, g.n.2, g.d.2⟩

end Go.Proofs.YtffipjofefemiaaGreatDoor
