/- The contract of Cmp where the signs are equal; Cmp whole. For all integers whose limbs fit into memory. -/
import Derived.Test.YtlfeendebbidhaaDoorCmp
namespace Go.Proofs.YtlfeendebbidhaaDoor
open Go.RowKit Kb

theorem toZ_sign (p : Bool) (a : Nat) : (toZ p a).sign = if a = 0 then 0 else if p then -1 else 1 := by
  unfold toZ
  cases p <;> by_cases h0 : a = 0
  · subst h0; rfl
  · simp [h0]; omega
  · subst h0; rfl
  · simp [h0]; omega
theorem same_sign {p q : Bool} {a b : Nat} (h : (toZ p a).sign = (toZ q b).sign) : (a = 0 ∧ b = 0) ∨ (0 < a ∧ 0 < b ∧ p = q) := by
  rw [toZ_sign, toZ_sign] at h
  by_cases ha : a = 0 <;> by_cases hb : b = 0
  · exact .inl ⟨ha, hb⟩
  · rw [if_pos ha, if_neg hb] at h; cases q <;> simp at h
  · rw [if_neg ha, if_pos hb] at h; cases p <;> simp at h
  · rw [if_neg ha, if_neg hb] at h
    refine .inr ⟨by omega, by omega, ?_⟩
    cases p <;> cases q <;> simp at h <;> rfl
theorem cmp_pos {q : Bool} {a b : Nat} (h : (toZ false a).sign = (toZ q b).sign) : sgn a b = cmpZ (toZ false a) (toZ q b) := by
  have e : cmpZ (toZ false a) (toZ q b) = ((a : Int) - (b : Int)).sign := by
    rcases same_sign h with ⟨ha, hb⟩ | ⟨_, _, hq⟩
    · subst ha; subst hb; cases q <;> rfl
    · subst hq; rfl
  rw [e]
  unfold sgn
  rcases Nat.lt_trichotomy a b with h | h | h
  · rw [if_pos h, Int.sign_eq_neg_one_of_neg (by omega)]
  · subst h; rw [if_neg (by omega), if_pos rfl, Int.sub_self]; rfl
  · rw [if_neg (by omega), if_neg (by omega), Int.sign_eq_one_of_pos (by omega)]
theorem cmp_neg {q : Bool} {a b : Nat} (h : (toZ true a).sign = (toZ q b).sign) : sgn b a = cmpZ (toZ true a) (toZ q b) := by
  have e : cmpZ (toZ true a) (toZ q b) = ((b : Int) - (a : Int)).sign := by
    rcases same_sign h with ⟨ha, hb⟩ | ⟨_, _, hq⟩
    · subst ha; subst hb; cases q <;> rfl
    · subst hq
      show (-(a : Int) - -(b : Int)).sign = _
      congr 1
      omega
  rw [e]
  unfold sgn
  rcases Nat.lt_trichotomy b a with h | h | h
  · rw [if_pos h, Int.sign_eq_neg_one_of_neg (by omega)]
  · subst h; rw [if_neg (by omega), if_pos rfl, Int.sub_self]; rfl
  · rw [if_neg (by omega), if_neg (by omega), Int.sign_eq_one_of_pos (by omega)]

set_option maxRecDepth 100000 in
set_option maxHeartbeats 4000000 in
theorem Cmp_neg (q : Bool) (A B : Option Addr) (n c m d a b : Nat) (w : World) (h : Raw w A n c a) (k : Raw w B m d b) (hne : (toZ true a).sign = (toZ q b).sign) (_ha : (dig a).length ≤ 400000000) :
    Calls Tryd.prog 14 #[.agg #[.bool true, .slice A n c], .agg #[.bool q, .slice B m d]] w fun e w' => e = .returned (.int .i64 (cmpZ (toZ true a) (toZ q b))) ∧ Below w.heap.size w w' := by
  have Hres := hid (cmp_neg hne)
  have hss : ((toZ true a).sign != (toZ q b).sign) = false := by rw [hne]; simp
  have b0 := B2.new w 24 true q A B n c m d
  have hB := ((Below.refl w.heap.size w).alloc (Nat.le_refl _) (.cells #[.bool true, .slice A n c] 24)).alloc (by simp) (.cells #[.bool q, .slice B m d] 24)
  generalize hs1 : (toZ true a).sign = s1 at *
  generalize hs2 : (toZ q b).sign = s2 at *
  have Hs := hid (And.intro hs1 hs2)
  clear hs1 hs2 hne
  obtain ⟨g, hg⟩ : ∃ g, w.heap.size = g := ⟨_, rfl⟩
  go_enter Tryd.func14, Tryd.ntmps14
  go_wp2_with fail
  rw [hg] at b0
  generalize (w.alloc (.cells #[.bool true, .slice A n c] 24)).alloc (.cells #[.bool q, .slice B m d] 24) = W0 at *
  have h0 : Raw W0.drew A n c a := h.below hB.drew
  have k0 : Raw W0.drew B m d b := k.below hB.drew
  have hl0 := b0.lt
  have HB := hid hB
  have Hg := hid hg
  clear hB hg h k
  obtain ⟨x0, x1, x2, x3⟩ := b0.cells
  have hg3 : g + 2 ≤ W0.drew.heap.size := by show g + 2 ≤ W0.heap.size; omega
  have b0' : B2 W0.drew g 24 true q A B n c m d := b0
  have Hsa := hid (sign_any true A n c a W0.drew h0)
  go_region_held3 (fun w' => w'.cell? ⟨g, 0, none⟩ = some (.bool true) ∧ w'.cell? ⟨g, 1, none⟩ = some (.slice A n c) ∧ w'.cell? ⟨g + 1, 0, none⟩ = some (.bool q) ∧ w'.cell? ⟨g + 1, 1, none⟩ = some (.slice B m d)) (first | exact ⟨x0, x1, x2, x3⟩ | exact ⟨y0, y1, y2, y3⟩ | exact ⟨z0, z1, z2, z3⟩) (first
    | (go_at_call 48; with_reducible refine (sign_any true A n c a W0.drew h0).mono ?_; rintro e w1 ⟨rfl, hb1⟩; have b1 := b0'.below hb1 hg3; obtain ⟨y0, y1, y2, y3⟩ := b1.cells)
    | (go_at_call 48; with_reducible refine (sign_any q B m d b _ (k0.below hb1)).mono ?_; rintro e w2 ⟨rfl, hb2⟩; have b2 := b1.below hb2 (by have := b1.lt; omega); obtain ⟨z0, z1, z2, z3⟩ := b2.cells))
  rw [Hs.out.1, Hs.out.2]
  have h3 := bthen (bthen HB.out.drew hb1 (Nat.le_refl _)) hb2 (Nat.le_refl _)
  go_wp2_with fail
  have h0' := (h0.below hb1).below hb2
  have k0' := (k0.below hb1).below hb2
  clear h0 k0 hb1 hb2 x0 x1 x2 x3 y0 y1 y2 y3 hl0 hg3 b0 b0' b1
  have h0 : Raw w2.drew A n c a := h0'
  have k0 : Raw w2.drew B m d b := k0'
  have b2' : B2 w2.drew g 24 true q A B n c m d := b2
  have hl2 := b2.lt
  have hg3 : g + 2 ≤ w2.drew.heap.size := by show g + 2 ≤ w2.heap.size; omega
  go_region_held3 (fun w' => w'.cell? ⟨g, 0, none⟩ = some (.bool true) ∧ w'.cell? ⟨g, 1, none⟩ = some (.slice A n c) ∧ w'.cell? ⟨g + 1, 0, none⟩ = some (.bool q) ∧ w'.cell? ⟨g + 1, 1, none⟩ = some (.slice B m d)) (first | exact ⟨z0, z1, z2, z3⟩ | exact ⟨y0, y1, y2, y3⟩ | exact ⟨t0, t1, t2, t3⟩ | exact ⟨r0, r1, r2, r3⟩) (first
    | (go_at_call 39; with_reducible refine (size_any q B m d b _ k0).mono ?_; rintro e w3 ⟨v1, rfl, hv1, hb3⟩; have b3 := b2'.below hb3 (by first | exact hg3 | (have := b2'.lt; omega)); obtain ⟨y0, y1, y2, y3⟩ := b3.cells)
    | (go_at_call 39; with_reducible refine (size_any true A n c a _ (h0.below hb3)).mono ?_; rintro e w4 ⟨v2, rfl, hv2, hb4⟩; have b4 := b3.below hb4 (by first | exact hg3 | (have := b3.lt; omega)); obtain ⟨t0, t1, t2, t3⟩ := b4.cells)
    | (go_at_call 50; with_reducible refine (compareLimbs_nm (hv1.below hb4) hv2).mono ?_; rintro e w5 ⟨rfl, hq5⟩; have b5 := b4.below (hq5.below w4.heap.size) (by have := b4.lt; omega); obtain ⟨r0, r1, r2, r3⟩ := b5.cells))
  rw [Hres.out]
  have h7 := bthen (bthen h3.drew hb3 (Nat.le_refl _)) hb4 (Nat.le_refl _)
  have h8 := h7.trans (hq5.below _)
  go_wp2
  go_ret
  exact ⟨rfl, h8⟩

set_option maxRecDepth 100000 in
set_option maxHeartbeats 4000000 in
theorem Cmp_pos (q : Bool) (A B : Option Addr) (n c m d a b : Nat) (w : World) (h : Raw w A n c a) (k : Raw w B m d b) (hne : (toZ false a).sign = (toZ q b).sign) (_ha : (dig a).length ≤ 400000000) :
    Calls Tryd.prog 14 #[.agg #[.bool false, .slice A n c], .agg #[.bool q, .slice B m d]] w fun e w' => e = .returned (.int .i64 (cmpZ (toZ false a) (toZ q b))) ∧ Below w.heap.size w w' := by
  have Hres := hid (cmp_pos hne)
  have hss : ((toZ false a).sign != (toZ q b).sign) = false := by rw [hne]; simp
  have b0 := B2.new w 24 false q A B n c m d
  have hB := ((Below.refl w.heap.size w).alloc (Nat.le_refl _) (.cells #[.bool false, .slice A n c] 24)).alloc (by simp) (.cells #[.bool q, .slice B m d] 24)
  generalize hs1 : (toZ false a).sign = s1 at *
  generalize hs2 : (toZ q b).sign = s2 at *
  have Hs := hid (And.intro hs1 hs2)
  clear hs1 hs2 hne
  obtain ⟨g, hg⟩ : ∃ g, w.heap.size = g := ⟨_, rfl⟩
  go_enter Tryd.func14, Tryd.ntmps14
  go_wp2_with fail
  rw [hg] at b0
  generalize (w.alloc (.cells #[.bool false, .slice A n c] 24)).alloc (.cells #[.bool q, .slice B m d] 24) = W0 at *
  have h0 : Raw W0.drew A n c a := h.below hB.drew
  have k0 : Raw W0.drew B m d b := k.below hB.drew
  have hl0 := b0.lt
  have HB := hid hB
  have Hg := hid hg
  clear hB hg h k
  obtain ⟨x0, x1, x2, x3⟩ := b0.cells
  have hg3 : g + 2 ≤ W0.drew.heap.size := by show g + 2 ≤ W0.heap.size; omega
  have b0' : B2 W0.drew g 24 false q A B n c m d := b0
  have Hsa := hid (sign_any false A n c a W0.drew h0)
  go_region_held3 (fun w' => w'.cell? ⟨g, 0, none⟩ = some (.bool false) ∧ w'.cell? ⟨g, 1, none⟩ = some (.slice A n c) ∧ w'.cell? ⟨g + 1, 0, none⟩ = some (.bool q) ∧ w'.cell? ⟨g + 1, 1, none⟩ = some (.slice B m d)) (first | exact ⟨x0, x1, x2, x3⟩ | exact ⟨y0, y1, y2, y3⟩ | exact ⟨z0, z1, z2, z3⟩) (first
    | (go_at_call 48; with_reducible refine (sign_any false A n c a W0.drew h0).mono ?_; rintro e w1 ⟨rfl, hb1⟩; have b1 := b0'.below hb1 hg3; obtain ⟨y0, y1, y2, y3⟩ := b1.cells)
    | (go_at_call 48; with_reducible refine (sign_any q B m d b _ (k0.below hb1)).mono ?_; rintro e w2 ⟨rfl, hb2⟩; have b2 := b1.below hb2 (by have := b1.lt; omega); obtain ⟨z0, z1, z2, z3⟩ := b2.cells))
  rw [Hs.out.1, Hs.out.2]
  have h3 := bthen (bthen HB.out.drew hb1 (Nat.le_refl _)) hb2 (Nat.le_refl _)
  go_wp2_with fail
  have h0' := (h0.below hb1).below hb2
  have k0' := (k0.below hb1).below hb2
  clear h0 k0 hb1 hb2 x0 x1 x2 x3 y0 y1 y2 y3 hl0 hg3 b0 b0' b1
  have h0 : Raw w2.drew A n c a := h0'
  have k0 : Raw w2.drew B m d b := k0'
  have b2' : B2 w2.drew g 24 false q A B n c m d := b2
  have hl2 := b2.lt
  have hg3 : g + 2 ≤ w2.drew.heap.size := by show g + 2 ≤ w2.heap.size; omega
  go_region_held3 (fun w' => w'.cell? ⟨g, 0, none⟩ = some (.bool false) ∧ w'.cell? ⟨g, 1, none⟩ = some (.slice A n c) ∧ w'.cell? ⟨g + 1, 0, none⟩ = some (.bool q) ∧ w'.cell? ⟨g + 1, 1, none⟩ = some (.slice B m d)) (first | exact ⟨z0, z1, z2, z3⟩ | exact ⟨y0, y1, y2, y3⟩ | exact ⟨t0, t1, t2, t3⟩ | exact ⟨r0, r1, r2, r3⟩) (first
    | (go_at_call 39; with_reducible refine (size_any false A n c a _ h0).mono ?_; rintro e w3 ⟨v1, rfl, hv1, hb3⟩; have b3 := b2'.below hb3 (by first | exact hg3 | (have := b2'.lt; omega)); obtain ⟨y0, y1, y2, y3⟩ := b3.cells)
    | (go_at_call 39; with_reducible refine (size_any q B m d b _ (k0.below hb3)).mono ?_; rintro e w4 ⟨v2, rfl, hv2, hb4⟩; have b4 := b3.below hb4 (by first | exact hg3 | (have := b3.lt; omega)); obtain ⟨t0, t1, t2, t3⟩ := b4.cells)
    | (go_at_call 50; with_reducible refine (compareLimbs_nm (hv1.below hb4) hv2).mono ?_; rintro e w5 ⟨rfl, hq5⟩; have b5 := b4.below (hq5.below w4.heap.size) (by have := b4.lt; omega); obtain ⟨r0, r1, r2, r3⟩ := b5.cells))
  rw [Hres.out]
  have h7 := bthen (bthen h3.drew hb3 (Nat.le_refl _)) hb4 (Nat.le_refl _)
  have h8 := h7.trans (hq5.below _)
  go_wp2
  go_ret
  exact ⟨rfl, h8⟩

theorem Cmp_any (p q : Bool) (A B : Option Addr) (n c m d a b : Nat) (w : World) (h : Raw w A n c a) (k : Raw w B m d b) (ha : (dig a).length ≤ 400000000) :
    Calls Tryd.prog 14 #[.agg #[.bool p, .slice A n c], .agg #[.bool q, .slice B m d]] w fun e w' => e = .returned (.int .i64 (cmpZ (toZ p a) (toZ q b))) ∧ Below w.heap.size w w' := by
  by_cases hne : (toZ p a).sign = (toZ q b).sign
  · cases p
    · exact Cmp_pos q A B n c m d a b w h k hne ha
    · exact Cmp_neg q A B n c m d a b w h k hne ha
  · exact Cmp_signs p q A B n c m d a b w h k hne

end Go.Proofs.YtlfeendebbidhaaDoor
