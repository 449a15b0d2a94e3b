/- The contracts of Cmp and SameInt. For all integers whose limbs fit into memory. -/
import Derived.Test.YtlfeendebbidhaaDoorDivMod
namespace Go.Proofs.YtlfeendebbidhaaDoor
open Go.RowKit Kb

/-- Two boxes of integers. -/
def B2 (W : World) (g : Nat) (T : TypeId) (p q : Bool) (A B : Option Addr) (n c m d : Nat) : Prop :=
  W.heap[g]? = some (.cells #[.bool p, .slice A n c] T (0, 0)) ∧ W.heap[g + 1]? = some (.cells #[.bool q, .slice B m d] T (0, 0))
section
variable {W W' : World} {g n c m d N : Nat} {T : TypeId} {p q : Bool} {A B : Option Addr}
theorem B2.below (h : B2 W g T p q A B n c m d) (hb : Below N W W') (hN : g + 2 ≤ N) : B2 W' g T p q A B n c m d :=
  ⟨(hb.block _ (by omega)).trans h.1, (hb.block _ (by omega)).trans h.2⟩
theorem B2.cells (h : B2 W g T p q A B n c m d) : W.cell? ⟨g, 0, none⟩ = some (.bool p) ∧ W.cell? ⟨g, 1, none⟩ = some (.slice A n c) ∧ W.cell? ⟨g + 1, 0, none⟩ = some (.bool q) ∧ W.cell? ⟨g + 1, 1, none⟩ = some (.slice B m d) := by
  obtain ⟨h1, h2⟩ := h
  refine ⟨?_, ?_, ?_, ?_⟩
  · rw [cell_of_row W _ _ _ T (0, 0) h1]; rfl
  · rw [cell_of_row W _ _ _ T (0, 0) h1]; rfl
  · rw [cell_of_row W _ _ _ T (0, 0) h2]; rfl
  · rw [cell_of_row W _ _ _ T (0, 0) h2]; rfl
theorem B2.lt (h : B2 W g T p q A B n c m d) : g + 1 < W.heap.size := (Array.getElem?_eq_some_iff.1 h.2).1
theorem B2.new (w : World) (T : TypeId) (p q : Bool) (A B : Option Addr) (n c m d : Nat) : B2 ((w.alloc (.cells #[.bool p, .slice A n c] T)).alloc (.cells #[.bool q, .slice B m d] T)) w.heap.size T p q A B n c m d := by
  refine ⟨?_, ?_⟩
  · rw [Below.heap_alloc _ _ _ (by simp)]; exact heap_alloc_new w _
  · have := heap_alloc_new (w.alloc (.cells #[.bool p, .slice A n c] T)) (.cells #[.bool q, .slice B m d] T)
    simpa using this
end

set_option maxRecDepth 100000 in
set_option maxHeartbeats 1000000 in
theorem compare_any (x y : Int) (w : World) :
    Calls Tryd.prog 49 #[.int .i64 x, .int .i64 y] w fun e w' => e = .returned (.int .i64 (if x < y then -1 else if y < x then 1 else 0)) ∧ w = w' := by
  rcases Int.lt_trichotomy x y with h | h | h
  · rw [if_pos h]
    go_enter Tryd.func49, Tryd.ntmps49
    go_wp2
    all_goals go_ret
    all_goals first | exact ⟨rfl, rfl⟩ | (exfalso; omega)
  · subst h
    rw [if_neg (by omega), if_neg (by omega)]
    go_enter Tryd.func49, Tryd.ntmps49
    go_wp2
    all_goals go_ret
    all_goals first | exact ⟨rfl, rfl⟩ | (exfalso; omega)
  · rw [if_neg (by omega), if_pos h]
    go_enter Tryd.func49, Tryd.ntmps49
    go_wp2
    all_goals go_ret
    all_goals first | exact ⟨rfl, rfl⟩ | (exfalso; omega)

/-- The sign of a difference of integers. -/
def cmpZ (x y : Int) : Int := (x - y).sign

set_option maxRecDepth 100000 in
set_option maxHeartbeats 4000000 in
theorem Cmp_signs (p q : Bool) (A B : Option Addr) (n c m d a b : Nat) (w : World) (h : Raw w A n c a) (k : Raw w B m d b) (hne : (toZ p a).sign ≠ (toZ q b).sign) :
    Calls Tryd.prog 14 #[.agg #[.bool p, .slice A n c], .agg #[.bool q, .slice B m d]] w fun e w' => e = .returned (.int .i64 (cmpZ (toZ p a) (toZ q b))) ∧ Below w.heap.size w w' := by
  have Hres := hid (show (if (toZ p a).sign < (toZ q b).sign then (-1 : Int) else if (toZ q b).sign < (toZ p a).sign then 1 else 0) = cmpZ (toZ p a) (toZ q b) from by
    unfold cmpZ
    generalize toZ p a = x at *
    generalize toZ q b = y at *
    rcases Int.lt_trichotomy x 0 with hx | hx | hx <;> rcases Int.lt_trichotomy y 0 with hy | hy | hy
    · rw [Int.sign_eq_neg_one_of_neg hx, Int.sign_eq_neg_one_of_neg hy] at hne; exact absurd rfl hne
    · subst hy; rw [Int.sign_eq_neg_one_of_neg hx, Int.sign_zero, Int.sign_eq_neg_one_of_neg (by omega)]; rfl
    · rw [Int.sign_eq_neg_one_of_neg hx, Int.sign_eq_one_of_pos hy, Int.sign_eq_neg_one_of_neg (by omega)]; rfl
    · subst hx; rw [Int.sign_eq_neg_one_of_neg hy, Int.sign_zero, Int.sign_eq_one_of_pos (by omega)]; rfl
    · subst hx; subst hy; exact absurd rfl hne
    · subst hx; rw [Int.sign_eq_one_of_pos hy, Int.sign_zero, Int.sign_eq_neg_one_of_neg (by omega)]; rfl
    · rw [Int.sign_eq_one_of_pos hx, Int.sign_eq_neg_one_of_neg hy, Int.sign_eq_one_of_pos (by omega)]; rfl
    · subst hy; rw [Int.sign_eq_one_of_pos hx, Int.sign_zero, Int.sign_eq_one_of_pos (by omega)]; rfl
    · rw [Int.sign_eq_one_of_pos hx, Int.sign_eq_one_of_pos hy] at hne; exact absurd rfl hne)
  have hss : ((toZ p a).sign != (toZ q b).sign) = true := by rw [bne_iff_ne]; exact hne
  have b0 := B2.new w 24 p q A B n c m d
  have hB := ((Below.refl w.heap.size w).alloc (Nat.le_refl _) (.cells #[.bool p, .slice A n c] 24)).alloc (by simp) (.cells #[.bool q, .slice B m d] 24)
  generalize hs1 : (toZ p a).sign = s1 at *
  generalize hs2 : (toZ q b).sign = s2 at *
  have Hs := hid (And.intro hs1 hs2)
  clear hs1 hs2 hne
  obtain ⟨g, hg⟩ : ∃ g, w.heap.size = g := ⟨_, rfl⟩
  go_enter Tryd.func14, Tryd.ntmps14
  go_wp2_with fail
  rw [hg] at b0
  generalize (w.alloc (.cells #[.bool p, .slice A n c] 24)).alloc (.cells #[.bool q, .slice B m d] 24) = W0 at *
  have h0 : Raw W0.drew A n c a := h.below hB.drew
  have k0 : Raw W0.drew B m d b := k.below hB.drew
  have hl0 := b0.lt
  have HB := hid hB
  have Hg := hid hg
  clear hB hg h k
  obtain ⟨x0, x1, x2, x3⟩ := b0.cells
  have hg3 : g + 2 ≤ W0.drew.heap.size := by show g + 2 ≤ W0.heap.size; omega
  have b0' : B2 W0.drew g 24 p q A B n c m d := b0
  have Hsa := hid (sign_any p A n c a W0.drew h0)
  go_region_held3 (fun w' => w'.cell? ⟨g, 0, none⟩ = some (.bool p) ∧ w'.cell? ⟨g, 1, none⟩ = some (.slice A n c) ∧ w'.cell? ⟨g + 1, 0, none⟩ = some (.bool q) ∧ w'.cell? ⟨g + 1, 1, none⟩ = some (.slice B m d)) (first | exact ⟨x0, x1, x2, x3⟩ | exact ⟨y0, y1, y2, y3⟩ | exact ⟨z0, z1, z2, z3⟩) (first
    | (go_at_call 48; with_reducible refine (sign_any p A n c a W0.drew h0).mono ?_; rintro e w1 ⟨rfl, hb1⟩; have b1 := b0'.below hb1 hg3; obtain ⟨y0, y1, y2, y3⟩ := b1.cells)
    | (go_at_call 48; with_reducible refine (sign_any q B m d b _ (k0.below hb1)).mono ?_; rintro e w2 ⟨rfl, hb2⟩; have b2 := b1.below hb2 (by have := b1.lt; omega); obtain ⟨z0, z1, z2, z3⟩ := b2.cells))
  rw [Hs.out.1, Hs.out.2]
  have h3 := bthen (bthen HB.out.drew hb1 (Nat.le_refl _)) hb2 (Nat.le_refl _)
  go_wp2_with fail
  refine (compare_any s1 s2 _).mono ?_
  rintro e w3 ⟨rfl, rfl⟩
  rw [Hres.out]
  go_wp2
  go_ret
  exact ⟨rfl, h3⟩

end Go.Proofs.YtlfeendebbidhaaDoor
