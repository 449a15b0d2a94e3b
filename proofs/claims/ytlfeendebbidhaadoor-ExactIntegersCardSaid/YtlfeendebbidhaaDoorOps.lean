/- The contracts of Add, Sub, Mul, Cmp, DivMod, Of. For all integers whose limbs fit into memory. -/
import Derived.Test.YtlfeendebbidhaaDoorInt
import Derived.Deep.RegionHeld3
namespace Go.Proofs.YtlfeendebbidhaaDoor
open Go.RowKit Kb

/-- Three boxes: two integers and a result. -/
def Bx (W : World) (g : Nat) (T : TypeId) (p q : Bool) (A B : Option Addr) (n c m d : Nat) : Prop :=
  W.heap[g]? = some (.cells #[.bool p, .slice A n c] T (0, 0)) ∧ W.heap[g + 1]? = some (.cells #[.bool q, .slice B m d] T (0, 0)) ∧ W.heap[g + 1 + 1]? = some (.cells #[.bool false, .slice none 0 0] T (0, 0))
section
variable {W W' : World} {g n c m d N : Nat} {T : TypeId} {p q : Bool} {A B : Option Addr}
theorem Bx.below (h : Bx W g T p q A B n c m d) (hb : Below N W W') (hN : g + 3 ≤ N) : Bx W' g T p q A B n c m d :=
  ⟨(hb.block _ (by omega)).trans h.1, (hb.block _ (by omega)).trans h.2.1, (hb.block _ (by omega)).trans h.2.2⟩
theorem Bx.cells (h : Bx W g T p q A B n c m d) : W.cell? ⟨g, 0, none⟩ = some (.bool p) ∧ W.cell? ⟨g, 1, none⟩ = some (.slice A n c) ∧ W.cell? ⟨g + 1, 0, none⟩ = some (.bool q) ∧ W.cell? ⟨g + 1, 1, none⟩ = some (.slice B m d) ∧
    W.cell? ⟨g + 1 + 1, 0, none⟩ = some (.bool false) ∧ W.cell? ⟨g + 1 + 1, 1, none⟩ = some (.slice none 0 0) ∧ W.frozen? ⟨g + 1 + 1, 0, none⟩ = false ∧ W.frozen? ⟨g + 1 + 1, 1, none⟩ = false := by
  obtain ⟨h1, h2, h3⟩ := h
  refine ⟨?_, ?_, ?_, ?_, ?_, ?_, ?_, ?_⟩
  · rw [cell_of_row W _ _ _ T (0, 0) h1]; rfl
  · rw [cell_of_row W _ _ _ T (0, 0) h1]; rfl
  · rw [cell_of_row W _ _ _ T (0, 0) h2]; rfl
  · rw [cell_of_row W _ _ _ T (0, 0) h2]; rfl
  · rw [cell_of_row W _ _ _ T (0, 0) h3]; rfl
  · rw [cell_of_row W _ _ _ T (0, 0) h3]; rfl
  · simp [World.frozen?, h3]
  · simp [World.frozen?, h3]
theorem Bx.lt (h : Bx W g T p q A B n c m d) : g + 1 + 1 < W.heap.size := (Array.getElem?_eq_some_iff.1 h.2.2).1
theorem Bx.new (w : World) (T : TypeId) (p q : Bool) (A B : Option Addr) (n c m d : Nat) : Bx (((w.alloc (.cells #[.bool p, .slice A n c] T)).alloc (.cells #[.bool q, .slice B m d] T)).alloc (.cells #[.bool false, .slice none 0 0] T)) w.heap.size T p q A B n c m d := by
  refine ⟨?_, ?_, ?_⟩
  · rw [Below.heap_alloc _ _ _ (by simp; omega), Below.heap_alloc _ _ _ (by simp)]; exact heap_alloc_new w _
  · rw [Below.heap_alloc _ _ _ (by simp)]
    have := heap_alloc_new (w.alloc (.cells #[.bool p, .slice A n c] T)) (.cells #[.bool q, .slice B m d] T)
    simpa using this
  · have := heap_alloc_new ((w.alloc (.cells #[.bool p, .slice A n c] T)).alloc (.cells #[.bool q, .slice B m d] T)) (.cells #[.bool false, .slice none 0 0] T)
    simpa using this
end

theorem off_two {W : World} {g h i : Nat} {u0 u1 v : Value} (hne : h ≠ g) (hc : W.cell? ⟨g, i, none⟩ = some v) : ((W.setCell ⟨h, 0, none⟩ u0).setCell ⟨h, 1, none⟩ u1).cell? ⟨g, i, none⟩ = some v := by
  rw [World.cell?_setCell_other _ _ _ _ (fun e => by injection e with e1; omega), World.cell?_setCell_other _ _ _ _ (fun e => by injection e with e1; omega)]
  exact hc
/-- A contract whose result is an integer, its fields written out. -/
theorem nz_open {P : Program} {f : FuncId} {args : Array Value} {w : World} {z : Int} (h : Calls P f args w fun e w' => ∃ v, e = .returned v ∧ Nz w' v z ∧ Below w.heap.size w w') :
    Calls P f args w fun e w' => ∃ A n c, e = .returned (.agg #[.bool (decide (z < 0)), .slice A n c]) ∧ Nm w' (.slice A n c) z.natAbs ∧ Below w.heap.size w w' := by
  refine h.mono ?_
  rintro e w' ⟨v, rfl, ⟨A, n, c, rfl, hn⟩, hb⟩
  exact ⟨A, n, c, rfl, hn, hb⟩

set_option maxRecDepth 100000 in
set_option maxHeartbeats 4000000 in
theorem Add_any (p q : Bool) (A B : Option Addr) (n c m d a b : Nat) (w : World) (h : Raw w A n c a) (k : Raw w B m d b) (ha : (dig a).length ≤ 400000000) (hb : (dig b).length ≤ 400000000) :
    Calls Tryd.prog 18 #[.agg #[.bool p, .slice A n c], .agg #[.bool q, .slice B m d]] w fun e w' => ∃ v, e = .returned v ∧ Nz w' v (toZ p a + toZ q b) ∧ Below w.heap.size w w' := by
  have b0 := Bx.new w 24 p q A B n c m d
  have hB := (((Below.refl w.heap.size w).alloc (Nat.le_refl _) (.cells #[.bool p, .slice A n c] 24)).alloc (by simp) (.cells #[.bool q, .slice B m d] 24)).alloc (by simp; omega) (.cells #[.bool false, .slice none 0 0] 24)
  obtain ⟨g, hg⟩ : ∃ g, w.heap.size = g := ⟨_, rfl⟩
  go_enter Tryd.func18, Tryd.ntmps18
  go_wp2_with fail
  rw [hg] at b0
  generalize ((w.alloc (.cells #[.bool p, .slice A n c] 24)).alloc (.cells #[.bool q, .slice B m d] 24)).alloc (.cells #[.bool false, .slice none 0 0] 24) = W0 at *
  have h0 : Raw W0.drew A n c a := h.below hB.drew
  have k0 : Raw W0.drew B m d b := k.below hB.drew
  have hl0 := b0.lt
  have HB := hid hB
  have Hg := hid hg
  clear hB hg h k
  obtain ⟨x0, x1, x2, x3, x4, x5, x6, x7⟩ := b0.cells
  have hg3 : g + 3 ≤ W0.drew.heap.size := by show g + 3 ≤ W0.heap.size; omega
  have b0' : Bx W0.drew g 24 p q A B n c m d := b0
  go_region_held3 (fun w' => w'.cell? ⟨g, 0, none⟩ = some (.bool p) ∧ w'.cell? ⟨g, 1, none⟩ = some (.slice A n c) ∧ w'.cell? ⟨g + 1, 0, none⟩ = some (.bool q) ∧ w'.cell? ⟨g + 1, 1, none⟩ = some (.slice B m d)) (first | exact ⟨x0, x1, x2, x3⟩ | exact ⟨y0, y1, y2, y3⟩ | exact ⟨z0, z1, z2, z3⟩ | exact ⟨t0, t1, t2, t3⟩ | exact ⟨s0, s1, s2, s3⟩ | exact ⟨off_two (by omega) t0, off_two (by omega) t1, off_two (by omega) t2, off_two (by omega) t3⟩) (first
    | (go_at_call 39; with_reducible refine (size_any p A n c a W0.drew h0).mono ?_; rintro e w1 ⟨v1, rfl, hv1, hb1⟩; have b1 := b0'.below hb1 hg3; obtain ⟨y0, y1, y2, y3, y4, y5, y6, y7⟩ := b1.cells)
    | (go_at_call 39; with_reducible refine (size_any q B m d b _ (k0.below hb1)).mono ?_; rintro e w2 ⟨v2, rfl, hv2, hb2⟩; have b2 := b1.below hb2 (by have := b1.lt; omega); obtain ⟨z0, z1, z2, z3, z4, z5, z6, z7⟩ := b2.cells)
    | (go_at_call 52; with_reducible refine (nz_open (addSigned_any p q (hv1.below hb2) hv2 ha hb)).mono ?_; rintro e w3 ⟨A3, n3, c3, rfl, hn3, hb3⟩; have b3 := b2.below hb3 (by have := b2.lt; omega); have hl3 := b3.lt; obtain ⟨t0, t1, t2, t3, t4, t5, t6, t7⟩ := b3.cells))
  have h1 := bthen HB.out.drew hb1 (Nat.le_refl _)
  have h2 := bthen h1 hb2 (Nat.le_refl _)
  have h3 := bthen h2 hb3 (Nat.le_refl _)
  have hgl := Hg.out
  have h4 := (h3.setCell (p := ⟨g + 1 + 1, 0, none⟩) (by show w.heap.size ≤ g + 1 + 1; omega) (.bool (decide (toZ p a + toZ q b < 0)))).setCell (p := ⟨g + 1 + 1, 1, none⟩) (by show w.heap.size ≤ g + 1 + 1; omega) (.slice A3 n3 c3)
  clear hgl
  go_wp2
  exact bodyPost_ret (v := .agg #[.bool (decide (toZ p a + toZ q b < 0)), .slice A3 n3 c3]) (by simp [results, Tryd.results18, go_sem, t4, t5]) rfl ⟨_, rfl, ⟨A3, n3, c3, rfl, hn3.offbox b3.2.2 (noInt_zero _ _ _ _) (gb2 _ _ _ _ _ _)⟩, h4⟩

theorem toZ_not (q : Bool) (b : Nat) : toZ (!q) b = -toZ q b := by unfold toZ; cases q <;> simp
theorem addSigned_sub (p q : Bool) {v u : Value} {a b : Nat} {w : World} (h : Nm w v a) (k : Nm w u b) (ha : (dig a).length ≤ 400000000) (hb : (dig b).length ≤ 400000000) :
    Calls Tryd.prog 52 #[v, .bool p, u, .bool (!q)] w fun e w' => ∃ v, e = .returned v ∧ Nz w' v (toZ p a - toZ q b) ∧ Below w.heap.size w w' := by
  have := addSigned_any p (!q) h k ha hb
  rwa [toZ_not, ← Int.sub_eq_add_neg] at this

set_option maxRecDepth 100000 in
set_option maxHeartbeats 4000000 in
theorem Sub_any (p q : Bool) (A B : Option Addr) (n c m d a b : Nat) (w : World) (h : Raw w A n c a) (k : Raw w B m d b) (ha : (dig a).length ≤ 400000000) (hb : (dig b).length ≤ 400000000) :
    Calls Tryd.prog 20 #[.agg #[.bool p, .slice A n c], .agg #[.bool q, .slice B m d]] w fun e w' => ∃ v, e = .returned v ∧ Nz w' v (toZ p a - toZ q b) ∧ Below w.heap.size w w' := by
  have b0 := Bx.new w 24 p q A B n c m d
  have hB := (((Below.refl w.heap.size w).alloc (Nat.le_refl _) (.cells #[.bool p, .slice A n c] 24)).alloc (by simp) (.cells #[.bool q, .slice B m d] 24)).alloc (by simp; omega) (.cells #[.bool false, .slice none 0 0] 24)
  obtain ⟨g, hg⟩ : ∃ g, w.heap.size = g := ⟨_, rfl⟩
  go_enter Tryd.func20, Tryd.ntmps20
  go_wp2_with fail
  rw [hg] at b0
  generalize ((w.alloc (.cells #[.bool p, .slice A n c] 24)).alloc (.cells #[.bool q, .slice B m d] 24)).alloc (.cells #[.bool false, .slice none 0 0] 24) = W0 at *
  have h0 : Raw W0.drew A n c a := h.below hB.drew
  have k0 : Raw W0.drew B m d b := k.below hB.drew
  have hl0 := b0.lt
  have HB := hid hB
  have Hg := hid hg
  clear hB hg h k
  obtain ⟨x0, x1, x2, x3, x4, x5, x6, x7⟩ := b0.cells
  have hg3 : g + 3 ≤ W0.drew.heap.size := by show g + 3 ≤ W0.heap.size; omega
  have b0' : Bx W0.drew g 24 p q A B n c m d := b0
  go_region_held3 (fun w' => w'.cell? ⟨g, 0, none⟩ = some (.bool p) ∧ w'.cell? ⟨g, 1, none⟩ = some (.slice A n c) ∧ w'.cell? ⟨g + 1, 0, none⟩ = some (.bool q) ∧ w'.cell? ⟨g + 1, 1, none⟩ = some (.slice B m d)) (first | exact ⟨x0, x1, x2, x3⟩ | exact ⟨y0, y1, y2, y3⟩ | exact ⟨z0, z1, z2, z3⟩ | exact ⟨t0, t1, t2, t3⟩ | exact ⟨s0, s1, s2, s3⟩ | exact ⟨off_two (by omega) t0, off_two (by omega) t1, off_two (by omega) t2, off_two (by omega) t3⟩) (first
    | (go_at_call 39; with_reducible refine (size_any p A n c a W0.drew h0).mono ?_; rintro e w1 ⟨v1, rfl, hv1, hb1⟩; have b1 := b0'.below hb1 hg3; obtain ⟨y0, y1, y2, y3, y4, y5, y6, y7⟩ := b1.cells)
    | (go_at_call 39; with_reducible refine (size_any q B m d b _ (k0.below hb1)).mono ?_; rintro e w2 ⟨v2, rfl, hv2, hb2⟩; have b2 := b1.below hb2 (by have := b1.lt; omega); obtain ⟨z0, z1, z2, z3, z4, z5, z6, z7⟩ := b2.cells)
    | (go_at_call 52; with_reducible refine (nz_open (addSigned_sub p q (hv1.below hb2) hv2 ha hb)).mono ?_; rintro e w3 ⟨A3, n3, c3, rfl, hn3, hb3⟩; have b3 := b2.below hb3 (by have := b2.lt; omega); have hl3 := b3.lt; obtain ⟨t0, t1, t2, t3, t4, t5, t6, t7⟩ := b3.cells))
  have h1 := bthen HB.out.drew hb1 (Nat.le_refl _)
  have h2 := bthen h1 hb2 (Nat.le_refl _)
  have h3 := bthen h2 hb3 (Nat.le_refl _)
  have hgl := Hg.out
  have h4 := (h3.setCell (p := ⟨g + 1 + 1, 0, none⟩) (by show w.heap.size ≤ g + 1 + 1; omega) (.bool (decide (toZ p a - toZ q b < 0)))).setCell (p := ⟨g + 1 + 1, 1, none⟩) (by show w.heap.size ≤ g + 1 + 1; omega) (.slice A3 n3 c3)
  clear hgl
  go_wp2
  exact bodyPost_ret (v := .agg #[.bool (decide (toZ p a - toZ q b < 0)), .slice A3 n3 c3]) (by simp [results, Tryd.results20, go_sem, t4, t5]) rfl ⟨_, rfl, ⟨A3, n3, c3, rfl, hn3.offbox b3.2.2 (noInt_zero _ _ _ _) (gb2 _ _ _ _ _ _)⟩, h4⟩

theorem toZ_mul (p q : Bool) (a b : Nat) : toZ (p != q) (a * b) = toZ p a * toZ q b := by
  unfold toZ
  cases p <;> cases q <;> simp [Int.neg_mul, Int.mul_neg]
theorem integer_mul (p q : Bool) {v : Value} {a b : Nat} {w : World} (h : Nm w v (a * b)) :
    Calls Tryd.prog 42 #[.bool (!(p == q)), v] w fun e w' => ∃ v, e = .returned v ∧ Nz w' v (toZ p a * toZ q b) ∧ Below w.heap.size w w' := by
  have := integer_nm (neg := (!(p == q))) h
  rwa [show toZ (!(p == q)) (a * b) = toZ (p != q) (a * b) from rfl, toZ_mul] at this

set_option maxRecDepth 100000 in
set_option maxHeartbeats 4000000 in
theorem Mul_any (p q : Bool) (A B : Option Addr) (n c m d a b : Nat) (w : World) (h : Raw w A n c a) (k : Raw w B m d b) (ha : (dig a).length ≤ 400000000) (hb : (dig b).length ≤ 400000000) :
    Calls Tryd.prog 22 #[.agg #[.bool p, .slice A n c], .agg #[.bool q, .slice B m d]] w fun e w' => ∃ v, e = .returned v ∧ Nz w' v (toZ p a * toZ q b) ∧ Below w.heap.size w w' := by
  have b0 := Bx.new w 24 p q A B n c m d
  have hB := (((Below.refl w.heap.size w).alloc (Nat.le_refl _) (.cells #[.bool p, .slice A n c] 24)).alloc (by simp) (.cells #[.bool q, .slice B m d] 24)).alloc (by simp; omega) (.cells #[.bool false, .slice none 0 0] 24)
  obtain ⟨g, hg⟩ : ∃ g, w.heap.size = g := ⟨_, rfl⟩
  go_enter Tryd.func22, Tryd.ntmps22
  go_wp2_with fail
  rw [hg] at b0
  generalize ((w.alloc (.cells #[.bool p, .slice A n c] 24)).alloc (.cells #[.bool q, .slice B m d] 24)).alloc (.cells #[.bool false, .slice none 0 0] 24) = W0 at *
  have h0 : Raw W0.drew A n c a := h.below hB.drew
  have k0 : Raw W0.drew B m d b := k.below hB.drew
  have hl0 := b0.lt
  have HB := hid hB
  have Hg := hid hg
  clear hB hg h k
  obtain ⟨x0, x1, x2, x3, x4, x5, x6, x7⟩ := b0.cells
  have hg3 : g + 3 ≤ W0.drew.heap.size := by show g + 3 ≤ W0.heap.size; omega
  have b0' : Bx W0.drew g 24 p q A B n c m d := b0
  go_region_held3 (fun w' => w'.cell? ⟨g, 0, none⟩ = some (.bool p) ∧ w'.cell? ⟨g, 1, none⟩ = some (.slice A n c) ∧ w'.cell? ⟨g + 1, 0, none⟩ = some (.bool q) ∧ w'.cell? ⟨g + 1, 1, none⟩ = some (.slice B m d)) (first | exact ⟨x0, x1, x2, x3⟩ | exact ⟨y0, y1, y2, y3⟩ | exact ⟨z0, z1, z2, z3⟩ | exact ⟨t0, t1, t2, t3⟩ | exact ⟨s0, s1, s2, s3⟩ | exact ⟨off_two (by omega) s0, off_two (by omega) s1, off_two (by omega) s2, off_two (by omega) s3⟩) (first
    | (go_at_call 39; with_reducible refine (size_any p A n c a W0.drew h0).mono ?_; rintro e w1 ⟨v1, rfl, hv1, hb1⟩; have b1 := b0'.below hb1 hg3; obtain ⟨y0, y1, y2, y3, y4, y5, y6, y7⟩ := b1.cells)
    | (go_at_call 39; with_reducible refine (size_any q B m d b _ (k0.below hb1)).mono ?_; rintro e w2 ⟨v2, rfl, hv2, hb2⟩; have b2 := b1.below hb2 (by have := b1.lt; omega); obtain ⟨z0, z1, z2, z3, z4, z5, z6, z7⟩ := b2.cells)
    | (go_at_call 57; with_reducible refine (mulLimbs_nm (hv1.below hb2) hv2 (by omega) (by omega)).mono ?_; rintro e w3 ⟨v3, rfl, hv3, hb3⟩; have b3 := b2.below hb3 (by have := b2.lt; omega); obtain ⟨t0, t1, t2, t3, t4, t5, t6, t7⟩ := b3.cells)
    | (go_at_call 42; with_reducible refine (nz_open (integer_mul p q hv3)).mono ?_; rintro e w4 ⟨A3, n3, c3, rfl, hn3, hb4⟩; have b4 := b3.below hb4 (by have := b3.lt; omega); have hl3 := b4.lt; obtain ⟨s0, s1, s2, s3, s4, s5, s6, s7⟩ := b4.cells))
  have h1 := bthen HB.out.drew hb1 (Nat.le_refl _)
  have h2 := bthen h1 hb2 (Nat.le_refl _)
  have h3' := bthen h2 hb3 (Nat.le_refl _)
  have h3 := bthen h3' hb4 (Nat.le_refl _)
  have hgl := Hg.out
  have h4 := (h3.setCell (p := ⟨g + 1 + 1, 0, none⟩) (by show w.heap.size ≤ g + 1 + 1; omega) (.bool (decide (toZ p a * toZ q b < 0)))).setCell (p := ⟨g + 1 + 1, 1, none⟩) (by show w.heap.size ≤ g + 1 + 1; omega) (.slice A3 n3 c3)
  clear hgl
  go_wp2
  exact bodyPost_ret (v := .agg #[.bool (decide (toZ p a * toZ q b < 0)), .slice A3 n3 c3]) (by simp [results, Tryd.results22, go_sem, s4, s5]) rfl ⟨_, rfl, ⟨A3, n3, c3, rfl, hn3.offbox b4.2.2 (noInt_zero _ _ _ _) (gb2 _ _ _ _ _ _)⟩, h4⟩

set_option maxRecDepth 100000 in
set_option maxHeartbeats 1000000 in
theorem Of_any (z : Int) (w : World) (h1 : -9223372036854775808 ≤ z) (h2 : z ≤ 9223372036854775807) :
    Calls Tryd.prog 10 #[.int .i64 z] w fun e w' => ∃ v, e = .returned v ∧ Nz w' v z ∧ Below w.heap.size w w' := by
  have hb0 := fun o => (Below.refl w.heap.size w).alloc (Nat.le_refl _) o
  by_cases hz : z < 0
  · have hd : decide (z < 0) = true := by simp; omega
    have hw : IntKind.u64.wrap (wrap64 (-z)) = (z.natAbs : Int) := by
      unfold wrap64
      rw [IntKind.wrap_u64]
      omega
    have Hw := hid hw
    clear hw
    go_enter Tryd.func10, Tryd.ntmps10
    go_wp2_with fail
    rw [Hw.out]
    refine (limbsOf_any z.natAbs _ (by omega)).mono ?_
    rintro e w1 ⟨v1, rfl, hv1, hb1⟩
    go_wp2_with fail
    refine (nz_open (integer_nm hv1)).mono ?_
    rintro e w2 ⟨A, n', c, rfl, hn, hb2⟩
    have hb3 := bthen hb1 hb2 (Nat.le_refl _)
    have hb4 := bthen (hb0 _) hb3 (Nat.le_refl _)
    have c0 := box_cell hb3 0
    have c1 := box_cell hb3 1
    have f0 := box_frozen hb3 0
    have f1 := box_frozen hb3 1
    have hz' := box_size hb3
    have hbx := hid (box_heap hb3)
    simp at c0 c1
    go_wp2
    refine bodyPost_ret (v := .agg #[.bool (decide (toZ true z.natAbs < 0)), .slice A n' c]) (by simp [results, Tryd.results10, go_sem, c0, c1]) rfl ⟨_, rfl, ?_, (hb4.setCell (p := ⟨w.heap.size, 0, none⟩) (Nat.le_refl _) _).setCell (p := ⟨w.heap.size, 1, none⟩) (Nat.le_refl _) _⟩
    have hzz : toZ true z.natAbs = z := by unfold toZ; rw [if_pos rfl]; omega
    rw [hzz] at hn ⊢
    exact ⟨A, n', c, rfl, hn.offbox hbx.out (noInt_zero _ _ _ _) (gb2 _ _ _ _ _ _)⟩
  · obtain ⟨n, rfl⟩ : ∃ n : Nat, z = n := ⟨z.toNat, by omega⟩
    go_enter Tryd.func10, Tryd.ntmps10
    go_wp2_with fail
    refine (limbsOf_any n _ (by omega)).mono ?_
    rintro e w1 ⟨v1, rfl, hv1, hb1⟩
    go_wp2_with fail
    refine (nz_open (integer_nm hv1)).mono ?_
    rintro e w2 ⟨A, n', c, rfl, hn, hb2⟩
    have hb3 := bthen hb1 hb2 (Nat.le_refl _)
    have hb4 := bthen (hb0 _) hb3 (Nat.le_refl _)
    have c0 := box_cell hb3 0
    have c1 := box_cell hb3 1
    have f0 := box_frozen hb3 0
    have f1 := box_frozen hb3 1
    have hz' := box_size hb3
    have hbx := hid (box_heap hb3)
    simp at c0 c1
    go_wp2
    refine bodyPost_ret (v := .agg #[.bool (decide (toZ false n < 0)), .slice A n' c]) (by simp [results, Tryd.results10, go_sem, c0, c1]) rfl ⟨_, rfl, ?_, (hb4.setCell (p := ⟨w.heap.size, 0, none⟩) (Nat.le_refl _) _).setCell (p := ⟨w.heap.size, 1, none⟩) (Nat.le_refl _) _⟩
    have hzz : toZ false n = (n : Int) := rfl
    rw [hzz] at hn ⊢
    exact ⟨A, n', c, rfl, hn.offbox hbx.out (noInt_zero _ _ _ _) (gb2 _ _ _ _ _ _)⟩

theorem natAbs_sub (a : Nat) (z : Int) (h : z = (a : Int)) : z.natAbs = a := by omega

theorem div_math (p q : Bool) (a b : Nat) (hb : b ≠ 0) :
    (p = false → toZ (p != q) (a / b) = toZ p a / toZ q b ∧ toZ false (a % b) = toZ p a % toZ q b) ∧
    (p = true → a % b = 0 → toZ (p != q) (a / b) = toZ p a / toZ q b ∧ toZ false (a % b) = toZ p a % toZ q b) ∧
    (p = true → a % b ≠ 0 → toZ (p != q) (a / b + 1) = toZ p a / toZ q b ∧ toZ false (b - a % b) = toZ p a % toZ q b) := by
  have e1 := Nat.div_add_mod a b
  have e2 := Nat.mod_lt a (show 0 < b by omega)
  generalize hq : a / b = Q at *
  generalize hr : a % b = R at *
  have key : ∀ (x y z w : Int), y ≠ 0 → x = z * y + w → 0 ≤ w → w < y.natAbs → z = x / y ∧ w = x % y := by
    intro x y z w hy h1 h2 h3
    have h7 : w % y = w := by
      rcases Int.lt_or_gt_of_ne hy with h | h
      · rw [← Int.emod_neg, Int.emod_eq_of_lt h2 (by omega)]
      · rw [Int.emod_eq_of_lt h2 (by omega)]
    have h4 : w = x % y := by
      rw [h1, Int.add_comm, Int.add_mul_emod_self_right, h7]
    refine ⟨?_, h4⟩
    have h5 := Int.mul_ediv_add_emod x y
    rw [← h4] at h5
    have h6 : y * (x / y) = y * z := by rw [Int.mul_comm y z]; omega
    exact (Int.eq_of_mul_eq_mul_left hy h6).symm
  have e3 : (a : Int) = (b : Int) * (Q : Int) + (R : Int) := by rw [← e1]; push_cast; rfl
  have q1 : ((Q + 1 : Nat) : Int) = (Q : Int) + 1 := by omega
  refine ⟨fun hp => ?_, fun hp h0 => ?_, fun hp h0 => ?_⟩
  · subst hp
    cases q
    · exact key (a : Int) (b : Int) (Q : Int) (R : Int) (by omega) (by rw [Int.mul_comm]; exact e3) (by omega) (by omega)
    · exact key (a : Int) (-(b : Int)) (-(Q : Int)) (R : Int) (by omega) (by rw [Int.neg_mul_neg, Int.mul_comm]; exact e3) (by omega) (by omega)
  · subst hp
    cases q
    · exact key (-(a : Int)) (b : Int) (-(Q : Int)) (R : Int) (by omega) (by rw [Int.neg_mul, Int.mul_comm]; omega) (by omega) (by omega)
    · exact key (-(a : Int)) (-(b : Int)) (Q : Int) (R : Int) (by omega) (by rw [Int.mul_neg, Int.mul_comm]; omega) (by omega) (by omega)
  · subst hp
    cases q
    · exact key (-(a : Int)) (b : Int) (-((Q + 1 : Nat) : Int)) ((b - R : Nat) : Int) (by omega) (by rw [q1, Int.neg_mul, Int.add_mul, Int.one_mul, Int.mul_comm (Q : Int)]; omega) (by omega) (by omega)
    · exact key (-(a : Int)) (-(b : Int)) ((Q + 1 : Nat) : Int) ((b - R : Nat) : Int) (by omega) (by rw [q1, Int.mul_neg, Int.add_mul, Int.one_mul, Int.mul_comm (Q : Int)]; omega) (by omega) (by omega)

end Go.Proofs.YtlfeendebbidhaaDoor
