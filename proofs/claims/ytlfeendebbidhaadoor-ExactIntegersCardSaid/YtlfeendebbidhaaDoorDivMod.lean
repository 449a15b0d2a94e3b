/- The contract of DivMod. For all integers whose limbs fit into memory. -/
import Derived.Test.YtlfeendebbidhaaDoorOps
namespace Go.Proofs.YtlfeendebbidhaaDoor
open Go.RowKit Kb

/-- Four boxes: two integers and two results. -/
def B4 (W : World) (g : Nat) (T : TypeId) (p q : Bool) (A B : Option Addr) (n c m d : Nat) : Prop :=
  Bx W g T p q A B n c m d ∧ W.heap[g + 1 + 1 + 1]? = some (.cells #[.bool false, .slice none 0 0] T (0, 0))
section
variable {W W' : World} {g n c m d N : Nat} {T : TypeId} {p q : Bool} {A B : Option Addr}
theorem B4.below (h : B4 W g T p q A B n c m d) (hb : Below N W W') (hN : g + 4 ≤ N) : B4 W' g T p q A B n c m d :=
  ⟨h.1.below hb (by omega), (hb.block _ (by omega)).trans h.2⟩
theorem B4.more (h : B4 W g T p q A B n c m d) : W.cell? ⟨g + 1 + 1 + 1, 0, none⟩ = some (.bool false) ∧ W.cell? ⟨g + 1 + 1 + 1, 1, none⟩ = some (.slice none 0 0) ∧ W.frozen? ⟨g + 1 + 1 + 1, 0, none⟩ = false ∧ W.frozen? ⟨g + 1 + 1 + 1, 1, none⟩ = false := by
  obtain ⟨h1, h2⟩ := h
  refine ⟨?_, ?_, ?_, ?_⟩
  · rw [cell_of_row W _ _ _ T (0, 0) h2]; rfl
  · rw [cell_of_row W _ _ _ T (0, 0) h2]; rfl
  · simp [World.frozen?, h2]
  · simp [World.frozen?, h2]
theorem B4.lt (h : B4 W g T p q A B n c m d) : g + 1 + 1 + 1 < W.heap.size := (Array.getElem?_eq_some_iff.1 h.2).1
theorem B4.new (w : World) (T : TypeId) (p q : Bool) (A B : Option Addr) (n c m d : Nat) : B4 ((((w.alloc (.cells #[.bool p, .slice A n c] T)).alloc (.cells #[.bool q, .slice B m d] T)).alloc (.cells #[.bool false, .slice none 0 0] T)).alloc (.cells #[.bool false, .slice none 0 0] T)) w.heap.size T p q A B n c m d := by
  refine ⟨(Bx.new w T p q A B n c m d).below (N := w.heap.size + 3) ((Below.refl _ _).alloc (by simp) _) (by omega), ?_⟩
  have := heap_alloc_new (((w.alloc (.cells #[.bool p, .slice A n c] T)).alloc (.cells #[.bool q, .slice B m d] T)).alloc (.cells #[.bool false, .slice none 0 0] T)) (.cells #[.bool false, .slice none 0 0] T)
  simpa using this
end

/-- A contract whose result is an integer, its fields written out, the sign under a name. -/
theorem nz_openb {P : Program} {f : FuncId} {args : Array Value} {w : World} {z : Int} (h : Calls P f args w fun e w' => ∃ v, e = .returned v ∧ Nz w' v z ∧ Below w.heap.size w w') :
    Calls P f args w fun e w' => ∃ s A n c, e = .returned (.agg #[.bool s, .slice A n c]) ∧ Hid (s = decide (z < 0)) ∧ Nm w' (.slice A n c) z.natAbs ∧ Below w.heap.size w w' := by
  refine h.mono ?_
  rintro e w' ⟨v, rfl, ⟨A, n, c, rfl, hn⟩, hb⟩
  exact ⟨_, A, n, c, rfl, rfl, hn, hb⟩
theorem integer_mulneg (p q : Bool) {v : Value} {a : Nat} {w : World} (h : Nm w v a) :
    Calls Tryd.prog 42 #[.bool (!(p == q)), v] w fun e w' => ∃ v, e = .returned v ∧ Nz w' v (toZ (p != q) a) ∧ Below w.heap.size w w' := integer_nm (neg := (!(p == q))) h

set_option maxRecDepth 100000 in
set_option maxHeartbeats 4000000 in
theorem DivMod_zero (p q : Bool) (A B : Option Addr) (n c m d : Nat) (w : World) (k : Raw w B m d 0) :
    Calls Tryd.prog 11 #[.agg #[.bool p, .slice A n c], .agg #[.bool q, .slice B m d]] w fun e w' => ∃ v u, e = .returned (.tuple #[v, u, .int .i64 9]) ∧ Nz w' v 0 ∧ Nz w' u 0 ∧ Below w.heap.size w w' := by
  have b0 := B4.new w 24 p q A B n c m d
  have hB := ((((Below.refl w.heap.size w).alloc (Nat.le_refl _) (.cells #[.bool p, .slice A n c] 24)).alloc (by simp) (.cells #[.bool q, .slice B m d] 24)).alloc (by simp; omega) (.cells #[.bool false, .slice none 0 0] 24)).alloc (by simp; omega) (.cells #[.bool false, .slice none 0 0] 24)
  obtain ⟨g, hg⟩ : ∃ g, w.heap.size = g := ⟨_, rfl⟩
  go_enter Tryd.func11, Tryd.ntmps11
  go_wp2_with fail
  rw [hg] at b0
  generalize (((w.alloc (.cells #[.bool p, .slice A n c] 24)).alloc (.cells #[.bool q, .slice B m d] 24)).alloc (.cells #[.bool false, .slice none 0 0] 24)).alloc (.cells #[.bool false, .slice none 0 0] 24) = W0 at *
  have k0 : Raw W0 B m d 0 := k.below hB
  have hl0 := b0.lt
  have HB := hid hB
  have Hg := hid hg
  clear hB hg k
  obtain ⟨x0, x1, x2, x3, x4, x5, x6, x7⟩ := b0.1.cells
  refine (size_any q B m d 0 _ k0).mono ?_
  rintro e w1 ⟨v, rfl, hv, hb⟩
  obtain ⟨A', c', rfl, _⟩ := hv
  rw [dig_zero, List.length_nil]
  have b1 := b0.below hb (by omega)
  obtain ⟨y0, y1, y2, y3, y4, y5, y6, y7⟩ := b1.1.cells
  obtain ⟨y8, y9, y10, y11⟩ := b1.more
  have hl1 := b1.lt
  have h5 := bthen HB.out hb (Nat.le_refl _)
  have hgl := Hg.out
  have h4 := (((h5.setCell (p := ⟨g + 1 + 1, 0, none⟩) (by show w.heap.size ≤ g + 1 + 1; omega) (.bool false)).setCell (p := ⟨g + 1 + 1, 1, none⟩) (by show w.heap.size ≤ g + 1 + 1; omega) (.slice none 0 0)).setCell (p := ⟨g + 1 + 1 + 1, 0, none⟩) (by show w.heap.size ≤ g + 1 + 1 + 1; omega) (.bool false)).setCell (p := ⟨g + 1 + 1 + 1, 1, none⟩) (by show w.heap.size ≤ g + 1 + 1 + 1; omega) (.slice none 0 0)
  clear hgl
  go_wp2
  exact bodyPost_ret (v := .tuple #[.agg #[.bool false, .slice none 0 0], .agg #[.bool false, .slice none 0 0], .int .i64 9]) (by simp [results, Tryd.results11, go_sem, y4, y5, y8, y9]) rfl ⟨_, _, rfl, ⟨none, 0, 0, rfl, nm_nil _⟩, ⟨none, 0, 0, rfl, nm_nil _⟩, h4⟩

set_option maxRecDepth 100000 in
set_option maxHeartbeats 2000000 in
theorem DivMod_pos (q : Bool) (A B : Option Addr) (n c m d a b : Nat) (w : World) (h : Raw w A n c a) (k : Raw w B m d b) (hb0 : b ≠ 0) (ha : (dig a).length ≤ 400000000) (_hb : (dig b).length ≤ 400000000) :
    Calls Tryd.prog 11 #[.agg #[.bool false, .slice A n c], .agg #[.bool q, .slice B m d]] w fun e w' => ∃ v u, e = .returned (.tuple #[v, u, .int .i64 0]) ∧ Nz w' v (toZ false a / toZ q b) ∧ Nz w' u (toZ false a % toZ q b) ∧ Below w.heap.size w w' := by
  have Hz := hid (show toZ q (a / b) = toZ false a / toZ q b ∧ toZ false (a % b) = toZ false a % toZ q b from by have := (div_math false q a b hb0).1 rfl; cases q <;> exact this)
  have b0 := B4.new w 24 false q A B n c m d
  have hB := ((((Below.refl w.heap.size w).alloc (Nat.le_refl _) (.cells #[.bool false, .slice A n c] 24)).alloc (by simp) (.cells #[.bool q, .slice B m d] 24)).alloc (by simp; omega) (.cells #[.bool false, .slice none 0 0] 24)).alloc (by simp; omega) (.cells #[.bool false, .slice none 0 0] 24)
  obtain ⟨g, hg⟩ : ∃ g, w.heap.size = g := ⟨_, rfl⟩
  go_enter Tryd.func11, Tryd.ntmps11
  go_wp2_with fail
  rw [hg] at b0
  generalize (((w.alloc (.cells #[.bool false, .slice A n c] 24)).alloc (.cells #[.bool q, .slice B m d] 24)).alloc (.cells #[.bool false, .slice none 0 0] 24)).alloc (.cells #[.bool false, .slice none 0 0] 24) = W0 at *
  have h0 : Raw W0 A n c a := h.below hB
  have k0 : Raw W0 B m d b := k.below hB
  have hl0 := b0.lt
  have HB := hid hB
  have Hg := hid hg
  have Hb0 := hid hb0
  have hbl : (((dig b).length : Int) == 0) = false := by
    rw [beq_eq_false_iff_ne]
    intro e
    exact hb0 (dig_nil_iff.1 (List.eq_nil_of_length_eq_zero (by omega)))
  clear hB hg h k hb0
  obtain ⟨x0, x1, x2, x3, x4, x5, x6, x7⟩ := b0.1.cells
  refine (size_any q B m d b _ k0).mono ?_
  rintro e w1 ⟨vb, rfl, hvb, hb1⟩
  have hvb' := hvb
  obtain ⟨B', d', rfl, _⟩ := hvb
  have b1 := b0.below hb1 (by omega)
  obtain ⟨y0, y1, y2, y3, y4, y5, y6, y7⟩ := b1.1.cells
  have hl1 := b1.lt
  clear x0 x1 x2 x3 x4 x5 x6 x7
  go_wp2_with fail
  refine (size_any false A n c a _ (h0.below hb1)).mono ?_
  rintro e w2 ⟨va, rfl, hva, hb2⟩
  have b2 := b1.below hb2 (by omega)
  have hl2 := b2.lt
  go_wp2_with fail
  refine (divLimbs_nm hva (hvb'.below hb2) Hb0.out ha).mono ?_
  rintro e w3 ⟨vq, vr, rfl, hvq, hvr, hb3⟩
  have hvr' := hvr
  obtain ⟨R', r', rfl, _⟩ := hvr
  have b3 := b2.below hb3 (by omega)
  obtain ⟨z0, z1, z2, z3, z4, z5, z6, z7⟩ := b3.1.cells
  have hl3 := b3.lt
  have h3 := bthen (bthen (bthen HB.out hb1 (Nat.le_refl _)) hb2 (Nat.le_refl _)) hb3 (Nat.le_refl _)
  clear y0 y1 y2 y3 y4 y5 y6 y7
  go_wp2_with fail
  refine (nz_openb (integer_nm (neg := q) (hvq))).mono ?_
  rintro e w6 ⟨s1, Q1, n1, c1, rfl, hs1, hn1, hb6⟩
  go_wp2_with fail
  refine (nz_openb (integer_nm (neg := false) ((hvr').below hb6))).mono ?_
  rintro e w7 ⟨s2, R1, m1, d1, rfl, hs2, hn2, hb7⟩
  have b7 := (b3.below hb6 (by omega)).below hb7 (by have := hb6.size; omega)
  obtain ⟨t0, t1, t2, t3, t4, t5, t6, t7⟩ := b7.1.cells
  obtain ⟨t8, t9, t10, t11⟩ := b7.more
  have hl7 := b7.lt
  have h7 := bthen (bthen h3 hb6 (Nat.le_refl _)) hb7 (Nat.le_refl _)
  have hgl := Hg.out
  have h4 := (((h7.setCell (p := ⟨g + 1 + 1, 0, none⟩) (by show w.heap.size ≤ g + 1 + 1; omega) (.bool s1)).setCell (p := ⟨g + 1 + 1, 1, none⟩) (by show w.heap.size ≤ g + 1 + 1; omega) (.slice Q1 n1 c1)).setCell (p := ⟨g + 1 + 1 + 1, 0, none⟩) (by show w.heap.size ≤ g + 1 + 1 + 1; omega) (.bool s2)).setCell (p := ⟨g + 1 + 1 + 1, 1, none⟩) (by show w.heap.size ≤ g + 1 + 1 + 1; omega) (.slice R1 m1 d1)
  clear hgl
  have hn1' := hid hn1
  have hn2' := hid hn2
  clear hn1 hn2
  go_wp2
  have hN1 := (hn1'.out.below hb7).offbox b7.1.2.2 (noInt_zero _ _ _ _) (gb2 _ (g + 1 + 1) 0 1 (.bool s1) (.slice Q1 n1 c1))
  have hN2 := hn2'.out.offbox b7.1.2.2 (noInt_zero _ _ _ _) (gb2 _ (g + 1 + 1) 0 1 (.bool s1) (.slice Q1 n1 c1))
  have hbx : ((w7.setCell ⟨g + 1 + 1, 0, none⟩ (.bool s1)).setCell ⟨g + 1 + 1, 1, none⟩ (.slice Q1 n1 c1)).heap[g + 1 + 1 + 1]? = some (.cells #[.bool false, .slice none 0 0] 24 (0, 0)) := by
    rw [Below.heap_setCell _ _ _ _ (by show g + 1 + 1 + 1 ≠ g + 1 + 1; omega), Below.heap_setCell _ _ _ _ (by show g + 1 + 1 + 1 ≠ g + 1 + 1; omega)]
    exact b7.2
  have hM1 := hN1.offbox hbx (noInt_zero _ _ _ _) (gb2 _ (g + 1 + 1 + 1) 0 1 (.bool s2) (.slice R1 m1 d1))
  have hM2 := hN2.offbox hbx (noInt_zero _ _ _ _) (gb2 _ (g + 1 + 1 + 1) 0 1 (.bool s2) (.slice R1 m1 d1))
  refine bodyPost_ret (v := .tuple #[.agg #[.bool s1, .slice Q1 n1 c1], .agg #[.bool s2, .slice R1 m1 d1], .int .i64 0]) (by simp [results, Tryd.results11, go_sem, t4, t5, t8, t9]) rfl ⟨_, _, rfl, ?_, ?_, h4⟩
  · rw [← Hz.out.1]; exact ⟨Q1, n1, c1, by rw [hs1.out], hM1⟩
  · rw [← Hz.out.2]; exact ⟨R1, m1, d1, by rw [hs2.out], hM2⟩

set_option maxRecDepth 100000 in
set_option maxHeartbeats 2000000 in
theorem DivMod_even (q : Bool) (A B : Option Addr) (n c m d a b : Nat) (w : World) (h : Raw w A n c a) (k : Raw w B m d b) (hb0 : b ≠ 0) (hr0 : a % b = 0) (ha : (dig a).length ≤ 400000000) (_hb : (dig b).length ≤ 400000000) :
    Calls Tryd.prog 11 #[.agg #[.bool true, .slice A n c], .agg #[.bool q, .slice B m d]] w fun e w' => ∃ v u, e = .returned (.tuple #[v, u, .int .i64 0]) ∧ Nz w' v (toZ true a / toZ q b) ∧ Nz w' u (toZ true a % toZ q b) ∧ Below w.heap.size w w' := by
  have Hz := hid (show toZ (!q) (a / b) = toZ true a / toZ q b ∧ toZ false (a % b) = toZ true a % toZ q b from by have := (div_math true q a b hb0).2.1 rfl hr0; cases q <;> exact this)
  have hl0' : (dig (a % b)).length = 0 := by rw [hr0, dig_zero]; rfl
  have Hl0 := hid hl0'
  clear hr0 hl0'
  have b0 := B4.new w 24 true q A B n c m d
  have hB := ((((Below.refl w.heap.size w).alloc (Nat.le_refl _) (.cells #[.bool true, .slice A n c] 24)).alloc (by simp) (.cells #[.bool q, .slice B m d] 24)).alloc (by simp; omega) (.cells #[.bool false, .slice none 0 0] 24)).alloc (by simp; omega) (.cells #[.bool false, .slice none 0 0] 24)
  obtain ⟨g, hg⟩ : ∃ g, w.heap.size = g := ⟨_, rfl⟩
  go_enter Tryd.func11, Tryd.ntmps11
  go_wp2_with fail
  rw [hg] at b0
  generalize (((w.alloc (.cells #[.bool true, .slice A n c] 24)).alloc (.cells #[.bool q, .slice B m d] 24)).alloc (.cells #[.bool false, .slice none 0 0] 24)).alloc (.cells #[.bool false, .slice none 0 0] 24) = W0 at *
  have h0 : Raw W0 A n c a := h.below hB
  have k0 : Raw W0 B m d b := k.below hB
  have hl0 := b0.lt
  have HB := hid hB
  have Hg := hid hg
  have Hb0 := hid hb0
  have hbl : (((dig b).length : Int) == 0) = false := by
    rw [beq_eq_false_iff_ne]
    intro e
    exact hb0 (dig_nil_iff.1 (List.eq_nil_of_length_eq_zero (by omega)))
  clear hB hg h k hb0
  obtain ⟨x0, x1, x2, x3, x4, x5, x6, x7⟩ := b0.1.cells
  refine (size_any q B m d b _ k0).mono ?_
  rintro e w1 ⟨vb, rfl, hvb, hb1⟩
  have hvb' := hvb
  obtain ⟨B', d', rfl, _⟩ := hvb
  have b1 := b0.below hb1 (by omega)
  obtain ⟨y0, y1, y2, y3, y4, y5, y6, y7⟩ := b1.1.cells
  have hl1 := b1.lt
  clear x0 x1 x2 x3 x4 x5 x6 x7
  go_wp2_with fail
  refine (size_any true A n c a _ (h0.below hb1)).mono ?_
  rintro e w2 ⟨va, rfl, hva, hb2⟩
  have b2 := b1.below hb2 (by omega)
  have hl2 := b2.lt
  go_wp2_with fail
  refine (divLimbs_nm hva (hvb'.below hb2) Hb0.out ha).mono ?_
  rintro e w3 ⟨vq, vr, rfl, hvq, hvr, hb3⟩
  have hvr' := hvr
  obtain ⟨R', r', rfl, _⟩ := hvr
  have b3 := b2.below hb3 (by omega)
  obtain ⟨z0, z1, z2, z3, z4, z5, z6, z7⟩ := b3.1.cells
  have hl3 := b3.lt
  have h3 := bthen (bthen (bthen HB.out hb1 (Nat.le_refl _)) hb2 (Nat.le_refl _)) hb3 (Nat.le_refl _)
  clear y0 y1 y2 y3 y4 y5 y6 y7
  rw [Hl0.out] at hvr' ⊢
  go_wp2_with fail
  refine (nz_openb (integer_nm (neg := !q) (hvq))).mono ?_
  rintro e w6 ⟨s1, Q1, n1, c1, rfl, hs1, hn1, hb6⟩
  go_wp2_with fail
  refine (nz_openb (integer_nm (neg := false) ((hvr').below hb6))).mono ?_
  rintro e w7 ⟨s2, R1, m1, d1, rfl, hs2, hn2, hb7⟩
  have b7 := (b3.below hb6 (by omega)).below hb7 (by have := hb6.size; omega)
  obtain ⟨t0, t1, t2, t3, t4, t5, t6, t7⟩ := b7.1.cells
  obtain ⟨t8, t9, t10, t11⟩ := b7.more
  have hl7 := b7.lt
  have h7 := bthen (bthen h3 hb6 (Nat.le_refl _)) hb7 (Nat.le_refl _)
  have hgl := Hg.out
  have h4 := (((h7.setCell (p := ⟨g + 1 + 1, 0, none⟩) (by show w.heap.size ≤ g + 1 + 1; omega) (.bool s1)).setCell (p := ⟨g + 1 + 1, 1, none⟩) (by show w.heap.size ≤ g + 1 + 1; omega) (.slice Q1 n1 c1)).setCell (p := ⟨g + 1 + 1 + 1, 0, none⟩) (by show w.heap.size ≤ g + 1 + 1 + 1; omega) (.bool s2)).setCell (p := ⟨g + 1 + 1 + 1, 1, none⟩) (by show w.heap.size ≤ g + 1 + 1 + 1; omega) (.slice R1 m1 d1)
  clear hgl
  have hn1' := hid hn1
  have hn2' := hid hn2
  clear hn1 hn2
  go_wp2
  have hN1 := (hn1'.out.below hb7).offbox b7.1.2.2 (noInt_zero _ _ _ _) (gb2 _ (g + 1 + 1) 0 1 (.bool s1) (.slice Q1 n1 c1))
  have hN2 := hn2'.out.offbox b7.1.2.2 (noInt_zero _ _ _ _) (gb2 _ (g + 1 + 1) 0 1 (.bool s1) (.slice Q1 n1 c1))
  have hbx : ((w7.setCell ⟨g + 1 + 1, 0, none⟩ (.bool s1)).setCell ⟨g + 1 + 1, 1, none⟩ (.slice Q1 n1 c1)).heap[g + 1 + 1 + 1]? = some (.cells #[.bool false, .slice none 0 0] 24 (0, 0)) := by
    rw [Below.heap_setCell _ _ _ _ (by show g + 1 + 1 + 1 ≠ g + 1 + 1; omega), Below.heap_setCell _ _ _ _ (by show g + 1 + 1 + 1 ≠ g + 1 + 1; omega)]
    exact b7.2
  have hM1 := hN1.offbox hbx (noInt_zero _ _ _ _) (gb2 _ (g + 1 + 1 + 1) 0 1 (.bool s2) (.slice R1 m1 d1))
  have hM2 := hN2.offbox hbx (noInt_zero _ _ _ _) (gb2 _ (g + 1 + 1 + 1) 0 1 (.bool s2) (.slice R1 m1 d1))
  refine bodyPost_ret (v := .tuple #[.agg #[.bool s1, .slice Q1 n1 c1], .agg #[.bool s2, .slice R1 m1 d1], .int .i64 0]) (by simp [results, Tryd.results11, go_sem, t4, t5, t8, t9]) rfl ⟨_, _, rfl, ?_, ?_, h4⟩
  · rw [← Hz.out.1]; exact ⟨Q1, n1, c1, by rw [hs1.out], hM1⟩
  · rw [← Hz.out.2]; exact ⟨R1, m1, d1, by rw [hs2.out], hM2⟩

set_option maxRecDepth 100000 in
set_option maxHeartbeats 2000000 in
theorem DivMod_fix (q : Bool) (A B : Option Addr) (n c m d a b : Nat) (w : World) (h : Raw w A n c a) (k : Raw w B m d b) (hb0 : b ≠ 0) (hr0 : a % b ≠ 0) (ha : (dig a).length ≤ 400000000) (hb : (dig b).length ≤ 400000000) :
    Calls Tryd.prog 11 #[.agg #[.bool true, .slice A n c], .agg #[.bool q, .slice B m d]] w fun e w' => ∃ v u, e = .returned (.tuple #[v, u, .int .i64 0]) ∧ Nz w' v (toZ true a / toZ q b) ∧ Nz w' u (toZ true a % toZ q b) ∧ Below w.heap.size w w' := by
  have Hz := hid (show toZ (!q) (a / b + 1) = toZ true a / toZ q b ∧ toZ false (b - a % b) = toZ true a % toZ q b from by have := (div_math true q a b hb0).2.2 rfl hr0; cases q <;> exact this)
  have hrp : 0 < (dig (a % b)).length := List.length_pos_iff.2 (fun e => hr0 (dig_nil_iff.1 e))
  have hqs : (dig (a / b)).length ≤ (dig a).length := dig_length_mono (Nat.div_le_self _ _)
  have h1l : (dig 1).length ≤ 1 := dig_length_le (by decide)
  have Hls := hid (And.intro hqs h1l)
  clear hr0 hqs h1l
  have b0 := B4.new w 24 true q A B n c m d
  have hB := ((((Below.refl w.heap.size w).alloc (Nat.le_refl _) (.cells #[.bool true, .slice A n c] 24)).alloc (by simp) (.cells #[.bool q, .slice B m d] 24)).alloc (by simp; omega) (.cells #[.bool false, .slice none 0 0] 24)).alloc (by simp; omega) (.cells #[.bool false, .slice none 0 0] 24)
  obtain ⟨g, hg⟩ : ∃ g, w.heap.size = g := ⟨_, rfl⟩
  go_enter Tryd.func11, Tryd.ntmps11
  go_wp2_with fail
  rw [hg] at b0
  generalize (((w.alloc (.cells #[.bool true, .slice A n c] 24)).alloc (.cells #[.bool q, .slice B m d] 24)).alloc (.cells #[.bool false, .slice none 0 0] 24)).alloc (.cells #[.bool false, .slice none 0 0] 24) = W0 at *
  have h0 : Raw W0 A n c a := h.below hB
  have k0 : Raw W0 B m d b := k.below hB
  have hl0 := b0.lt
  have HB := hid hB
  have Hg := hid hg
  have Hb0 := hid hb0
  have hbl : (((dig b).length : Int) == 0) = false := by
    rw [beq_eq_false_iff_ne]
    intro e
    exact hb0 (dig_nil_iff.1 (List.eq_nil_of_length_eq_zero (by omega)))
  clear hB hg h k hb0
  obtain ⟨x0, x1, x2, x3, x4, x5, x6, x7⟩ := b0.1.cells
  refine (size_any q B m d b _ k0).mono ?_
  rintro e w1 ⟨vb, rfl, hvb, hb1⟩
  have hvb' := hvb
  obtain ⟨B', d', rfl, _⟩ := hvb
  have b1 := b0.below hb1 (by omega)
  obtain ⟨y0, y1, y2, y3, y4, y5, y6, y7⟩ := b1.1.cells
  have hl1 := b1.lt
  clear x0 x1 x2 x3 x4 x5 x6 x7
  go_wp2_with fail
  refine (size_any true A n c a _ (h0.below hb1)).mono ?_
  rintro e w2 ⟨va, rfl, hva, hb2⟩
  have b2 := b1.below hb2 (by omega)
  have hl2 := b2.lt
  go_wp2_with fail
  refine (divLimbs_nm hva (hvb'.below hb2) Hb0.out ha).mono ?_
  rintro e w3 ⟨vq, vr, rfl, hvq, hvr, hb3⟩
  have hvr' := hvr
  obtain ⟨R', r', rfl, _⟩ := hvr
  have b3 := b2.below hb3 (by omega)
  obtain ⟨z0, z1, z2, z3, z4, z5, z6, z7⟩ := b3.1.cells
  have hl3 := b3.lt
  have h3 := bthen (bthen (bthen HB.out hb1 (Nat.le_refl _)) hb2 (Nat.le_refl _)) hb3 (Nat.le_refl _)
  clear y0 y1 y2 y3 y4 y5 y6 y7
  go_wp2_with fail
  refine (limbsOf_any 1 _ (by decide)).mono ?_
  rintro e w4 ⟨v1, rfl, hv1, hb4⟩
  have b4 := b3.below hb4 (by omega)
  have hl4 := b4.lt
  go_wp2_with fail
  refine (addLimbs_nm (hvq.below hb4) hv1 (by have := Hls.out; omega) (by have := Hls.out; omega)).mono ?_
  rintro e w5 ⟨vs, rfl, hvs, hb5⟩
  have b5 := b4.below hb5 (by omega)
  have hl5 := b5.lt
  go_wp2_with fail
  refine (subLimbs_nm ((((hvb'.below hb2).below hb3).below hb4).below hb5) ((hvr'.below hb4).below hb5) (by have := Nat.mod_lt a (show 0 < b by have := Hb0.out; omega); omega) (by omega)).mono ?_
  rintro e w8 ⟨vt, rfl, hvt, hb8⟩
  have b8 := b5.below hb8 (by omega)
  have hl8 := b8.lt
  obtain ⟨s0, s1, s2, s3, s4, s5, s6, s7⟩ := b8.1.cells
  have h8 := bthen (bthen (bthen h3 hb4 (Nat.le_refl _)) hb5 (Nat.le_refl _)) hb8 (Nat.le_refl _)
  clear z0 z1 z2 z3 z4 z5 z6 z7
  go_wp2_with fail
  refine (nz_openb (integer_nm (neg := !q) (hvs.below hb8))).mono ?_
  rintro e w6 ⟨s1, Q1, n1, c1, rfl, hs1, hn1, hb6⟩
  go_wp2_with fail
  refine (nz_openb (integer_nm (neg := false) ((hvt).below hb6))).mono ?_
  rintro e w7 ⟨s2, R1, m1, d1, rfl, hs2, hn2, hb7⟩
  have b7 := (b8.below hb6 (by omega)).below hb7 (by have := hb6.size; omega)
  obtain ⟨t0, t1, t2, t3, t4, t5, t6, t7⟩ := b7.1.cells
  obtain ⟨t8, t9, t10, t11⟩ := b7.more
  have hl7 := b7.lt
  have h7 := bthen (bthen h8 hb6 (Nat.le_refl _)) hb7 (Nat.le_refl _)
  have hgl := Hg.out
  have h4 := (((h7.setCell (p := ⟨g + 1 + 1, 0, none⟩) (by show w.heap.size ≤ g + 1 + 1; omega) (.bool s1)).setCell (p := ⟨g + 1 + 1, 1, none⟩) (by show w.heap.size ≤ g + 1 + 1; omega) (.slice Q1 n1 c1)).setCell (p := ⟨g + 1 + 1 + 1, 0, none⟩) (by show w.heap.size ≤ g + 1 + 1 + 1; omega) (.bool s2)).setCell (p := ⟨g + 1 + 1 + 1, 1, none⟩) (by show w.heap.size ≤ g + 1 + 1 + 1; omega) (.slice R1 m1 d1)
  clear hgl
  have hn1' := hid hn1
  have hn2' := hid hn2
  clear hn1 hn2
  go_wp2
  have hN1 := (hn1'.out.below hb7).offbox b7.1.2.2 (noInt_zero _ _ _ _) (gb2 _ (g + 1 + 1) 0 1 (.bool s1) (.slice Q1 n1 c1))
  have hN2 := hn2'.out.offbox b7.1.2.2 (noInt_zero _ _ _ _) (gb2 _ (g + 1 + 1) 0 1 (.bool s1) (.slice Q1 n1 c1))
  have hbx : ((w7.setCell ⟨g + 1 + 1, 0, none⟩ (.bool s1)).setCell ⟨g + 1 + 1, 1, none⟩ (.slice Q1 n1 c1)).heap[g + 1 + 1 + 1]? = some (.cells #[.bool false, .slice none 0 0] 24 (0, 0)) := by
    rw [Below.heap_setCell _ _ _ _ (by show g + 1 + 1 + 1 ≠ g + 1 + 1; omega), Below.heap_setCell _ _ _ _ (by show g + 1 + 1 + 1 ≠ g + 1 + 1; omega)]
    exact b7.2
  have hM1 := hN1.offbox hbx (noInt_zero _ _ _ _) (gb2 _ (g + 1 + 1 + 1) 0 1 (.bool s2) (.slice R1 m1 d1))
  have hM2 := hN2.offbox hbx (noInt_zero _ _ _ _) (gb2 _ (g + 1 + 1 + 1) 0 1 (.bool s2) (.slice R1 m1 d1))
  refine bodyPost_ret (v := .tuple #[.agg #[.bool s1, .slice Q1 n1 c1], .agg #[.bool s2, .slice R1 m1 d1], .int .i64 0]) (by simp [results, Tryd.results11, go_sem, t4, t5, t8, t9]) rfl ⟨_, _, rfl, ?_, ?_, h4⟩
  · rw [← Hz.out.1]; exact ⟨Q1, n1, c1, by rw [hs1.out], hM1⟩
  · rw [← Hz.out.2]; exact ⟨R1, m1, d1, by rw [hs2.out], hM2⟩

theorem DivMod_any (p q : Bool) (A B : Option Addr) (n c m d a b : Nat) (w : World) (h : Raw w A n c a) (k : Raw w B m d b) (hb0 : b ≠ 0) (ha : (dig a).length ≤ 400000000) (hb : (dig b).length ≤ 400000000) :
    Calls Tryd.prog 11 #[.agg #[.bool p, .slice A n c], .agg #[.bool q, .slice B m d]] w fun e w' => ∃ v u, e = .returned (.tuple #[v, u, .int .i64 0]) ∧ Nz w' v (toZ p a / toZ q b) ∧ Nz w' u (toZ p a % toZ q b) ∧ Below w.heap.size w w' := by
  cases p
  · exact DivMod_pos q A B n c m d a b w h k hb0 ha hb
  · by_cases hr0 : a % b = 0
    · exact DivMod_even q A B n c m d a b w h k hb0 hr0 ha hb
    · exact DivMod_fix q A B n c m d a b w h k hb0 hr0 ha hb

end Go.Proofs.YtlfeendebbidhaaDoor
