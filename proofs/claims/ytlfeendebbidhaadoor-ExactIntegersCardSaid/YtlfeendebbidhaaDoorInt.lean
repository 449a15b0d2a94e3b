/- The contracts of size, sign, integer, addSigned and of the operations on integers. For all integers whose limbs fit into memory. -/
import Derived.Test.YtlfeendebbidhaaDoorQuo
namespace Go.Proofs.YtlfeendebbidhaaDoor
open Go.RowKit Kb

/-- The integer of a sign and a size. -/
def toZ (neg : Bool) (a : Nat) : Int := if neg then -(a : Int) else (a : Int)
/-- The fields of an integer: a sign, limbs of the value a, perhaps with zeros at their end. -/
def Raw (w : World) (A : Option Addr) (n c a : Nat) : Prop := ∃ xs, xs.length = n ∧ Sl w .u16 A xs ∧ Lim xs ∧ val xs = a ∧ n ≤ c ∧ c ≤ maxLen
theorem Raw.below {w w' : World} {A : Option Addr} {n c a : Nat} (h : Raw w A n c a) (hb : Below w.heap.size w w') : Raw w' A n c a := by
  obtain ⟨xs, h1, h2, h3⟩ := h
  exact ⟨xs, h1, h2.below hb, h3⟩
/-- The value v is the integer z, normalized. -/
def Nz (w : World) (v : Value) (z : Int) : Prop := ∃ A n c, v = .agg #[.bool (decide (z < 0)), .slice A n c] ∧ Nm w (.slice A n c) z.natAbs
theorem Nz.below {w w' : World} {v : Value} {z : Int} (h : Nz w v z) (hb : Below w.heap.size w w') : Nz w' v z := by
  obtain ⟨A, n, c, h1, h2⟩ := h
  exact ⟨A, n, c, h1, h2.below hb⟩
/-- The value v is an integer, perhaps not normalized. -/
def Iz (w : World) (v : Value) (z : Int) : Prop := ∃ neg A n c a, v = .agg #[.bool neg, .slice A n c] ∧ Raw w A n c a ∧ z = toZ neg a
theorem Iz.below {w w' : World} {v : Value} {z : Int} (h : Iz w v z) (hb : Below w.heap.size w w') : Iz w' v z := by
  obtain ⟨neg, A, n, c, a, h1, h2, h3⟩ := h
  exact ⟨neg, A, n, c, a, h1, h2.below hb, h3⟩
theorem Nm.raw {w : World} {A : Option Addr} {n c a : Nat} (h : Nm w (.slice A n c) a) : Raw w A n c a := by
  obtain ⟨A', c', e, h1, h2, h3⟩ := h
  injection e with e1 e2 e3
  subst e1; subst e2; subst e3
  exact ⟨dig a, rfl, h1, lim_dig a, val_dig a, h2, h3⟩
theorem toZ_of (z : Int) : toZ (decide (z < 0)) z.natAbs = z := by
  unfold toZ
  by_cases h : z < 0
  · rw [decide_eq_true h, if_pos rfl]; omega
  · rw [decide_eq_false h, if_neg (by decide)]; omega
theorem natAbs_toZ (neg : Bool) (a : Nat) : (toZ neg a).natAbs = a := by
  unfold toZ; cases neg <;> simp
theorem Nz.iz {w : World} {v : Value} {z : Int} (h : Nz w v z) : Iz w v z := by
  obtain ⟨A, n, c, h1, h2⟩ := h
  exact ⟨_, A, n, c, _, h1, h2.raw, (toZ_of z).symm⟩

/-- No cell of the block holds a number. -/
def NoInt (C : Array Value) : Prop := ∀ (i : Nat) (k : IntKind) (n : Int), C[i]? ≠ some (.int k n)
theorem noInt2 {a b : Value} (ha : ∀ k n, a ≠ .int k n) (hb : ∀ k n, b ≠ .int k n) : NoInt #[a, b] := by
  intro i k n
  match i with
  | 0 => simpa using ha k n
  | 1 => simpa using hb k n
  | j + 2 => simp
theorem noInt4 {a b c d : Value} (ha : ∀ k n, a ≠ .int k n) (hb : ∀ k n, b ≠ .int k n) (hc : ∀ k n, c ≠ .int k n) (hd : ∀ k n, d ≠ .int k n) : NoInt #[a, b, c, d] := by
  intro i k n
  match i with
  | 0 => simpa using ha k n
  | 1 => simpa using hb k n
  | 2 => simpa using hc k n
  | 3 => simpa using hd k n
  | j + 4 => simp
theorem noInt_zero (b : Bool) (A : Option Addr) (n c : Nat) : NoInt #[.bool b, .slice A n c] := noInt2 (fun _ _ => by simp) (fun _ _ => by simp)
section
variable {w w3 : World} {g : Nat} {C : Array Value} {T : TypeId}
/-- Slices of numbers don't lie in a box of other values: they stay when the box is written. -/
theorem Sl.offbox {k : IntKind} {A : Option Addr} {xs : List Nat} (h : Sl w k A xs) (hb : w.heap[g]? = some (.cells C T (0, 0))) (hC : NoInt C) (hg : w.grownBy w3 (some g)) : Sl w3 k A xs := by
  refine h.grown hg fun ad e hx e2 => ?_
  injection e2 with e2
  have hpos : 0 < xs.length := List.length_pos_iff.2 hx
  obtain ⟨ad', e3, _, hc⟩ := h 0 hpos
  rw [e] at e3
  injection e3 with e3
  subst e3
  rw [addr_zero] at hc
  unfold World.cell? at hc
  rw [e2, hb] at hc
  simp only at hc
  split at hc
  · cases hc
  · exact hC _ _ _ hc
theorem Nm.offbox {v : Value} {a : Nat} (h : Nm w v a) (hb : w.heap[g]? = some (.cells C T (0, 0))) (hC : NoInt C) (hg : w.grownBy w3 (some g)) : Nm w3 v a := by
  obtain ⟨A, c, e, h1, h2⟩ := h
  exact ⟨A, c, e, h1.offbox hb hC hg, h2⟩
theorem Nz.offbox {v : Value} {z : Int} (h : Nz w v z) (hb : w.heap[g]? = some (.cells C T (0, 0))) (hC : NoInt C) (hg : w.grownBy w3 (some g)) : Nz w3 v z := by
  obtain ⟨A, n, c, e, h1⟩ := h
  exact ⟨A, n, c, e, h1.offbox hb hC hg⟩
end
theorem gb2 (w : World) (g : Nat) (i j : Nat) (u v : Value) : w.grownBy ((w.setCell ⟨g, i, none⟩ u).setCell ⟨g, j, none⟩ v) (some g) := gb_set (gb_set (World.grownBy.refl _ _) i u) j v

set_option maxRecDepth 100000 in
set_option maxHeartbeats 1000000 in
theorem size_any (neg : Bool) (A : Option Addr) (n c a : Nat) (w : World) (h : Raw w A n c a) :
    Calls Tryd.prog 39 #[.agg #[.bool neg, .slice A n c]] w fun e w' => ∃ v, e = .returned v ∧ Nm w' v a ∧ Below w.heap.size w w' := by
  have hb0 := fun o => (Below.refl w.heap.size w).alloc (Nat.le_refl _) o
  obtain ⟨xs, h1, h2, h3, h4, h5, h6⟩ := h
  have H := hid (And.intro h1 h4)
  clear h1 h4
  go_enter Tryd.func39, Tryd.ntmps39
  go_wp2_with fail
  refine (trim_nm A c n xs _ (h2.below (hb0 _)) h3 H.out.1 h5 h6).mono ?_
  rintro e w' ⟨v, rfl, hv, rfl⟩
  go_wp2
  go_ret
  rw [H.out.2] at hv
  exact ⟨v, rfl, hv, hb0 _⟩

set_option maxRecDepth 100000 in
set_option maxHeartbeats 1000000 in
theorem integer_any (neg : Bool) (A : Option Addr) (n c a : Nat) (w : World) (h : Nm w (.slice A n c) a) :
    Calls Tryd.prog 42 #[.bool neg, .slice A n c] w fun e w' => ∃ v, e = .returned v ∧ Nz w' v (toZ neg a) ∧ Below w.heap.size w w' := by
  have hb0 := fun o => (Below.refl w.heap.size w).alloc (Nat.le_refl _) o
  by_cases h0 : a = 0
  · have hn : n = 0 := by
      obtain ⟨A', c', e, _⟩ := h
      injection e with e1 e2 e3
      rw [h0, dig_zero] at e2
      exact e2
    subst hn
    go_enter Tryd.func42, Tryd.ntmps42
    go_wp2
    refine bodyPost_ret (v := .agg #[.bool false, .slice none 0 0]) (by simp [results, Tryd.results42, go_sem]) rfl ⟨_, rfl, ⟨none, 0, 0, ?_, ?_⟩, hb0 _⟩
    · rw [h0]; cases neg <;> rfl
    · rw [h0]; cases neg <;> exact nm_nil _
  · have hn : n ≠ 0 := by
      obtain ⟨A', c', e, _⟩ := h
      injection e with e1 e2 e3
      intro hn
      rw [hn] at e2
      exact h0 (dig_nil_iff.1 (List.eq_nil_of_length_eq_zero e2.symm))
    have hn' : ((n : Int) == 0) = false := by rw [beq_eq_false_iff_ne]; omega
    go_enter Tryd.func42, Tryd.ntmps42
    go_wp2
    refine bodyPost_ret (v := .agg #[.bool neg, .slice A n c]) (by simp [results, Tryd.results42, go_sem]) rfl ⟨_, rfl, ⟨A, n, c, ?_, ?_⟩, hb0 _⟩
    · unfold toZ
      cases neg
      · rw [if_neg (by decide), decide_eq_false (by omega)]
      · rw [if_pos rfl, decide_eq_true (by omega)]
    · rw [natAbs_toZ]; exact h.below (hb0 _)

theorem integer_nm {neg : Bool} {v : Value} {a : Nat} {w : World} (h : Nm w v a) :
    Calls Tryd.prog 42 #[.bool neg, v] w fun e w' => ∃ v, e = .returned v ∧ Nz w' v (toZ neg a) ∧ Below w.heap.size w w' := by
  obtain ⟨A, c, rfl, _⟩ := id h
  exact integer_any neg A _ c a w h

set_option maxRecDepth 100000 in
set_option maxHeartbeats 1000000 in
theorem sign_any (neg : Bool) (A : Option Addr) (n c a : Nat) (w : World) (h : Raw w A n c a) :
    Calls Tryd.prog 48 #[.agg #[.bool neg, .slice A n c]] w fun e w' => e = .returned (.int .i64 (toZ neg a).sign) ∧ Below w.heap.size w w' := by
  have hb0 := fun o => (Below.refl w.heap.size w).alloc (Nat.le_refl _) o
  have hs : (toZ neg a).sign = if a = 0 then 0 else if neg then -1 else 1 := by
    unfold toZ
    cases neg <;> by_cases h0 : a = 0
    · subst h0; rfl
    · simp [h0]; omega
    · subst h0; rfl
    · simp [h0]; omega
  rw [hs]
  have h' := h.below (hb0 (.cells #[.bool neg, .slice A n c] 24))
  clear hs
  by_cases h0 : a = 0
  · have H0 := hid h0
    rw [if_pos h0]
    clear h0
    go_enter Tryd.func48, Tryd.ntmps48
    go_wp2_with fail
    refine (size_any neg A n c a _ h').mono ?_
    rintro e w1 ⟨v, rfl, hv, hb⟩
    obtain ⟨A', c', rfl, _⟩ := hv
    rw [H0.out, dig_zero, List.length_nil]
    have hb2 := bthen (hb0 _) hb (Nat.le_refl _)
    go_wp2
    go_ret
    exact ⟨rfl, hb2⟩
  · have hd : (((dig a).length : Int) == 0) = false := by
      rw [beq_eq_false_iff_ne]
      intro e
      exact h0 (dig_nil_iff.1 (List.eq_nil_of_length_eq_zero (by omega)))
    have hbx : ∀ w' : World, Below (w.alloc (.cells #[.bool neg, .slice A n c] 24)).heap.size (w.alloc (.cells #[.bool neg, .slice A n c] 24)) w' → w'.cell? ⟨w.heap.size, 0, none⟩ = some (.bool neg) := fun w' hb => by
      rw [hb.cell (p := ⟨w.heap.size, 0, none⟩) (by simp)]
      simp
    rw [if_neg h0]
    go_enter Tryd.func48, Tryd.ntmps48
    go_wp2_with fail
    refine (size_any neg A n c a _ h').mono ?_
    rintro e w1 ⟨v, rfl, hv, hb⟩
    obtain ⟨A', c', rfl, _⟩ := hv
    have hb2 := bthen (hb0 _) hb (Nat.le_refl _)
    have hcell := hbx _ hb
    clear hbx
    go_wp2_with fail
    refine (direction_any _ _).mono ?_
    rintro e w2 ⟨rfl, rfl⟩
    go_wp2
    all_goals go_ret
    all_goals exact ⟨rfl, hb2⟩

theorem addSigned_math (p q : Bool) (a b : Nat) : (p = q → toZ p a + toZ q b = toZ p (a + b)) ∧ (p ≠ q → a < b → toZ p a + toZ q b = toZ q (b - a)) ∧ (p ≠ q → b ≤ a → toZ p a + toZ q b = toZ p (a - b)) := by
  unfold toZ
  refine ⟨?_, ?_, ?_⟩ <;> cases p <;> cases q <;> simp <;> omega

set_option maxRecDepth 100000 in
set_option maxHeartbeats 2000000 in
theorem addSigned_same (p q : Bool) {v u : Value} {a b : Nat} {w : World} (h : Nm w v a) (k : Nm w u b) (hpq : p = q) (ha : (dig a).length ≤ 400000000) (hb : (dig b).length ≤ 400000000) :
    Calls Tryd.prog 52 #[v, .bool p, u, .bool q] w fun e w' => ∃ v, e = .returned v ∧ Nz w' v (toZ p a + toZ q b) ∧ Below w.heap.size w w' := by
    have hb0 := fun o => (Below.refl w.heap.size w).alloc (Nat.le_refl _) o
    subst hpq
    have M := hid ((addSigned_math p p a b).1 rfl)
    have hbq : (p == p) = true := by cases p <;> rfl
    have h' := h.below (hb0 (.cells #[.bool false, .slice none 0 0] 24))
    have k' := k.below (hb0 (.cells #[.bool false, .slice none 0 0] 24))
    go_enter Tryd.func52, Tryd.ntmps52
    go_wp2_with fail
    refine (addLimbs_nm h' k' (by omega) (by omega)).mono ?_
    rintro e w1 ⟨v1, rfl, hv1, hb1⟩
    have hb1' := hb1
    go_wp2_with fail
    refine (integer_nm hv1).mono ?_
    rintro e w2 ⟨v2, rfl, hv2, hb2⟩
    have hb3 := bthen hb1' hb2 (Nat.le_refl _)
    have hb4 := bthen (hb0 _) hb3 (Nat.le_refl _)
    have c0 := box_cell hb3 0
    have c1 := box_cell hb3 1
    have f0 := box_frozen hb3 0
    have f1 := box_frozen hb3 1
    have hz := box_size hb3
    have hbx := hid (box_heap hb3)
    obtain ⟨A, n, c, rfl, hn⟩ := hv2
    simp at c0 c1
    go_wp2
    refine bodyPost_ret (v := .agg #[.bool (decide (toZ p (a + b) < 0)), .slice A n c]) (by simp [results, Tryd.results52, go_sem, c0, c1]) rfl ⟨_, rfl, ⟨A, n, c, by rw [M.out], ?_⟩, (hb4.setCell (p := ⟨w.heap.size, 0, none⟩) (Nat.le_refl _) _).setCell (p := ⟨w.heap.size, 1, none⟩) (Nat.le_refl _) _⟩
    rw [M.out]
    exact hn.offbox hbx.out (noInt_zero _ _ _ _) (gb2 _ _ _ _ _ _)

set_option maxRecDepth 100000 in
set_option maxHeartbeats 2000000 in
theorem addSigned_less (p q : Bool) {v u : Value} {a b : Nat} {w : World} (h : Nm w v a) (k : Nm w u b) (hpq : p ≠ q) (hlt : a < b) (_ha : (dig a).length ≤ 400000000) (hb : (dig b).length ≤ 400000000) :
    Calls Tryd.prog 52 #[v, .bool p, u, .bool q] w fun e w' => ∃ v, e = .returned v ∧ Nz w' v (toZ p a + toZ q b) ∧ Below w.heap.size w w' := by
    have hb0 := fun o => (Below.refl w.heap.size w).alloc (Nat.le_refl _) o
    have M := hid ((addSigned_math p q a b).2.1 hpq hlt)
    have Hs := hid (sgn_lt hlt)
    have hbq : (p == q) = false := by rw [beq_eq_false_iff_ne]; exact hpq
    have h' := h.below (hb0 (.cells #[.bool false, .slice none 0 0] 24))
    have k' := k.below (hb0 (.cells #[.bool false, .slice none 0 0] 24))
    go_enter Tryd.func52, Tryd.ntmps52
    go_wp2_with fail
    refine (compareLimbs_nm h' k').mono ?_
    rintro e wq ⟨rfl, hqt⟩
    rw [Hs.out]
    go_wp2_with fail
    refine (subLimbs_nm (k'.qt hqt) (h'.qt hqt) (by omega) (by omega)).mono ?_
    rintro e w1 ⟨v1, rfl, hv1, hb1⟩
    have hb1' := bthen (hqt.below _) hb1 (Nat.le_refl _)
    go_wp2_with fail
    refine (integer_nm hv1).mono ?_
    rintro e w2 ⟨v2, rfl, hv2, hb2⟩
    have hb3 := bthen hb1' hb2 (Nat.le_refl _)
    have hb4 := bthen (hb0 _) hb3 (Nat.le_refl _)
    have c0 := box_cell hb3 0
    have c1 := box_cell hb3 1
    have f0 := box_frozen hb3 0
    have f1 := box_frozen hb3 1
    have hz := box_size hb3
    have hbx := hid (box_heap hb3)
    obtain ⟨A, n, c, rfl, hn⟩ := hv2
    simp at c0 c1
    go_wp2
    refine bodyPost_ret (v := .agg #[.bool (decide (toZ q (b - a) < 0)), .slice A n c]) (by simp [results, Tryd.results52, go_sem, c0, c1]) rfl ⟨_, rfl, ⟨A, n, c, by rw [M.out], ?_⟩, (hb4.setCell (p := ⟨w.heap.size, 0, none⟩) (Nat.le_refl _) _).setCell (p := ⟨w.heap.size, 1, none⟩) (Nat.le_refl _) _⟩
    rw [M.out]
    exact hn.offbox hbx.out (noInt_zero _ _ _ _) (gb2 _ _ _ _ _ _)

set_option maxRecDepth 100000 in
set_option maxHeartbeats 2000000 in
theorem addSigned_more (p q : Bool) {v u : Value} {a b : Nat} {w : World} (h : Nm w v a) (k : Nm w u b) (hpq : p ≠ q) (hge : b ≤ a) (ha : (dig a).length ≤ 400000000) (_hb : (dig b).length ≤ 400000000) :
    Calls Tryd.prog 52 #[v, .bool p, u, .bool q] w fun e w' => ∃ v, e = .returned v ∧ Nz w' v (toZ p a + toZ q b) ∧ Below w.heap.size w w' := by
    have hb0 := fun o => (Below.refl w.heap.size w).alloc (Nat.le_refl _) o
    have M := hid ((addSigned_math p q a b).2.2 hpq hge)
    have hs0 : 0 ≤ sgn a b := by
      rcases Nat.lt_or_ge b a with h | h
      · rw [sgn_gt h]; decide
      · rw [show a = b by omega, sgn_eq]; decide
    obtain ⟨sg, hsg⟩ : ∃ sg, sgn a b = sg := ⟨_, rfl⟩
    rw [hsg] at hs0
    have Hs := hid hsg
    clear hsg
    have hbq : (p == q) = false := by rw [beq_eq_false_iff_ne]; exact hpq
    have h' := h.below (hb0 (.cells #[.bool false, .slice none 0 0] 24))
    have k' := k.below (hb0 (.cells #[.bool false, .slice none 0 0] 24))
    go_enter Tryd.func52, Tryd.ntmps52
    go_wp2_with fail
    refine (compareLimbs_nm h' k').mono ?_
    rintro e wq ⟨rfl, hqt⟩
    rw [Hs.out]
    go_wp2_with fail
    refine (subLimbs_nm (h'.qt hqt) (k'.qt hqt) (by omega) (by omega)).mono ?_
    rintro e w1 ⟨v1, rfl, hv1, hb1⟩
    have hb1' := bthen (hqt.below _) hb1 (Nat.le_refl _)
    go_wp2_with fail
    refine (integer_nm hv1).mono ?_
    rintro e w2 ⟨v2, rfl, hv2, hb2⟩
    have hb3 := bthen hb1' hb2 (Nat.le_refl _)
    have hb4 := bthen (hb0 _) hb3 (Nat.le_refl _)
    have c0 := box_cell hb3 0
    have c1 := box_cell hb3 1
    have f0 := box_frozen hb3 0
    have f1 := box_frozen hb3 1
    have hz := box_size hb3
    have hbx := hid (box_heap hb3)
    obtain ⟨A, n, c, rfl, hn⟩ := hv2
    simp at c0 c1
    go_wp2
    refine bodyPost_ret (v := .agg #[.bool (decide (toZ p (a - b) < 0)), .slice A n c]) (by simp [results, Tryd.results52, go_sem, c0, c1]) rfl ⟨_, rfl, ⟨A, n, c, by rw [M.out], ?_⟩, (hb4.setCell (p := ⟨w.heap.size, 0, none⟩) (Nat.le_refl _) _).setCell (p := ⟨w.heap.size, 1, none⟩) (Nat.le_refl _) _⟩
    rw [M.out]
    exact hn.offbox hbx.out (noInt_zero _ _ _ _) (gb2 _ _ _ _ _ _)

theorem addSigned_any (p q : Bool) {v u : Value} {a b : Nat} {w : World} (h : Nm w v a) (k : Nm w u b) (ha : (dig a).length ≤ 400000000) (hb : (dig b).length ≤ 400000000) :
    Calls Tryd.prog 52 #[v, .bool p, u, .bool q] w fun e w' => ∃ v, e = .returned v ∧ Nz w' v (toZ p a + toZ q b) ∧ Below w.heap.size w w' := by
  by_cases hpq : p = q
  · exact addSigned_same p q h k hpq ha hb
  · rcases Nat.lt_or_ge a b with hlt | hge
    · exact addSigned_less p q h k hpq hlt ha hb
    · exact addSigned_more p q h k hpq hge ha hb

end Go.Proofs.YtlfeendebbidhaaDoor
