/- The contracts of parts, fraction, product and MulRat in general. -/
import Derived.Test.YtffipjofefemiaaGreatDoorMF
namespace Go.Proofs.YtffipjofefemiaaGreatDoor
open Go.RowKit Kb

/-- The fields are the fraction r, normalized. -/
structure Qf (w : World) (s1 : Bool) (A1 : Option Addr) (n1 c1 : Nat) (s2 : Bool) (A2 : Option Addr) (n2 c2 : Nat) (r : Rat) : Prop where
  n : Zn w s1 A1 n1 c1 r.num
  d : Zn w s2 A2 n2 c2 (r.den : Int)
/-- The fields read as the fraction r, in whatever form, of size k. -/
structure Qi (w : World) (s1 : Bool) (A1 : Option Addr) (n1 c1 : Nat) (s2 : Bool) (A2 : Option Addr) (n2 c2 : Nat) (k : Nat) (r : Rat) : Prop where
  out : ∃ N D, Zi w s1 A1 n1 c1 N ∧ Zi w s2 A2 n2 c2 D ∧ rv N D = r ∧ Le k N ∧ Le k D
/-- The fields of a pair with a positive denominator. -/
structure Pf (w : World) (p : Bool) (A : Option Addr) (n c : Nat) (B : Option Addr) (m d : Nat) (k : Nat) (r : Rat) (a : Int) (b : Nat) : Prop where
  num : Zi w p A n c a
  den : Raw w B m d b
  pq : Pq k r a b
section
variable {w w' : World} {s1 s2 p : Bool} {A1 A2 A B : Option Addr} {n1 c1 n2 c2 n c m d k l : Nat} {r : Rat} {a : Int} {b : Nat}
theorem Qf.below (h : Qf w s1 A1 n1 c1 s2 A2 n2 c2 r) (hb : Below w.heap.size w w') : Qf w' s1 A1 n1 c1 s2 A2 n2 c2 r := ⟨h.n.below hb, h.d.below hb⟩
theorem Qi.below (h : Qi w s1 A1 n1 c1 s2 A2 n2 c2 k r) (hb : Below w.heap.size w w') : Qi w' s1 A1 n1 c1 s2 A2 n2 c2 k r := by
  obtain ⟨N, D, h1, h2, h3⟩ := h.out
  exact ⟨N, D, h1.below hb, h2.below hb, h3⟩
theorem Qf.qi (h : Qf w s1 A1 n1 c1 s2 A2 n2 c2 r) (hr : QL k r) : Qi w s1 A1 n1 c1 s2 A2 n2 c2 k r :=
  ⟨r.num, r.den, h.n.zi, h.d.zi, rv_self r, hr.num, hr.den⟩
theorem Pf.below (h : Pf w p A n c B m d k r a b) (hb : Below w.heap.size w w') : Pf w' p A n c B m d k r a b := ⟨h.num.below hb, h.den.below hb, h.pq⟩
theorem Pf.zi (h : Pf w p A n c B m d k r a b) : Zi w false B m d (b : Int) := ⟨b, h.den, hid (by unfold toZ; rw [if_neg (by decide)])⟩
theorem Pf.drew (h : Pf w p A n c B m d k r a b) : Pf w.drew p A n c B m d k r a b := h.below (Below.refl _ _).drew
end
/-- A contract whose result is a fraction, its fields written out. -/
theorem qf_open {P : Program} {f : FuncId} {args : Array Value} {w : World} {x y : Int} {r : Rat} (hx : x = r.num) (hy : y = (r.den : Int)) (h : Calls P f args w fun e w' => ∃ v, e = .returned v ∧ Rz w' v x y ∧ Below w.heap.size w w') :
    Calls P f args w fun e w' => ∃ s1 A1 n1 c1 s2 A2 n2 c2, e = .returned (.agg #[.bool s1, .slice A1 n1 c1, .bool s2, .slice A2 n2 c2]) ∧ Qf w' s1 A1 n1 c1 s2 A2 n2 c2 r ∧ Below w.heap.size w w' := by
  subst hx; subst hy
  refine h.mono ?_
  rintro e w' ⟨v, rfl, ⟨s1, A1, n1, c1, s2, A2, n2, c2, rfl, h1, h2, h3, h4⟩, hb⟩
  exact ⟨s1, A1, n1, c1, s2, A2, n2, c2, rfl, ⟨⟨h1, h3⟩, ⟨h2, h4⟩⟩, hb⟩
section
variable {w : World} {p q : Bool} {A B : Option Addr} {n c m d : Nat} {z y : Int}
theorem fraction_q (h : Zi w p A n c z) (k : Zi w q B m d y) (h0 : y ≠ 0) (lz : Le 1000 z) (ly : Le 1000 y) (hT : Tb w) :
    Calls Tryz.prog 58 #[.agg #[.bool p, .slice A n c], .agg #[.bool q, .slice B m d]] w fun e w' => ∃ s1 A1 n1 c1 s2 A2 n2 c2, e = .returned (.agg #[.bool s1, .slice A1 n1 c1, .bool s2, .slice A2 n2 c2]) ∧ Qf w' s1 A1 n1 c1 s2 A2 n2 c2 (rv z y) ∧ Below w.heap.size w w' := by
  obtain ⟨a, ha, ea⟩ := h
  obtain ⟨b, hb, eb⟩ := k
  have la : (dig a).length ≤ 1000 := by rw [Zi.nat ea.out]; exact lz.len
  have lb : (dig b).length ≤ 1000 := by rw [Zi.nat eb.out]; exact ly.len
  have hb0 : b ≠ 0 := fun e => h0 (by rw [← eb.out, e]; cases q <;> rfl)
  have hC := CD_any a b (by omega) (by omega)
  have e1 := rv_num p q (a := a) hb0
  have e2 := rv_den p q (a := a) hb0
  rw [ea.out, eb.out] at e1 e2
  by_cases hg : Nat.gcd a b = 1
  · rw [hg, Nat.div_one] at e1 e2
    exact qf_open e1 (by rw [← e2]) (fraction_one p q A B n c m d a b w ha hb hT hC hg)
  · exact qf_open e1 (by rw [← e2]) (fraction_div p q A B n c m d a b w ha hb hT hC hg hb0 (by omega) (by omega))
end

theorem Of1 (w : World) : Calls Tryz.prog 60 #[.int .i64 1] w fun e w' => ∃ r C n c, e = .returned (.agg #[.bool r, .slice C n c]) ∧ Zn w' r C n c 1 ∧ Below w.heap.size w w' := zn_open (Of_any 1 w (by decide) (by decide))
theorem Of1' (w : World) : Calls Tryz.prog 60 #[.int .i64 1] w fun e w' => ∃ C n c, e = .returned (.agg #[.bool false, .slice C n c]) ∧ Zn w' false C n c 1 ∧ Below w.heap.size w w' := by
  refine (Of1 w).mono ?_
  rintro e w' ⟨r, C, n, c, rfl, h, hb⟩
  obtain rfl : r = false := h.1.out
  exact ⟨C, n, c, rfl, h, hb⟩
theorem off_four' {W : World} {g h1 h2 i : Nat} {u0 u1 u2 u3 v : Value} (hne : h1 ≠ g) (hne2 : h2 ≠ g) (hc : W.cell? ⟨g, i, none⟩ = some v) : ((((W.setCell ⟨h1, 0, none⟩ u0).setCell ⟨h1, 1, none⟩ u1).setCell ⟨h2, 0, none⟩ u2).setCell ⟨h2, 1, none⟩ u3).cell? ⟨g, i, none⟩ = some v := by
  rw [World.cell?_setCell_other _ _ _ _ (fun e => by injection e with e1; omega), World.cell?_setCell_other _ _ _ _ (fun e => by injection e with e1; omega), World.cell?_setCell_other _ _ _ _ (fun e => by injection e with e1; omega), World.cell?_setCell_other _ _ _ _ (fun e => by injection e with e1; omega)]
  exact hc
/-- Four stores into two boxes. -/
def put22 (w : World) (g h : Nat) (a b c d : Value) : World := (((w.setCell ⟨g, 0, none⟩ a).setCell ⟨g, 1, none⟩ b).setCell ⟨h, 0, none⟩ c).setCell ⟨h, 1, none⟩ d
theorem below22 {B : Nat} {w0 w : World} {g h : Nat} (hb : Below B w0 w) (hg : B ≤ g) (hh : B ≤ h) (a b c d : Value) : Below B w0 (put22 w g h a b c d) :=
  (((hb.setCell (p := ⟨g, 0, none⟩) hg a).setCell (p := ⟨g, 1, none⟩) hg b).setCell (p := ⟨h, 0, none⟩) hh c).setCell (p := ⟨h, 1, none⟩) hh d
theorem Raw.off22 {w : World} {g h n c a : Nat} {A : Option Addr} {a0 a1 b0 b1 : Value} {C D : Array Value} {T S : TypeId} (k : Raw w A n c a) (hb : w.heap[g]? = some (.cells C T (0, 0))) (hC : NoInt C) (hb2 : w.heap[h]? = some (.cells D S (0, 0))) (hD : NoInt D) (hne : h ≠ g) : Raw (put22 w g h a0 a1 b0 b1) A n c a := by
  have k1 := k.offbox hb hC (gb2 w g 0 1 a0 a1)
  refine k1.offbox (g := h) (C := D) (T := S) ?_ hD (gb2 _ h 0 1 b0 b1)
  rw [Below.heap_setCell _ _ _ _ hne, Below.heap_setCell _ _ _ _ hne]
  exact hb2

end Go.Proofs.YtffipjofefemiaaGreatDoor

namespace Go.Proofs.YtffipjofefemiaaGreatDoor
open Go.RowKit Kb

set_option maxRecDepth 100000 in
set_option maxHeartbeats 1000000 in
theorem parts_nil (p q : Bool) (A B : Option Addr) (n c m d a : Nat) (w : World) (h : Raw w A n c a) (k : Raw w B m d 0) :
    Calls Tryz.prog 56 #[.agg #[.bool p, .slice A n c, .bool q, .slice B m d]] w fun e w' => ∃ C n' c', e = .returned (.tuple #[.agg #[.bool p, .slice A n c], .agg #[.bool false, .slice C n' c']]) ∧ Raw w' C n' c' 1 ∧ Raw w' A n c a ∧ Below w.heap.size w w' := by
  have Hs := hid (show (toZ q 0).sign = 0 from by cases q <;> rfl)
  have b0 := three_new w (.cells #[.bool p, .slice A n c, .bool q, .slice B m d] 26) (.cells #[.bool false, .slice none 0 0] 24) (.cells #[.bool false, .slice none 0 0] 24)
  have hB := (((Below.refl w.heap.size w).alloc (Nat.le_refl _) (.cells #[.bool p, .slice A n c, .bool q, .slice B m d] 26)).alloc (by simp) (.cells #[.bool false, .slice none 0 0] 24)).alloc (by simp; omega) (.cells #[.bool false, .slice none 0 0] 24)
  obtain ⟨g, hg⟩ : ∃ g, w.heap.size = g := ⟨_, rfl⟩
  go_enter Tryz.func56, Tryz.ntmps56
  go_wp2_with fail
  rw [hg] at b0
  generalize ((w.alloc (.cells #[.bool p, .slice A n c, .bool q, .slice B m d] 26)).alloc (.cells #[.bool false, .slice none 0 0] 24)).alloc (.cells #[.bool false, .slice none 0 0] 24) = W0 at *
  have k0 : Raw W0 B m d 0 := k.below hB
  have h0 : Raw W0 A n c a := h.below hB
  have HB := hid hB
  have Hg := hid hg
  obtain ⟨a0, a1, a2⟩ := b0
  obtain ⟨x0, x1, x2, x3, -, -, -, -⟩ := a0.c4
  clear hB hg k h
  go_wp2_with fail
  refine (sign_any q B m d 0 _ k0).mono ?_
  rintro e w1 ⟨rfl, hb1⟩
  rw [Hs.out]
  replace a0 := a0.step hb1
  replace a1 := a1.step hb1
  replace a2 := a2.step hb1
  have h1 := h0.below (hb1.drew)
  have HB1 := hid (bthen HB.out hb1 (Nat.le_refl _))
  clear hb1 x0 x1 x2 x3 k0 h0
  go_wp2_with fail
  have j0 : Bk w1.drew g _ := a0
  have j1 : Bk w1.drew (g + 1) _ := a1
  have j2 : Bk w1.drew (g + 1 + 1) _ := a2
  have HB2 := hid HB1.out.drew
  obtain ⟨x0, x1, x2, x3, -, -, -, -⟩ := j0.c4
  have l2 := a2.lt
  have l1 := a1.lt
  clear a0 a1 a2 HB1
  go_region_with (go_at_call 60; with_reducible refine (Of1' _).mono ?_; rintro e w2 ⟨C1, n1, c1, rfl, hn1, hb2⟩; replace j0 := j0.step hb2; replace j1 := j1.step hb2; replace j2 := j2.step hb2; obtain ⟨y0, y1, y2, y3, -, -, -, -⟩ := j0.c4; obtain ⟨i0, i1, i2, i3⟩ := j1.c2; obtain ⟨i4, i5, i6, i7⟩ := j2.c2; have hl3 := j2.lt)
  all_goals
    have HB3 := hid (bthen HB2.out hb2 (Nat.le_refl _))
    have hgl := Hg.out
    have h2 := h1.below hb2
    have h4 := hid (below22 HB3.out (show w.heap.size ≤ g + 1 by omega) (show w.heap.size ≤ g + 1 + 1 by omega) (.bool p) (.slice A n c) (.bool false) (.slice C1 n1 c1))
    have q1 := hid (Raw.off22 (a0 := .bool p) (a1 := .slice A n c) (b0 := .bool false) (b1 := .slice C1 n1 c1) h2 j1 (noInt_zero _ _ _ _) j2 (noInt_zero _ _ _ _) (by omega))
    have q2 := hid (Raw.off22 (a0 := .bool p) (a1 := .slice A n c) (b0 := .bool false) (b1 := .slice C1 n1 c1) hn1.2.raw j1 (noInt_zero _ _ _ _) j2 (noInt_zero _ _ _ _) (by omega))
    clear hgl hb2 x0 x1 x2 x3 y0 y1 y2 y3 j0 h1 h2 hn1 j1 j2
    go_wp2
    exact bodyPost_ret (v := .tuple #[.agg #[.bool p, .slice A n c], .agg #[.bool false, .slice C1 n1 c1]]) (by simp [results, Tryz.results56, go_sem, i0, i1, i4, i5]) rfl ⟨_, _, _, rfl, q2.out, q1.out, h4.out⟩

end Go.Proofs.YtffipjofefemiaaGreatDoor

namespace Go.Proofs.YtffipjofefemiaaGreatDoor
open Go.RowKit Kb

set_option maxRecDepth 100000 in
set_option maxHeartbeats 1000000 in
theorem parts_neg (p : Bool) (A B : Option Addr) (n c m d b : Nat) (w : World) (k : Raw w B m d b) (hb0 : b ≠ 0) :
    Calls Tryz.prog 56 #[.agg #[.bool p, .slice A n c, .bool true, .slice B m d]] w fun e w' => e = .returned (.tuple #[.agg #[.bool (!p), .slice A n c], .agg #[.bool false, .slice B m d]]) ∧ Below w.heap.size w w' := by
  have Hs := hid (show (toZ true b).sign = -1 from by unfold toZ; rw [if_pos rfl]; exact Int.sign_eq_neg_one_of_neg (by omega))
  have b0 := three_new w (.cells #[.bool p, .slice A n c, .bool true, .slice B m d] 26) (.cells #[.bool false, .slice none 0 0] 24) (.cells #[.bool false, .slice none 0 0] 24)
  have hB := (((Below.refl w.heap.size w).alloc (Nat.le_refl _) (.cells #[.bool p, .slice A n c, .bool true, .slice B m d] 26)).alloc (by simp) (.cells #[.bool false, .slice none 0 0] 24)).alloc (by simp; omega) (.cells #[.bool false, .slice none 0 0] 24)
  obtain ⟨g, hg⟩ : ∃ g, w.heap.size = g := ⟨_, rfl⟩
  obtain ⟨p', hp'⟩ : ∃ p', p' = !p := ⟨_, rfl⟩
  have Hp := hid hp'
  rw [← hp']
  clear hb0 hp'
  go_enter Tryz.func56, Tryz.ntmps56
  go_wp2_with fail
  rw [hg] at b0
  generalize ((w.alloc (.cells #[.bool p, .slice A n c, .bool true, .slice B m d] 26)).alloc (.cells #[.bool false, .slice none 0 0] 24)).alloc (.cells #[.bool false, .slice none 0 0] 24) = W0 at *
  have k0 : Raw W0 B m d b := k.below hB
  have HB := hid hB
  have Hg := hid hg
  obtain ⟨a0, a1, a2⟩ := b0
  obtain ⟨x0, x1, x2, x3, -, -, -, -⟩ := a0.c4
  clear hB hg k
  go_wp2_with fail
  refine (sign_any true B m d b _ k0).mono ?_
  rintro e w1 ⟨rfl, hb1⟩
  rw [Hs.out]
  replace a0 := a0.step hb1
  replace a1 := a1.step hb1
  replace a2 := a2.step hb1
  have HB1 := hid (bthen HB.out hb1 (Nat.le_refl _))
  clear hb1 x0 x1 x2 x3 k0
  go_wp2_with fail
  have j0 : Bk w1.drew g _ := a0
  have j1 : Bk w1.drew (g + 1) _ := a1
  have j2 : Bk w1.drew (g + 1 + 1) _ := a2
  have HB2 := hid HB1.out.drew
  obtain ⟨x0, x1, x2, x3, -, -, -, -⟩ := j0.c4
  have l2 := a2.lt
  have l1 := a1.lt
  clear a0 a1 a2 HB1
  go_region_with (first
    | (go_at_call 103; with_reducible refine (opposite_any p A n c _).mono ?_; rintro e w2 ⟨rfl, hb2⟩; replace j0 := j0.step hb2; replace j1 := j1.step hb2; replace j2 := j2.step hb2; obtain ⟨y0, y1, y2, y3, -, -, -, -⟩ := j0.c4)
    | (go_at_call 103; with_reducible refine (opposite_any true B m d _).mono ?_; rintro e w3 ⟨rfl, hb3⟩; replace j0 := j0.step hb3; replace j1 := j1.step hb3; replace j2 := j2.step hb3; obtain ⟨z0, z1, z2, z3, -, -, -, -⟩ := j0.c4; obtain ⟨i0, i1, i2, i3⟩ := j1.c2; obtain ⟨i4, i5, i6, i7⟩ := j2.c2; have hl3 := j2.lt))
  all_goals
    have HB3 := hid (bthen (bthen HB2.out hb2 (Nat.le_refl _)) hb3 (Nat.le_refl _))
    have hgl := Hg.out
    have h4 := hid (below22 HB3.out (show w.heap.size ≤ g + 1 by omega) (show w.heap.size ≤ g + 1 + 1 by omega) (.bool (!p)) (.slice A n c) (.bool false) (.slice B m d))
    clear hgl hb2 hb3 x0 x1 x2 x3 y0 y1 y2 y3 j0
    go_wp2
    rw [Hp.out]
    exact bodyPost_ret (v := .tuple #[.agg #[.bool (!p), .slice A n c], .agg #[.bool false, .slice B m d]]) (by simp [results, Tryz.results56, go_sem, i0, i1, i4, i5]) rfl ⟨rfl, h4.out⟩

end Go.Proofs.YtffipjofefemiaaGreatDoor

namespace Go.Proofs.YtffipjofefemiaaGreatDoor
open Go.RowKit Kb

section
variable {w : World} {s1 s2 : Bool} {A1 A2 : Option Addr} {n1 c1 n2 c2 k : Nat} {r : Rat}
theorem parts_q (h : Qi w s1 A1 n1 c1 s2 A2 n2 c2 k r) (hk : 0 < k) :
    Calls Tryz.prog 56 #[.agg #[.bool s1, .slice A1 n1 c1, .bool s2, .slice A2 n2 c2]] w fun e w' => ∃ p A n c B m d a b, e = .returned (.tuple #[.agg #[.bool p, .slice A n c], .agg #[.bool false, .slice B m d]]) ∧ Pf w' p A n c B m d k r a b ∧ Below w.heap.size w w' := by
  obtain ⟨N, D, h1, h2, h3, h4, h5⟩ := h.out
  obtain ⟨a, ha, ea⟩ := h1
  obtain ⟨b, hb, eb⟩ := h2
  have hpq : Pq k r (pn N D) (pd D) := ⟨pd_ne D, h3, by unfold pn; split; exact h4.neg; exact h4, by
    unfold pd; split
    · exact Le.one hk
    · unfold Le at h5 ⊢; rwa [Int.natAbs_natCast]⟩
  by_cases h0 : b = 0
  · subst h0
    have e0 : D = 0 := by rw [← eb.out]; cases s2 <;> rfl
    have e1 : pn N D = N := by unfold pn; rw [e0]; rfl
    have e2 : pd D = 1 := by unfold pd; rw [if_pos e0]
    rw [e1, e2] at hpq
    refine (parts_nil s1 s2 A1 A2 n1 c1 n2 c2 a w ha hb).mono ?_
    rintro e w' ⟨C, n', c', rfl, q1, q2, hB⟩
    exact ⟨s1, A1, n1, c1, C, n', c', N, 1, rfl, ⟨⟨a, q2, ea⟩, q1, hpq⟩, hB⟩
  · cases s2 with
    | false =>
      have e0 : D = (b : Int) := by rw [← eb.out]; rfl
      have e1 : pn N D = N := by unfold pn; rw [if_neg (by omega)]
      have e2 : pd D = b := by unfold pd; rw [if_neg (by omega)]; omega
      rw [e1, e2] at hpq
      refine (parts_pos s1 A1 A2 n1 c1 n2 c2 b w hb h0).mono ?_
      rintro e w' ⟨rfl, hB⟩
      exact ⟨s1, A1, n1, c1, A2, n2, c2, N, b, rfl, ⟨⟨a, ha.below hB, ea⟩, hb.below hB, hpq⟩, hB⟩
    | true =>
      have e0 : D = -(b : Int) := by rw [← eb.out]; rfl
      have e1 : pn N D = -N := by unfold pn; rw [if_pos (by omega)]
      have e2 : pd D = b := by unfold pd; rw [if_neg (by omega)]; omega
      rw [e1, e2] at hpq
      refine (parts_neg s1 A1 A2 n1 c1 n2 c2 b w hb h0).mono ?_
      rintro e w' ⟨rfl, hB⟩
      refine ⟨!s1, A1, n1, c1, A2, n2, c2, -N, b, rfl, ⟨⟨a, ha.below hB, hid ?_⟩, hb.below hB, hpq⟩, hB⟩
      rw [← ea.out]; unfold toZ; cases s1 <;> simp
end

end Go.Proofs.YtffipjofefemiaaGreatDoor

namespace Go.Proofs.YtffipjofefemiaaGreatDoor
open Go.RowKit Kb

theorem rv_toZ {a : Int} {b : Nat} (h0 : b ≠ 0) : rv a (toZ false b) = mkRat a b := by
  have e : toZ false b = (b : Int) := by unfold toZ; rw [if_neg (by decide)]
  unfold rv pn pd
  rw [e, if_neg (by omega), if_neg (by omega), Int.natAbs_natCast]
theorem rv_nat {a : Int} {b : Nat} (h0 : b ≠ 0) : rv a (b : Int) = mkRat a b := by
  unfold rv pn pd
  rw [if_neg (by omega), if_neg (by omega), Int.natAbs_natCast]
theorem rv_mul {a : Int} {b d : Nat} (h0 : b * d ≠ 0) : rv a ((b : Int) * (d : Int)) = mkRat a (b * d) := by
  rw [← Int.natCast_mul, rv_nat h0]
theorem ne_toZ {b : Nat} (h0 : b ≠ 0) : toZ false b ≠ 0 := by unfold toZ; rw [if_neg (by decide)]; omega
theorem ne_mul {b d : Nat} (h0 : b * d ≠ 0) : (b : Int) * (d : Int) ≠ 0 := by rw [← Int.natCast_mul]; omega
theorem le_toZ {k l : Nat} {b : Nat} (h : Le k (b : Int)) (hk : k ≤ l) : Le l (toZ false b) := by
  have e : toZ false b = (b : Int) := by unfold toZ; rw [if_neg (by decide)]
  rw [e]; exact h.mono hk
theorem le_mul {k l : Nat} {b d : Nat} (h : Le k ((b * d : Nat) : Int)) (hk : k ≤ l) : Le l ((b : Int) * (d : Int)) := by
  rw [← Int.natCast_mul]; exact h.mono hk
theorem sgn_ne {a b : Nat} (h : ¬ a = b) : sgn a b ≠ 0 := by
  unfold sgn
  by_cases h1 : a < b
  · rw [if_pos h1]; decide
  · rw [if_neg h1, if_neg h]; decide


theorem alo {W : World} {o : Obj} : Below W.heap.size W (W.alloc o) := (Below.refl _ _).alloc (Nat.le_refl _) o
/-- The parts of two fractions in their boxes. -/
structure Cy (w : World) (g1 : Nat) (p : Bool) (A : Option Addr) (n c : Nat) (B : Option Addr) (m d k : Nat) (x : Rat) (a : Int) (b g2 : Nat) (q : Bool) (C : Option Addr) (n' c' : Nat) (D : Option Addr) (m' d' l : Nat) (y : Rat) (a' : Int) (b' : Nat) (wx : World) : Prop where
  j3 : Bk wx g1 (.cells #[.bool p, .slice A n c] 24 (0, 0))
  j4 : Bk wx (g1 + 1) (.cells #[.bool false, .slice B m d] 24 (0, 0))
  j5 : Bk wx g2 (.cells #[.bool q, .slice C n' c'] 24 (0, 0))
  j6 : Bk wx (g2 + 1) (.cells #[.bool false, .slice D m' d'] 24 (0, 0))
  f : Pf wx p A n c B m d k x a b
  e : Pf wx q C n' c' D m' d' l y a' b'
  tb : Tb wx
  bl : Below w.heap.size w wx
/-- The same, with the box of the result. -/
structure Cx (w : World) (g : Nat) (g1 : Nat) (p : Bool) (A : Option Addr) (n c : Nat) (B : Option Addr) (m d k : Nat) (x : Rat) (a : Int) (b g2 : Nat) (q : Bool) (C : Option Addr) (n' c' : Nat) (D : Option Addr) (m' d' l : Nat) (y : Rat) (a' : Int) (b' : Nat) (wx : World) : Prop where
  o : Cy w g1 p A n c B m d k x a b g2 q C n' c' D m' d' l y a' b' wx
  r : Bk wx g (.cells #[.bool false, .slice none 0 0, .bool false, .slice none 0 0] 26 (0, 0))
section
variable {w wx wy : World} {g g1 g2 n c m d n' c' m' d' k l b b' : Nat} {p q : Bool} {A B C D : Option Addr} {x y : Rat} {a a' : Int}
theorem Cy.below (h : Cy w g1 p A n c B m d k x a b g2 q C n' c' D m' d' l y a' b' wx) (hb : Below wx.heap.size wx wy) : Cy w g1 p A n c B m d k x a b g2 q C n' c' D m' d' l y a' b' wy :=
  ⟨h.j3.step hb, h.j4.step hb, h.j5.step hb, h.j6.step hb, h.f.below hb, h.e.below hb, h.tb.below hb, bthen h.bl hb (Nat.le_refl _)⟩
theorem Cx.below (h : Cx w g g1 p A n c B m d k x a b g2 q C n' c' D m' d' l y a' b' wx) (hb : Below wx.heap.size wx wy) : Cx w g g1 p A n c B m d k x a b g2 q C n' c' D m' d' l y a' b' wy :=
  ⟨h.o.below hb, h.r.step hb⟩
theorem Cy.cells (h : Cy w g1 p A n c B m d k x a b g2 q C n' c' D m' d' l y a' b' wx) : wx.cell? ⟨g1, 0, none⟩ = some (.bool p) ∧ wx.cell? ⟨g1, 1, none⟩ = some (.slice A n c) ∧ wx.cell? ⟨g1 + 1, 0, none⟩ = some (.bool false) ∧ wx.cell? ⟨g1 + 1, 1, none⟩ = some (.slice B m d) ∧ wx.cell? ⟨g2, 0, none⟩ = some (.bool q) ∧ wx.cell? ⟨g2, 1, none⟩ = some (.slice C n' c') ∧ wx.cell? ⟨g2 + 1, 0, none⟩ = some (.bool false) ∧ wx.cell? ⟨g2 + 1, 1, none⟩ = some (.slice D m' d') :=
  ⟨h.j3.c2.1, h.j3.c2.2.1, h.j4.c2.1, h.j4.c2.2.1, h.j5.c2.1, h.j5.c2.2.1, h.j6.c2.1, h.j6.c2.2.1⟩
theorem Cx.cells (h : Cx w g g1 p A n c B m d k x a b g2 q C n' c' D m' d' l y a' b' wx) : wx.cell? ⟨g1, 0, none⟩ = some (.bool p) ∧ wx.cell? ⟨g1, 1, none⟩ = some (.slice A n c) ∧ wx.cell? ⟨g1 + 1, 0, none⟩ = some (.bool false) ∧ wx.cell? ⟨g1 + 1, 1, none⟩ = some (.slice B m d) ∧ wx.cell? ⟨g2, 0, none⟩ = some (.bool q) ∧ wx.cell? ⟨g2, 1, none⟩ = some (.slice C n' c') ∧ wx.cell? ⟨g2 + 1, 0, none⟩ = some (.bool false) ∧ wx.cell? ⟨g2 + 1, 1, none⟩ = some (.slice D m' d') := h.o.cells
theorem Cx.off {u0 u1 u2 u3 : Value} (h : Cx w g g1 p A n c B m d k x a b g2 q C n' c' D m' d' l y a' b' wx) (h1 : g < g1) (h2 : g < g2) : ((((wx.setCell ⟨g, 0, none⟩ u0).setCell ⟨g, 1, none⟩ u1).setCell ⟨g, 2, none⟩ u2).setCell ⟨g, 3, none⟩ u3).cell? ⟨g1, 0, none⟩ = some (.bool p) ∧ ((((wx.setCell ⟨g, 0, none⟩ u0).setCell ⟨g, 1, none⟩ u1).setCell ⟨g, 2, none⟩ u2).setCell ⟨g, 3, none⟩ u3).cell? ⟨g1, 1, none⟩ = some (.slice A n c) ∧ ((((wx.setCell ⟨g, 0, none⟩ u0).setCell ⟨g, 1, none⟩ u1).setCell ⟨g, 2, none⟩ u2).setCell ⟨g, 3, none⟩ u3).cell? ⟨g1 + 1, 0, none⟩ = some (.bool false) ∧ ((((wx.setCell ⟨g, 0, none⟩ u0).setCell ⟨g, 1, none⟩ u1).setCell ⟨g, 2, none⟩ u2).setCell ⟨g, 3, none⟩ u3).cell? ⟨g1 + 1, 1, none⟩ = some (.slice B m d) ∧ ((((wx.setCell ⟨g, 0, none⟩ u0).setCell ⟨g, 1, none⟩ u1).setCell ⟨g, 2, none⟩ u2).setCell ⟨g, 3, none⟩ u3).cell? ⟨g2, 0, none⟩ = some (.bool q) ∧ ((((wx.setCell ⟨g, 0, none⟩ u0).setCell ⟨g, 1, none⟩ u1).setCell ⟨g, 2, none⟩ u2).setCell ⟨g, 3, none⟩ u3).cell? ⟨g2, 1, none⟩ = some (.slice C n' c') ∧ ((((wx.setCell ⟨g, 0, none⟩ u0).setCell ⟨g, 1, none⟩ u1).setCell ⟨g, 2, none⟩ u2).setCell ⟨g, 3, none⟩ u3).cell? ⟨g2 + 1, 0, none⟩ = some (.bool false) ∧ ((((wx.setCell ⟨g, 0, none⟩ u0).setCell ⟨g, 1, none⟩ u1).setCell ⟨g, 2, none⟩ u2).setCell ⟨g, 3, none⟩ u3).cell? ⟨g2 + 1, 1, none⟩ = some (.slice D m' d') :=
  ⟨off_four (by omega) h.o.cells.1, off_four (by omega) h.o.cells.2.1, off_four (by omega) h.o.cells.2.2.1, off_four (by omega) h.o.cells.2.2.2.1, off_four (by omega) h.o.cells.2.2.2.2.1, off_four (by omega) h.o.cells.2.2.2.2.2.1, off_four (by omega) h.o.cells.2.2.2.2.2.2.1, off_four (by omega) h.o.cells.2.2.2.2.2.2.2⟩
end
theorem SignZ {w : World} {s : Bool} {A : Option Addr} {n c : Nat} {z : Int} (h : Zi w s A n c z) :
    Calls Tryz.prog 57 #[.agg #[.bool s, .slice A n c]] w fun e w' => e = .returned (.int .i64 z.sign) ∧ Below w.heap.size w w' := by
  obtain ⟨a, ha, ea⟩ := h
  have := sign_any s A n c a w ha
  rwa [ea.out] at this
end Go.Proofs.YtffipjofefemiaaGreatDoor

namespace Go.Proofs.YtffipjofefemiaaGreatDoor
open Go.RowKit Kb

/-- A product that is not reduced. -/
structure Pz (w : World) (s1 : Bool) (A1 : Option Addr) (n1 c1 : Nat) (s2 : Bool) (A2 : Option Addr) (n2 c2 : Nat) (k : Nat) (r : Rat) (a : Int) (b : Nat) : Prop where
  n : Zn w s1 A1 n1 c1 a
  d : Zn w s2 A2 n2 c2 (b : Int)
  pq : Pq k r a b
theorem Pz.below {w w' : World} {s1 s2 : Bool} {A1 A2 : Option Addr} {n1 c1 n2 c2 k b : Nat} {r : Rat} {a : Int} (h : Pz w s1 A1 n1 c1 s2 A2 n2 c2 k r a b) (hb : Below w.heap.size w w') : Pz w' s1 A1 n1 c1 s2 A2 n2 c2 k r a b := ⟨h.n.below hb, h.d.below hb, h.pq⟩

set_option maxRecDepth 100000 in
set_option maxHeartbeats 80000000 in
theorem product_q {w : World} {s1 s2 t1 t2 : Bool} {A1 A2 B1 B2 : Option Addr} {n1 c1 n2 c2 m1 d1 m2 d2 k l : Nat} {x y : Rat} (h : Qi w s1 A1 n1 c1 s2 A2 n2 c2 k x) (g0 : Qi w t1 B1 m1 d1 t2 B2 m2 d2 l y) (hk0 : 0 < k) (hl0 : 0 < l) (hk : k ≤ 400) (hl : l ≤ 400) (hT : Tb w) :
    Calls Tryz.prog 72 #[.agg #[.bool s1, .slice A1 n1 c1, .bool s2, .slice A2 n2 c2], .agg #[.bool t1, .slice B1 m1 d1, .bool t2, .slice B2 m2 d2]] w fun e w' => ∃ s1 A1 n1 c1 s2 A2 n2 c2 a b, e = .returned (.agg #[.bool s1, .slice A1 n1 c1, .bool s2, .slice A2 n2 c2]) ∧ Pz w' s1 A1 n1 c1 s2 A2 n2 c2 (k + l) (x * y) a b ∧ Below w.heap.size w w' := by
  have _hT := hT
  have b0 := three_new w (.cells #[.bool s1, .slice A1 n1 c1, .bool s2, .slice A2 n2 c2] 26) (.cells #[.bool t1, .slice B1 m1 d1, .bool t2, .slice B2 m2 d2] 26) (.cells #[.bool false, .slice none 0 0, .bool false, .slice none 0 0] 26)
  have hB := (((Below.refl w.heap.size w).alloc (Nat.le_refl _) (.cells #[.bool s1, .slice A1 n1 c1, .bool s2, .slice A2 n2 c2] 26)).alloc (by simp) (.cells #[.bool t1, .slice B1 m1 d1, .bool t2, .slice B2 m2 d2] 26)).alloc (by simp; omega) (.cells #[.bool false, .slice none 0 0, .bool false, .slice none 0 0] 26)
  obtain ⟨g, hg⟩ : ∃ g, w.heap.size = g := ⟨_, rfl⟩
  go_enter Tryz.func72, Tryz.ntmps72
  go_wp2_with fail
  rw [hg] at b0
  generalize ((w.alloc (.cells #[.bool s1, .slice A1 n1 c1, .bool s2, .slice A2 n2 c2] 26)).alloc (.cells #[.bool t1, .slice B1 m1 d1, .bool t2, .slice B2 m2 d2] 26)).alloc (.cells #[.bool false, .slice none 0 0, .bool false, .slice none 0 0] 26) = W0 at *
  have h0 := h.below hB
  have k0 := g0.below hB
  have T0 := hT.below hB
  have HB := hid hB
  have Hg := hid hg
  obtain ⟨a0, a1, a2⟩ := b0
  replace a0 : Bk W0 g _ := a0
  replace a1 : Bk W0 (g + 1) _ := a1
  obtain ⟨x0, x1, x2, x3, -, -, -, -⟩ := a0.c4
  clear hB hg h g0 hT
  go_wp2_with fail
  refine (parts_q h0 hk0).mono ?_
  rintro e w1 ⟨p, A, n, c, B, m, d, a, b, rfl, h1, hb1⟩
  replace a1 := a1.step hb1
  replace a2 := a2.step hb1
  clear x0 x1 x2 x3
  obtain ⟨x0, x1, x2, x3, -, -, -, -⟩ := a1.c4
  have l1 := a2.lt
  have hB1 := hid (bthen HB.out hb1 (Nat.le_refl _))
  have k1 := k0.below hb1
  have T1 := T0.below hb1
  have hBn := below_two w1 (.cells #[.bool p, .slice A n c] 24) (.cells #[.bool false, .slice B m d] 24)
  have k2 := k1.below hBn
  have T2 := T1.below hBn
  have h2 := h1.below hBn
  have c1 := box1 w1 (.cells #[.bool p, .slice A n c] 24) (.cells #[.bool false, .slice B m d] 24)
  have c2 := box2 w1 (.cells #[.bool p, .slice A n c] 24) (.cells #[.bool false, .slice B m d] 24)
  replace a1 := a1.alloc2 (.cells #[.bool p, .slice A n c] 24) (.cells #[.bool false, .slice B m d] 24)
  replace a2 := a2.alloc2 (.cells #[.bool p, .slice A n c] 24) (.cells #[.bool false, .slice B m d] 24)
  clear x0 x1 x2 x3
  obtain ⟨x0, x1, x2, x3, -, -, -, -⟩ := a1.c4
  have hBn' := hid hBn
  have l1' := hid l1
  clear hb1 h0 k0 k1 h1 hBn T0 T1 a0
  go_wp2_with fail
  refine (parts_q k2 hl0).mono ?_
  rintro e w2 ⟨q, C, n', c', D, m', d', a', b', rfl, k2', hb2⟩
  clear x0 x1 x2 x3
  replace a2 := a2.step hb2
  replace c1 := c1.step hb2
  replace c2 := c2.step hb2
  have hB2 := hid (bthen (bthen hB1.out hBn'.out (Nat.le_refl _)) hb2 (Nat.le_refl _))
  have hBm := hid (below_two w2 (.cells #[.bool q, .slice C n' c'] 24) (.cells #[.bool false, .slice D m' d'] 24))
  have h3 := (h2.below hb2).below hBm.out
  have k3 := k2'.below hBm.out
  have T3 := (T2.below hb2).below hBm.out
  have e1 := box1 w2 (.cells #[.bool q, .slice C n' c'] 24) (.cells #[.bool false, .slice D m' d'] 24)
  have e2 := box2 w2 (.cells #[.bool q, .slice C n' c'] 24) (.cells #[.bool false, .slice D m' d'] 24)
  replace a2 := a2.alloc2 (.cells #[.bool q, .slice C n' c'] 24) (.cells #[.bool false, .slice D m' d'] 24)
  replace c1 := c1.alloc2 (.cells #[.bool q, .slice C n' c'] 24) (.cells #[.bool false, .slice D m' d'] 24)
  replace c2 := c2.alloc2 (.cells #[.bool q, .slice C n' c'] 24) (.cells #[.bool false, .slice D m' d'] 24)
  have hB3 := hid (bthen hB2.out hBm.out (Nat.le_refl _))
  obtain ⟨u0, u1, -, -⟩ := c1.c2
  obtain ⟨u2, u3, -, -⟩ := c2.c2
  obtain ⟨u4, u5, -, -⟩ := e1.c2
  obtain ⟨u6, u7, -, -⟩ := e2.c2
  clear h2 k2 k2' T2 a1
  go_wp2_with fail
  have hsz : w1.heap.size + 1 < w2.heap.size := by have := e1.lt; have := hb2.size; simp at this; omega
  clear hb2
  generalize (w2.alloc (.cells #[.bool q, .slice C n' c'] 24)).alloc (.cells #[.bool false, .slice D m' d'] 24) = W3 at *
  generalize w1.heap.size = g1 at *
  generalize w2.heap.size = g2 at *
  have Y0 := Cy.mk (show Bk W3.drew g1 _ from c1) (show Bk W3.drew (g1 + 1) _ from c2) (show Bk W3.drew g2 _ from e1) (show Bk W3.drew (g2 + 1) _ from e2) h3.drew k3.drew (show Tb W3.drew from T3.below (Below.refl _ _).drew) hB3.out.drew
  have Q0 := Cx.mk Y0 (show Bk W3.drew (g + 1 + 1) _ from a2)
  have hg1 : g + 1 + 1 < g1 := l1'.out; have hg2 : g + 1 + 1 < g2 := by omega
  clear h3 k3 a2 c1 c2 e1 e2 T3 hB3 hBn' hBm hB2 hB1 Y0 HB l1' u0 u1 u2 u3 u4 u5 u6 u7
  have hcells := Q0.cells
  have Q := Q0.o.f.pq.mul Q0.o.e.pq
  go_region_held3 (fun w' => w'.cell? ⟨g1, 0, none⟩ = some (.bool p) ∧ w'.cell? ⟨g1, 1, none⟩ = some (.slice A n c) ∧ w'.cell? ⟨g1 + 1, 0, none⟩ = some (.bool false) ∧ w'.cell? ⟨g1 + 1, 1, none⟩ = some (.slice B m d) ∧ w'.cell? ⟨g2, 0, none⟩ = some (.bool q) ∧ w'.cell? ⟨g2, 1, none⟩ = some (.slice C n' c') ∧ w'.cell? ⟨g2 + 1, 0, none⟩ = some (.bool false) ∧ w'.cell? ⟨g2 + 1, 1, none⟩ = some (.slice D m' d')) (first | with_reducible exact Cx.cells Q0 | with_reducible exact Cx.cells Q1 | with_reducible exact Cx.cells Q2 | with_reducible exact Cx.off Q2 hg1 hg2) (first
    | (go_at_call 59; with_reducible refine (MulZ Q0.o.f.num Q0.o.e.num (Q0.o.f.pq.la.mono (by omega)) (Q0.o.e.pq.la.mono (by omega))).mono ?_; rintro e wv1 ⟨r1, R1, o1, e1', rfl, hn1, hb1⟩; have Q1 := Q0.below hb1)
    | (go_at_call 59; with_reducible refine (MulZ Q1.o.f.zi Q1.o.e.zi (Q1.o.f.pq.lb.mono (by omega)) (Q1.o.e.pq.lb.mono (by omega))).mono ?_; rintro e wv2 ⟨r2, R2, o2, e2', rfl, hn2, hb2⟩; have Q2 := Q1.below hb2; replace hn1 := hn1.below hb2; have hl10 := Q2.r.lt; obtain ⟨i0, i1, i2, i3, i4, i5, i6, i7⟩ := Q2.r.c4))
  have hgl := Hg.out
  have h11 := hid (below4 Q2.o.bl (show w.heap.size ≤ g + 1 + 1 by omega) (.bool r1) (.slice R1 o1 e1') (.bool r2) (.slice R2 o2 e2'))
  have m1 := hid (hn1.offbox Q2.r (noInt_four _ _ _ _ _ _ _ _) (gb4 _ _ (.bool r1) (.slice R1 o1 e1') (.bool r2) (.slice R2 o2 e2')))
  have m2 := hid (hn2.offbox Q2.r (noInt_four _ _ _ _ _ _ _ _) (gb4 _ _ (.bool r1) (.slice R1 o1 e1') (.bool r2) (.slice R2 o2 e2')))
  rw [← Int.natCast_mul] at m2
  clear hgl Q2 Q0 Q1 hb1 hb2 hn1 hn2 hcells
  go_wp2
  exact bodyPost_ret (v := .agg #[.bool r1, .slice R1 o1 e1', .bool r2, .slice R2 o2 e2']) (by simp [results, Tryz.results72, go_sem, i0, i1, i2, i3]) rfl ⟨_, _, _, _, _, _, _, _, _, _, rfl, ⟨m1.out, m2.out, Q⟩, h11.out⟩
set_option maxRecDepth 100000 in
set_option maxHeartbeats 80000000 in
theorem MulRat_q {w : World} {s1 s2 t1 t2 : Bool} {A1 A2 B1 B2 : Option Addr} {n1 c1 n2 c2 m1 d1 m2 d2 k l : Nat} {x y : Rat} (h : Qi w s1 A1 n1 c1 s2 A2 n2 c2 k x) (g0 : Qi w t1 B1 m1 d1 t2 B2 m2 d2 l y) (hk0 : 0 < k) (hl0 : 0 < l) (hk : k ≤ 400) (hl : l ≤ 400) (hT : Tb w) :
    Calls Tryz.prog 21 #[.agg #[.bool s1, .slice A1 n1 c1, .bool s2, .slice A2 n2 c2], .agg #[.bool t1, .slice B1 m1 d1, .bool t2, .slice B2 m2 d2]] w fun e w' => ∃ s1 A1 n1 c1 s2 A2 n2 c2, e = .returned (.agg #[.bool s1, .slice A1 n1 c1, .bool s2, .slice A2 n2 c2]) ∧ Qf w' s1 A1 n1 c1 s2 A2 n2 c2 (x * y) ∧ Below w.heap.size w w' := by
  have b0 := three_new w (.cells #[.bool s1, .slice A1 n1 c1, .bool s2, .slice A2 n2 c2] 26) (.cells #[.bool t1, .slice B1 m1 d1, .bool t2, .slice B2 m2 d2] 26) (.cells #[.bool false, .slice none 0 0, .bool false, .slice none 0 0] 26)
  have hB := (((Below.refl w.heap.size w).alloc (Nat.le_refl _) (.cells #[.bool s1, .slice A1 n1 c1, .bool s2, .slice A2 n2 c2] 26)).alloc (by simp) (.cells #[.bool t1, .slice B1 m1 d1, .bool t2, .slice B2 m2 d2] 26)).alloc (by simp; omega) (.cells #[.bool false, .slice none 0 0, .bool false, .slice none 0 0] 26)
  obtain ⟨g, hg⟩ : ∃ g, w.heap.size = g := ⟨_, rfl⟩
  go_enter Tryz.func21, Tryz.ntmps21
  go_wp2_with fail
  rw [hg] at b0
  generalize ((w.alloc (.cells #[.bool s1, .slice A1 n1 c1, .bool s2, .slice A2 n2 c2] 26)).alloc (.cells #[.bool t1, .slice B1 m1 d1, .bool t2, .slice B2 m2 d2] 26)).alloc (.cells #[.bool false, .slice none 0 0, .bool false, .slice none 0 0] 26) = W0 at *
  have HB := hid hB
  have Hg := hid hg
  refine (product_q (h.below hB) (g0.below hB) hk0 hl0 hk hl (hT.below hB)).mono ?_
  rintro e w1 ⟨f1, F1, u1, v1, f2, F2, u2, v2, a, b, rfl, hp, hb1⟩
  have j2 := (b0.2.2.step hb1).alloc (.cells #[.bool f1, .slice F1 u1 v1, .bool f2, .slice F2 u2 v2] 26)
  have hp1 := hp.below (alo (o := (.cells #[.bool f1, .slice F1 u1 v1, .bool f2, .slice F2 u2 v2] 26)))
  have T1 := ((hT.below hB).below hb1).below (alo (o := (.cells #[.bool f1, .slice F1 u1 v1, .bool f2, .slice F2 u2 v2] 26)))
  have h10 := hid (bthen (bthen HB.out hb1 (Nat.le_refl _)) (alo (o := (.cells #[.bool f1, .slice F1 u1 v1, .bool f2, .slice F2 u2 v2] 26))) (Nat.le_refl _))
  have j3 := Bk.of_alloc w1 (.cells #[.bool f1, .slice F1 u1 v1, .bool f2, .slice F2 u2 v2] 26) rfl
  obtain ⟨x0, x1, x2, x3, -, -, -, -⟩ := j3.c4
  clear hb1 hB h g0 hT b0 hg hp
  go_wp2_with fail
  refine (fraction_q hp1.n.zi hp1.d.zi (by have := hp1.pq.nz; omega) (hp1.pq.la.mono (by omega)) (hp1.pq.lb.mono (by omega)) T1).mono ?_
  rintro e w2 ⟨r1, R1, o1, e1', r2, R2, o2, e2', rfl, hq, hb2⟩
  rw [rv_nat hp1.pq.nz, hp1.pq.eq] at hq
  replace j2 := j2.step hb2
  have h12 := hid (bthen h10.out hb2 (Nat.le_refl _))
  clear hb2 hp1 x0 x1 x2 x3 j3 h10 T1
  have h11 := hid (below4 h12.out (show w.heap.size ≤ g + 1 + 1 by have := Hg.out; omega) (.bool r1) (.slice R1 o1 e1') (.bool r2) (.slice R2 o2 e2'))
  have m1 := hid (hq.n.offbox j2 (noInt_four _ _ _ _ _ _ _ _) (gb4 _ _ (.bool r1) (.slice R1 o1 e1') (.bool r2) (.slice R2 o2 e2')))
  have m2 := hid (hq.d.offbox j2 (noInt_four _ _ _ _ _ _ _ _) (gb4 _ _ (.bool r1) (.slice R1 o1 e1') (.bool r2) (.slice R2 o2 e2')))
  have hl10 := j2.lt
  obtain ⟨i0, i1, i2, i3, i4, i5, i6, i7⟩ := j2.c4
  clear j2 hq 
  go_wp2
  exact bodyPost_ret (v := .agg #[.bool r1, .slice R1 o1 e1', .bool r2, .slice R2 o2 e2']) (by simp [results, Tryz.results21, go_sem, i0, i1, i2, i3]) rfl ⟨_, _, _, _, _, _, _, _, rfl, ⟨m1.out, m2.out⟩, h11.out⟩

end Go.Proofs.YtffipjofefemiaaGreatDoor
