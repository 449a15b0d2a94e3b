/- The reference's Over and NormRat. For all integers of at most 1000 limbs. -/
import Derived.Test.YtffipjofefemiaaGreatDoorRgcd
import Derived.Test.YtffipjofefemiaaGreatDoorMJ
namespace Go.Proofs.YtffipjofefemiaaGreatDoor
open Go.RowKit Kb

/-- What stays in Over: the boxes of the two integers and of the result. -/
structure Ov (w : World) (g : Nat) (s : Bool) (A : Option Addr) (n c : Nat) (x : Int) (t : Bool) (B : Option Addr) (m d : Nat) (y : Int) (wx : World) : Prop where
  a : Ib wx g s A n c x
  b : Ib wx (g + 1) t B m d y
  r : Bk wx (g + 1 + 1) (.cells #[.bool false, .slice none 0 0, .bool false, .slice none 0 0] 26 (0, 0))
  bl : Below w.heap.size w wx
section
variable {w wx wy : World} {g n c m d : Nat} {s t : Bool} {A B : Option Addr} {x y : Int}
theorem Ov.below (k : Ov w g s A n c x t B m d y wx) (hb : Below wx.heap.size wx wy) : Ov w g s A n c x t B m d y wy := ⟨k.a.below hb, k.b.below hb, k.r.step hb, bthen k.bl hb (Nat.le_refl _)⟩
theorem Ov.cells (k : Ov w g s A n c x t B m d y wx) : wx.cell? ⟨g, 0, none⟩ = some (.bool s) ∧ wx.cell? ⟨g, 1, none⟩ = some (.slice A n c) ∧ wx.cell? ⟨g + 1, 0, none⟩ = some (.bool t) ∧ wx.cell? ⟨g + 1, 1, none⟩ = some (.slice B m d) := ⟨k.a.b.c2.1, k.a.b.c2.2.1, k.b.b.c2.1, k.b.b.c2.2.1⟩
end
theorem rv_zero (N : Int) : rv N 0 = (N : Rat) := by
  unfold rv pn pd
  rw [if_neg (by decide), if_pos rfl]
  have := Rat.mkRat_self (N : Rat)
  rwa [Rat.num_intCast, Rat.den_intCast] at this
theorem natAbs_len {k : Nat} {x : Int} (h : Le k x) : (dig x.natAbs).length ≤ k := h.len
theorem div_len {k a b : Nat} (h : (dig a).length ≤ k) : (dig (a / b)).length ≤ k := Nat.le_trans (digle (Nat.div_le_self _ _)) h
set_option maxRecDepth 100000 in
set_option maxHeartbeats 20000000 in
theorem rOver {w : World} {s t : Bool} {A B : Option Addr} {n c m d : Nat} {x y : Int} (h : Zi w s A n c x) (k : Zi w t B m d y) (hn : n ≤ 1000) (hm : m ≤ 1000) (hx : Le 1000 x) (hy : Le 1000 y) :
    Calls Tryz.prog 14 #[.agg #[.bool s, .slice A n c], .agg #[.bool t, .slice B m d]] w fun e w' => ∃ s1 A1 n1 c1 s2 A2 n2 c2, e = .returned (.agg #[.bool s1, .slice A1 n1 c1, .bool s2, .slice A2 n2 c2]) ∧ Qf w' s1 A1 n1 c1 s2 A2 n2 c2 (rv x y) ∧ Below w.heap.size w w' := by
  have b0 := three_new w (.cells #[.bool s, .slice A n c] 24) (.cells #[.bool t, .slice B m d] 24) (.cells #[.bool false, .slice none 0 0, .bool false, .slice none 0 0] 26)
  have hB := (((Below.refl w.heap.size w).alloc (Nat.le_refl _) (.cells #[.bool s, .slice A n c] 24)).alloc (by simp) (.cells #[.bool t, .slice B m d] 24)).alloc (by simp; omega) (.cells #[.bool false, .slice none 0 0, .bool false, .slice none 0 0] 26)
  obtain ⟨g, hg⟩ : ∃ g, w.heap.size = g := ⟨_, rfl⟩
  have lx := hx.len
  have ly := hy.len
  have ex := hid h.eq
  have ey := hid k.eq
  clear hx hy
  go_enter Tryz.func14, Tryz.ntmps14
  go_wp2_with fail
  rw [hg] at b0
  generalize ((w.alloc (.cells #[.bool s, .slice A n c] 24)).alloc (.cells #[.bool t, .slice B m d] 24)).alloc (.cells #[.bool false, .slice none 0 0, .bool false, .slice none 0 0] 26) = W0 at *
  have hB' := hB.drew
  have Q0 : Ov w g s A n c x t B m d y W0.drew := ⟨⟨b0.1, h.below hB'⟩, ⟨b0.2.1, k.below hB'⟩, b0.2.2, hB'⟩
  have Hg := hid hg
  clear hB hB' b0 h k hg
  have hcells := Q0.cells
  go_region_held3 (fun w' => w'.cell? ⟨g, 0, none⟩ = some (.bool s) ∧ w'.cell? ⟨g, 1, none⟩ = some (.slice A n c) ∧ w'.cell? ⟨g + 1, 0, none⟩ = some (.bool t) ∧ w'.cell? ⟨g + 1, 1, none⟩ = some (.slice B m d)) (first | with_reducible exact Ov.cells Q0 | with_reducible exact Ov.cells Q1 | with_reducible exact Ov.cells Q2) (first
    | (go_at_call 63; with_reducible refine (rreadZ Q0.a.z (by omega)).mono ?_; rintro e w1 ⟨v1, rfl, hv1, hb1⟩; have Q1 := Q0.below hb1)
    | (go_at_call 63; with_reducible refine (rreadZ Q1.b.z (by omega)).mono ?_; rintro e w2 ⟨v2, rfl, hv2, hb2⟩; have Q2 := Q1.below hb2; replace hv1 := hv1.below hb2))
  clear Q0 Q1 hb1 hb2 hcells
  have hcells := Q2.cells
  have hv2' := hv2
  obtain ⟨C2, d2, rfl⟩ := nt_form hv2'
  by_cases h0 : y = 0
  · have hE : (((dig y.natAbs).length : Int) == 0) = true := by subst h0; exact len_zero rfl
    have H0 := hid (show rv x y = (x : Rat) by rw [h0, rv_zero])
    clear h0 hv2 hv2'
    go_wp2_with fail
    refine (rmade s v1 x.natAbs w2 hv1 (by omega)).mono ?_
    rintro e w3 ⟨r1, R1, o1, e1', rfl, hn1, hb3⟩
    rw [ex.out] at hn1
    have Q3 := Q2.below hb3
    clear Q2 hb3 hv1 hcells
    have hcells := Q3.cells
    go_wp2_with fail
    refine (rOf 1 w3 (by decide) (by decide)).mono ?_
    rintro e w4 ⟨r2, R2, o2, e2', rfl, hn2, hb4⟩
    replace hn1 := hn1.below hb4
    have Q4 := Q3.below hb4
    clear Q3 hb4 hcells
    have hq : Qf w4 r1 R1 o1 e1' r2 R2 o2 e2' (x : Rat) := ⟨hn1, hn2⟩
    rw [← H0.out] at hq
    have j2 := Q4.r
    have hB4 := hid Q4.bl
    clear hn1 hn2 Q4
    have hgl := Hg.out
    have h11 := hid (below4 hB4.out (show w.heap.size ≤ g + 1 + 1 by omega) (.bool r1) (.slice R1 o1 e1') (.bool r2) (.slice R2 o2 e2'))
    have m1 := hid (hq.n.offbox j2 (noInt_four _ _ _ _ _ _ _ _) (gb4 _ _ (.bool r1) (.slice R1 o1 e1') (.bool r2) (.slice R2 o2 e2')))
    have m2 := hid (hq.d.offbox j2 (noInt_four _ _ _ _ _ _ _ _) (gb4 _ _ (.bool r1) (.slice R1 o1 e1') (.bool r2) (.slice R2 o2 e2')))
    have hl10 := j2.lt
    obtain ⟨i0, i1, i2, i3, i4, i5, i6, i7⟩ := j2.c4
    clear hgl j2 hq 
    go_wp2
    exact bodyPost_ret (v := .agg #[.bool r1, .slice R1 o1 e1', .bool r2, .slice R2 o2 e2']) (by simp [results, Tryz.results14, go_sem, i0, i1, i2, i3]) rfl ⟨_, _, _, _, _, _, _, _, rfl, ⟨m1.out, m2.out⟩, h11.out⟩
  · have hE : (((dig y.natAbs).length : Int) == 0) = false := len_pos (by omega)
    have Hy0 := hid (show y.natAbs ≠ 0 by omega)
    have Hg0 := hid (show Nat.gcd x.natAbs y.natAbs ≠ 0 from fun e => h0 (Int.natAbs_eq_zero.1 (Nat.eq_zero_of_gcd_eq_zero_right e)))
    have N1 := hid (rv_num s t (a := x.natAbs) (b := y.natAbs) (by omega))
    have N2 := hid (rv_den s t (a := x.natAbs) (b := y.natAbs) (by omega))
    clear h0
    go_wp2_with fail
    refine (rgcd v1 _ x.natAbs y.natAbs w2 hv1 hv2 (by omega) (by omega)).mono ?_
    rintro e w3 ⟨v3, rfl, hv3, hb3⟩
    have Q3 := Q2.below hb3
    replace hv1 := hv1.below hb3
    replace hv2 := hv2.below hb3
    have Hgl := hid (show (dig (Nat.gcd x.natAbs y.natAbs)).length ≤ 1000 from Nat.le_trans (digle (Nat.gcd_le_right _ (Nat.pos_of_ne_zero Hy0.out))) ly)
    clear Q2 hb3 hcells hv2'
    go_wp2_with fail
    refine (rover v1 v3 _ _ w3 hv1 hv3 Hg0.out (by omega) (by have := Hgl.out; omega)).mono ?_
    rintro e w4 ⟨q4, r4, rfl, hq4, -, hb4⟩
    have Q4 := Q3.below hb4
    replace hv2 := hv2.below hb4
    replace hv3 := hv3.below hb4
    clear Q3 hb4 hv1
    go_wp2_with fail
    refine (rover _ v3 _ _ w4 hv2 hv3 Hg0.out (by omega) (by have := Hgl.out; omega)).mono ?_
    rintro e w5 ⟨q5, r5, rfl, hq5, -, hb5⟩
    have Q5 := Q4.below hb5
    replace hq4 := hq4.below hb5
    clear Q4 hb5 hv2 hv3
    have hcells := Q5.cells
    have Hl4 := hid (div_len (b := Nat.gcd x.natAbs y.natAbs) lx)
    have Hl5 := hid (div_len (b := Nat.gcd x.natAbs y.natAbs) ly)
    go_wp2_with fail
    refine (rmade _ q4 _ w5 hq4 (by have := Hl4.out; omega)).mono ?_
    rintro e w6 ⟨r1, R1, o1, e1', rfl, hn1, hb6⟩
    have Q6 := Q5.below hb6
    replace hq5 := hq5.below hb6
    clear Q5 hb6 hq4 hcells
    have hcells := Q6.cells
    go_wp2_with fail
    refine (rmade false q5 _ w6 hq5 (by have := Hl5.out; omega)).mono ?_
    rintro e w7 ⟨r2, R2, o2, e2', rfl, hn2, hb7⟩
    have Q7 := Q6.below hb7
    replace hn1 := hn1.below hb7
    clear Q6 hb7 hq5 hcells
    have hn1' : Zn w7 r1 R1 o1 e1' (rv x y).num := by
      have e := N1.out
      rw [ex.out, ey.out] at e
      rw [← e]; exact hn1
    have hn2' : Zn w7 r2 R2 o2 e2' ((rv x y).den : Int) := by
      have e := N2.out
      rw [ex.out, ey.out] at e
      rw [← e]
      have e2 : toZ false (y.natAbs / Nat.gcd x.natAbs y.natAbs) = ((y.natAbs / Nat.gcd x.natAbs y.natAbs : Nat) : Int) := by unfold toZ; rw [if_neg (by decide)]
      rw [← e2]; exact hn2
    have hq : Qf w7 r1 R1 o1 e1' r2 R2 o2 e2' (rv x y) := ⟨hn1', hn2'⟩
    have j2 := Q7.r
    have hB4 := hid Q7.bl
    clear hn1 hn2 hn1' hn2' Q7
    have hgl := Hg.out
    have h11 := hid (below4 hB4.out (show w.heap.size ≤ g + 1 + 1 by omega) (.bool r1) (.slice R1 o1 e1') (.bool r2) (.slice R2 o2 e2'))
    have m1 := hid (hq.n.offbox j2 (noInt_four _ _ _ _ _ _ _ _) (gb4 _ _ (.bool r1) (.slice R1 o1 e1') (.bool r2) (.slice R2 o2 e2')))
    have m2 := hid (hq.d.offbox j2 (noInt_four _ _ _ _ _ _ _ _) (gb4 _ _ (.bool r1) (.slice R1 o1 e1') (.bool r2) (.slice R2 o2 e2')))
    have hl10 := j2.lt
    obtain ⟨i0, i1, i2, i3, i4, i5, i6, i7⟩ := j2.c4
    clear hgl j2 hq 
    go_wp2
    exact bodyPost_ret (v := .agg #[.bool r1, .slice R1 o1 e1', .bool r2, .slice R2 o2 e2']) (by simp [results, Tryz.results14, go_sem, i0, i1, i2, i3]) rfl ⟨_, _, _, _, _, _, _, _, rfl, ⟨m1.out, m2.out⟩, h11.out⟩

/-- A fraction that comes in, with few limbs. -/
structure Ri (w : World) (s1 : Bool) (A1 : Option Addr) (n1 c1 : Nat) (s2 : Bool) (A2 : Option Addr) (n2 c2 k : Nat) (r : Rat) : Prop where
  q : Qi w s1 A1 n1 c1 s2 A2 n2 c2 k r
  h1 : n1 ≤ 1000
  h2 : n2 ≤ 1000
section
variable {w w' : World} {s1 s2 : Bool} {A1 A2 : Option Addr} {n1 c1 n2 c2 k : Nat} {r : Rat}
theorem Ri.below (h : Ri w s1 A1 n1 c1 s2 A2 n2 c2 k r) (hb : Below w.heap.size w w') : Ri w' s1 A1 n1 c1 s2 A2 n2 c2 k r := ⟨h.q.below hb, h.h1, h.h2⟩
theorem Qf.ri (h : Qf w s1 A1 n1 c1 s2 A2 n2 c2 r) (hr : QL k r) (hk : k ≤ 1000) : Ri w s1 A1 n1 c1 s2 A2 n2 c2 k r :=
  ⟨h.qi hr, Nat.le_trans (h.n.len hr.num) hk, Nat.le_trans (h.d.len hr.den) hk⟩
end
set_option maxRecDepth 100000 in
set_option maxHeartbeats 20000000 in
theorem rNormRat {w : World} {s1 s2 : Bool} {A1 A2 : Option Addr} {n1 c1 n2 c2 k : Nat} {r : Rat} (h : Ri w s1 A1 n1 c1 s2 A2 n2 c2 k r) (hk : k ≤ 1000) :
    Calls Tryz.prog 51 #[.agg #[.bool s1, .slice A1 n1 c1, .bool s2, .slice A2 n2 c2]] w fun e w' => ∃ s1 A1 n1 c1 s2 A2 n2 c2, e = .returned (.agg #[.bool s1, .slice A1 n1 c1, .bool s2, .slice A2 n2 c2]) ∧ Qf w' s1 A1 n1 c1 s2 A2 n2 c2 (r) ∧ Below w.heap.size w w' := by
  have b0 := two_new w (.cells #[.bool s1, .slice A1 n1 c1, .bool s2, .slice A2 n2 c2] 26) (.cells #[.bool false, .slice none 0 0, .bool false, .slice none 0 0] 26)
  have hB := below_two w (.cells #[.bool s1, .slice A1 n1 c1, .bool s2, .slice A2 n2 c2] 26) (.cells #[.bool false, .slice none 0 0, .bool false, .slice none 0 0] 26)
  obtain ⟨g, hg⟩ : ∃ g, w.heap.size = g := ⟨_, rfl⟩
  obtain ⟨N, D, hN, hD, er, lN, lD⟩ := h.q.out
  have h1 := h.h1
  have h2 := h.h2
  have LN := hid (lN.mono hk)
  have LD := hid (lD.mono hk)
  have Er := hid er
  clear h lN lD er
  go_enter Tryz.func51, Tryz.ntmps51
  go_wp2_with fail
  rw [hg] at b0
  generalize (w.alloc (.cells #[.bool s1, .slice A1 n1 c1, .bool s2, .slice A2 n2 c2] 26)).alloc (.cells #[.bool false, .slice none 0 0, .bool false, .slice none 0 0] 26) = W0 at *
  have HB := hid hB
  have Hg := hid hg
  have j2 : Bk W0 (g + 1) _ := b0.2
  refine (rOver (hN.below hB) (hD.below hB) h1 h2 LN.out LD.out).mono ?_
  rintro e w1 ⟨r1, R1, o1, e1', r2, R2, o2, e2', rfl, hq, hb1⟩
  rw [Er.out] at hq
  replace j2 := j2.step hb1
  have hB1 := hid (bthen HB.out hb1 (Nat.le_refl _))
  clear hb1 hB hN hD b0 hg
  have hgl := Hg.out
  have h11 := hid (below4 hB1.out (show w.heap.size ≤ g + 1 by omega) (.bool r1) (.slice R1 o1 e1') (.bool r2) (.slice R2 o2 e2'))
  have m1 := hid (hq.n.offbox j2 (noInt_four _ _ _ _ _ _ _ _) (gb4 _ _ (.bool r1) (.slice R1 o1 e1') (.bool r2) (.slice R2 o2 e2')))
  have m2 := hid (hq.d.offbox j2 (noInt_four _ _ _ _ _ _ _ _) (gb4 _ _ (.bool r1) (.slice R1 o1 e1') (.bool r2) (.slice R2 o2 e2')))
  have hl10 := j2.lt
  obtain ⟨i0, i1, i2, i3, i4, i5, i6, i7⟩ := j2.c4
  clear hgl j2 hq 
  go_wp2
  exact bodyPost_ret (v := .agg #[.bool r1, .slice R1 o1 e1', .bool r2, .slice R2 o2 e2']) (by simp [results, Tryz.results51, go_sem, i0, i1, i2, i3]) rfl ⟨_, _, _, _, _, _, _, _, rfl, ⟨m1.out, m2.out⟩, h11.out⟩

end Go.Proofs.YtffipjofefemiaaGreatDoor
