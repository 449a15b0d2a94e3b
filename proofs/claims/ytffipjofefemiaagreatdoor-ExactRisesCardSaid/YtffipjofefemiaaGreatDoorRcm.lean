/- The reference's NegRat, SubRat, SignRat, CmpRat. For all fractions of at most 300 limbs. -/
import Derived.Test.YtffipjofefemiaaGreatDoorRadd
import Derived.Test.YtffipjofefemiaaGreatDoorRmul
import Derived.Test.YtffipjofefemiaaGreatDoorMK
namespace Go.Proofs.YtffipjofefemiaaGreatDoor
open Go.RowKit Kb

/-- What stays in NegRat: the box of the normalized fraction, and of the result. -/
structure Ny (w : World) (gr g5 : Nat) (p1 : Bool) (E1 : Option Addr) (o1 e1 : Nat) (p2 : Bool) (E2 : Option Addr) (o2 e2 : Nat) (x : Rat) (wx : World) : Prop where
  a : Jq wx g5 p1 E1 o1 e1 p2 E2 o2 e2 x
  r : Bk wx gr (.cells #[.bool false, .slice none 0 0, .bool false, .slice none 0 0] 26 (0, 0))
  bl : Below w.heap.size w wx
section
variable {w wx wy : World} {gr g5 o1 e1 o2 e2 : Nat} {p1 p2 : Bool} {E1 E2 : Option Addr} {x : Rat}
theorem Ny.below (h : Ny w gr g5 p1 E1 o1 e1 p2 E2 o2 e2 x wx) (hb : Below wx.heap.size wx wy) : Ny w gr g5 p1 E1 o1 e1 p2 E2 o2 e2 x wy := ⟨h.a.below hb, h.r.step hb, bthen h.bl hb (Nat.le_refl _)⟩
theorem Ny.cells (h : Ny w gr g5 p1 E1 o1 e1 p2 E2 o2 e2 x wx) : wx.cell? ⟨g5, 0, none⟩ = some (.bool p1) ∧ wx.cell? ⟨g5, 1, none⟩ = some (.slice E1 o1 e1) ∧ wx.cell? ⟨g5, 2, none⟩ = some (.bool p2) ∧ wx.cell? ⟨g5, 3, none⟩ = some (.slice E2 o2 e2) := ⟨h.a.b.c4.1, h.a.b.c4.2.1, h.a.b.c4.2.2.1, h.a.b.c4.2.2.2.1⟩
theorem Ny.off {u0 u1 u2 u3 : Value} (h : Ny w gr g5 p1 E1 o1 e1 p2 E2 o2 e2 x wx) (h1 : gr < g5) : ((((wx.setCell ⟨gr, 0, none⟩ u0).setCell ⟨gr, 1, none⟩ u1).setCell ⟨gr, 2, none⟩ u2).setCell ⟨gr, 3, none⟩ u3).cell? ⟨g5, 0, none⟩ = some (.bool p1) ∧ ((((wx.setCell ⟨gr, 0, none⟩ u0).setCell ⟨gr, 1, none⟩ u1).setCell ⟨gr, 2, none⟩ u2).setCell ⟨gr, 3, none⟩ u3).cell? ⟨g5, 1, none⟩ = some (.slice E1 o1 e1) ∧ ((((wx.setCell ⟨gr, 0, none⟩ u0).setCell ⟨gr, 1, none⟩ u1).setCell ⟨gr, 2, none⟩ u2).setCell ⟨gr, 3, none⟩ u3).cell? ⟨g5, 2, none⟩ = some (.bool p2) ∧ ((((wx.setCell ⟨gr, 0, none⟩ u0).setCell ⟨gr, 1, none⟩ u1).setCell ⟨gr, 2, none⟩ u2).setCell ⟨gr, 3, none⟩ u3).cell? ⟨g5, 3, none⟩ = some (.slice E2 o2 e2) := by
  obtain ⟨e1, e2, e3, e4⟩ := h.cells
  exact ⟨off_four (by omega) e1, off_four (by omega) e2, off_four (by omega) e3, off_four (by omega) e4⟩
end
set_option maxRecDepth 100000 in
set_option maxHeartbeats 20000000 in
theorem rNegRat {w : World} {s1 : Bool} {A1 : Option Addr} {n1 c1 : Nat} {s2 : Bool} {A2 : Option Addr} {n2 c2 : Nat} {k : Nat} {x : Rat} (h : Ri w s1 A1 n1 c1 s2 A2 n2 c2 k x) (hk0 : 0 < k) (hk : k ≤ 400) :
    Calls Tryz.prog 71 #[.agg #[.bool s1, .slice A1 n1 c1, .bool s2, .slice A2 n2 c2]] w fun e w' => ∃ s1 A1 n1 c1 s2 A2 n2 c2, e = .returned (.agg #[.bool s1, .slice A1 n1 c1, .bool s2, .slice A2 n2 c2]) ∧ Qf w' s1 A1 n1 c1 s2 A2 n2 c2 (-x) ∧ Below w.heap.size w w' := by
  have b0 := two_new w (.cells #[.bool s1, .slice A1 n1 c1, .bool s2, .slice A2 n2 c2] 26) (.cells #[.bool false, .slice none 0 0, .bool false, .slice none 0 0] 26)
  have hB := below_two w (.cells #[.bool s1, .slice A1 n1 c1, .bool s2, .slice A2 n2 c2] 26) (.cells #[.bool false, .slice none 0 0, .bool false, .slice none 0 0] 26)
  obtain ⟨g, hg⟩ : ∃ g, w.heap.size = g := ⟨_, rfl⟩
  have HX := hid (ql_1000 (h.q.ql hk0) hk)
  go_enter Tryz.func71, Tryz.ntmps71
  go_wp2_with fail
  rw [hg] at b0
  generalize (w.alloc (.cells #[.bool s1, .slice A1 n1 c1, .bool s2, .slice A2 n2 c2] 26)).alloc (.cells #[.bool false, .slice none 0 0, .bool false, .slice none 0 0] 26) = W0 at *
  have h0 := h.below hB
  have HB := hid hB
  have Hg := hid hg
  have j2 : Bk W0 (g + 1) _ := b0.2
  clear hB hg b0 h
  refine (rNormRat h0 (by omega)).mono ?_
  rintro e w1 ⟨p1, E1, o1, e1, p2, E2, o2, e2, rfl, hn, hb1⟩
  have Y : Ny w (g + 1) w1.heap.size p1 E1 o1 e1 p2 E2 o2 e2 x (w1.alloc (.cells #[.bool p1, .slice E1 o1 e1, .bool p2, .slice E2 o2 e2] 26)) := ⟨Jq.made hn, (j2.step hb1).step alo, bthen (bthen HB.out hb1 (Nat.le_refl _)) alo (Nat.le_refl _)⟩
  have hlt : g + 1 < w1.heap.size := (j2.step hb1).lt
  clear hn hb1 HB j2 h0
  go_upto_region 2 with fail
  generalize w1.alloc (.cells #[.bool p1, .slice E1 o1 e1, .bool p2, .slice E2 o2 e2] 26) = W1 at *
  generalize w1.heap.size = g5 at *
  have Q0 := Y.below dr0
  have hcells := Q0.cells
  clear Y
  go_region_held3 (fun w' => w'.cell? ⟨g5, 0, none⟩ = some (.bool p1) ∧ w'.cell? ⟨g5, 1, none⟩ = some (.slice E1 o1 e1) ∧ w'.cell? ⟨g5, 2, none⟩ = some (.bool p2) ∧ w'.cell? ⟨g5, 3, none⟩ = some (.slice E2 o2 e2)) (first | with_reducible exact Ny.cells Q0 | with_reducible exact Ny.cells Q1 | with_reducible exact Ny.off Q1 hlt) (first
    | (go_at_call 114; with_reducible refine (rNeg Q0.a.z.n.zi (Nat.le_trans (Q0.a.z.n.len HX.out.1) (by decide)) (HX.out.1.mono (by decide))).mono ?_; rintro e v1 ⟨r1, R1, o1', e1', rfl, hn1, hb1⟩; have Q1 := Q0.below hb1; have hl10 := Q1.r.lt; obtain ⟨i0, i1, i2, i3, i4, i5, i6, i7⟩ := Q1.r.c4))
  have j2 := Q1.r
  have hn2 := Q1.a.z.d
  have hB4 := hid Q1.bl
  clear Q0 Q1 hb1 hcells
  have hgl := Hg.out
  have h11 := hid (below4 hB4.out (show w.heap.size ≤ g + 1 by omega) (.bool r1) (.slice R1 o1' e1') (.bool p2) (.slice E2 o2 e2))
  have m1 := hid (hn1.offbox j2 (noInt_four _ _ _ _ _ _ _ _) (gb4 _ _ (.bool r1) (.slice R1 o1' e1') (.bool p2) (.slice E2 o2 e2)))
  have m2 := hid (hn2.offbox j2 (noInt_four _ _ _ _ _ _ _ _) (gb4 _ _ (.bool r1) (.slice R1 o1' e1') (.bool p2) (.slice E2 o2 e2)))
  clear hgl j2 hn1 hn2
  go_wp2
  exact bodyPost_ret (v := .agg #[.bool r1, .slice R1 o1' e1', .bool p2, .slice E2 o2 e2]) (by simp [results, Tryz.results71, go_sem, i0, i1, i2, i3]) rfl ⟨_, _, _, _, _, _, _, _, rfl, ⟨m1.out, m2.out⟩, h11.out⟩
theorem QL.neg {k : Nat} {x : Rat} (h : QL k x) : QL k (-x) := ⟨h.num.neg, h.den⟩
theorem Rp.off {w wx : World} {g k l : Nat} {x y : Rat} {s1 : Bool} {A1 : Option Addr} {n1 c1 : Nat} {s2 : Bool} {A2 : Option Addr} {n2 c2 : Nat} {t1 : Bool} {B1 : Option Addr} {m1 d1 : Nat} {t2 : Bool} {B2 : Option Addr} {m2 d2 : Nat} {u0 u1 u2 u3 : Value} (h : Rp w g s1 A1 n1 c1 s2 A2 n2 c2 k x t1 B1 m1 d1 t2 B2 m2 d2 l y wx) : ((((wx.setCell ⟨g + 1 + 1, 0, none⟩ u0).setCell ⟨g + 1 + 1, 1, none⟩ u1).setCell ⟨g + 1 + 1, 2, none⟩ u2).setCell ⟨g + 1 + 1, 3, none⟩ u3).cell? ⟨g, 0, none⟩ = some (.bool s1) ∧ ((((wx.setCell ⟨g + 1 + 1, 0, none⟩ u0).setCell ⟨g + 1 + 1, 1, none⟩ u1).setCell ⟨g + 1 + 1, 2, none⟩ u2).setCell ⟨g + 1 + 1, 3, none⟩ u3).cell? ⟨g, 1, none⟩ = some (.slice A1 n1 c1) ∧ ((((wx.setCell ⟨g + 1 + 1, 0, none⟩ u0).setCell ⟨g + 1 + 1, 1, none⟩ u1).setCell ⟨g + 1 + 1, 2, none⟩ u2).setCell ⟨g + 1 + 1, 3, none⟩ u3).cell? ⟨g, 2, none⟩ = some (.bool s2) ∧ ((((wx.setCell ⟨g + 1 + 1, 0, none⟩ u0).setCell ⟨g + 1 + 1, 1, none⟩ u1).setCell ⟨g + 1 + 1, 2, none⟩ u2).setCell ⟨g + 1 + 1, 3, none⟩ u3).cell? ⟨g, 3, none⟩ = some (.slice A2 n2 c2) ∧ ((((wx.setCell ⟨g + 1 + 1, 0, none⟩ u0).setCell ⟨g + 1 + 1, 1, none⟩ u1).setCell ⟨g + 1 + 1, 2, none⟩ u2).setCell ⟨g + 1 + 1, 3, none⟩ u3).cell? ⟨g + 1, 0, none⟩ = some (.bool t1) ∧ ((((wx.setCell ⟨g + 1 + 1, 0, none⟩ u0).setCell ⟨g + 1 + 1, 1, none⟩ u1).setCell ⟨g + 1 + 1, 2, none⟩ u2).setCell ⟨g + 1 + 1, 3, none⟩ u3).cell? ⟨g + 1, 1, none⟩ = some (.slice B1 m1 d1) ∧ ((((wx.setCell ⟨g + 1 + 1, 0, none⟩ u0).setCell ⟨g + 1 + 1, 1, none⟩ u1).setCell ⟨g + 1 + 1, 2, none⟩ u2).setCell ⟨g + 1 + 1, 3, none⟩ u3).cell? ⟨g + 1, 2, none⟩ = some (.bool t2) ∧ ((((wx.setCell ⟨g + 1 + 1, 0, none⟩ u0).setCell ⟨g + 1 + 1, 1, none⟩ u1).setCell ⟨g + 1 + 1, 2, none⟩ u2).setCell ⟨g + 1 + 1, 3, none⟩ u3).cell? ⟨g + 1, 3, none⟩ = some (.slice B2 m2 d2) := by
  obtain ⟨e1, e2, e3, e4, e5, e6, e7, e8⟩ := h.cells
  exact ⟨off_four (by omega) e1, off_four (by omega) e2, off_four (by omega) e3, off_four (by omega) e4, off_four (by omega) e5, off_four (by omega) e6, off_four (by omega) e7, off_four (by omega) e8⟩
set_option maxRecDepth 100000 in
set_option maxHeartbeats 20000000 in
theorem rSubRat {w : World} {s1 : Bool} {A1 : Option Addr} {n1 c1 : Nat} {s2 : Bool} {A2 : Option Addr} {n2 c2 : Nat} {t1 : Bool} {B1 : Option Addr} {m1 d1 : Nat} {t2 : Bool} {B2 : Option Addr} {m2 d2 : Nat} {k l : Nat} {x y : Rat} (h : Ri w s1 A1 n1 c1 s2 A2 n2 c2 k x) (g0 : Ri w t1 B1 m1 d1 t2 B2 m2 d2 l y) (hk0 : 0 < k) (hl0 : 0 < l) (hk : k ≤ 300) (hl : l ≤ 300) :
    Calls Tryz.prog 20 #[.agg #[.bool s1, .slice A1 n1 c1, .bool s2, .slice A2 n2 c2], .agg #[.bool t1, .slice B1 m1 d1, .bool t2, .slice B2 m2 d2]] w fun e w' => ∃ s1 A1 n1 c1 s2 A2 n2 c2, e = .returned (.agg #[.bool s1, .slice A1 n1 c1, .bool s2, .slice A2 n2 c2]) ∧ Qf w' s1 A1 n1 c1 s2 A2 n2 c2 (x - y) ∧ Below w.heap.size w w' := by
  have b0 := three_new w (.cells #[.bool s1, .slice A1 n1 c1, .bool s2, .slice A2 n2 c2] 26) (.cells #[.bool t1, .slice B1 m1 d1, .bool t2, .slice B2 m2 d2] 26) (.cells #[.bool false, .slice none 0 0, .bool false, .slice none 0 0] 26)
  have hB := (((Below.refl w.heap.size w).alloc (Nat.le_refl _) (.cells #[.bool s1, .slice A1 n1 c1, .bool s2, .slice A2 n2 c2] 26)).alloc (by simp) (.cells #[.bool t1, .slice B1 m1 d1, .bool t2, .slice B2 m2 d2] 26)).alloc (by simp; omega) (.cells #[.bool false, .slice none 0 0, .bool false, .slice none 0 0] 26)
  obtain ⟨g, hg⟩ : ∃ g, w.heap.size = g := ⟨_, rfl⟩
  have ly := (g0.q.ql hl0).neg
  go_enter Tryz.func20, Tryz.ntmps20
  go_wp2_with fail
  rw [hg] at b0
  generalize ((w.alloc (.cells #[.bool s1, .slice A1 n1 c1, .bool s2, .slice A2 n2 c2] 26)).alloc (.cells #[.bool t1, .slice B1 m1 d1, .bool t2, .slice B2 m2 d2] 26)).alloc (.cells #[.bool false, .slice none 0 0, .bool false, .slice none 0 0] 26) = W0 at *
  have P : Rp w g s1 A1 n1 c1 s2 A2 n2 c2 k x t1 B1 m1 d1 t2 B2 m2 d2 l y W0 := ⟨⟨b0.1, h.below hB⟩, ⟨b0.2.1, g0.below hB⟩, b0.2.2, hB⟩
  have Hg := hid hg
  clear hB b0 h g0 hg
  have Q0 := P.below dr0
  have hcells := Q0.cells
  clear P
  go_region_held3 (fun w' => w'.cell? ⟨g, 0, none⟩ = some (.bool s1) ∧ w'.cell? ⟨g, 1, none⟩ = some (.slice A1 n1 c1) ∧ w'.cell? ⟨g, 2, none⟩ = some (.bool s2) ∧ w'.cell? ⟨g, 3, none⟩ = some (.slice A2 n2 c2) ∧ w'.cell? ⟨g + 1, 0, none⟩ = some (.bool t1) ∧ w'.cell? ⟨g + 1, 1, none⟩ = some (.slice B1 m1 d1) ∧ w'.cell? ⟨g + 1, 2, none⟩ = some (.bool t2) ∧ w'.cell? ⟨g + 1, 3, none⟩ = some (.slice B2 m2 d2)) (first | with_reducible exact Rp.cells Q0 | with_reducible exact Rp.cells Q1 | with_reducible exact Rp.cells Q2 | with_reducible exact Rp.off Q2) (first
    | (go_at_call 71; with_reducible refine (rNegRat Q0.b.z hl0 (by omega)).mono ?_; rintro e w1 ⟨p1, E1, o1, e1, p2, E2, o2, e2, rfl, h4, hb1⟩; have Q1 := Q0.below hb1)
    | (go_at_call 18; with_reducible refine (rAddRat Q1.a.z (h4.ri ly (by omega)) hk0 hl0 (by omega) (by omega)).mono ?_; rintro e w2 ⟨r1, R1, o1', e1', r2, R2, o2', e2', rfl, hq, hb2⟩; have Q2 := Q1.below hb2; have hl10 := Q2.r.lt; obtain ⟨i0, i1, i2, i3, i4, i5, i6, i7⟩ := Q2.r.c4))
  rw [← Rat.sub_eq_add_neg] at hq
  have j2 := Q2.r
  have hB4 := hid Q2.bl
  clear Q0 Q1 Q2 hb1 hb2 h4 hcells
  have hgl := Hg.out
  have h11 := hid (below4 hB4.out (show w.heap.size ≤ g + 1 + 1 by omega) (.bool r1) (.slice R1 o1' e1') (.bool r2) (.slice R2 o2' e2'))
  have m1 := hid (hq.n.offbox j2 (noInt_four _ _ _ _ _ _ _ _) (gb4 _ _ (.bool r1) (.slice R1 o1' e1') (.bool r2) (.slice R2 o2' e2')))
  have m2 := hid (hq.d.offbox j2 (noInt_four _ _ _ _ _ _ _ _) (gb4 _ _ (.bool r1) (.slice R1 o1' e1') (.bool r2) (.slice R2 o2' e2')))
  clear hgl j2 hq
  go_wp2
  exact bodyPost_ret (v := .agg #[.bool r1, .slice R1 o1' e1', .bool r2, .slice R2 o2' e2']) (by simp [results, Tryz.results20, go_sem, i0, i1, i2, i3]) rfl ⟨_, _, _, _, _, _, _, _, rfl, ⟨m1.out, m2.out⟩, h11.out⟩
set_option maxRecDepth 100000 in
set_option maxHeartbeats 20000000 in
theorem rSignRat {w : World} {s1 : Bool} {A1 : Option Addr} {n1 c1 : Nat} {s2 : Bool} {A2 : Option Addr} {n2 c2 : Nat} {k : Nat} {x : Rat} (h : Ri w s1 A1 n1 c1 s2 A2 n2 c2 k x) (hk0 : 0 < k) (hk : k ≤ 400) :
    Calls Tryz.prog 11 #[.agg #[.bool s1, .slice A1 n1 c1, .bool s2, .slice A2 n2 c2]] w fun e w' => e = .returned (.int .i64 x.num.sign) ∧ Below w.heap.size w w' := by
  have hB := alo (W := w) (o := (.cells #[.bool s1, .slice A1 n1 c1, .bool s2, .slice A2 n2 c2] 26))
  have HX := hid (ql_1000 (h.q.ql hk0) hk)
  go_enter Tryz.func11, Tryz.ntmps11
  go_wp2_with fail
  refine (rNormRat (h.below hB) (by omega)).mono ?_
  rintro e w1 ⟨p1, E1, o1, e1, p2, E2, o2, e2, rfl, hn, hb1⟩
  have HB := hid (bthen hB hb1 (Nat.le_refl _))
  have hfd : ∀ w : World, (Instr.field 26 (.agg #[.bool p1, .slice E1 o1 e1, .bool p2, .slice E2 o2 e2]) 0).run Tryz.prog w = .ok (.agg #[.bool p1, .slice E1 o1 e1]) w := fun _ => by kernel_rfl
  clear hB h hb1
  go_wp2_with fail
  refine (rSign hn.n.zi (Nat.le_trans (hn.n.len HX.out.1) (by decide))).mono ?_
  rintro e w2 ⟨rfl, hb2⟩
  have hE := bthen HB.out hb2 (Nat.le_refl _)
  clear hb2 hn
  go_wp2
  go_ret
  exact ⟨rfl, hE⟩
theorem cmpQ_sub (x y : Rat) : (x - y).num.sign = cmpQ x y := by
  have h1 := Rat.le_iff_sub_nonneg y x
  rw [← Rat.num_nonneg] at h1
  unfold cmpQ
  by_cases hlt : x < y
  · rw [if_pos hlt]
    have : ¬ 0 ≤ (x - y).num := fun e => absurd (h1.2 e) (Rat.not_le.2 hlt)
    exact Int.sign_eq_neg_one_of_neg (by omega)
  · rw [if_neg hlt]
    have hge := h1.1 (Rat.not_lt.1 hlt)
    by_cases he : x = y
    · rw [if_pos he, he, Rat.sub_self]; rfl
    · rw [if_neg he]
      have hne : (x - y).num ≠ 0 := fun e => he (by
        have e2 := Rat.num_eq_zero.1 e
        have e3 := Rat.sub_add_cancel (a := x) (b := y)
        rw [e2, Rat.zero_add] at e3
        exact e3.symm)
      exact Int.sign_eq_one_of_pos (by omega)
set_option maxRecDepth 100000 in
set_option maxHeartbeats 20000000 in
theorem rCmpRat {w : World} {s1 : Bool} {A1 : Option Addr} {n1 c1 : Nat} {s2 : Bool} {A2 : Option Addr} {n2 c2 : Nat} {t1 : Bool} {B1 : Option Addr} {m1 d1 : Nat} {t2 : Bool} {B2 : Option Addr} {m2 d2 : Nat} {k l : Nat} {x y : Rat} (h : Ri w s1 A1 n1 c1 s2 A2 n2 c2 k x) (g0 : Ri w t1 B1 m1 d1 t2 B2 m2 d2 l y) (hk0 : 0 < k) (hl0 : 0 < l) (hk : k ≤ 300) (hl : l ≤ 300) (hkl : k + l + 1 ≤ 400) :
    Calls Tryz.prog 26 #[.agg #[.bool s1, .slice A1 n1 c1, .bool s2, .slice A2 n2 c2], .agg #[.bool t1, .slice B1 m1 d1, .bool t2, .slice B2 m2 d2]] w fun e w' => e = .returned (.int .i64 (cmpQ x y)) ∧ Below w.heap.size w w' := by
  have hB := below_two w (.cells #[.bool s1, .slice A1 n1 c1, .bool s2, .slice A2 n2 c2] 26) (.cells #[.bool t1, .slice B1 m1 d1, .bool t2, .slice B2 m2 d2] 26)
  have lxy := (h.q.ql hk0).sub (g0.q.ql hl0)
  go_enter Tryz.func26, Tryz.ntmps26
  go_wp2_with fail
  refine (rSubRat (h.below hB) (g0.below hB) hk0 hl0 hk hl).mono ?_
  rintro e w1 ⟨p1, E1, o1, e1, p2, E2, o2, e2, rfl, hn, hb1⟩
  have HB := hid (bthen hB hb1 (Nat.le_refl _))
  clear hB h hb1 g0
  go_wp2_with fail
  refine (rSignRat (hn.ri lxy (by omega)) (by omega) hkl).mono ?_
  rintro e w2 ⟨rfl, hb2⟩
  rw [cmpQ_sub]
  have hE := bthen HB.out hb2 (Nat.le_refl _)
  clear hb2 hn
  go_wp2
  go_ret
  exact ⟨rfl, hE⟩

end Go.Proofs.YtffipjofefemiaaGreatDoor
