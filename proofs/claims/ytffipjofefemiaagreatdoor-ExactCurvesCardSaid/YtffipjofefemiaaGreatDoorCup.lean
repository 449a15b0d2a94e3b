/- ExactCurves answers true for every curve and every fraction, and leaves them as they were. No condition: arguments may share memory; the package variable deBruijn64tab begins as the text of the program lays it. -/
import Derived.Test.YtffipjofefemiaaGreatDoorSlp
import Derived.Test.YtffipjofefemiaaGreatDoorRval
import Derived.Test.YtffipjofefemiaaGreatDoorRpc
import Derived.Test.YtffipjofefemiaaGreatDoorTw4
import Derived.Test.YtffipjofefemiaaGreatDoorVal
import Derived.Test.YtffipjofefemiaaGreatDoorHvy
import Derived.Test.YtffipjofefemiaaGreatDoorRrch
import Derived.Test.YtffipjofefemiaaGreatDoorCkq
import Derived.Test.YtffipjofefemiaaGreatDoorIntg
import Derived.Test.YtffipjofefemiaaGreatDoorRint
import Derived.Test.YtffipjofefemiaaGreatDoorFrameC
import Derived.Test.YtffipjofefemiaaGreatDoorTie
import Derived.Test.YtffipjofefemiaaGreatDoorCards
import Derived.SevenTiedAt
namespace Go.Proofs.YtffipjofefemiaaGreatDoor
open Go.RowKit Kb

set_option maxRecDepth 100000 in
set_option maxHeartbeats 80000000 in
theorem Slope_q {w : World} {A : Option Addr} {n c : Nat} {B : Option Addr} {d B0 kc k : Nat} {X : Nat → Int} {Q : Nat → Rat} {y : Rat} {y1 : Bool} {Y1 : Option Addr} {ly1 cy1 : Nat} {y2 : Bool} {Y2 : Option Addr} {ly2 cy2 : Nat} (h : Cv w B0 A n B n kc X Q) (ok : Okc n X Q) (k0 : Qi w y1 Y1 ly1 cy1 y2 Y2 ly2 cy2 k y) (hkc : 0 < kc) (hkc4 : kc ≤ 400) (hk0 : 0 < k) (hk : k ≤ 400) (hT : Tb w) :
    Calls Tryz.prog 35 #[.agg #[.slice A n c, .slice B n d], .agg #[.bool y1, .slice Y1 ly1 cy1, .bool y2, .slice Y2 ly2 cy2]] w fun e w' => ∃ t1 T1 lt1 ct1 t2 T2 lt2 ct2 u, e = .returned (.tuple #[.agg #[.bool t1, .slice T1 lt1 ct1, .bool t2, .slice T2 lt2 ct2], .int .i64 0]) ∧ Hid (Upto n X y u) ∧ Qf w' t1 T1 lt1 ct1 t2 T2 lt2 ct2 (slq Q u) ∧ Below w.heap.size w w' := by
  have b0 := three_new w (.cells #[.slice A n c, .slice B n d] 48) (.cells #[.bool y1, .slice Y1 ly1 cy1, .bool y2, .slice Y2 ly2 cy2] 26) (.cells #[.bool false, .slice none 0 0, .bool false, .slice none 0 0] 26)
  have hB := (((Below.refl w.heap.size w).alloc (Nat.le_refl _) (.cells #[.slice A n c, .slice B n d] 48)).alloc (by simp) (.cells #[.bool y1, .slice Y1 ly1 cy1, .bool y2, .slice Y2 ly2 cy2] 26)).alloc (by simp; omega) (.cells #[.bool false, .slice none 0 0, .bool false, .slice none 0 0] 26)
  obtain ⟨g, hg⟩ : ∃ g, w.heap.size = g := ⟨_, rfl⟩
  go_enter Tryz.func35, Tryz.ntmps35
  go_wp2_with fail
  rw [hg] at b0
  generalize ((w.alloc (.cells #[.slice A n c, .slice B n d] 48)).alloc (.cells #[.bool y1, .slice Y1 ly1 cy1, .bool y2, .slice Y2 ly2 cy2] 26)).alloc (.cells #[.bool false, .slice none 0 0, .bool false, .slice none 0 0] 26) = W0 at *
  have P0 : Al w g B0 A n c B n d kc X Q y1 Y1 ly1 cy1 y2 Y2 ly2 cy2 k y W0 := ⟨h.below hB, b0.1, b0.2.1, b0.2.2, k0.below hB, hT.below hB, hB⟩
  have OK := hid ok
  have Hg := hid hg
  clear h k0 hT hB hg b0 ok
  refine (CheckCurve_ok P0.cv hkc OK.out).mono ?_
  rintro e w1 ⟨rfl, hb1⟩
  have P1 := P0.below hb1
  clear P0 hb1
  obtain ⟨x0, x1, -, -⟩ := P1.jc.c2
  obtain ⟨x2, x3, x4, x5, -, -, -, -⟩ := P1.jy.c4
  go_wp2_with fail
  refine (slopeAt_q P1.cv (Nat.le_refl _) OK.out P1.qy hk0 hk P1.tb).mono ?_
  rintro e w2 ⟨s1, S1, ls1, cs1, s2, S2, ls2, cs2, u, rfl, HU, hs, hb2⟩
  have P2 := P1.below hb2
  clear P1 hb2 x0 x1 x2 x3 x4 x5
  go_wp2_with fail
  refine (normal_q hs.q hkc (by omega) P2.tb).mono ?_
  rintro e w3 ⟨t1, T1, lt1, ct1, t2, T2, lt2, ct2, rfl, hq, hb3⟩
  have P3 := P2.below hb3
  have j2 := P3.jr
  have hl7 := j2.lt
  obtain ⟨i0, i1, i2, i3, i4, i5, i6, i7⟩ := j2.c4
  have h11 := hid (below4 P3.bl (show w.heap.size ≤ g + 1 + 1 by have := Hg.out; omega) (.bool t1) (.slice T1 lt1 ct1) (.bool t2) (.slice T2 lt2 ct2))
  have m1 := hid (hq.offbox j2 (noInt_four _ _ _ _ _ _ _ _) (gb4' _ _ (.bool t1) (.slice T1 lt1 ct1) (.bool t2) (.slice T2 lt2 ct2)))
  clear P2 P3 hs hq hb3 j2
  go_wp2
  exact bodyPost_ret (v := .tuple #[.agg #[.bool t1, .slice T1 lt1 ct1, .bool t2, .slice T2 lt2 ct2], .int .i64 0]) (by simp [results, Tryz.results35, go_sem, i0, i1, i2, i3]) rfl ⟨_, _, _, _, _, _, _, _, u, rfl, HU, m1.out, h11.out⟩

structure Cp (w : World) (g B0 : Nat) (A : Option Addr) (n c : Nat) (B : Option Addr) (d kc : Nat) (X : Nat → Int) (Q : Nat → Rat) (ad : Addr) (i : Nat) (wx : World) : Prop where
  cv : Cv wx B0 A n B n kc X Q
  jc : Bk wx g (.cells #[.slice A n c, .slice B n d] 48 (0, 0))
  s : Es wx B0 ad i (X i)
  r : Bk wx (g + 1) (.cells #[.bool false, .slice none 0 0, .bool false, .slice none 0 0] 26 (0, 0))
  tb : Tb wx
  bl : Below w.heap.size w wx
section
variable {w : World} {g B0 : Nat} {A : Option Addr} {n c : Nat} {B : Option Addr} {d kc : Nat} {X : Nat → Int} {Q : Nat → Rat} {ad : Addr} {i : Nat} {wx wy : World}
theorem Cp.below (h : Cp w g B0 A n c B d kc X Q ad i wx) (hb : Below wx.heap.size wx wy) : Cp w g B0 A n c B d kc X Q ad i wy := ⟨h.cv.below hb, h.jc.step hb, h.s.below hb, h.r.step hb, h.tb.below hb, bthen h.bl hb (Nat.le_refl _)⟩
theorem Cp.cells (h : Cp w g B0 A n c B d kc X Q ad i wx) : wx.cell? ⟨g, 0, none⟩ = some (.slice A n c) ∧ wx.cell? ⟨g, 1, none⟩ = some (.slice B n d) ∧ wx.cell? (ad.add i) = some (.int .i64 (X i)) :=
  ⟨h.jc.c2.1, h.jc.c2.2.1, h.s.s⟩
end

theorem Cp.offr {w wx : World} {g B0 : Nat} {A : Option Addr} {n c : Nat} {B : Option Addr} {d kc : Nat} {X : Nat → Int} {Q : Nat → Rat} {ad : Addr} {i : Nat} (h : Cp w g B0 A n c B d kc X Q ad i wx) (u0 u1 u2 u3 : Value) (hBg : B0 ≤ g + 1) : ((((wx.setCell ⟨g + 1, 0, none⟩ u0).setCell ⟨g + 1, 1, none⟩ u1).setCell ⟨g + 1, 2, none⟩ u2).setCell ⟨g + 1, 3, none⟩ u3).cell? ⟨g, 0, none⟩ = some (.slice A n c) ∧ ((((wx.setCell ⟨g + 1, 0, none⟩ u0).setCell ⟨g + 1, 1, none⟩ u1).setCell ⟨g + 1, 2, none⟩ u2).setCell ⟨g + 1, 3, none⟩ u3).cell? ⟨g, 1, none⟩ = some (.slice B n d) ∧ ((((wx.setCell ⟨g + 1, 0, none⟩ u0).setCell ⟨g + 1, 1, none⟩ u1).setCell ⟨g + 1, 2, none⟩ u2).setCell ⟨g + 1, 3, none⟩ u3).cell? (ad.add i) = some (.int .i64 (X i)) := by
  have la := h.s.la
  have hG := gb4' wx (g + 1) u0 u1 u2 u3
  have l1 := Nat.lt_of_lt_of_le h.s.la h.s.le
  obtain ⟨c0, c1, c2⟩ := h.cells
  exact ⟨gb_cell hG c0 (by omega), gb_cell hG c1 (by omega), cell_grown hG (in_add l1) (ne_add (by omega)) c2⟩
/-- What Capacity says. -/
def Cap (n : Nat) (X : Nat → Int) (Q : Nat → Rat) (t1 : Bool) (T1 : Option Addr) (lt1 ct1 : Nat) (t2 : Bool) (T2 : Option Addr) (lt2 ct2 : Nat) (b : Bool) (w : World) : Prop :=
  (n = 0 ∧ b = true ∧ Qf w t1 T1 lt1 ct1 t2 T2 lt2 ct2 0) ∨ (0 < n ∧ Q (n - 1) ≠ 0 ∧ b = false ∧ t1 = false ∧ T1 = none ∧ lt1 = 0 ∧ ct1 = 0 ∧ t2 = false ∧ T2 = none ∧ lt2 = 0 ∧ ct2 = 0) ∨ (0 < n ∧ Q (n - 1) = 0 ∧ b = true ∧ Qf w t1 T1 lt1 ct1 t2 T2 lt2 ct2 (Kc.pre X Q (n - 1)))
set_option maxRecDepth 100000 in
set_option maxHeartbeats 80000000 in
theorem Capacity_q {w : World} {A : Option Addr} {n c : Nat} {B : Option Addr} {d B0 kc : Nat} {X : Nat → Int} {Q : Nat → Rat} (h : Cv w B0 A n B n kc X Q) (ok : Okc n X Q) (hkc : 0 < kc) (hsz : kc + 2 ≤ 29) (hT : Tb w) :
    Calls Tryz.prog 38 #[.agg #[.slice A n c, .slice B n d]] w fun e w' => ∃ t1 T1 lt1 ct1 t2 T2 lt2 ct2 b, e = .returned (.tuple #[.agg #[.bool t1, .slice T1 lt1 ct1, .bool t2, .slice T2 lt2 ct2], .bool b, .int .i64 0]) ∧ Cap n X Q t1 T1 lt1 ct1 t2 T2 lt2 ct2 b w' ∧ Below w.heap.size w w' := by
  have b0 := two_new w (.cells #[.slice A n c, .slice B n d] 48) (.cells #[.bool false, .slice none 0 0, .bool false, .slice none 0 0] 26)
  have hB := below_two w (.cells #[.slice A n c, .slice B n d] 48) (.cells #[.bool false, .slice none 0 0, .bool false, .slice none 0 0] 26)
  obtain ⟨g, hg⟩ : ∃ g, w.heap.size = g := ⟨_, rfl⟩
  go_enter Tryz.func38, Tryz.ntmps38
  go_wp2_with fail
  rw [hg] at b0
  generalize (w.alloc (.cells #[.slice A n c, .slice B n d] 48)).alloc (.cells #[.bool false, .slice none 0 0, .bool false, .slice none 0 0] 26) = W0 at *
  have h1 := h.below hB
  have T1' := hT.below hB
  have HBg := hid (show B0 ≤ g + 1 by have := h.le; omega)
  have jc : Bk W0 g _ := b0.1
  have j0 : Bk W0 (g + 1) _ := b0.2
  have OK := hid ok
  have HB := hid hB
  have Hg := hid hg
  have hfew := ok.few
  clear h hB b0 hg ok hT
  refine (CheckCurve_ok h1 hkc OK.out).mono ?_
  rintro e w1 ⟨rfl, hb1⟩
  replace h1 := h1.below hb1
  replace T1' := T1'.below hb1
  replace jc := jc.step hb1
  replace j0 := j0.step hb1
  have HB1 := hid (bthen HB.out hb1 (Nat.le_refl _))
  clear hb1 HB
  obtain ⟨x0, x1, -, -⟩ := jc.c2
  by_cases hn0 : n = 0
  · subst hn0
    go_wp2_with fail
    refine (number_q 0 _ (by decide) (by decide)).mono ?_
    rintro e w3 ⟨t1, T1, lt1, ct1, t2, T2, lt2, ct2, rfl, hq, hb3⟩
    have j2 := j0.step hb3
    have hl7 := j2.lt
    obtain ⟨i0, i1, i2, i3, i4, i5, i6, i7⟩ := j2.c4
    have h11 := hid (below4 (bthen HB1.out hb3 (Nat.le_refl _)) (show w.heap.size ≤ g + 1 by have := Hg.out; omega) (.bool t1) (.slice T1 lt1 ct1) (.bool t2) (.slice T2 lt2 ct2))
    have m1 := hid (hq.offbox j2 (noInt_four _ _ _ _ _ _ _ _) (gb4' _ _ (.bool t1) (.slice T1 lt1 ct1) (.bool t2) (.slice T2 lt2 ct2)))
    clear h1 T1' jc j0 hq hb3 j2 x0 x1
    go_wp2
    exact bodyPost_ret (v := .tuple #[.agg #[.bool t1, .slice T1 lt1 ct1, .bool t2, .slice T2 lt2 ct2], .bool true, .int .i64 0]) (by simp [results, Tryz.results38, go_sem, i0, i1, i2, i3]) rfl ⟨_, _, _, _, _, _, _, _, _, rfl, .inl ⟨rfl, rfl, m1.out⟩, h11.out⟩
  · have hpos : 0 < n := by omega
    have hn1 : (1 : Int) ≤ (n : Int) := by omega
    have hnn : n - 1 < n := by omega
    have hd1 : decide ((n : Int) - 1 < 0) = false := decide_eq_false (by omega)
    obtain ⟨bd, s1, S1, ls1, cs1, s2, S2, ls2, cs2, hBd, E⟩ := h1.el hnn
    obtain ⟨ad, hA, S0⟩ := h1.es hnn
    obtain ⟨i, hi⟩ : ∃ i, n - 1 = i := ⟨_, rfl⟩
    have Hi := hid hi
    rw [hi] at E S0 hnn
    have q0 := E.q0
    have q1 := E.q1
    have q2 := E.q2
    have q3 := E.q3
    have hQ0 := hid (OK.out.pos i hnn)
    have hn0' := hid hn0
    have hx := OK.out.far i hnn
    have LX := OK.out.ql hnn
    subst hA; subst hBd
    clear hn0
    by_cases hq0 : Q i = 0
    · have hsg : decide (0 < cmpQ (Q i) 0) = false := decide_eq_false (by rw [hq0, cmpQ_self]; decide)
      have HQ := hid hq0
      clear hq0
      go_wp2_with fail
      refine (ratSign_q E.r.q hkc).mono ?_
      rintro e w2 ⟨rfl, hb2⟩
      have P2 : Cp w g B0 (some ad) n c (some bd) d kc X Q ad i w2 := ⟨h1.below hb2, jc.step hb2, S0.below hb2, j0.step hb2, T1'.below hb2, bthen HB1.out hb2 (Nat.le_refl _)⟩
      clear h1 jc S0 j0 T1' HB1 hb2 x0 x1 q0 q1 q2 q3 E
      go_upto_region 9 with fail
      have R0 := P2.below (dr0 (W := w2))
      clear P2
      have hcells := R0.cells
      have HV := hid (Kc.vl_at (Q := Q) OK.out.inc hnn)
      have hz0 : (0 : Int) ≤ (n : Int) - 1 := by omega
      have hzl : (n : Int) - 1 < (n : Int) := by omega
      have hzt : ((n : Int) - 1).toNat = i := by omega
      go_region_held3 (fun w' => w'.cell? ⟨g, 0, none⟩ = some (.slice (some ad) n c) ∧ w'.cell? ⟨g, 1, none⟩ = some (.slice (some bd) n d) ∧ w'.cell? (ad.add i) = some (.int .i64 (X i))) (first | with_reducible exact Cp.cells R0 | with_reducible exact Cp.cells R1 | with_reducible exact Cp.cells R2 | exact HS2.out) (first
        | (go_at_call 87; with_reducible refine (number_q (X i) _ (by omega) (by omega)).mono ?_; rintro e wv1 ⟨r1, R1', o1, e1, r2, R2', o2, e2, rfl, h4, hb1⟩; have R1 := R0.below hb1)
        | (go_at_call 80; with_reducible refine (along_rise R1.cv (Nat.le_refl _) OK.out (h4.qi LX) hkc (by decide) hsz R1.tb).mono ?_; rintro e wv2 ⟨t1, T1, lt1, ct1, t2, T2, lt2, ct2, rfl, hq, hb2⟩; have R2 := R1.below hb2; have hlj := R2.r.lt; obtain ⟨i0, i1, i2, i3, i4, i5, i6, i7⟩ := R2.r.c4; have HS2 := hid (R2.offr (.bool t1) (.slice T1 lt1 ct1) (.bool t2) (.slice T2 lt2 ct2) HBg.out)))
      rw [HV.out] at hq
      have j2 := R2.r
      have h11 := hid (below4 R2.bl (show w.heap.size ≤ g + 1 by have := Hg.out; omega) (.bool t1) (.slice T1 lt1 ct1) (.bool t2) (.slice T2 lt2 ct2))
      have m1 := hid (hq.offbox j2 (noInt_four _ _ _ _ _ _ _ _) (gb4' _ _ (.bool t1) (.slice T1 lt1 ct1) (.bool t2) (.slice T2 lt2 ct2)))
      clear R0 R1 R2 hq hb1 hb2 h4 j2 hcells
      go_wp2
      exact bodyPost_ret (v := .tuple #[.agg #[.bool t1, .slice T1 lt1 ct1, .bool t2, .slice T2 lt2 ct2], .bool true, .int .i64 0]) (by simp [results, Tryz.results38, go_sem, i0, i1, i2, i3]) rfl ⟨_, _, _, _, _, _, _, _, _, rfl, .inr (.inr ⟨hpos, by rw [Hi.out]; exact HQ.out, rfl, by rw [Hi.out]; exact m1.out⟩), h11.out⟩
    · have hsg : decide (0 < cmpQ (Q i) 0) = true := decide_eq_true (cmpQ_gt (by have := hQ0.out; grind))
      have HQ := hid hq0
      clear hq0
      go_wp2_with fail
      refine (ratSign_q E.r.q hkc).mono ?_
      rintro e w2 ⟨rfl, hb2⟩
      have j2 := j0.step hb2
      have hl7 := j2.lt
      obtain ⟨i0, i1, i2, i3, i4, i5, i6, i7⟩ := j2.c4
      have h11 := hid (below4 (bthen HB1.out hb2 (Nat.le_refl _)) (show w.heap.size ≤ g + 1 by have := Hg.out; omega) (.bool false) (.slice none 0 0) (.bool false) (.slice none 0 0))
      clear h1 jc S0 j0 T1' HB1 hb2 x0 x1 q0 q1 q2 q3 E j2
      go_wp2
      exact bodyPost_ret (v := .tuple #[.agg #[.bool false, .slice none 0 0, .bool false, .slice none 0 0], .bool false, .int .i64 0]) (by simp [results, Tryz.results38, go_sem, i0, i1, i2, i3]) rfl ⟨_, _, _, _, _, _, _, _, _, rfl, .inr (.inl ⟨hpos, by rw [Hi.out]; exact HQ.out, rfl, rfl, rfl, rfl, rfl, rfl, rfl, rfl, rfl⟩), h11.out⟩

set_option maxRecDepth 100000 in
set_option maxHeartbeats 80000000 in
theorem rCapacity {w : World} {A : Option Addr} {n c : Nat} {B : Option Addr} {d B0 kc : Nat} {X : Nat → Int} {Q : Nat → Rat} (h : Cv w B0 A n B n kc X Q) (ok : Okc n X Q) (hkc : 0 < kc) (hsz : kc + 2 ≤ 26) (hT : Tb w) :
    Calls Tryz.prog 41 #[.agg #[.slice A n c, .slice B n d]] w fun e w' => ∃ t1 T1 lt1 ct1 t2 T2 lt2 ct2 b, e = .returned (.tuple #[.agg #[.bool t1, .slice T1 lt1 ct1, .bool t2, .slice T2 lt2 ct2], .bool b]) ∧ Cap n X Q t1 T1 lt1 ct1 t2 T2 lt2 ct2 b w' ∧ Below w.heap.size w w' := by
  have b0 := two_new w (.cells #[.slice A n c, .slice B n d] 48) (.cells #[.bool false, .slice none 0 0, .bool false, .slice none 0 0] 26)
  have hB := below_two w (.cells #[.slice A n c, .slice B n d] 48) (.cells #[.bool false, .slice none 0 0, .bool false, .slice none 0 0] 26)
  obtain ⟨g, hg⟩ : ∃ g, w.heap.size = g := ⟨_, rfl⟩
  go_enter Tryz.func41, Tryz.ntmps41
  go_upto_region 1 with fail
  rw [hg] at b0
  generalize (w.alloc (.cells #[.slice A n c, .slice B n d] 48)).alloc (.cells #[.bool false, .slice none 0 0, .bool false, .slice none 0 0] 26) = W0 at *
  have h1 := h.below hB
  have T1' := hT.below hB
  have HBg := hid (show B0 ≤ g + 1 by have := h.le; omega)
  have jc : Bk W0 g _ := b0.1
  have j0 : Bk W0 (g + 1) _ := b0.2
  have OK := hid ok
  have HB := hid hB
  have Hg := hid hg
  have hfew := ok.few
  clear h hB b0 hg ok hT
  have HB1 := hid HB.out
  clear HB
  obtain ⟨x0, x1, -, -⟩ := jc.c2
  by_cases hn0 : n = 0
  · subst hn0
    go_wp2_with fail
    refine (rQ 0 _ (by decide) (by decide)).mono ?_
    rintro e w3 ⟨t1, T1, lt1, ct1, t2, T2, lt2, ct2, rfl, hq, hb3⟩
    have j2 := j0.step hb3
    have hl7 := j2.lt
    obtain ⟨i0, i1, i2, i3, i4, i5, i6, i7⟩ := j2.c4
    have h11 := hid (below4 (bthen HB1.out hb3 (Nat.le_refl _)) (show w.heap.size ≤ g + 1 by have := Hg.out; omega) (.bool t1) (.slice T1 lt1 ct1) (.bool t2) (.slice T2 lt2 ct2))
    have m1 := hid (hq.offbox j2 (noInt_four _ _ _ _ _ _ _ _) (gb4' _ _ (.bool t1) (.slice T1 lt1 ct1) (.bool t2) (.slice T2 lt2 ct2)))
    clear h1 T1' jc j0 hq hb3 j2 x0 x1
    go_wp2
    exact bodyPost_ret (v := .tuple #[.agg #[.bool t1, .slice T1 lt1 ct1, .bool t2, .slice T2 lt2 ct2], .bool true]) (by simp [results, Tryz.results41, go_sem, i0, i1, i2, i3]) rfl ⟨_, _, _, _, _, _, _, _, _, rfl, .inl ⟨rfl, rfl, m1.out⟩, h11.out⟩
  · have hpos : 0 < n := by omega
    have hn1 : (1 : Int) ≤ (n : Int) := by omega
    have hnn : n - 1 < n := by omega
    have hn3 : ((n : Int) == 0) = false := by rw [beq_eq_false_iff_ne]; omega
    have hd1 : decide ((n : Int) - 1 < 0) = false := decide_eq_false (by omega)
    obtain ⟨bd, s1, S1, ls1, cs1, s2, S2, ls2, cs2, hBd, E⟩ := h1.el hnn
    obtain ⟨ad, hA, S0⟩ := h1.es hnn
    obtain ⟨i, hi⟩ : ∃ i, n - 1 = i := ⟨_, rfl⟩
    have Hi := hid hi
    rw [hi] at E S0 hnn
    have q0 := E.q0
    have q1 := E.q1
    have q2 := E.q2
    have q3 := E.q3
    have hQ0 := hid (OK.out.pos i hnn)
    have hn0' := hid hn0
    have hx := OK.out.far i hnn
    have LX := OK.out.ql hnn
    subst hA; subst hBd
    have hn5 : ¬ ((n : Int) = 0) := by omega
    by_cases hq0 : Q i = 0
    · have hsg : (Q i).num.sign = 0 := by rw [hq0]; rfl
      have HQ := hid hq0
      clear hq0
      go_wp2_with fail
      refine (rSignRat E.r hkc (by omega)).mono ?_
      rintro e w2 ⟨rfl, hb2⟩
      have P2 : Cp w g B0 (some ad) n c (some bd) d kc X Q ad i w2 := ⟨h1.below hb2, jc.step hb2, S0.below hb2, j0.step hb2, T1'.below hb2, bthen HB1.out hb2 (Nat.le_refl _)⟩
      clear h1 jc S0 j0 T1' HB1 hb2 x0 x1 q0 q1 q2 q3 E
      go_upto_region 9 with fail
      have R0 := P2.below (dr0 (W := w2))
      clear P2
      have hcells := R0.cells
      have HV := hid (Kc.vl_at (Q := Q) OK.out.inc hnn)
      have hz0 : (0 : Int) ≤ (n : Int) - 1 := by omega
      have hzl : (n : Int) - 1 < (n : Int) := by omega
      have hzt : ((n : Int) - 1).toNat = i := by omega
      have hwr : IntKind.i64.wrap ((n : Int) - 1) = (n : Int) - 1 := by rw [IntKind.wrap_i64]; omega
      go_region_held3 (fun w' => w'.cell? ⟨g, 0, none⟩ = some (.slice (some ad) n c) ∧ w'.cell? ⟨g, 1, none⟩ = some (.slice (some bd) n d) ∧ w'.cell? (ad.add i) = some (.int .i64 (X i))) (first | with_reducible exact Cp.cells R0 | with_reducible exact Cp.cells R1 | with_reducible exact Cp.cells R2 | exact HS2.out) (first
        | (go_at_call 88; with_reducible refine (rQ (X i) _ (by omega) (by omega)).mono ?_; rintro e wv1 ⟨r1, R1', o1, e1, r2, R2', o2, e2, rfl, h4, hb1⟩; have R1 := R0.below hb1)
        | (go_at_call 42; with_reducible refine (rValue R1.cv OK.out (h4.ri LX (by decide)) hkc (by decide) hsz R1.tb).mono ?_; rintro e wv2 ⟨t1, T1, lt1, ct1, t2, T2, lt2, ct2, rfl, hq, hb2⟩; have R2 := R1.below hb2; have hlj := R2.r.lt; obtain ⟨i0, i1, i2, i3, i4, i5, i6, i7⟩ := R2.r.c4; have HS2 := hid (R2.offr (.bool t1) (.slice T1 lt1 ct1) (.bool t2) (.slice T2 lt2 ct2) HBg.out)))
      rw [HV.out] at hq
      have j2 := R2.r
      have h11 := hid (below4 R2.bl (show w.heap.size ≤ g + 1 by have := Hg.out; omega) (.bool t1) (.slice T1 lt1 ct1) (.bool t2) (.slice T2 lt2 ct2))
      have m1 := hid (hq.offbox j2 (noInt_four _ _ _ _ _ _ _ _) (gb4' _ _ (.bool t1) (.slice T1 lt1 ct1) (.bool t2) (.slice T2 lt2 ct2)))
      clear R0 R1 R2 hq hb1 hb2 h4 j2 hcells
      go_wp2
      exact bodyPost_ret (v := .tuple #[.agg #[.bool t1, .slice T1 lt1 ct1, .bool t2, .slice T2 lt2 ct2], .bool true]) (by simp [results, Tryz.results41, go_sem, i0, i1, i2, i3]) rfl ⟨_, _, _, _, _, _, _, _, _, rfl, .inr (.inr ⟨hpos, by rw [Hi.out]; exact HQ.out, rfl, by rw [Hi.out]; exact m1.out⟩), h11.out⟩
    · have hsg : (Q i).num.sign = 1 := Int.sign_eq_one_of_pos (by have h0 := hQ0.out; have h1 := Rat.num_nonneg.2 h0; have h2 : (Q i).num ≠ 0 := fun e => hq0 (Rat.num_eq_zero.1 e); omega)
      have HQ := hid hq0
      clear hq0
      go_wp2_with fail
      refine (rSignRat E.r hkc (by omega)).mono ?_
      rintro e w2 ⟨rfl, hb2⟩
      have j2 := j0.step hb2
      have hl7 := j2.lt
      obtain ⟨i0, i1, i2, i3, i4, i5, i6, i7⟩ := j2.c4
      have h11 := hid (below4 (bthen HB1.out hb2 (Nat.le_refl _)) (show w.heap.size ≤ g + 1 by have := Hg.out; omega) (.bool false) (.slice none 0 0) (.bool false) (.slice none 0 0))
      clear h1 jc S0 j0 T1' HB1 hb2 x0 x1 q0 q1 q2 q3 E j2
      go_wp2
      exact bodyPost_ret (v := .tuple #[.agg #[.bool false, .slice none 0 0, .bool false, .slice none 0 0], .bool false]) (by simp [results, Tryz.results41, go_sem, i0, i1, i2, i3]) rfl ⟨_, _, _, _, _, _, _, _, _, rfl, .inr (.inl ⟨hpos, by rw [Hi.out]; exact HQ.out, rfl, rfl, rfl, rfl, rfl, rfl, rfl, rfl, rfl⟩), h11.out⟩

structure Ps (w : World) (g B0 : Nat) (A : Option Addr) (n c : Nat) (B : Option Addr) (m d kc : Nat) (X : Nat → Int) (Q : Nat → Rat) (y1 : Bool) (Y1 : Option Addr) (ly1 cy1 : Nat) (y2 : Bool) (Y2 : Option Addr) (ly2 cy2 : Nat) (k : Nat) (y : Rat) (ad : Addr) (i : Nat) (wx : World) : Prop where
  al : Al w g B0 A n c B m d kc X Q y1 Y1 ly1 cy1 y2 Y2 ly2 cy2 k y wx
  s : Es wx B0 ad i (X i)
section
variable {w : World} {g B0 : Nat} {A : Option Addr} {n c : Nat} {B : Option Addr} {m d kc : Nat} {X : Nat → Int} {Q : Nat → Rat} {y1 : Bool} {Y1 : Option Addr} {ly1 cy1 : Nat} {y2 : Bool} {Y2 : Option Addr} {ly2 cy2 : Nat} {k : Nat} {y : Rat} {ad : Addr} {i : Nat} {wx wy : World}
theorem Ps.below (h : Ps w g B0 A n c B m d kc X Q y1 Y1 ly1 cy1 y2 Y2 ly2 cy2 k y ad i wx) (hb : Below wx.heap.size wx wy) : Ps w g B0 A n c B m d kc X Q y1 Y1 ly1 cy1 y2 Y2 ly2 cy2 k y ad i wy := ⟨h.al.below hb, h.s.below hb⟩
theorem Ps.cells (h : Ps w g B0 A n c B m d kc X Q y1 Y1 ly1 cy1 y2 Y2 ly2 cy2 k y ad i wx) : wx.cell? ⟨g, 0, none⟩ = some (.slice A n c) ∧ wx.cell? (ad.add i) = some (.int .i64 (X i)) ∧ wx.cell? ⟨g + 1, 0, none⟩ = some (.bool y1) ∧ wx.cell? ⟨g + 1, 1, none⟩ = some (.slice Y1 ly1 cy1) ∧ wx.cell? ⟨g + 1, 2, none⟩ = some (.bool y2) ∧ wx.cell? ⟨g + 1, 3, none⟩ = some (.slice Y2 ly2 cy2) :=
  ⟨h.al.jc.c2.1, h.s.s, h.al.jy.c4.1, h.al.jy.c4.2.1, h.al.jy.c4.2.2.1, h.al.jy.c4.2.2.2.1⟩
end

/-- The number of starts that have been gone through and count. -/
def mn (i u : Nat) : Nat := if i ≤ u then i else u
theorem slq_step {n : Nat} {X : Nat → Int} {Q : Nat → Rat} {y : Rat} {u i : Nat} (hu : Upto n X y u) (hi : i < n) (h : (X i : Rat) ≤ y) : slq Q (mn (i + 1) u) = Q i := by
  have h1 : i < u := by
    rcases Nat.lt_or_ge i u with h1 | h1
    · exact h1
    · have := hu.hi i h1 hi; grind
  have e : mn (i + 1) u = i + 1 := if_pos (by omega)
  rw [e]
  unfold slq
  rw [if_neg (by omega)]
  rfl
theorem slq_zero {Q : Nat → Rat} {u : Nat} : slq Q (mn 0 u) = ((0 : Int) : Rat) := by
  have e : mn 0 u = 0 := if_pos (Nat.zero_le _)
  rw [e]
  unfold slq
  rw [if_pos rfl]
  rfl
theorem slq_stay {n : Nat} {X : Nat → Int} {y : Rat} {u i : Nat} (hu : Upto n X y u) (h : ¬ (X i : Rat) ≤ y) : mn (i + 1) u = mn i u := by
  have h1 : u ≤ i := by
    rcases Nat.lt_or_ge i u with h1 | h1
    · exact absurd (hu.lo i h1) h
    · exact h1
  unfold mn
  by_cases h2 : i ≤ u
  · have : i = u := by omega
    subst this
    rw [if_neg (by omega), if_pos (by omega)]
  · rw [if_neg (by omega), if_neg (by omega)]
set_option maxRecDepth 100000 in
set_option maxHeartbeats 80000000 in
theorem rSlope {w : World} {A : Option Addr} {n c : Nat} {B : Option Addr} {d B0 kc k : Nat} {X : Nat → Int} {Q : Nat → Rat} {y : Rat} {y1 : Bool} {Y1 : Option Addr} {ly1 cy1 : Nat} {y2 : Bool} {Y2 : Option Addr} {ly2 cy2 : Nat} (h : Cv w B0 A n B n kc X Q) (ok : Okc n X Q) (k0 : Ri w y1 Y1 ly1 cy1 y2 Y2 ly2 cy2 k y) (hkc : kc ≤ 400) (hk0 : 2 ≤ k) (hk : k ≤ 200) (hT : Tb w) {u : Nat} (hu : Upto n X y u) :
    Calls Tryz.prog 43 #[.agg #[.slice A n c, .slice B n d], .agg #[.bool y1, .slice Y1 ly1 cy1, .bool y2, .slice Y2 ly2 cy2]] w fun e w' => ∃ t1 T1 lt1 ct1 t2 T2 lt2 ct2, e = .returned (.agg #[.bool t1, .slice T1 lt1 ct1, .bool t2, .slice T2 lt2 ct2]) ∧ Qf w' t1 T1 lt1 ct1 t2 T2 lt2 ct2 (slq Q u) ∧ Below w.heap.size w w' := by
  have b0 := three_new w (.cells #[.slice A n c, .slice B n d] 48) (.cells #[.bool y1, .slice Y1 ly1 cy1, .bool y2, .slice Y2 ly2 cy2] 26) (.cells #[.bool false, .slice none 0 0, .bool false, .slice none 0 0] 26)
  have hB := (((Below.refl w.heap.size w).alloc (Nat.le_refl _) (.cells #[.slice A n c, .slice B n d] 48)).alloc (by simp) (.cells #[.bool y1, .slice Y1 ly1 cy1, .bool y2, .slice Y2 ly2 cy2] 26)).alloc (by simp; omega) (.cells #[.bool false, .slice none 0 0, .bool false, .slice none 0 0] 26)
  obtain ⟨g, hg⟩ : ∃ g, w.heap.size = g := ⟨_, rfl⟩
  have hw1 := k0.h1
  have hw2 := k0.h2
  have hn12 := ok.few
  have HU := hid hu
  clear hu
  go_enter Tryz.func43, Tryz.ntmps43
  go_wp2_with fail
  rw [hg] at b0
  generalize ((w.alloc (.cells #[.slice A n c, .slice B n d] 48)).alloc (.cells #[.bool y1, .slice Y1 ly1 cy1, .bool y2, .slice Y2 ly2 cy2] 26)).alloc (.cells #[.bool false, .slice none 0 0, .bool false, .slice none 0 0] 26) = W0 at *
  have hle := h.le
  have hTl := hT.2
  have P0 : Al w g B0 A n c B n d kc X Q y1 Y1 ly1 cy1 y2 Y2 ly2 cy2 k y W0 := ⟨h.below hB, b0.1, b0.2.1, b0.2.2, k0.q.below hB, hT.below hB, hB⟩
  have OK := hid ok
  have Hg := hid (show w.heap.size = g ∧ B0 ≤ g ∧ 0 < g from ⟨hg, by omega, by omega⟩)
  clear h k0 hT hB hg b0 ok hle hTl
  refine (rQ 0 _ (by decide) (by decide)).mono ?_
  rintro e w1 ⟨o1, O1, lo1, co1, o2, O2, lo2, co2, rfl, hq0, hb1⟩
  have P1 := (P0.below hb1).below (alo (o := (.cells #[.bool o1, .slice O1 lo1 co1, .bool o2, .slice O2 lo2 co2] 26)))
  have j5 := Jq.made hq0
  have hg5 : g + 1 + 1 < w1.heap.size := (P0.below hb1).jr.lt
  clear P0 hb1 hq0
  go_upto_region 2 with fail
  generalize w1.alloc (.cells #[.bool o1, .slice O1 lo1 co1, .bool o2, .slice O2 lo2 co2] 26) = W1 at *
  generalize w1.heap.size = g5 at *
  go_wp2
  go_loopw [6] (fun iv wr => ∃ (i : Nat) (o1 : Bool) (O1 : Option Addr) (lo1 co1 : Nat) (o2 : Bool) (O2 : Option Addr) (lo2 co2 : Nat), i ≤ n ∧ iv = .int .i64 ((i : Nat) : Int) ∧ Al w g B0 A n c B n d kc X Q y1 Y1 ly1 cy1 y2 Y2 ly2 cy2 k y wr ∧ Jq wr g5 o1 O1 lo1 co1 o2 O2 lo2 co2 (slq Q (mn i u))) (fun iv _ => n - (intOf iv).toNat)
  case atStart => exact ⟨0, o1, O1, lo1, co1, o2, O2, lo2, co2, Nat.zero_le _, rfl, P1, by rw [slq_zero]; exact j5⟩
  case round =>
    obtain ⟨i, o1, O1, lo1, co1, o2, O2, lo2, co2, hi', rfl, P, jo⟩ := hrel
    clear P1 j5
    obtain ⟨x0, x1, -, -⟩ := P.jc.c2
    by_cases hi : i < n
    · obtain ⟨ad, hA, es⟩ := P.cv.es hi
      have LX := OK.out.ql hi
      have hx := OK.out.far i hi
      subst hA
      have D0 : Ps w g B0 (some ad) n c B n d kc X Q y1 Y1 ly1 cy1 y2 Y2 ly2 cy2 k y ad i wr.drew := Ps.below ⟨P, es⟩ (dr0 (W := wr))
      have jo1 := jo.below (dr0 (W := wr))
      by_cases hc : (X i : Rat) ≤ y
      · have hd : decide (cmpQ ((X i : Int) : Rat) y ≤ 0) = true := decide_eq_true (by have := cmpQ_le hc; omega)
        have HE := hid (slq_step (Q := Q) HU.out hi hc)
        clear hc
        go_upto_region 5 with fail
        clear P es jo x0 x1
        have hcells := D0.cells
        go_region_held3 (fun w' => w'.cell? ⟨g, 0, none⟩ = some (.slice (some ad) n c) ∧ w'.cell? (ad.add i) = some (.int .i64 (X i)) ∧ w'.cell? ⟨g + 1, 0, none⟩ = some (.bool y1) ∧ w'.cell? ⟨g + 1, 1, none⟩ = some (.slice Y1 ly1 cy1) ∧ w'.cell? ⟨g + 1, 2, none⟩ = some (.bool y2) ∧ w'.cell? ⟨g + 1, 3, none⟩ = some (.slice Y2 ly2 cy2)) (first | with_reducible exact Ps.cells D0 | with_reducible exact Ps.cells D1 | with_reducible exact Ps.cells D2) (first
          | (go_at_call 88; with_reducible refine (rQ (X i) _ (by omega) (by omega)).mono ?_; rintro e wv1 ⟨r1, R1', o3, e1', r2, R2', o4, e2', rfl, h4, hb1⟩; have D1 := D0.below hb1)
          | (go_at_call 26; with_reducible refine (rCmpRat (h4.ri LX (by decide)) (Ri.mk D1.al.qy hw1 hw2) (by decide) (by omega) (by decide) (by omega) (by omega)).mono ?_; rintro e wv2 ⟨rfl, hb2⟩; have D2 := D1.below hb2))
        have jo2 := (jo1.below hb1).below hb2
        have PP := D2.al
        clear D0 D1 D2 hcells h4 hb1 hb2 jo1
        obtain ⟨bd, s1, S1, ls1, cs1, s2, S2, ls2, cs2, hBd, el⟩ := PP.cv.el hi
        obtain ⟨x0, x1, -, -⟩ := PP.jc.c2
        have q0 := el.q0
        have q1 := el.q1
        have q2 := el.q2
        have q3 := el.q3
        subst hBd
        go_wp2_with fail
        refine (rNormRat el.r (by omega)).mono ?_
        rintro e w3 ⟨t1, T1, lt1, ct1, t2, T2, lt2, ct2, rfl, hq, hb3⟩
        have P3 := PP.below hb3
        have j3 := jo2.below hb3
        have hlj := j3.b.lt
        obtain ⟨k0, k1, k2, k3, k4, k5, k6, k7⟩ := j3.b.c4
        have HP := hid (P3.offb j3.b (noInt_four _ _ _ _ _ _ _ _) (gb4' w3 g5 (.bool t1) (.slice T1 lt1 ct1) (.bool t2) (.slice T2 lt2 ct2)) ⟨Hg.out.1, Hg.out.2.1, hg5, Nat.lt_trans Hg.out.2.2 (by omega)⟩)
        have HJ := hid (j3.put2 hq)
        clear PP jo2 P3 j3 hq hb3 el q0 q1 q2 q3 x0 x1
        go_wp2
        go_roundw
        case rel => exact ⟨i + 1, t1, T1, lt1, ct1, t2, T2, lt2, ct2, by omega, by go_num, HP.out, by rw [HE.out]; exact HJ.out⟩
        case measure => simp [intOf]; omega
      · have hd : decide (cmpQ ((X i : Int) : Rat) y ≤ 0) = false := decide_eq_false (by have := cmpQ_gt (Rat.not_le.1 hc); omega)
        have HE := hid (slq_stay HU.out hc)
        clear hc
        go_upto_region 5 with fail
        clear P es jo x0 x1
        have hcells := D0.cells
        go_region_held3 (fun w' => w'.cell? ⟨g, 0, none⟩ = some (.slice (some ad) n c) ∧ w'.cell? (ad.add i) = some (.int .i64 (X i)) ∧ w'.cell? ⟨g + 1, 0, none⟩ = some (.bool y1) ∧ w'.cell? ⟨g + 1, 1, none⟩ = some (.slice Y1 ly1 cy1) ∧ w'.cell? ⟨g + 1, 2, none⟩ = some (.bool y2) ∧ w'.cell? ⟨g + 1, 3, none⟩ = some (.slice Y2 ly2 cy2)) (first | with_reducible exact Ps.cells D0 | with_reducible exact Ps.cells D1 | with_reducible exact Ps.cells D2) (first
          | (go_at_call 88; with_reducible refine (rQ (X i) _ (by omega) (by omega)).mono ?_; rintro e wv1 ⟨r1, R1', o3, e1', r2, R2', o4, e2', rfl, h4, hb1⟩; have D1 := D0.below hb1)
          | (go_at_call 26; with_reducible refine (rCmpRat (h4.ri LX (by decide)) (Ri.mk D1.al.qy hw1 hw2) (by decide) (by omega) (by decide) (by omega) (by omega)).mono ?_; rintro e wv2 ⟨rfl, hb2⟩; have D2 := D1.below hb2))
        have jo2 := (jo1.below hb1).below hb2
        have PP := D2.al
        clear D0 D1 D2 hcells h4 hb1 hb2 jo1
        have HP := hid PP
        have HJ := hid jo2
        clear PP jo2
        go_wp2
        go_roundw
        case rel => exact ⟨i + 1, o1, O1, lo1, co1, o2, O2, lo2, co2, by omega, by go_num, HP.out, by rw [HE.out]; exact HJ.out⟩
        case measure => simp [intOf]; omega
    · have hin : n = i := by omega
      subst hin
      have j2 := P.jr
      have hl7 := j2.lt
      have e0 : mn n u = u := by unfold mn; have := HU.out.le; split <;> omega
      rw [e0] at jo
      obtain ⟨i0, i1, i2, i3, i4, i5, i6, i7⟩ := j2.c4
      obtain ⟨k0, k1, k2, k3, -, -, -, -⟩ := jo.b.c4
      have h11 := hid (below4 P.bl (show w.heap.size ≤ g + 1 + 1 by have := Hg.out.1; omega) (.bool o1) (.slice O1 lo1 co1) (.bool o2) (.slice O2 lo2 co2))
      have m1 := hid (jo.z.offbox j2 (noInt_four _ _ _ _ _ _ _ _) (gb4' _ _ (.bool o1) (.slice O1 lo1 co1) (.bool o2) (.slice O2 lo2 co2)))
      clear P jo j2 e0
      go_wp2
      exact bodyPost_ret (v := .agg #[.bool o1, .slice O1 lo1 co1, .bool o2, .slice O2 lo2 co2]) (by simp [results, Tryz.results43, go_sem, i0, i1, i2, i3]) rfl ⟨_, _, _, _, _, _, _, _, rfl, m1.out, h11.out⟩

theorem rz_zero (w : World) : Rz w (.agg #[.bool false, .slice none 0 0, .bool false, .slice none 0 0]) 0 0 := ⟨false, none, 0, 0, false, none, 0, 0, rfl, hid rfl, hid rfl, nm_nil w, nm_nil w⟩
set_option maxRecDepth 100000 in
set_option maxHeartbeats 20000000 in
theorem rat_err (w : World) {r : Int} (h0 : r ≠ 0) (h1 : 0 ≤ r) (h2 : r ≤ 1000) :
    Calls Tryz.prog 12 #[.agg #[.bool false, .slice none 0 0, .bool false, .slice none 0 0], .int .i64 r, .agg #[.bool false, .slice none 0 0, .bool false, .slice none 0 0], .int .i64 r] w fun e w' => e = .returned (.bool true) ∧ Below w.heap.size w w' := by
  have hB := below_two w (.cells #[.bool false, .slice none 0 0, .bool false, .slice none 0 0] 26) (.cells #[.bool false, .slice none 0 0, .bool false, .slice none 0 0] 26)
  have hW : IntKind.i64.wrap r = r := by rw [IntKind.wrap_i64]; omega
  have hz : (r == 0) = false := beq_eq_false_iff_ne.2 h0
  have hd : decide (r = 0) = false := decide_eq_false h0
  go_enter Tryz.func12, Tryz.ntmps12
  go_wp2_with fail
  refine (SameRat_true (rz_zero _) (rz_zero _)).mono ?_
  rintro e w1 ⟨rfl, hb1⟩
  have hE := bthen hB hb1 (Nat.le_refl _)
  clear hB hb1
  go_wp2
  go_ret
  exact ⟨rfl, hE⟩
set_option maxRecDepth 100000 in
set_option maxHeartbeats 20000000 in
theorem rat_ok {w : World} {s1 : Bool} {A1 : Option Addr} {n1 c1 : Nat} {s2 : Bool} {A2 : Option Addr} {n2 c2 : Nat} {t1 : Bool} {B1 : Option Addr} {m1 d1 : Nat} {t2 : Bool} {B2 : Option Addr} {m2 d2 : Nat} {x y : Rat} (h : Qf w s1 A1 n1 c1 s2 A2 n2 c2 x) (g0 : Qf w t1 B1 m1 d1 t2 B2 m2 d2 y) (exy : x = y) :
    Calls Tryz.prog 12 #[.agg #[.bool s1, .slice A1 n1 c1, .bool s2, .slice A2 n2 c2], .int .i64 0, .agg #[.bool t1, .slice B1 m1 d1, .bool t2, .slice B2 m2 d2], .int .i64 0] w fun e w' => e = .returned (.bool true) ∧ Below w.heap.size w w' := by
  have hB := below_two w (.cells #[.bool s1, .slice A1 n1 c1, .bool s2, .slice A2 n2 c2] 26) (.cells #[.bool t1, .slice B1 m1 d1, .bool t2, .slice B2 m2 d2] 26)
  have h' := h.below hB
  have g' := g0.below hB
  have E := hid exy
  clear h g0 exy
  go_enter Tryz.func12, Tryz.ntmps12
  go_wp2_with fail
  refine (SameQ h' g' E.out).mono ?_
  rintro e w1 ⟨rfl, hb1⟩
  have hE := bthen hB hb1 (Nat.le_refl _)
  clear hB hb1 h' g'
  go_wp2
  go_ret
  exact ⟨rfl, hE⟩

structure L1 (w : World) (g : Nat) (A : Option Addr) (n c : Nat) (B : Option Addr) (m d : Nat) (y1 : Bool) (Y1 : Option Addr) (ly1 cy1 : Nat) (y2 : Bool) (Y2 : Option Addr) (ly2 cy2 : Nat) (wx : World) : Prop where
  jc : Bk wx g (.cells #[.slice A n c, .slice B m d] 48 (0, 0))
  jy : Bk wx (g + 1) (.cells #[.bool y1, .slice Y1 ly1 cy1, .bool y2, .slice Y2 ly2 cy2] 26 (0, 0))
  bl : Below w.heap.size w wx
section
variable {w : World} {g : Nat} {A : Option Addr} {n c : Nat} {B : Option Addr} {m d : Nat} {y1 : Bool} {Y1 : Option Addr} {ly1 cy1 : Nat} {y2 : Bool} {Y2 : Option Addr} {ly2 cy2 : Nat} {wx wy : World}
theorem L1.below (h : L1 w g A n c B m d y1 Y1 ly1 cy1 y2 Y2 ly2 cy2 wx) (hb : Below wx.heap.size wx wy) : L1 w g A n c B m d y1 Y1 ly1 cy1 y2 Y2 ly2 cy2 wy := ⟨h.jc.step hb, h.jy.step hb, bthen h.bl hb (Nat.le_refl _)⟩
theorem L1.cells (h : L1 w g A n c B m d y1 Y1 ly1 cy1 y2 Y2 ly2 cy2 wx) : wx.cell? ⟨g, 0, none⟩ = some (.slice A n c) ∧ wx.cell? ⟨g, 1, none⟩ = some (.slice B m d) ∧ wx.cell? ⟨g + 1, 0, none⟩ = some (.bool y1) ∧ wx.cell? ⟨g + 1, 1, none⟩ = some (.slice Y1 ly1 cy1) ∧ wx.cell? ⟨g + 1, 2, none⟩ = some (.bool y2) ∧ wx.cell? ⟨g + 1, 3, none⟩ = some (.slice Y2 ly2 cy2) :=
  ⟨h.jc.c2.1, h.jc.c2.2.1, h.jy.c4.1, h.jy.c4.2.1, h.jy.c4.2.2.1, h.jy.c4.2.2.2.1⟩
end

set_option maxRecDepth 100000 in
set_option maxHeartbeats 80000000 in
theorem curves_heavy {w : World} {A : Option Addr} {n c : Nat} {B : Option Addr} {m d : Nat} {Q : Nat → Rat} {wd : Nat → Bool} {y1 : Bool} {Y1 : Option Addr} {ly1 cy1 : Nat} {y2 : Bool} {Y2 : Option Addr} {ly2 cy2 : Nat} (hq : Sq0 w w.heap.size B m Q wd) (hT : Tb w) (hv : 60 < n ∨ (n ≤ 60 ∧ (60 < m ∨ (m ≤ 60 ∧ ∃ i, i < m ∧ wd i = true))) ∨ (n ≤ 40 ∧ 12 < n ∧ m ≤ 60 ∧ ∀ i, i < m → wd i = false)) :
    Calls Tryz.prog 4 #[.agg #[.slice A n c, .slice B m d], .agg #[.bool y1, .slice Y1 ly1 cy1, .bool y2, .slice Y2 ly2 cy2]] w fun e w' => e = .returned (.bool true) ∧ Below w.heap.size w w' := by
  have HV := hid hv
  clear hv
  have b0 := two_new w (.cells #[.slice A n c, .slice B m d] 48) (.cells #[.bool y1, .slice Y1 ly1 cy1, .bool y2, .slice Y2 ly2 cy2] 26)
  have hB := below_two w (.cells #[.slice A n c, .slice B m d] 48) (.cells #[.bool y1, .slice Y1 ly1 cy1, .bool y2, .slice Y2 ly2 cy2] 26)
  obtain ⟨g, hg⟩ : ∃ g, w.heap.size = g := ⟨_, rfl⟩
  go_enter Tryz.func4, Tryz.ntmps4
  go_wp2_with fail
  rw [hg] at b0
  generalize (w.alloc (.cells #[.slice A n c, .slice B m d] 48)).alloc (.cells #[.bool y1, .slice Y1 ly1 cy1, .bool y2, .slice Y2 ly2 cy2] 26) = W0 at *
  have R0 : L1 w g A n c B m d y1 Y1 ly1 cy1 y2 Y2 ly2 cy2 W0 := ⟨b0.1, b0.2, hB⟩
  have Hg := hid hg
  clear hB hg b0
  refine (heavy_yes (hq.below R0.bl (Nat.le_refl _)) R0.bl.size HV.out).mono ?_
  rintro e w1 ⟨rfl, hb1⟩
  have R1 := R0.below hb1
  clear R0 hb1 hq
  go_wp2_with fail
  refine (awake_true _ (hT.below R1.bl)).mono ?_
  rintro e w9 ⟨rfl, hb9⟩
  have hE := bthen R1.bl hb9 (Nat.le_refl _)
  clear hb9 R1
  go_wp2
  go_ret
  exact ⟨rfl, hE⟩

set_option maxRecDepth 100000 in
set_option maxHeartbeats 80000000 in
theorem curves_wide {w : World} {A : Option Addr} {n c : Nat} {B : Option Addr} {m d : Nat} {Q : Nat → Rat} {wd : Nat → Bool} {y1 : Bool} {Y1 : Option Addr} {ly1 cy1 : Nat} {y2 : Bool} {Y2 : Option Addr} {ly2 cy2 : Nat} (hq : Sq0 w w.heap.size B m Q wd) (hT : Tb w) (hn : n ≤ 60) (hm : m ≤ 60) (hwd : ∀ i, i < m → wd i = false) (ho : 40 < n ∨ n ≤ 12) (hw : 12 < ly1 ∨ (ly1 ≤ 12 ∧ 12 < ly2)) :
    Calls Tryz.prog 4 #[.agg #[.slice A n c, .slice B m d], .agg #[.bool y1, .slice Y1 ly1 cy1, .bool y2, .slice Y2 ly2 cy2]] w fun e w' => e = .returned (.bool true) ∧ Below w.heap.size w w' := by
  have HD := hid hwd
  clear hwd
  have b0 := two_new w (.cells #[.slice A n c, .slice B m d] 48) (.cells #[.bool y1, .slice Y1 ly1 cy1, .bool y2, .slice Y2 ly2 cy2] 26)
  have hB := below_two w (.cells #[.slice A n c, .slice B m d] 48) (.cells #[.bool y1, .slice Y1 ly1 cy1, .bool y2, .slice Y2 ly2 cy2] 26)
  obtain ⟨g, hg⟩ : ∃ g, w.heap.size = g := ⟨_, rfl⟩
  go_enter Tryz.func4, Tryz.ntmps4
  go_wp2_with fail
  rw [hg] at b0
  generalize (w.alloc (.cells #[.slice A n c, .slice B m d] 48)).alloc (.cells #[.bool y1, .slice Y1 ly1 cy1, .bool y2, .slice Y2 ly2 cy2] 26) = W0 at *
  have R0 : L1 w g A n c B m d y1 Y1 ly1 cy1 y2 Y2 ly2 cy2 W0 := ⟨b0.1, b0.2, hB⟩
  have Hg := hid hg
  clear hB hg b0
  refine (heavy_no (hq.below R0.bl (Nat.le_refl _)) R0.bl.size hn hm HD.out ho).mono ?_
  rintro e w1 ⟨rfl, hb1⟩
  have R1 := R0.below hb1
  clear R0 hb1 hq
  obtain ⟨x2, x3, x4, x5, -, -, -, -⟩ := R1.jy.c4
  go_wp2_with fail
  refine (wide_yes hw).mono ?_
  rintro e w2 ⟨rfl, hb2⟩
  have R2 := R1.below hb2
  clear R1 hb2 x2 x3 x4 x5
  go_wp2_with fail
  refine (awake_true _ (hT.below R2.bl)).mono ?_
  rintro e w9 ⟨rfl, hb9⟩
  have hE := bthen R2.bl hb9 (Nat.le_refl _)
  clear hb9 R2
  go_wp2
  go_ret
  exact ⟨rfl, hE⟩

/-- What Reach says, of any value. -/
def Ro (n : Nat) (X : Nat → Int) (Q : Nat → Rat) (v : Rat) (r1 : Bool) (R1 : Option Addr) (lr1 cr1 : Nat) (r2 : Bool) (R2 : Option Addr) (lr2 cr2 : Nat) (E : Int) (w : World) : Prop :=
  (0 < v ∧ Rout n X Q v r1 R1 lr1 cr1 r2 R2 lr2 cr2 E w) ∨ (¬ 0 < v ∧ E = 2 ∧ r1 = false ∧ R1 = none ∧ lr1 = 0 ∧ cr1 = 0 ∧ r2 = false ∧ R2 = none ∧ lr2 = 0 ∧ cr2 = 0)
section
variable {n : Nat} {X : Nat → Int} {Q : Nat → Rat} {v : Rat} {r1 : Bool} {R1 : Option Addr} {lr1 cr1 : Nat} {r2 : Bool} {R2 : Option Addr} {lr2 cr2 : Nat} {t1 : Bool} {T1 : Option Addr} {lt1 ct1 : Nat} {t2 : Bool} {T2 : Option Addr} {lt2 ct2 : Nat} {E F : Int} {w w' : World} {b b' : Bool}
theorem Rout.below (h : Rout n X Q v r1 R1 lr1 cr1 r2 R2 lr2 cr2 E w) (hb : Below w.heap.size w w') : Rout n X Q v r1 R1 lr1 cr1 r2 R2 lr2 cr2 E w' := by
  rcases h with ⟨i, h1, h2, h3, h4, h5⟩ | h
  · exact .inl ⟨i, h1, h2, h3, h4, h5.below hb⟩
  · exact .inr h
theorem Ro.below (h : Ro n X Q v r1 R1 lr1 cr1 r2 R2 lr2 cr2 E w) (hb : Below w.heap.size w w') : Ro n X Q v r1 R1 lr1 cr1 r2 R2 lr2 cr2 E w' := by
  rcases h with ⟨h1, h2⟩ | h
  · exact .inl ⟨h1, h2.below hb⟩
  · exact .inr h
/-- Two answers are the same. -/
theorem rat_ro (h : Ro n X Q v r1 R1 lr1 cr1 r2 R2 lr2 cr2 E w) (g : Ro n X Q v t1 T1 lt1 ct1 t2 T2 lt2 ct2 F w) :
    Calls Tryz.prog 12 #[.agg #[.bool r1, .slice R1 lr1 cr1, .bool r2, .slice R2 lr2 cr2], .int .i64 E, .agg #[.bool t1, .slice T1 lt1 ct1, .bool t2, .slice T2 lt2 ct2], .int .i64 F] w fun e w' => e = .returned (.bool true) ∧ Below w.heap.size w w' := by
  rcases h with ⟨h1, h⟩ | ⟨h1, rfl, rfl, rfl, rfl, rfl, rfl, rfl, rfl, rfl⟩
  · rcases g with ⟨-, g⟩ | ⟨g1, -⟩
    · rcases h with ⟨i, hi, h2, h3, rfl, h5⟩ | ⟨h2, rfl, rfl, rfl, rfl, rfl, rfl, rfl, rfl, rfl⟩
      · rcases g with ⟨j, hj, g2, g3, rfl, g5⟩ | ⟨g2, -⟩
        · have : i = j := by
            rcases Nat.lt_trichotomy i j with hl | hl | hl
            · exact absurd h3 (g2 i hl)
            · exact hl
            · exact absurd g3 (h2 j hl)
          subst this
          exact rat_ok h5 g5 rfl
        · exact absurd h3 (g2 i hi)
      · rcases g with ⟨j, hj, g2, g3, -⟩ | ⟨-, rfl, rfl, rfl, rfl, rfl, rfl, rfl, rfl, rfl⟩
        · exact absurd g3 (h2 j hj)
        · exact rat_err w (by decide) (by decide) (by decide)
    · exact absurd h1 g1
  · rcases g with ⟨g1, -⟩ | ⟨-, rfl, rfl, rfl, rfl, rfl, rfl, rfl, rfl, rfl⟩
    · exact absurd g1 h1
    · exact rat_err w (by decide) (by decide) (by decide)
theorem Cap.below (h : Cap n X Q r1 R1 lr1 cr1 r2 R2 lr2 cr2 b w) (hb : Below w.heap.size w w') : Cap n X Q r1 R1 lr1 cr1 r2 R2 lr2 cr2 b w' := by
  rcases h with ⟨h1, h2, h3⟩ | h | ⟨h1, h2, h3, h4⟩
  · exact .inl ⟨h1, h2, h3.below hb⟩
  · exact .inr (.inl h)
  · exact .inr (.inr ⟨h1, h2, h3, h4.below hb⟩)
theorem Cap.flag (h : Cap n X Q r1 R1 lr1 cr1 r2 R2 lr2 cr2 b w) (g : Cap n X Q t1 T1 lt1 ct1 t2 T2 lt2 ct2 b' w') : b = b' := by
  rcases h with ⟨h1, rfl, h3⟩ | ⟨h1, h2, rfl, -⟩ | ⟨h1, h2, rfl, h4⟩ <;> rcases g with ⟨g1, rfl, g3⟩ | ⟨g1, g2, rfl, -⟩ | ⟨g1, g2, rfl, g4⟩ <;> first | rfl | omega | exact absurd g2 h2 | exact absurd h2 g2
/-- Two answers of Capacity are the same. -/
theorem same_cap (h : Cap n X Q r1 R1 lr1 cr1 r2 R2 lr2 cr2 b w) (g : Cap n X Q t1 T1 lt1 ct1 t2 T2 lt2 ct2 b' w) :
    Calls Tryz.prog 16 #[.agg #[.bool r1, .slice R1 lr1 cr1, .bool r2, .slice R2 lr2 cr2], .agg #[.bool t1, .slice T1 lt1 ct1, .bool t2, .slice T2 lt2 ct2]] w fun e w' => e = .returned (.bool true) ∧ Below w.heap.size w w' := by
  rcases h with ⟨h1, -, h3⟩ | ⟨h1, h2, -, rfl, rfl, rfl, rfl, rfl, rfl, rfl, rfl⟩ | ⟨h1, h2, -, h4⟩ <;> rcases g with ⟨g1, -, g3⟩ | ⟨g1, g2, -, rfl, rfl, rfl, rfl, rfl, rfl, rfl, rfl⟩ | ⟨g1, g2, -, g4⟩
  · exact SameQ h3 g3 rfl
  · omega
  · omega
  · omega
  · exact SameRat_true (rz_zero _) (rz_zero _)
  · exact absurd g2 h2
  · omega
  · exact absurd h2 g2
  · exact SameQ h4 g4 rfl
end
theorem Reach_any {w : World} {A : Option Addr} {n c : Nat} {B : Option Addr} {d B0 : Nat} {X : Nat → Int} {Q : Nat → Rat} {y : Rat} {y1 : Bool} {Y1 : Option Addr} {ly1 cy1 : Nat} {y2 : Bool} {Y2 : Option Addr} {ly2 cy2 : Nat} (h : Cv w B0 A n B n 12 X Q) (ok : Okc n X Q) (k0 : Ri w y1 Y1 ly1 cy1 y2 Y2 ly2 cy2 12 y) (hT : Tb w) :
    Calls Tryz.prog 37 #[.agg #[.slice A n c, .slice B n d], .agg #[.bool y1, .slice Y1 ly1 cy1, .bool y2, .slice Y2 ly2 cy2]] w fun e w' => ∃ r1 R1 lr1 cr1 r2 R2 lr2 cr2 E, e = .returned (.tuple #[.agg #[.bool r1, .slice R1 lr1 cr1, .bool r2, .slice R2 lr2 cr2], .int .i64 E]) ∧ Ro n X Q y r1 R1 lr1 cr1 r2 R2 lr2 cr2 E w' ∧ Below w.heap.size w w' := by
  by_cases hv : 0 < y
  · refine (Reach_pos h ok k0.q (by decide) (by decide) (by decide) hT hv).mono ?_
    rintro e w' ⟨r1, R1, lr1, cr1, r2, R2, lr2, cr2, E, rfl, hr, hb⟩
    exact ⟨_, _, _, _, _, _, _, _, _, rfl, .inl ⟨hv, hr⟩, hb⟩
  · refine (Reach_neg h ok k0.q (by decide) (by decide) hT hv).mono ?_
    rintro e w' ⟨rfl, hb⟩
    exact ⟨_, _, _, _, _, _, _, _, _, rfl, .inr ⟨hv, rfl, rfl, rfl, rfl, rfl, rfl, rfl, rfl, rfl⟩, hb⟩
theorem rReach_any {w : World} {A : Option Addr} {n c : Nat} {B : Option Addr} {d B0 : Nat} {X : Nat → Int} {Q : Nat → Rat} {y : Rat} {y1 : Bool} {Y1 : Option Addr} {ly1 cy1 : Nat} {y2 : Bool} {Y2 : Option Addr} {ly2 cy2 : Nat} (h : Cv w B0 A n B n 12 X Q) (ok : Okc n X Q) (k0 : Ri w y1 Y1 ly1 cy1 y2 Y2 ly2 cy2 12 y) (hT : Tb w) :
    Calls Tryz.prog 40 #[.agg #[.slice A n c, .slice B n d], .agg #[.bool y1, .slice Y1 ly1 cy1, .bool y2, .slice Y2 ly2 cy2]] w fun e w' => ∃ r1 R1 lr1 cr1 r2 R2 lr2 cr2 E, e = .returned (.tuple #[.agg #[.bool r1, .slice R1 lr1 cr1, .bool r2, .slice R2 lr2 cr2], .int .i64 E]) ∧ Ro n X Q y r1 R1 lr1 cr1 r2 R2 lr2 cr2 E w' ∧ Below w.heap.size w w' := by
  by_cases hv : 0 < y
  · refine (rReach_pos h ok k0 (by decide) (by decide) (by decide) (by decide) hT hv).mono ?_
    rintro e w' ⟨r1, R1, lr1, cr1, r2, R2, lr2, cr2, E, rfl, hr, hb⟩
    exact ⟨_, _, _, _, _, _, _, _, _, rfl, .inl ⟨hv, hr⟩, hb⟩
  · refine (rReach_neg h k0 (by decide) (by decide) hT hv).mono ?_
    rintro e w' ⟨rfl, hb⟩
    exact ⟨_, _, _, _, _, _, _, _, _, rfl, .inr ⟨hv, rfl, rfl, rfl, rfl, rfl, rfl, rfl, rfl, rfl⟩, hb⟩

theorem Ck.bounds {n m : Nat} {X : Nat → Int} {Q : Nat → Rat} {d : Int} (h : Ck n m X Q d) : 0 ≤ d ∧ d ≤ 1000 := by
  rcases h with ⟨_, h1⟩ | ⟨_, _, h1⟩ | ⟨h1, h2, h3, h4⟩ | ⟨_, _, i, _, _, ⟨_, h1⟩ | ⟨_, _, h1⟩⟩ <;> omega
set_option maxRecDepth 100000 in
set_option maxHeartbeats 80000000 in
theorem curves_bad {w : World} {A : Option Addr} {n c : Nat} {B : Option Addr} {m d : Nat} {X : Nat → Int} {Q : Nat → Rat} {wd : Nat → Bool} {y1 : Bool} {Y1 : Option Addr} {ly1 cy1 : Nat} {y2 : Bool} {Y2 : Option Addr} {ly2 cy2 : Nat} (hs : Si w w.heap.size A n X) (hq : Sq0 w w.heap.size B m Q wd) (hT : Tb w) (hn : n ≤ 60) (hm : m ≤ 60) (hwd : ∀ i, i < m → wd i = false) (ho : 40 < n ∨ n ≤ 12) (hw1 : ly1 ≤ 12) (hw2 : ly2 ≤ 12) {rr : Int} (HK : Hid (Ck n m X Q rr)) (hr : rr ≠ 0) :
    Calls Tryz.prog 4 #[.agg #[.slice A n c, .slice B m d], .agg #[.bool y1, .slice Y1 ly1 cy1, .bool y2, .slice Y2 ly2 cy2]] w fun e w' => e = .returned (.bool true) ∧ Below w.heap.size w w' := by
  have HD := hid hwd
  have hcm : Cv w w.heap.size A n B m 12 X Q := ⟨hs, hq.few hwd, Nat.le_refl _⟩
  clear hwd
  have b0 := two_new w (.cells #[.slice A n c, .slice B m d] 48) (.cells #[.bool y1, .slice Y1 ly1 cy1, .bool y2, .slice Y2 ly2 cy2] 26)
  have hB := below_two w (.cells #[.slice A n c, .slice B m d] 48) (.cells #[.bool y1, .slice Y1 ly1 cy1, .bool y2, .slice Y2 ly2 cy2] 26)
  obtain ⟨g, hg⟩ : ∃ g, w.heap.size = g := ⟨_, rfl⟩
  go_enter Tryz.func4, Tryz.ntmps4
  go_wp2_with fail
  rw [hg] at b0
  generalize (w.alloc (.cells #[.slice A n c, .slice B m d] 48)).alloc (.cells #[.bool y1, .slice Y1 ly1 cy1, .bool y2, .slice Y2 ly2 cy2] 26) = W0 at *
  have R0 : L1 w g A n c B m d y1 Y1 ly1 cy1 y2 Y2 ly2 cy2 W0 := ⟨b0.1, b0.2, hB⟩
  have Hg := hid hg
  clear hB hg b0
  refine (heavy_no (hq.below R0.bl (Nat.le_refl _)) R0.bl.size hn hm HD.out ho).mono ?_
  rintro e w1 ⟨rfl, hb1⟩
  have R1 := R0.below hb1
  clear R0 hb1 hs hq
  obtain ⟨x2, x3, x4, x5, -, -, -, -⟩ := R1.jy.c4
  go_wp2_with fail
  refine (wide_no hw1 hw2).mono ?_
  rintro e w2 ⟨rfl, hb2⟩
  have R2 := R1.below hb2
  clear R1 hb2 x2 x3 x4 x5
  obtain ⟨x0, x1, -, -⟩ := R2.jc.c2
  go_wp2_with fail
  refine (rCheckCurve (hcm.below R2.bl) (by decide) (by decide) hn hm).mono ?_
  rintro e w3 ⟨r0, rfl, HK0, hb3⟩
  have R3 := R2.below hb3
  clear R2 hb3 x0 x1
  obtain rfl : rr = r0 := HK.out.same HK0.out
  clear HK0
  obtain ⟨x0, x1, -, -⟩ := R3.jc.c2
  obtain ⟨x2, x3, x4, x5, -, -, -, -⟩ := R3.jy.c4
  go_wp2_with fail
  refine (Value_err (hcm.below R3.bl) (by decide) hn hm HK.out hr).mono ?_
  rintro e v0 ⟨rfl, hb⟩
  have hA := alo (W := v0) (o := (.cells #[.bool false, .slice none 0 0, .bool false, .slice none 0 0] 26))
  have S0 := (R3.below hb).below hA
  have j0 := Bk.of_alloc v0 (.cells #[.bool false, .slice none 0 0, .bool false, .slice none 0 0] 26) rfl
  clear R3 hb hA x0 x1 x2 x3 x4 x5
  go_upto_region 5 with fail
  generalize v0.alloc (.cells #[.bool false, .slice none 0 0, .bool false, .slice none 0 0] 26) = V0 at *
  generalize v0.heap.size = g0 at *
  obtain ⟨x0, x1, -, -⟩ := S0.jc.c2
  obtain ⟨x2, x3, x4, x5, -, -, -, -⟩ := S0.jy.c4
  go_wp2_with fail
  refine (Slope_err (hcm.below S0.bl) (by decide) hn hm HK.out hr).mono ?_
  rintro e v1 ⟨rfl, hb⟩
  have hA := alo (W := v1) (o := (.cells #[.bool false, .slice none 0 0, .bool false, .slice none 0 0] 26))
  have S1 := (S0.below hb).below hA
  have j1 := Bk.of_alloc v1 (.cells #[.bool false, .slice none 0 0, .bool false, .slice none 0 0] 26) rfl
  replace j0 := (j0.step hb).step hA
  clear S0 hb hA x0 x1 x2 x3 x4 x5
  go_upto_region 6 with fail
  generalize v1.alloc (.cells #[.bool false, .slice none 0 0, .bool false, .slice none 0 0] 26) = V1 at *
  generalize v1.heap.size = g1 at *
  obtain ⟨x0, x1, -, -⟩ := S1.jc.c2
  obtain ⟨x2, x3, x4, x5, -, -, -, -⟩ := S1.jy.c4
  go_wp2_with fail
  refine (Integral_err (hcm.below S1.bl) (by decide) hn hm HK.out hr).mono ?_
  rintro e v2 ⟨rfl, hb⟩
  have hA := alo (W := v2) (o := (.cells #[.bool false, .slice none 0 0, .bool false, .slice none 0 0] 26))
  have S2 := (S1.below hb).below hA
  have j2 := Bk.of_alloc v2 (.cells #[.bool false, .slice none 0 0, .bool false, .slice none 0 0] 26) rfl
  replace j0 := (j0.step hb).step hA
  replace j1 := (j1.step hb).step hA
  clear S1 hb hA x0 x1 x2 x3 x4 x5
  go_upto_region 7 with fail
  generalize v2.alloc (.cells #[.bool false, .slice none 0 0, .bool false, .slice none 0 0] 26) = V2 at *
  generalize v2.heap.size = g2 at *
  obtain ⟨x0, x1, -, -⟩ := S2.jc.c2
  obtain ⟨x2, x3, x4, x5, -, -, -, -⟩ := S2.jy.c4
  go_wp2_with fail
  refine (Reach_err (hcm.below S2.bl) (by decide) hn hm HK.out hr).mono ?_
  rintro e v3 ⟨rfl, hb⟩
  have hA := alo (W := v3) (o := (.cells #[.bool false, .slice none 0 0, .bool false, .slice none 0 0] 26))
  have S3 := (S2.below hb).below hA
  have j3 := Bk.of_alloc v3 (.cells #[.bool false, .slice none 0 0, .bool false, .slice none 0 0] 26) rfl
  replace j0 := (j0.step hb).step hA
  replace j1 := (j1.step hb).step hA
  replace j2 := (j2.step hb).step hA
  clear S2 hb hA x0 x1 x2 x3 x4 x5
  go_upto_region 8 with fail
  generalize v3.alloc (.cells #[.bool false, .slice none 0 0, .bool false, .slice none 0 0] 26) = V3 at *
  generalize v3.heap.size = g3 at *
  obtain ⟨x0, x1, -, -⟩ := S3.jc.c2
  go_wp2_with fail
  refine (Capacity_err (hcm.below S3.bl) (by decide) hn hm HK.out hr).mono ?_
  rintro e v4 ⟨rfl, hb⟩
  have hA := alo (W := v4) (o := (.cells #[.bool false, .slice none 0 0, .bool false, .slice none 0 0] 26))
  have S4 := (S3.below hb).below hA
  have j4 := Bk.of_alloc v4 (.cells #[.bool false, .slice none 0 0, .bool false, .slice none 0 0] 26) rfl
  replace j0 := (j0.step hb).step hA
  replace j1 := (j1.step hb).step hA
  replace j2 := (j2.step hb).step hA
  replace j3 := (j3.step hb).step hA
  clear S3 hb hA x0 x1
  go_upto_region 9 with fail
  generalize v4.alloc (.cells #[.bool false, .slice none 0 0, .bool false, .slice none 0 0] 26) = V4 at *
  generalize v4.heap.size = g4 at *
  obtain ⟨x0, x1, -, -⟩ := S4.jc.c2
  go_wp2_with fail
  refine (CheckCurve_q (hcm.below S4.bl) (by decide) hn hm).mono ?_
  rintro e v5 ⟨ss, rfl, HS, hb⟩
  obtain rfl : rr = ss := HK.out.same HS.out
  have S5 := S4.below hb
  replace j0 := j0.step hb
  replace j1 := j1.step hb
  replace j2 := j2.step hb
  replace j3 := j3.step hb
  replace j4 := j4.step hb
  clear S4 hb x0 x1 HS
  obtain ⟨hr1, hr2⟩ := HK.out.bounds
  have hW : IntKind.i64.wrap rr = rr := by rw [IntKind.wrap_i64]; omega
  have hz : (rr == 0) = false := beq_eq_false_iff_ne.2 hr
  have hzd : decide (rr = 0) = false := decide_eq_false hr
  obtain ⟨a0, a1, a2, a3, -, -, -, -⟩ := j0.c4
  go_wp2_with fail
  refine (rat_err _ hr hr1 hr2).mono ?_
  rintro e u0 ⟨rfl, hb⟩
  have T0 := S5.below hb
  replace j1 := j1.step hb
  replace j2 := j2.step hb
  replace j3 := j3.step hb
  replace j4 := j4.step hb
  clear S5 hb a0 a1 a2 a3 j0
  obtain ⟨a0, a1, a2, a3, -, -, -, -⟩ := j1.c4
  go_wp2_with fail
  refine (rat_err _ hr hr1 hr2).mono ?_
  rintro e u1 ⟨rfl, hb⟩
  have T1 := T0.below hb
  replace j2 := j2.step hb
  replace j3 := j3.step hb
  replace j4 := j4.step hb
  clear T0 hb a0 a1 a2 a3 j1
  obtain ⟨a0, a1, a2, a3, -, -, -, -⟩ := j2.c4
  go_wp2_with fail
  refine (rat_err _ hr hr1 hr2).mono ?_
  rintro e u2 ⟨rfl, hb⟩
  have T2 := T1.below hb
  replace j3 := j3.step hb
  replace j4 := j4.step hb
  clear T1 hb a0 a1 a2 a3 j2
  obtain ⟨a0, a1, a2, a3, -, -, -, -⟩ := j3.c4
  go_wp2_with fail
  refine (rat_err _ hr hr1 hr2).mono ?_
  rintro e u3 ⟨rfl, hb⟩
  have T3 := T2.below hb
  replace j4 := j4.step hb
  clear T2 hb a0 a1 a2 a3 j3
  obtain ⟨a0, a1, a2, a3, -, -, -, -⟩ := j4.c4
  go_wp2_with fail
  refine (rat_err _ hr hr1 hr2).mono ?_
  rintro e u4 ⟨rfl, hb⟩
  have T4 := T3.below hb
  clear T3 hb a0 a1 a2 a3 j4
  go_wp2_with fail
  refine (awake_true _ (hT.below T4.bl)).mono ?_
  rintro e w9 ⟨rfl, hb9⟩
  have hE := bthen T4.bl hb9 (Nat.le_refl _)
  clear hb9 T4
  go_wp2
  go_ret
  exact ⟨rfl, hE⟩

structure Gz (w : World) (g : Nat) (A : Option Addr) (n c : Nat) (B : Option Addr) (m d : Nat) (y1 : Bool) (Y1 : Option Addr) (ly1 cy1 : Nat) (y2 : Bool) (Y2 : Option Addr) (ly2 cy2 : Nat) (X : Nat → Int) (Q : Nat → Rat) (y : Rat) (u : Nat) (E F : Int) (b : Bool) (g0 : Nat) (g1 : Nat) (g2 : Nat) (g3 : Nat) (g4 : Nat) (g5 : Nat) (g6 : Nat) (v1 : Bool) (V1 : Option Addr) (lv1 cv1 : Nat) (v2 : Bool) (V2 : Option Addr) (lv2 cv2 : Nat) (s1 : Bool) (S1 : Option Addr) (ls1 cs1 : Nat) (s2 : Bool) (S2 : Option Addr) (ls2 cs2 : Nat) (p1 : Bool) (P1 : Option Addr) (lp1 cp1 : Nat) (p2 : Bool) (P2 : Option Addr) (lp2 cp2 : Nat) (r1 : Bool) (R1 : Option Addr) (lr1 cr1 : Nat) (r2 : Bool) (R2 : Option Addr) (lr2 cr2 : Nat) (q1 : Bool) (Q1 : Option Addr) (lq1 cq1 : Nat) (q2 : Bool) (Q2 : Option Addr) (lq2 cq2 : Nat) (t1 : Bool) (T1 : Option Addr) (lt1 ct1 : Nat) (t2 : Bool) (T2 : Option Addr) (lt2 ct2 : Nat) (o1 : Bool) (O1 : Option Addr) (lo1 co1 : Nat) (o2 : Bool) (O2 : Option Addr) (lo2 co2 : Nat) (wx : World) : Prop where
  l : L1 w g A n c B m d y1 Y1 ly1 cy1 y2 Y2 ly2 cy2 wx
  jv : Jq wx g0 v1 V1 lv1 cv1 v2 V2 lv2 cv2 (Kc.vl n X Q y)
  js : Jq wx g1 s1 S1 ls1 cs1 s2 S2 ls2 cs2 (slq Q u)
  jp : Jq wx g2 p1 P1 lp1 cp1 p2 P2 lp2 cp2 (ig n X Q y)
  br : Bk wx g3 (.cells #[.bool r1, .slice R1 lr1 cr1, .bool r2, .slice R2 lr2 cr2] 26 (0, 0))
  ro : Ro n X Q y r1 R1 lr1 cr1 r2 R2 lr2 cr2 E wx
  bq : Bk wx g4 (.cells #[.bool q1, .slice Q1 lq1 cq1, .bool q2, .slice Q2 lq2 cq2] 26 (0, 0))
  cq : Cap n X Q q1 Q1 lq1 cq1 q2 Q2 lq2 cq2 b wx
  bt : Bk wx g5 (.cells #[.bool t1, .slice T1 lt1 ct1, .bool t2, .slice T2 lt2 ct2] 26 (0, 0))
  rt : Ro n X Q y t1 T1 lt1 ct1 t2 T2 lt2 ct2 F wx
  bo : Bk wx g6 (.cells #[.bool o1, .slice O1 lo1 co1, .bool o2, .slice O2 lo2 co2] 26 (0, 0))
  co : Cap n X Q o1 O1 lo1 co1 o2 O2 lo2 co2 b wx
section
variable {w : World} {g : Nat} {A : Option Addr} {n c : Nat} {B : Option Addr} {m d : Nat} {y1 : Bool} {Y1 : Option Addr} {ly1 cy1 : Nat} {y2 : Bool} {Y2 : Option Addr} {ly2 cy2 : Nat} {X : Nat → Int} {Q : Nat → Rat} {y : Rat} {u : Nat} {E F : Int} {b : Bool} {g0 : Nat} {g1 : Nat} {g2 : Nat} {g3 : Nat} {g4 : Nat} {g5 : Nat} {g6 : Nat} {v1 : Bool} {V1 : Option Addr} {lv1 cv1 : Nat} {v2 : Bool} {V2 : Option Addr} {lv2 cv2 : Nat} {s1 : Bool} {S1 : Option Addr} {ls1 cs1 : Nat} {s2 : Bool} {S2 : Option Addr} {ls2 cs2 : Nat} {p1 : Bool} {P1 : Option Addr} {lp1 cp1 : Nat} {p2 : Bool} {P2 : Option Addr} {lp2 cp2 : Nat} {r1 : Bool} {R1 : Option Addr} {lr1 cr1 : Nat} {r2 : Bool} {R2 : Option Addr} {lr2 cr2 : Nat} {q1 : Bool} {Q1 : Option Addr} {lq1 cq1 : Nat} {q2 : Bool} {Q2 : Option Addr} {lq2 cq2 : Nat} {t1 : Bool} {T1 : Option Addr} {lt1 ct1 : Nat} {t2 : Bool} {T2 : Option Addr} {lt2 ct2 : Nat} {o1 : Bool} {O1 : Option Addr} {lo1 co1 : Nat} {o2 : Bool} {O2 : Option Addr} {lo2 co2 : Nat} {wx wy : World}
theorem Gz.below (h : Gz w g A n c B m d y1 Y1 ly1 cy1 y2 Y2 ly2 cy2 X Q y u E F b g0 g1 g2 g3 g4 g5 g6 v1 V1 lv1 cv1 v2 V2 lv2 cv2 s1 S1 ls1 cs1 s2 S2 ls2 cs2 p1 P1 lp1 cp1 p2 P2 lp2 cp2 r1 R1 lr1 cr1 r2 R2 lr2 cr2 q1 Q1 lq1 cq1 q2 Q2 lq2 cq2 t1 T1 lt1 ct1 t2 T2 lt2 ct2 o1 O1 lo1 co1 o2 O2 lo2 co2 wx) (hb : Below wx.heap.size wx wy) : Gz w g A n c B m d y1 Y1 ly1 cy1 y2 Y2 ly2 cy2 X Q y u E F b g0 g1 g2 g3 g4 g5 g6 v1 V1 lv1 cv1 v2 V2 lv2 cv2 s1 S1 ls1 cs1 s2 S2 ls2 cs2 p1 P1 lp1 cp1 p2 P2 lp2 cp2 r1 R1 lr1 cr1 r2 R2 lr2 cr2 q1 Q1 lq1 cq1 q2 Q2 lq2 cq2 t1 T1 lt1 ct1 t2 T2 lt2 ct2 o1 O1 lo1 co1 o2 O2 lo2 co2 wy := ⟨h.l.below hb, h.jv.below hb, h.js.below hb, h.jp.below hb, h.br.step hb, h.ro.below hb, h.bq.step hb, h.cq.below hb, h.bt.step hb, h.rt.below hb, h.bo.step hb, h.co.below hb⟩
theorem Gz.cells (h : Gz w g A n c B m d y1 Y1 ly1 cy1 y2 Y2 ly2 cy2 X Q y u E F b g0 g1 g2 g3 g4 g5 g6 v1 V1 lv1 cv1 v2 V2 lv2 cv2 s1 S1 ls1 cs1 s2 S2 ls2 cs2 p1 P1 lp1 cp1 p2 P2 lp2 cp2 r1 R1 lr1 cr1 r2 R2 lr2 cr2 q1 Q1 lq1 cq1 q2 Q2 lq2 cq2 t1 T1 lt1 ct1 t2 T2 lt2 ct2 o1 O1 lo1 co1 o2 O2 lo2 co2 wx) : wx.cell? ⟨g, 0, none⟩ = some (.slice A n c) ∧ wx.cell? ⟨g, 1, none⟩ = some (.slice B m d) ∧ wx.cell? ⟨g + 1, 0, none⟩ = some (.bool y1) ∧ wx.cell? ⟨g + 1, 1, none⟩ = some (.slice Y1 ly1 cy1) ∧ wx.cell? ⟨g + 1, 2, none⟩ = some (.bool y2) ∧ wx.cell? ⟨g + 1, 3, none⟩ = some (.slice Y2 ly2 cy2) ∧ wx.cell? ⟨g0, 0, none⟩ = some (.bool v1) ∧ wx.cell? ⟨g0, 1, none⟩ = some (.slice V1 lv1 cv1) ∧ wx.cell? ⟨g0, 2, none⟩ = some (.bool v2) ∧ wx.cell? ⟨g0, 3, none⟩ = some (.slice V2 lv2 cv2) ∧ wx.cell? ⟨g1, 0, none⟩ = some (.bool s1) ∧ wx.cell? ⟨g1, 1, none⟩ = some (.slice S1 ls1 cs1) ∧ wx.cell? ⟨g1, 2, none⟩ = some (.bool s2) ∧ wx.cell? ⟨g1, 3, none⟩ = some (.slice S2 ls2 cs2) ∧ wx.cell? ⟨g2, 0, none⟩ = some (.bool p1) ∧ wx.cell? ⟨g2, 1, none⟩ = some (.slice P1 lp1 cp1) ∧ wx.cell? ⟨g2, 2, none⟩ = some (.bool p2) ∧ wx.cell? ⟨g2, 3, none⟩ = some (.slice P2 lp2 cp2) ∧ wx.cell? ⟨g3, 0, none⟩ = some (.bool r1) ∧ wx.cell? ⟨g3, 1, none⟩ = some (.slice R1 lr1 cr1) ∧ wx.cell? ⟨g3, 2, none⟩ = some (.bool r2) ∧ wx.cell? ⟨g3, 3, none⟩ = some (.slice R2 lr2 cr2) ∧ wx.cell? ⟨g4, 0, none⟩ = some (.bool q1) ∧ wx.cell? ⟨g4, 1, none⟩ = some (.slice Q1 lq1 cq1) ∧ wx.cell? ⟨g4, 2, none⟩ = some (.bool q2) ∧ wx.cell? ⟨g4, 3, none⟩ = some (.slice Q2 lq2 cq2) ∧ wx.cell? ⟨g5, 0, none⟩ = some (.bool t1) ∧ wx.cell? ⟨g5, 1, none⟩ = some (.slice T1 lt1 ct1) ∧ wx.cell? ⟨g5, 2, none⟩ = some (.bool t2) ∧ wx.cell? ⟨g5, 3, none⟩ = some (.slice T2 lt2 ct2) ∧ wx.cell? ⟨g6, 0, none⟩ = some (.bool o1) ∧ wx.cell? ⟨g6, 1, none⟩ = some (.slice O1 lo1 co1) ∧ wx.cell? ⟨g6, 2, none⟩ = some (.bool o2) ∧ wx.cell? ⟨g6, 3, none⟩ = some (.slice O2 lo2 co2) :=
  ⟨h.l.jc.c2.1, h.l.jc.c2.2.1, h.l.jy.c4.1, h.l.jy.c4.2.1, h.l.jy.c4.2.2.1, h.l.jy.c4.2.2.2.1, h.jv.b.c4.1, h.jv.b.c4.2.1, h.jv.b.c4.2.2.1, h.jv.b.c4.2.2.2.1, h.js.b.c4.1, h.js.b.c4.2.1, h.js.b.c4.2.2.1, h.js.b.c4.2.2.2.1, h.jp.b.c4.1, h.jp.b.c4.2.1, h.jp.b.c4.2.2.1, h.jp.b.c4.2.2.2.1, h.br.c4.1, h.br.c4.2.1, h.br.c4.2.2.1, h.br.c4.2.2.2.1, h.bq.c4.1, h.bq.c4.2.1, h.bq.c4.2.2.1, h.bq.c4.2.2.2.1, h.bt.c4.1, h.bt.c4.2.1, h.bt.c4.2.2.1, h.bt.c4.2.2.2.1, h.bo.c4.1, h.bo.c4.2.1, h.bo.c4.2.2.1, h.bo.c4.2.2.2.1⟩
end

set_option maxRecDepth 100000 in
set_option maxHeartbeats 80000000 in
theorem curves_good {w : World} {A : Option Addr} {n c : Nat} {B : Option Addr} {m d : Nat} {X : Nat → Int} {Q : Nat → Rat} {wd : Nat → Bool} {y1 : Bool} {Y1 : Option Addr} {ly1 cy1 : Nat} {y2 : Bool} {Y2 : Option Addr} {ly2 cy2 : Nat} (hs : Si w w.heap.size A n X) (hq : Sq0 w w.heap.size B m Q wd) (hT : Tb w) (hn : n ≤ 60) (hm : m ≤ 60) (hwd : ∀ i, i < m → wd i = false) (ho : 40 < n ∨ n ≤ 12) {y : Rat} (hy : Qi w y1 Y1 ly1 cy1 y2 Y2 ly2 cy2 12 y) (hw1 : ly1 ≤ 12) (hw2 : ly2 ≤ 12) (HK : Hid (Ck n m X Q 0)) :
    Calls Tryz.prog 4 #[.agg #[.slice A n c, .slice B m d], .agg #[.bool y1, .slice Y1 ly1 cy1, .bool y2, .slice Y2 ly2 cy2]] w fun e w' => e = .returned (.bool true) ∧ Below w.heap.size w w' := by
  have HD := hid hwd
  have hcm : Cv w w.heap.size A n B m 12 X Q := ⟨hs, hq.few hwd, Nat.le_refl _⟩
  clear hwd
  have b0 := two_new w (.cells #[.slice A n c, .slice B m d] 48) (.cells #[.bool y1, .slice Y1 ly1 cy1, .bool y2, .slice Y2 ly2 cy2] 26)
  have hB := below_two w (.cells #[.slice A n c, .slice B m d] 48) (.cells #[.bool y1, .slice Y1 ly1 cy1, .bool y2, .slice Y2 ly2 cy2] 26)
  obtain ⟨g, hg⟩ : ∃ g, w.heap.size = g := ⟨_, rfl⟩
  go_enter Tryz.func4, Tryz.ntmps4
  go_wp2_with fail
  rw [hg] at b0
  generalize (w.alloc (.cells #[.slice A n c, .slice B m d] 48)).alloc (.cells #[.bool y1, .slice Y1 ly1 cy1, .bool y2, .slice Y2 ly2 cy2] 26) = W0 at *
  have R0 : L1 w g A n c B m d y1 Y1 ly1 cy1 y2 Y2 ly2 cy2 W0 := ⟨b0.1, b0.2, hB⟩
  have Hg := hid hg
  clear hB hg b0
  refine (heavy_no (hq.below R0.bl (Nat.le_refl _)) R0.bl.size hn hm HD.out ho).mono ?_
  rintro e w1 ⟨rfl, hb1⟩
  have R1 := R0.below hb1
  clear R0 hb1 hs hq
  obtain ⟨x2, x3, x4, x5, -, -, -, -⟩ := R1.jy.c4
  go_wp2_with fail
  refine (wide_no hw1 hw2).mono ?_
  rintro e w2 ⟨rfl, hb2⟩
  have R2 := R1.below hb2
  clear R1 hb2 x2 x3 x4 x5
  obtain ⟨x0, x1, -, -⟩ := R2.jc.c2
  go_wp2_with fail
  refine (rCheckCurve (hcm.below R2.bl) (by decide) (by decide) hn hm).mono ?_
  rintro e w3 ⟨r0, rfl, HK0, hb3⟩
  have R3 := R2.below hb3
  clear R2 hb3 x0 x1
  obtain rfl : 0 = r0 := Ck.same HK.out HK0.out
  obtain ⟨hn40, hmn0, hG⟩ := Ck.valid HK.out rfl
  have hmn := hmn0.symm
  have hn12 : n ≤ 12 := by omega
  have OK := hid (okc_of hn12 hG)
  clear HK HK0 hG HD hmn0
  subst hmn
  have HC := hid hcm
  have HY := hid hy
  have HT := hid hT
  clear hcm hy hT
  obtain ⟨x0, x1, -, -⟩ := R3.jc.c2
  obtain ⟨x2, x3, x4, x5, -, -, -, -⟩ := R3.jy.c4
  go_wp2_with fail
  refine (Value_q (HC.out.below R3.bl) OK.out (HY.out.below R3.bl) (by decide) (by decide) (by decide) (HT.out.below R3.bl)).mono ?_
  rintro e vv0 ⟨v1, V1, lv1, cv1, v2, V2, lv2, cv2, rfl, hv, hb⟩
  have hA := alo (W := vv0) (o := (.cells #[.bool v1, .slice V1 lv1 cv1, .bool v2, .slice V2 lv2 cv2] 26))
  have Z0 := (R3.below hb).below hA
  have jv := Jq.made hv
  clear hv
  clear R3 hb hA x0 x1 x2 x3 x4 x5
  go_upto_region 5 with fail
  generalize vv0.alloc (.cells #[.bool v1, .slice V1 lv1 cv1, .bool v2, .slice V2 lv2 cv2] 26) = Wv0 at *
  generalize vv0.heap.size = g0 at *
  obtain ⟨x0, x1, -, -⟩ := Z0.jc.c2
  obtain ⟨x2, x3, x4, x5, -, -, -, -⟩ := Z0.jy.c4
  go_wp2_with fail
  refine (Slope_q (HC.out.below Z0.bl) OK.out (HY.out.below Z0.bl) (by decide) (by decide) (by decide) (by decide) (HT.out.below Z0.bl)).mono ?_
  rintro e vv1 ⟨s1, S1, ls1, cs1, s2, S2, ls2, cs2, u, rfl, HU, hs, hb⟩
  have hA := alo (W := vv1) (o := (.cells #[.bool s1, .slice S1 ls1 cs1, .bool s2, .slice S2 ls2 cs2] 26))
  have Z1 := (Z0.below hb).below hA
  replace jv := (jv.below hb).below hA
  have js := Jq.made hs
  clear hs
  clear Z0 hb hA x0 x1 x2 x3 x4 x5
  go_upto_region 6 with fail
  generalize vv1.alloc (.cells #[.bool s1, .slice S1 ls1 cs1, .bool s2, .slice S2 ls2 cs2] 26) = Wv1 at *
  generalize vv1.heap.size = g1 at *
  obtain ⟨x0, x1, -, -⟩ := Z1.jc.c2
  obtain ⟨x2, x3, x4, x5, -, -, -, -⟩ := Z1.jy.c4
  go_wp2_with fail
  refine (Integral_q (HC.out.below Z1.bl) OK.out (HY.out.below Z1.bl) (by decide) (by decide) (by decide) (by decide) (HT.out.below Z1.bl)).mono ?_
  rintro e vv2 ⟨p1, P1, lp1, cp1, p2, P2, lp2, cp2, rfl, hp, hb⟩
  have hA := alo (W := vv2) (o := (.cells #[.bool p1, .slice P1 lp1 cp1, .bool p2, .slice P2 lp2 cp2] 26))
  have Z2 := (Z1.below hb).below hA
  replace jv := (jv.below hb).below hA
  replace js := (js.below hb).below hA
  have jp := Jq.made hp
  clear hp
  clear Z1 hb hA x0 x1 x2 x3 x4 x5
  go_upto_region 7 with fail
  generalize vv2.alloc (.cells #[.bool p1, .slice P1 lp1 cp1, .bool p2, .slice P2 lp2 cp2] 26) = Wv2 at *
  generalize vv2.heap.size = g2 at *
  obtain ⟨x0, x1, -, -⟩ := Z2.jc.c2
  obtain ⟨x2, x3, x4, x5, -, -, -, -⟩ := Z2.jy.c4
  go_wp2_with fail
  refine (Reach_any (HC.out.below Z2.bl) OK.out (Ri.mk (HY.out.below Z2.bl) (by omega) (by omega)) (HT.out.below Z2.bl)).mono ?_
  rintro e vv3 ⟨r1, R1, lr1, cr1, r2, R2, lr2, cr2, E, rfl, hro, hb⟩
  have hA := alo (W := vv3) (o := (.cells #[.bool r1, .slice R1 lr1 cr1, .bool r2, .slice R2 lr2 cr2] 26))
  have Z3 := (Z2.below hb).below hA
  replace jv := (jv.below hb).below hA
  replace js := (js.below hb).below hA
  replace jp := (jp.below hb).below hA
  have jr := Bk.of_alloc vv3 (.cells #[.bool r1, .slice R1 lr1 cr1, .bool r2, .slice R2 lr2 cr2] 26) rfl
  replace hro := hro.below hA
  clear Z2 hb hA x0 x1 x2 x3 x4 x5
  go_upto_region 8 with fail
  generalize vv3.alloc (.cells #[.bool r1, .slice R1 lr1 cr1, .bool r2, .slice R2 lr2 cr2] 26) = Wv3 at *
  generalize vv3.heap.size = g3 at *
  obtain ⟨x0, x1, -, -⟩ := Z3.jc.c2
  obtain ⟨x2, x3, x4, x5, -, -, -, -⟩ := Z3.jy.c4
  go_wp2_with fail
  refine (Capacity_q (HC.out.below Z3.bl) OK.out (by decide) (by decide) (HT.out.below Z3.bl)).mono ?_
  rintro e vv4 ⟨q1, Q1, lq1, cq1, q2, Q2, lq2, cq2, b, rfl, hcq, hb⟩
  have hA := alo (W := vv4) (o := (.cells #[.bool q1, .slice Q1 lq1 cq1, .bool q2, .slice Q2 lq2 cq2] 26))
  have Z4 := (Z3.below hb).below hA
  replace jv := (jv.below hb).below hA
  replace js := (js.below hb).below hA
  replace jp := (jp.below hb).below hA
  replace jr := (jr.step hb).step hA
  replace hro := (hro.below hb).below hA
  have jq := Bk.of_alloc vv4 (.cells #[.bool q1, .slice Q1 lq1 cq1, .bool q2, .slice Q2 lq2 cq2] 26) rfl
  replace hcq := hcq.below hA
  clear Z3 hb hA x0 x1 x2 x3 x4 x5
  go_upto_region 9 with fail
  generalize vv4.alloc (.cells #[.bool q1, .slice Q1 lq1 cq1, .bool q2, .slice Q2 lq2 cq2] 26) = Wv4 at *
  generalize vv4.heap.size = g4 at *
  obtain ⟨x0, x1, -, -⟩ := Z4.jc.c2
  go_wp2_with fail
  refine (CheckCurve_ok (HC.out.below Z4.bl) (by decide) OK.out).mono ?_
  rintro e vv5 ⟨rfl, hb⟩
  have Z5 := Z4.below hb
  replace jv := jv.below hb
  replace js := js.below hb
  replace jp := jp.below hb
  replace jr := jr.step hb
  replace hro := hro.below hb
  replace jq := jq.step hb
  replace hcq := hcq.below hb
  clear Z4 hb x0 x1
  obtain ⟨x0, x1, -, -⟩ := Z5.jc.c2
  obtain ⟨x2, x3, x4, x5, -, -, -, -⟩ := Z5.jy.c4
  go_wp2_with fail
  refine (rReach_any (HC.out.below Z5.bl) OK.out (Ri.mk (HY.out.below Z5.bl) (by omega) (by omega)) (HT.out.below Z5.bl)).mono ?_
  rintro e vv6 ⟨t1, T1, lt1, ct1, t2, T2, lt2, ct2, F, rfl, hrt, hb⟩
  have hA := alo (W := vv6) (o := (.cells #[.bool t1, .slice T1 lt1 ct1, .bool t2, .slice T2 lt2 ct2] 26))
  have Z6 := (Z5.below hb).below hA
  replace jv := (jv.below hb).below hA
  replace js := (js.below hb).below hA
  replace jp := (jp.below hb).below hA
  replace jr := (jr.step hb).step hA
  replace hro := (hro.below hb).below hA
  replace jq := (jq.step hb).step hA
  replace hcq := (hcq.below hb).below hA
  have jt := Bk.of_alloc vv6 (.cells #[.bool t1, .slice T1 lt1 ct1, .bool t2, .slice T2 lt2 ct2] 26) rfl
  replace hrt := hrt.below hA
  clear Z5 hb hA x0 x1 x2 x3 x4 x5
  go_upto_region 14 with fail
  generalize vv6.alloc (.cells #[.bool t1, .slice T1 lt1 ct1, .bool t2, .slice T2 lt2 ct2] 26) = Wv6 at *
  generalize vv6.heap.size = g5 at *
  obtain ⟨x0, x1, -, -⟩ := Z6.jc.c2
  obtain ⟨x2, x3, x4, x5, -, -, -, -⟩ := Z6.jy.c4
  go_wp2_with fail
  refine (rCapacity (HC.out.below Z6.bl) OK.out (by decide) (by decide) (HT.out.below Z6.bl)).mono ?_
  rintro e vv7 ⟨o1, O1, lo1, co1, o2, O2, lo2, co2, b', rfl, hco, hb⟩
  have hA := alo (W := vv7) (o := (.cells #[.bool o1, .slice O1 lo1 co1, .bool o2, .slice O2 lo2 co2] 26))
  have Z7 := (Z6.below hb).below hA
  replace jv := (jv.below hb).below hA
  replace js := (js.below hb).below hA
  replace jp := (jp.below hb).below hA
  replace jr := (jr.step hb).step hA
  replace hro := (hro.below hb).below hA
  replace jq := (jq.step hb).step hA
  replace hcq := (hcq.below hb).below hA
  replace jt := (jt.step hb).step hA
  replace hrt := (hrt.below hb).below hA
  have jo := Bk.of_alloc vv7 (.cells #[.bool o1, .slice O1 lo1 co1, .bool o2, .slice O2 lo2 co2] 26) rfl
  replace hco := hco.below hA
  clear Z6 hb hA x0 x1 x2 x3 x4 x5
  go_upto_region 15 with fail
  generalize vv7.alloc (.cells #[.bool o1, .slice O1 lo1 co1, .bool o2, .slice O2 lo2 co2] 26) = Wv7 at *
  generalize vv7.heap.size = g6 at *
  obtain rfl : b = b' := hcq.flag hco
  have D0 : Gz w g A n c B n d y1 Y1 ly1 cy1 y2 Y2 ly2 cy2 X Q y u E F b g0 g1 g2 g3 g4 g5 g6 v1 V1 lv1 cv1 v2 V2 lv2 cv2 s1 S1 ls1 cs1 s2 S2 ls2 cs2 p1 P1 lp1 cp1 p2 P2 lp2 cp2 r1 R1 lr1 cr1 r2 R2 lr2 cr2 q1 Q1 lq1 cq1 q2 Q2 lq2 cq2 t1 T1 lt1 ct1 t2 T2 lt2 ct2 o1 O1 lo1 co1 o2 O2 lo2 co2 Wv7.drew := Gz.below ⟨Z7, jv, js, jp, jr, hro, jq, hcq, jt, hrt, jo, hco⟩ (dr0 (W := Wv7))
  clear Z7 jv js jp jr hro jq hcq jt hrt jo hco
  have hcells := D0.cells
  go_region_held3 (fun w' => w'.cell? ⟨g, 0, none⟩ = some (.slice A n c) ∧ w'.cell? ⟨g, 1, none⟩ = some (.slice B n d) ∧ w'.cell? ⟨g + 1, 0, none⟩ = some (.bool y1) ∧ w'.cell? ⟨g + 1, 1, none⟩ = some (.slice Y1 ly1 cy1) ∧ w'.cell? ⟨g + 1, 2, none⟩ = some (.bool y2) ∧ w'.cell? ⟨g + 1, 3, none⟩ = some (.slice Y2 ly2 cy2) ∧ w'.cell? ⟨g0, 0, none⟩ = some (.bool v1) ∧ w'.cell? ⟨g0, 1, none⟩ = some (.slice V1 lv1 cv1) ∧ w'.cell? ⟨g0, 2, none⟩ = some (.bool v2) ∧ w'.cell? ⟨g0, 3, none⟩ = some (.slice V2 lv2 cv2) ∧ w'.cell? ⟨g1, 0, none⟩ = some (.bool s1) ∧ w'.cell? ⟨g1, 1, none⟩ = some (.slice S1 ls1 cs1) ∧ w'.cell? ⟨g1, 2, none⟩ = some (.bool s2) ∧ w'.cell? ⟨g1, 3, none⟩ = some (.slice S2 ls2 cs2) ∧ w'.cell? ⟨g2, 0, none⟩ = some (.bool p1) ∧ w'.cell? ⟨g2, 1, none⟩ = some (.slice P1 lp1 cp1) ∧ w'.cell? ⟨g2, 2, none⟩ = some (.bool p2) ∧ w'.cell? ⟨g2, 3, none⟩ = some (.slice P2 lp2 cp2) ∧ w'.cell? ⟨g3, 0, none⟩ = some (.bool r1) ∧ w'.cell? ⟨g3, 1, none⟩ = some (.slice R1 lr1 cr1) ∧ w'.cell? ⟨g3, 2, none⟩ = some (.bool r2) ∧ w'.cell? ⟨g3, 3, none⟩ = some (.slice R2 lr2 cr2) ∧ w'.cell? ⟨g4, 0, none⟩ = some (.bool q1) ∧ w'.cell? ⟨g4, 1, none⟩ = some (.slice Q1 lq1 cq1) ∧ w'.cell? ⟨g4, 2, none⟩ = some (.bool q2) ∧ w'.cell? ⟨g4, 3, none⟩ = some (.slice Q2 lq2 cq2) ∧ w'.cell? ⟨g5, 0, none⟩ = some (.bool t1) ∧ w'.cell? ⟨g5, 1, none⟩ = some (.slice T1 lt1 ct1) ∧ w'.cell? ⟨g5, 2, none⟩ = some (.bool t2) ∧ w'.cell? ⟨g5, 3, none⟩ = some (.slice T2 lt2 ct2) ∧ w'.cell? ⟨g6, 0, none⟩ = some (.bool o1) ∧ w'.cell? ⟨g6, 1, none⟩ = some (.slice O1 lo1 co1) ∧ w'.cell? ⟨g6, 2, none⟩ = some (.bool o2) ∧ w'.cell? ⟨g6, 3, none⟩ = some (.slice O2 lo2 co2)) (first | with_reducible exact Gz.cells D0 | with_reducible exact Gz.cells D1 | with_reducible exact Gz.cells D2 | with_reducible exact Gz.cells D3 | with_reducible exact Gz.cells D4 | with_reducible exact Gz.cells D5 | with_reducible exact Gz.cells D6 | with_reducible exact Gz.cells D7 | with_reducible exact Gz.cells D8 | with_reducible exact Gz.cells D9) (first
    | (go_at_call 42; with_reducible refine (rValue (HC.out.below D0.l.bl) OK.out (Ri.mk (HY.out.below D0.l.bl) (by omega) (by omega)) (by decide) (by decide) (by decide) (HT.out.below D0.l.bl)).mono ?_; rintro e wv1 ⟨a1, F1, o1', e1, a2, F2, o2', e2, rfl, h4, hb1⟩; have D1 := D0.below hb1)
    | (go_at_call 12; with_reducible refine (rat_ok D1.jv.z h4 rfl).mono ?_; rintro e wv2 ⟨rfl, hb2⟩; have D2 := D1.below hb2)
    | (go_at_call 43; with_reducible refine (rSlope (HC.out.below D2.l.bl) OK.out (Ri.mk (HY.out.below D2.l.bl) (by omega) (by omega)) (by decide) (by decide) (by decide) (HT.out.below D2.l.bl) HU.out).mono ?_; rintro e wv3 ⟨a3, F3, o3, e3, a4, F4, o4, e4, rfl, h5, hb3⟩; have D3 := D2.below hb3)
    | (go_at_call 12; with_reducible refine (rat_ok D3.js.z h5 rfl).mono ?_; rintro e wv4 ⟨rfl, hb4⟩; have D4 := D3.below hb4)
    | (go_at_call 44; with_reducible refine (rIntegral (HC.out.below D4.l.bl) OK.out (Ri.mk (HY.out.below D4.l.bl) (by omega) (by omega)) (by decide) (by decide) (by decide) (by decide) (HT.out.below D4.l.bl)).mono ?_; rintro e wv5 ⟨a5, F5, o5, e5, a6, F6, o6, e6, rfl, h6, hb5⟩; have D5 := D4.below hb5)
    | (go_at_call 12; with_reducible refine (rat_ok D5.jp.z h6 rfl).mono ?_; rintro e wv6 ⟨rfl, hb6⟩; have D6 := D5.below hb6)
    | (go_at_call 12; with_reducible refine (rat_ro D6.ro D6.rt).mono ?_; rintro e wv7 ⟨rfl, hb7⟩; have D7 := D6.below hb7)
    | (go_at_call 16; with_reducible refine (same_cap D7.cq D7.co).mono ?_; rintro e wv8 ⟨rfl, hb8⟩; have D8 := D7.below hb8)
    | (go_at_call 8; with_reducible refine (awake_true _ (HT.out.below D8.l.bl)).mono ?_; rintro e wv9 ⟨rfl, hb9⟩; have D9 := D8.below hb9))
  have hE := D9.l.bl
  clear D0 D1 D2 D3 D4 D5 D6 D7 D8 D9 hcells hb1 hb2 hb3 hb4 hb5 hb6 hb7 hb8 hb9 h4 h5 h6
  go_wp2
  go_ret
  exact ⟨rfl, hE⟩


/-- Every curve has its answer of CheckCurve. -/
theorem ck_ex (n m : Nat) (X : Nat → Int) (Q : Nat → Rat) : ∃ d, Ck n m X Q d := by
  rcases Nat.lt_or_ge 40 n with h | h
  · exact ⟨8, .inl ⟨h, rfl⟩⟩
  · by_cases hm : m = n
    · by_cases hg : ∀ j, j < n → Gd X Q j
      · exact ⟨0, .inr (.inr (.inl ⟨h, hm, hg, rfl⟩))⟩
      · have key : ∀ k, k ≤ n → (∀ j, j < k → Gd X Q j) ∨ ∃ i, i < k ∧ (∀ j, j < i → Gd X Q j) ∧ ¬ Gd X Q i := fun k => by
          induction k with
          | zero => exact fun _ => .inl (fun j hj => absurd hj (Nat.not_lt_zero _))
          | succ k ih =>
            intro hk
            rcases ih (by omega) with h1 | ⟨i, h1, h2, h3⟩
            · by_cases h4 : Gd X Q k
              · refine .inl (fun j hj => ?_)
                rcases Nat.lt_or_ge j k with h5 | h5
                · exact h1 j h5
                · rw [show j = k by omega]
                  exact h4
              · exact .inr ⟨k, by omega, h1, h4⟩
            · exact .inr ⟨i, by omega, h2, h3⟩
        rcases key n (Nat.le_refl _) with h1 | ⟨i, h1, h2, h3⟩
        · exact absurd h1 hg
        · by_cases h4 : Fp X Q i
          · exact ⟨10, .inr (.inr (.inr ⟨h, hm, i, h1, h2, .inr ⟨h4, h3, rfl⟩⟩))⟩
          · exact ⟨2, .inr (.inr (.inr ⟨h, hm, i, h1, h2, .inl ⟨h4, rfl⟩⟩))⟩
    · exact ⟨11, .inr (.inl ⟨h, hm, rfl⟩)⟩
open Go.ChangeShapes Go.WideShapes Go.ChangeAt Go.RowKit Go.Joins Kb

theorem qi_of {w : World} {s1 s2 : Bool} {A1 A2 : Option Addr} {n1 c1 n2 c2 : Nat} {N D : Int} (h1 : Zi w s1 A1 n1 c1 N) (h2 : Zi w s2 A2 n2 c2 D) (l1 : Le n1 N) (l2 : Le n2 D) (k1 : n1 ≤ 12) (k2 : n2 ≤ 12) : Qi w s1 A1 n1 c1 s2 A2 n2 c2 12 (rv N D) :=
  ⟨N, D, h1, h2, rfl, l1.mono k1, l2.mono k2⟩
theorem curves_any {w : World} {A : Option Addr} {n c : Nat} {B : Option Addr} {m d : Nat} {X : Nat → Int} {Q : Nat → Rat} {wd : Nat → Bool} {y1 : Bool} {Y1 : Option Addr} {ly1 cy1 : Nat} {y2 : Bool} {Y2 : Option Addr} {ly2 cy2 : Nat} {a1 b1 : Int} (hs : Si w w.heap.size A n X) (hq : Sq0 w w.heap.size B m Q wd) (ha1 : Zi w y1 Y1 ly1 cy1 a1) (hb1 : Zi w y2 Y2 ly2 cy2 b1) (la1 : Le ly1 a1) (lb1 : Le ly2 b1) (hT : Tb w) :
    Calls Tryz.prog 4 #[.agg #[.slice A n c, .slice B m d], .agg #[.bool y1, .slice Y1 ly1 cy1, .bool y2, .slice Y2 ly2 cy2]] w fun e w' => e = .returned (.bool true) ∧ Below w.heap.size w w' := by
  by_cases hv : 60 < n ∨ (n ≤ 60 ∧ (60 < m ∨ (m ≤ 60 ∧ ∃ i, i < m ∧ wd i = true))) ∨ (n ≤ 40 ∧ 12 < n ∧ m ≤ 60 ∧ ∀ i, i < m → wd i = false)
  · exact curves_heavy hq hT hv
  · have hn : n ≤ 60 := by
      rcases Nat.lt_or_ge 60 n with h | h
      · exact absurd (.inl h) hv
      · exact h
    have hm : m ≤ 60 := by
      rcases Nat.lt_or_ge 60 m with h | h
      · exact absurd (.inr (.inl ⟨hn, .inl h⟩)) hv
      · exact h
    have hwd : ∀ i, i < m → wd i = false := fun i hi => by
      cases hw : wd i with
      | false => rfl
      | true => exact absurd (.inr (.inl ⟨hn, .inr ⟨hm, i, hi, hw⟩⟩)) hv
    have ho : 40 < n ∨ n ≤ 12 := by
      rcases Nat.lt_or_ge 40 n with h | h
      · exact .inl h
      · rcases Nat.lt_or_ge 12 n with h' | h'
        · exact absurd (.inr (.inr ⟨h, h', hm, hwd⟩)) hv
        · exact .inr h'
    by_cases hw : 12 < ly1 ∨ (ly1 ≤ 12 ∧ 12 < ly2)
    · exact curves_wide hq hT hn hm hwd ho hw
    · obtain ⟨rr, HK⟩ := ck_ex n m X Q
      by_cases hr : rr = 0
      · subst hr
        exact curves_good hs hq hT hn hm hwd ho (qi_of ha1 hb1 la1 lb1 (by omega) (by omega)) (by omega) (by omega) (hid HK)
      · exact curves_bad hs hq hT hn hm hwd ho (by omega) (by omega) (hid HK) hr

set_option maxRecDepth 100000 in
theorem curves_lifted (os : Os) (started : os.Started) (H : Type) (enc : TypeId × Value → H) :
    ReturnsInHanded {} Tryz.checked os 4 .any (fun w args => (Rows.exactCurvesSpec.pre enc Tryz.prog Tryz.f4 [] false w args ∧ laidMetH Tryz.prog tabRow w) ∧ sizedMet enc Tryz.prog Tryz.f4 (OpenSpec.ofChange Rows.exactCurvesSpec) false w args)
      (Rows.exactCurvesSpec.post enc Tryz.prog Tryz.f4 false true false false) := by
  refine returnsInHanded_of_change_and (C := Tryz.checked) (X := fun w _ => laidMetH Tryz.prog tabRow w) (fun _ _ _ hh h => h.of_heap hh) own started (by kernel_rfl) Tryz.func4
    (ChangeSpec.witness_shaped (enc := enc) (C := Tryz.checked) (os := os) (X := fun w _ => laidMetH Tryz.prog tabRow w) false (World.doorLaid Tryz.prog 400 os) #[.agg #[.slice none 0 0, .slice none 0 0], .agg #[.bool false, .slice none 0 0, .bool false, .slice none 0 0]] 8 rfl (World.shaped_of_RefB (by kernel_rfl) (by kernel_rfl)) (by kernel_rfl) (by kernel_rfl) (by kernel_rfl) (door_met os _)) ?_
  intro W base args ds gs before hval0 hW _ _ hL _
  have hval : ∀ (j : Nat) t v, Tryz.f4.params[j]? = some t → args[j]? = some v → Value.okWide Tryz.prog W .any base t v := hval0
  have hW' := hW
  obtain ⟨p, q, hA0, hV, rfl, hfz, hnd⟩ := hW
  have hA : DataW.TrodAll enc Tryz.prog W 0 (fun _ => true) true Tryz.f4.params.toList args.toList ds p := hA0
  rw [Tryz.params4] at hA hval
  obtain ⟨v0, vs0, d0, ds0, p0, q0, hargs, rfl, rfl, h0, r0⟩ := trodAll_cons hA
  obtain ⟨v1, vs1, d1, ds1, p1, q1, rfl, rfl, rfl, h1, r1⟩ := trodAll_cons r0
  obtain ⟨rfl, rfl, rfl⟩ := trodAll_nil r1
  obtain rfl : args = #[v0, v1] := by cases args; simp_all
  obtain ⟨rfl, rfl⟩ := trodVars_none hV
  have k0 := h0
  have k1 := h1
  have lt0 : ∀ x ∈ p0, x.block < W.heap.size := by obtain ⟨m, hm⟩ := k0; exact DataW.trod_lt m _ _ _ hm
  have lt1 : ∀ x ∈ p1, x.block < W.heap.size := by obtain ⟨m, hm⟩ := k1; exact DataW.trod_lt m _ _ _ hm
  obtain ⟨A0, n0, c0, B0, m0, e0, X, Q, wd, rfl, hX, hQ⟩ := open_Curve (hval 0 48 v0 rfl rfl) h0
  obtain ⟨a1, A1, n1, c1, b1, B1, m1, e1, x1, y1, rfl, hx1, hy1, lx1, ly1⟩ := open_Rat (hval 1 26 v1 rfl rfl) h1
  clear hA0 hval0
  refine (curves_any hX hQ hx1 hy1 lx1 ly1 (of_laid hL)).mono fun e W' ⟨he, bel⟩ => ?_
  subst he
  exact ⟨_, rfl, _, _, _, [], _, [], hW', trodAll_mk1 (shut_bool Tryz.underlying4 _), (trodAll_cons_mk (Below.trod laidOut (by kernel_rfl) (of_decide_eq_true (by kernel_rfl)) k0 bel lt0) (trodAll_cons_mk (Below.trod laidOut (by kernel_rfl) (of_decide_eq_true (by kernel_rfl)) k1 bel lt1) trodAll_mk0)), rfl, bel.frame _, fun h => by cases h⟩

theorem curves_holds : Rows.ExactCurvesSaid :=
  OpenClaim.holds_of_wide 4 Tryz.f4 rfl rfl rfl rfl rfl rfl rfl ⟨rfl, rfl, rfl, rfl, rfl⟩ rfl rfl rfl rfl rfl (by kernel_rfl) Tryz.func4 (by kernel_rfl)
    (of_decide_eq_true (by kernel_rfl)) (by unfold Func.isWrapper; rw [if_neg (of_decide_eq_false (by kernel_rfl))]; exact ⟨rfl, rfl⟩)
    (fun os started H enc _ => curves_lifted os started H enc)

theorem curves_card : Rows.ExactCurvesCardSaid :=
  Claim7.holds_tied_plain_at .later [] [.data] true (true, Rows.exactCurvesCard.stood.harness.2) false
    curves_holds (fun _ h => by cases h) (by kernel_rfl) (fun _ h => by cases h) exactCurves_row_tie rfl ⟨rfl, rfl⟩ (by kernel_rfl) rfl
    (fun f fn hf hfn => by
      obtain rfl : f = 4 := Option.some.inj ((show Tryz.prog.funcNamed "keelblock/keelblocklaw01.ExactCurves" = some 4 by kernel_rfl).symm.trans hf) |>.symm
      obtain rfl : fn = Tryz.f4 := (Option.some.inj (Tryz.func4.symm.trans hfn)).symm
      exact ⟨by kernel_rfl, fun j t ht => by
        rw [Tryz.params4] at ht
        have hm : t ∈ [48, 26] := by simpa using Array.mem_of_getElem? ht
        have hall : ([48, 26].all fun u => !Tryz.prog.wantsStandIn u) = true := by kernel_rfl
        exact (show Tryz.prog.wantsStandIn t = false by simpa using List.all_eq_true.1 hall t hm)⟩)
    (by kernel_rfl)
#print axioms curves_card

end Go.Proofs.YtffipjofefemiaaGreatDoor
