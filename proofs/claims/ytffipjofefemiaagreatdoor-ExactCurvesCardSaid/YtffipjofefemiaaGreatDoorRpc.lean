/- The contract of the reference's piece. For all valid curves of few starts, at fractions of few limbs. -/
import Derived.Test.YtffipjofefemiaaGreatDoorIgm
import Derived.Test.YtffipjofefemiaaGreatDoorElc
namespace Go.Proofs.YtffipjofefemiaaGreatDoor
open Go.RowKit Kb

/-- Where the part of a piece ends. -/
def endv (n : Nat) (X : Nat → Int) (i : Nat) (y : Rat) : Rat := if i + 1 < n ∧ (X (i + 1) : Rat) < y then (X (i + 1) : Rat) else y
theorem pc_end {n : Nat} {X : Nat → Int} {i : Nat} {y : Rat} (h : Hid (i + 1 < n → (X i : Rat) < (X (i + 1) : Rat))) : Kc.pc n X i y = if endv n X i y ≤ (X i : Rat) then 0 else endv n X i y - (X i : Rat) := by
  have h := h.out
  unfold Kc.pc endv
  by_cases h1 : i + 1 < n ∧ (X (i + 1) : Rat) < y
  · have := h h1.1
    simp only [if_pos h1]
    rw [if_neg (by grind), if_neg (by grind)]
  · simp only [if_neg h1]
structure Pa (w : World) (g B0 : Nat) (A : Option Addr) (n c : Nat) (B : Option Addr) (m d kc : Nat) (X : Nat → Int) (Q : Nat → Rat) (y1 : Bool) (Y1 : Option Addr) (ly1 cy1 : Nat) (y2 : Bool) (Y2 : Option Addr) (ly2 cy2 : Nat) (k : Nat) (y : Rat) (ad : Addr) (i : Nat) (wx : World) : Prop where
  al : Al w g B0 A n c B m d kc X Q y1 Y1 ly1 cy1 y2 Y2 ly2 cy2 k y wx
  s : Es wx B0 ad (i + 1) (X (i + 1))
section
variable {w : World} {g B0 : Nat} {A : Option Addr} {n c : Nat} {B : Option Addr} {m d kc : Nat} {X : Nat → Int} {Q : Nat → Rat} {y1 : Bool} {Y1 : Option Addr} {ly1 cy1 : Nat} {y2 : Bool} {Y2 : Option Addr} {ly2 cy2 : Nat} {k : Nat} {y : Rat} {ad : Addr} {i : Nat} {wx wy : World}
theorem Pa.below (h : Pa w g B0 A n c B m d kc X Q y1 Y1 ly1 cy1 y2 Y2 ly2 cy2 k y ad i wx) (hb : Below wx.heap.size wx wy) : Pa w g B0 A n c B m d kc X Q y1 Y1 ly1 cy1 y2 Y2 ly2 cy2 k y ad i wy := ⟨h.al.below hb, h.s.below hb⟩
theorem Pa.cells (h : Pa w g B0 A n c B m d kc X Q y1 Y1 ly1 cy1 y2 Y2 ly2 cy2 k y ad i wx) : wx.cell? ⟨g, 0, none⟩ = some (.slice A n c) ∧ wx.cell? ⟨ad.block, ad.off + (i + 1), none⟩ = some (.int .i64 (X (i + 1))) ∧ wx.cell? ⟨g + 1, 0, none⟩ = some (.bool y1) ∧ wx.cell? ⟨g + 1, 1, none⟩ = some (.slice Y1 ly1 cy1) ∧ wx.cell? ⟨g + 1, 2, none⟩ = some (.bool y2) ∧ wx.cell? ⟨g + 1, 3, none⟩ = some (.slice Y2 ly2 cy2) :=
  ⟨h.al.jc.c2.1, h.s.next, h.al.jy.c4.1, h.al.jy.c4.2.1, h.al.jy.c4.2.2.1, h.al.jy.c4.2.2.2.1⟩
end
structure Pb (w : World) (g B0 : Nat) (A : Option Addr) (n c : Nat) (B : Option Addr) (m d kc : Nat) (X : Nat → Int) (Q : Nat → Rat) (y1 : Bool) (Y1 : Option Addr) (ly1 cy1 : Nat) (y2 : Bool) (Y2 : Option Addr) (ly2 cy2 : Nat) (k : Nat) (y : Rat) (ad : Addr) (i g7 : Nat) (e1 : Bool) (E1 : Option Addr) (le1 ce1 : Nat) (e2 : Bool) (E2 : Option Addr) (le2 ce2 : Nat) (ev : Rat) (wx : World) : Prop where
  al : Al w g B0 A n c B m d kc X Q y1 Y1 ly1 cy1 y2 Y2 ly2 cy2 k y wx
  s : Es wx B0 ad i (X i)
  jb : Bk wx g7 (.cells #[.bool e1, .slice E1 le1 ce1, .bool e2, .slice E2 le2 ce2] 26 (0, 0))
  er : Ri wx e1 E1 le1 ce1 e2 E2 le2 ce2 k ev
section
variable {w : World} {g B0 : Nat} {A : Option Addr} {n c : Nat} {B : Option Addr} {m d kc : Nat} {X : Nat → Int} {Q : Nat → Rat} {y1 : Bool} {Y1 : Option Addr} {ly1 cy1 : Nat} {y2 : Bool} {Y2 : Option Addr} {ly2 cy2 : Nat} {k : Nat} {y : Rat} {ad : Addr} {i g7 : Nat} {e1 : Bool} {E1 : Option Addr} {le1 ce1 : Nat} {e2 : Bool} {E2 : Option Addr} {le2 ce2 : Nat} {ev : Rat} {wx wy : World}
theorem Pb.below (h : Pb w g B0 A n c B m d kc X Q y1 Y1 ly1 cy1 y2 Y2 ly2 cy2 k y ad i g7 e1 E1 le1 ce1 e2 E2 le2 ce2 ev wx) (hb : Below wx.heap.size wx wy) : Pb w g B0 A n c B m d kc X Q y1 Y1 ly1 cy1 y2 Y2 ly2 cy2 k y ad i g7 e1 E1 le1 ce1 e2 E2 le2 ce2 ev wy := ⟨h.al.below hb, h.s.below hb, h.jb.step hb, h.er.below hb⟩
theorem Pb.cells (h : Pb w g B0 A n c B m d kc X Q y1 Y1 ly1 cy1 y2 Y2 ly2 cy2 k y ad i g7 e1 E1 le1 ce1 e2 E2 le2 ce2 ev wx) : wx.cell? ⟨g, 0, none⟩ = some (.slice A n c) ∧ wx.cell? (ad.add i) = some (.int .i64 (X i)) ∧ wx.cell? ⟨g7, 0, none⟩ = some (.bool e1) ∧ wx.cell? ⟨g7, 1, none⟩ = some (.slice E1 le1 ce1) ∧ wx.cell? ⟨g7, 2, none⟩ = some (.bool e2) ∧ wx.cell? ⟨g7, 3, none⟩ = some (.slice E2 le2 ce2) :=
  ⟨h.al.jc.c2.1, h.s.s, h.jb.c4.1, h.jb.c4.2.1, h.jb.c4.2.2.1, h.jb.c4.2.2.2.1⟩
end
theorem Pb.off {w : World} {g B0 : Nat} {A : Option Addr} {n c : Nat} {B : Option Addr} {m d kc : Nat} {X : Nat → Int} {Q : Nat → Rat} {y1 : Bool} {Y1 : Option Addr} {ly1 cy1 : Nat} {y2 : Bool} {Y2 : Option Addr} {ly2 cy2 : Nat} {k : Nat} {y : Rat} {ad : Addr} {i g7 : Nat} {e1 : Bool} {E1 : Option Addr} {le1 ce1 : Nat} {e2 : Bool} {E2 : Option Addr} {le2 ce2 : Nat} {ev : Rat} {wx : World} {u0 u1 u2 u3 : Value} (q : Pb w g B0 A n c B m d kc X Q y1 Y1 ly1 cy1 y2 Y2 ly2 cy2 k y ad i g7 e1 E1 le1 ce1 e2 E2 le2 ce2 ev wx) (hn : g + 1 + 1 < g7) (hB : B0 ≤ g + 1 + 1) : ((((wx.setCell ⟨g + 1 + 1, 0, none⟩ u0).setCell ⟨g + 1 + 1, 1, none⟩ u1).setCell ⟨g + 1 + 1, 2, none⟩ u2).setCell ⟨g + 1 + 1, 3, none⟩ u3).cell? ⟨g, 0, none⟩ = some (.slice A n c) ∧ ((((wx.setCell ⟨g + 1 + 1, 0, none⟩ u0).setCell ⟨g + 1 + 1, 1, none⟩ u1).setCell ⟨g + 1 + 1, 2, none⟩ u2).setCell ⟨g + 1 + 1, 3, none⟩ u3).cell? (ad.add i) = some (.int .i64 (X i)) ∧ ((((wx.setCell ⟨g + 1 + 1, 0, none⟩ u0).setCell ⟨g + 1 + 1, 1, none⟩ u1).setCell ⟨g + 1 + 1, 2, none⟩ u2).setCell ⟨g + 1 + 1, 3, none⟩ u3).cell? ⟨g7, 0, none⟩ = some (.bool e1) ∧ ((((wx.setCell ⟨g + 1 + 1, 0, none⟩ u0).setCell ⟨g + 1 + 1, 1, none⟩ u1).setCell ⟨g + 1 + 1, 2, none⟩ u2).setCell ⟨g + 1 + 1, 3, none⟩ u3).cell? ⟨g7, 1, none⟩ = some (.slice E1 le1 ce1) ∧ ((((wx.setCell ⟨g + 1 + 1, 0, none⟩ u0).setCell ⟨g + 1 + 1, 1, none⟩ u1).setCell ⟨g + 1 + 1, 2, none⟩ u2).setCell ⟨g + 1 + 1, 3, none⟩ u3).cell? ⟨g7, 2, none⟩ = some (.bool e2) ∧ ((((wx.setCell ⟨g + 1 + 1, 0, none⟩ u0).setCell ⟨g + 1 + 1, 1, none⟩ u1).setCell ⟨g + 1 + 1, 2, none⟩ u2).setCell ⟨g + 1 + 1, 3, none⟩ u3).cell? ⟨g7, 3, none⟩ = some (.slice E2 le2 ce2) := by
  have l1 := Nat.lt_of_lt_of_le q.s.la q.s.le
  have la := q.s.la
  have hG := gb4' wx (g + 1 + 1) u0 u1 u2 u3
  obtain ⟨c0, c1, c2, c3, c4, c5⟩ := q.cells
  exact ⟨gb_cell hG c0 (by omega), cell_grown (p := ad.add i) hG (in_add l1) (ne_add (show ad.block ≠ g + 1 + 1 by omega)) c1, gb_cell hG c2 (by omega), gb_cell hG c3 (by omega), gb_cell hG c4 (by omega), gb_cell hG c5 (by omega)⟩

set_option maxRecDepth 100000 in
set_option maxHeartbeats 80000000 in
theorem rpiece {w : World} {A : Option Addr} {n c : Nat} {B : Option Addr} {m d B0 kc k i : Nat} {X : Nat → Int} {Q : Nat → Rat} {y : Rat} {y1 : Bool} {Y1 : Option Addr} {ly1 cy1 : Nat} {y2 : Bool} {Y2 : Option Addr} {ly2 cy2 : Nat} (h : Cv w B0 A n B m kc X Q) (ok : Okc n X Q) (hi : i < n) (k0 : Ri w y1 Y1 ly1 cy1 y2 Y2 ly2 cy2 k y) (hk0 : 2 ≤ k) (hk : k ≤ 200) (hT : Tb w) :
    Calls Tryz.prog 89 #[.agg #[.slice A n c, .slice B m d], .int .i64 ((i : Nat) : Int), .agg #[.bool y1, .slice Y1 ly1 cy1, .bool y2, .slice Y2 ly2 cy2]] w fun e w' => ∃ t1 T1 lt1 ct1 t2 T2 lt2 ct2, e = .returned (.agg #[.bool t1, .slice T1 lt1 ct1, .bool t2, .slice T2 lt2 ct2]) ∧ Qf w' t1 T1 lt1 ct1 t2 T2 lt2 ct2 (Kc.pc n X i y) ∧ Below w.heap.size w w' := by
  have b0 := three_new w (.cells #[.slice A n c, .slice B m d] 48) (.cells #[.bool y1, .slice Y1 ly1 cy1, .bool y2, .slice Y2 ly2 cy2] 26) (.cells #[.bool false, .slice none 0 0, .bool false, .slice none 0 0] 26)
  have hB := (((Below.refl w.heap.size w).alloc (Nat.le_refl _) (.cells #[.slice A n c, .slice B m d] 48)).alloc (by simp) (.cells #[.bool y1, .slice Y1 ly1 cy1, .bool y2, .slice Y2 ly2 cy2] 26)).alloc (by simp; omega) (.cells #[.bool false, .slice none 0 0, .bool false, .slice none 0 0] 26)
  obtain ⟨g, hg⟩ : ∃ g, w.heap.size = g := ⟨_, rfl⟩
  have hw1 := k0.h1
  have hw2 := k0.h2
  have hn12 := ok.few
  have hx := ok.far i hi
  have LX := ok.ql hi
  have HI := hid (fun hl => Kc.cast_lt (ok.inc i hl))
  go_enter Tryz.func89, Tryz.ntmps89
  go_wp2_with fail
  rw [hg] at b0
  have hsz : (((w.alloc (.cells #[.slice A n c, .slice B m d] 48)).alloc (.cells #[.bool y1, .slice Y1 ly1 cy1, .bool y2, .slice Y2 ly2 cy2] 26)).alloc (.cells #[.bool false, .slice none 0 0, .bool false, .slice none 0 0] 26)).heap.size = g + 1 + 1 + 1 := by simp [hg]
  generalize ((w.alloc (.cells #[.slice A n c, .slice B m d] 48)).alloc (.cells #[.bool y1, .slice Y1 ly1 cy1, .bool y2, .slice Y2 ly2 cy2] 26)).alloc (.cells #[.bool false, .slice none 0 0, .bool false, .slice none 0 0] 26) = W0 at *
  have hle := h.le
  have hTl := hT.2
  have P0 : Al w g B0 A n c B m d kc X Q y1 Y1 ly1 cy1 y2 Y2 ly2 cy2 k y W0 := ⟨h.below hB, b0.1, b0.2.1, b0.2.2, k0.q.below hB, hT.below hB, hB⟩
  have j7 := Bk.of_alloc W0 (.cells #[.bool y1, .slice Y1 ly1 cy1, .bool y2, .slice Y2 ly2 cy2] 26) rfl
  have PA := P0.below (alo (o := (.cells #[.bool y1, .slice Y1 ly1 cy1, .bool y2, .slice Y2 ly2 cy2] 26)))
  rw [hsz] at j7
  have hlr : g + 1 + 1 < g + 1 + 1 + 1 := by omega
  have OK := hid ok
  have Hg := hid hg
  have HB0 := hid (show B0 ≤ g + 1 + 1 by omega)
  have HBg := hid (show B0 ≤ g by omega)
  have HTg := hid (show 0 < g + 1 + 1 + 1 by have := hTl; omega)
  clear h k0 hT hB hg b0 ok hle hTl P0
  generalize W0.alloc (.cells #[.bool y1, .slice Y1 ly1 cy1, .bool y2, .slice Y2 ly2 cy2] 26) = W1 at *
  clear hsz
  generalize g + 1 + 1 + 1 = g7 at *
  have hg7 := hid hlr
  have RY := Ri.mk PA.qy hw1 hw2
  by_cases hlt : i + 1 < n
  · have hd1 : decide ((i : Int) + 1 < (n : Int)) = true := decide_eq_true (by omega)
    obtain ⟨ad, hA, S1⟩ := PA.cv.es hlt
    obtain ⟨ad', hA', S0⟩ := PA.cv.es hi
    obtain rfl : ad' = ad := by rw [hA] at hA'; injection hA' with hA'; exact hA'.symm
    have LX1 := OK.out.ql hlt
    obtain ⟨hx1, hx2⟩ := OK.out.far (i + 1) hlt
    subst hA
    clear hA'
    have D : Pa w g B0 (some ad') n c B m d kc X Q y1 Y1 ly1 cy1 y2 Y2 ly2 cy2 k y ad' i W1 := ⟨PA, S1⟩
    have D0 := D.below (dr0 (W := W1))
    have S00 := S0.below (dr0 (W := W1))
    have j70 := j7.step (dr0 (W := W1))
    have RY0 := RY.below (dr0 (W := W1))
    clear PA S1 S0 j7 RY D
    have hcells := D0.cells
    have hW1 : IntKind.i64.wrap ((i : Int) + 1) = (i : Int) + 1 := by rw [IntKind.wrap_i64]; omega
    have hZ1 : (0 : Int) ≤ (i : Int) + 1 := by omega
    have hN1 : ((i : Int) + 1).toNat = i + 1 := by omega
    have hlI : (i : Int) + 1 < (n : Int) := by omega
    by_cases hcy : (X (i + 1) : Rat) < y
    · have hd2 : decide (cmpQ ((X (i + 1) : Int) : Rat) y < 0) = true := decide_eq_true (by unfold cmpQ; rw [if_pos hcy]; decide)
      have HE := hid (show endv n X i y = (X (i + 1) : Rat) by unfold endv; rw [if_pos ⟨hlt, hcy⟩])
      clear hcy
      go_region_held3 (fun w' => w'.cell? ⟨g, 0, none⟩ = some (.slice (some ad') n c) ∧ w'.cell? ⟨ad'.block, ad'.off + (i + 1), none⟩ = some (.int .i64 (X (i + 1))) ∧ w'.cell? ⟨g + 1, 0, none⟩ = some (.bool y1) ∧ w'.cell? ⟨g + 1, 1, none⟩ = some (.slice Y1 ly1 cy1) ∧ w'.cell? ⟨g + 1, 2, none⟩ = some (.bool y2) ∧ w'.cell? ⟨g + 1, 3, none⟩ = some (.slice Y2 ly2 cy2)) (first | with_reducible exact Pa.cells D0 | with_reducible exact Pa.cells D1 | with_reducible exact Pa.cells D2) (first
        | (go_at_call 88; with_reducible refine (rQ (X (i + 1)) _ (by omega) (by omega)).mono ?_; rintro e wv1 ⟨r1, R1', o1, e1', r2, R2', o2, e2', rfl, h4, hb1⟩; have D1 := D0.below hb1)
        | (go_at_call 26; with_reducible refine (rCmpRat (h4.ri LX1 (by decide)) (RY0.below hb1) (by decide) (by omega) (by decide) (by omega) (by omega)).mono ?_; rintro e wv2 ⟨rfl, hb2⟩; have D2 := D1.below hb2))
      have S02 := (S00.below hb1).below hb2
      have j72 := (j70.step hb1).step hb2
      have RY2 := (RY0.below hb1).below hb2
      clear D0 D1 hb1 hb2 h4 hcells
      obtain ⟨x0, x1, -, -⟩ := D2.al.jc.c2
      have x2 := D2.s.next
      go_wp2_with fail
      refine (rQ (X (i + 1)) _ (by omega) (by omega)).mono ?_
      rintro e w3 ⟨e1, E1, le1, ce1, e2, E2, le2, ce2, rfl, hqe, hb3⟩
      have P3 := D2.al.below hb3
      have S3 := S02.below hb3
      have j73 := j72.step hb3
      have hl7 := j73.lt
      obtain ⟨z0, z1, z2, z3, z4, z5, z6, z7⟩ := j73.c4
      have hN : NoInt #[.bool y1, .slice Y1 ly1 cy1, .bool y2, .slice Y2 ly2 cy2] := noInt_four _ _ _ _ _ _ _ _
      have hG := gb4' w3 g7 (.bool e1) (.slice E1 le1 ce1) (.bool e2) (.slice E2 le2 ce2)
      have HP := hid (show Pb w g B0 (some ad') n c B m d kc X Q y1 Y1 ly1 cy1 y2 Y2 ly2 cy2 k y ad' i g7 e1 E1 le1 ce1 e2 E2 le2 ce2 ((X (i + 1) : Int) : Rat) (((((w3.setCell ⟨g7, 0, none⟩ (.bool e1)).setCell ⟨g7, 1, none⟩ (.slice E1 le1 ce1)).setCell ⟨g7, 2, none⟩ (.bool e2)).setCell ⟨g7, 3, none⟩ (.slice E2 le2 ce2))) from ⟨P3.offb j73 hN hG ⟨Hg.out, HBg.out, hg7.out, HTg.out⟩, ⟨cell_grown (p := ad'.add i) hG (in_add (Nat.lt_of_lt_of_le S3.la S3.le)) (ne_add (show ad'.block ≠ g7 by have := S3.la; have := HBg.out; have := hg7.out; omega)) S3.s, S3.la, Nat.le_trans S3.le hG.size⟩, bk_put4 j73, (hqe.ri (LX1.mono hk0) (by omega)).offbox j73 hN hG⟩)
      clear P3 S3 j73 hN hG hqe hb3 D2 S02 j72 x0 x1 x2 RY2
      go_upto_region 4 with fail
      have P := HP.out
      have R0 := P.below (dr0 )
      clear P
      by_cases he : ((X (i + 1) : Int) : Rat) ≤ (X i : Rat)
      · have hd : decide (cmpQ ((X (i + 1) : Int) : Rat) ((X i : Int) : Rat) ≤ 0) = true := decide_eq_true (by have := cmpQ_le he; omega)
        have HE2 := hid he
        clear he
        have hcells := R0.cells
        go_region_held3 (fun w' => w'.cell? ⟨g, 0, none⟩ = some (.slice (some ad') n c) ∧ w'.cell? (ad'.add i) = some (.int .i64 (X i)) ∧ w'.cell? ⟨g7, 0, none⟩ = some (.bool e1) ∧ w'.cell? ⟨g7, 1, none⟩ = some (.slice E1 le1 ce1) ∧ w'.cell? ⟨g7, 2, none⟩ = some (.bool e2) ∧ w'.cell? ⟨g7, 3, none⟩ = some (.slice E2 le2 ce2)) (first | with_reducible exact Pb.cells R0 | with_reducible exact Pb.cells R1 | with_reducible exact Pb.cells R2) (first
          | (go_at_call 88; with_reducible refine (rQ (X i) _ (by omega) (by omega)).mono ?_; rintro e wv1 ⟨r1, R1', o1, e1', r2, R2', o2, e2', rfl, h4, hb1⟩; have R1 := R0.below hb1)
          | (go_at_call 26; with_reducible refine (rCmpRat R1.er (h4.ri LX (by decide)) (by omega) (by decide) (by omega) (by decide) (by omega)).mono ?_; rintro e wv2 ⟨rfl, hb2⟩; have R2 := R1.below hb2))
        clear R0 R1 hb1 hb2 h4 hcells
        go_wp2_with fail
        refine (rQ 0 _ (by decide) (by decide)).mono ?_
        rintro e w9 ⟨t1, T1, lt1, ct1, t2, T2, lt2, ct2, rfl, hq, hb9⟩
        have P9 := R2.al.below hb9
        have j2 := P9.jr
        have hlj := j2.lt
        obtain ⟨i0, i1, i2, i3, i4, i5, i6, i7⟩ := j2.c4
        have h11 := hid (below4 P9.bl (show w.heap.size ≤ g + 1 + 1 by have := Hg.out; omega) (.bool t1) (.slice T1 lt1 ct1) (.bool t2) (.slice T2 lt2 ct2))
        have m1 := hid (hq.offbox j2 (noInt_four _ _ _ _ _ _ _ _) (gb4' _ _ (.bool t1) (.slice T1 lt1 ct1) (.bool t2) (.slice T2 lt2 ct2)))
        clear R2 P9 hq hb9 j2
        go_wp2
        exact bodyPost_ret (v := .agg #[.bool t1, .slice T1 lt1 ct1, .bool t2, .slice T2 lt2 ct2]) (by simp [results, Tryz.results89, go_sem, i0, i1, i2, i3]) rfl ⟨_, _, _, _, _, _, _, _, rfl, by rw [pc_end HI, if_pos (by rw [HE.out]; exact HE2.out)]; exact m1.out, h11.out⟩
      · have hd : decide (cmpQ ((X (i + 1) : Int) : Rat) ((X i : Int) : Rat) ≤ 0) = false := decide_eq_false (by have := cmpQ_gt (Rat.not_le.1 he); omega)
        have HE2 := hid he
        clear he
        have hcells := R0.cells
        go_region_held3 (fun w' => w'.cell? ⟨g, 0, none⟩ = some (.slice (some ad') n c) ∧ w'.cell? (ad'.add i) = some (.int .i64 (X i)) ∧ w'.cell? ⟨g7, 0, none⟩ = some (.bool e1) ∧ w'.cell? ⟨g7, 1, none⟩ = some (.slice E1 le1 ce1) ∧ w'.cell? ⟨g7, 2, none⟩ = some (.bool e2) ∧ w'.cell? ⟨g7, 3, none⟩ = some (.slice E2 le2 ce2)) (first | with_reducible exact Pb.cells R0 | with_reducible exact Pb.cells R1 | with_reducible exact Pb.cells R2) (first
          | (go_at_call 88; with_reducible refine (rQ (X i) _ (by omega) (by omega)).mono ?_; rintro e wv1 ⟨r1, R1', o1, e1', r2, R2', o2, e2', rfl, h4, hb1⟩; have R1 := R0.below hb1)
          | (go_at_call 26; with_reducible refine (rCmpRat R1.er (h4.ri LX (by decide)) (by omega) (by decide) (by omega) (by decide) (by omega)).mono ?_; rintro e wv2 ⟨rfl, hb2⟩; have R2 := R1.below hb2))
        have S2 := R2
        clear R0 R1 R2 hb1 hb2 h4 hcells
        go_upto_region 6 with fail
        have R0 := S2.below (dr0 (W := wv2))
        clear S2
        have hcells := R0.cells
        go_region_held3 (fun w' => w'.cell? ⟨g, 0, none⟩ = some (.slice (some ad') n c) ∧ w'.cell? (ad'.add i) = some (.int .i64 (X i)) ∧ w'.cell? ⟨g7, 0, none⟩ = some (.bool e1) ∧ w'.cell? ⟨g7, 1, none⟩ = some (.slice E1 le1 ce1) ∧ w'.cell? ⟨g7, 2, none⟩ = some (.bool e2) ∧ w'.cell? ⟨g7, 3, none⟩ = some (.slice E2 le2 ce2)) (first | with_reducible exact Pb.cells R0 | with_reducible exact Pb.cells R1 | with_reducible exact Pb.cells R2 | with_reducible exact Pb.off R2 hg7.out HB0.out) (first
          | (go_at_call 88; with_reducible refine (rQ (X i) _ (by omega) (by omega)).mono ?_; rintro e wv3 ⟨r1, R1', o1, e1', r2, R2', o2, e2', rfl, h4, hb1⟩; have R1 := R0.below hb1)
          | (go_at_call 20; with_reducible refine (rSubRat R1.er (h4.ri LX (by decide)) (by omega) (by decide) (by omega) (by decide)).mono ?_; rintro e wv4 ⟨t1, T1, lt1, ct1, t2, T2, lt2, ct2, rfl, hq, hb2⟩; have R2 := R1.below hb2; have hlj := R2.al.jr.lt; obtain ⟨i0, i1, i2, i3, i4, i5, i6, i7⟩ := R2.al.jr.c4))
        have j2 := R2.al.jr
        have h11 := hid (below4 R2.al.bl (show w.heap.size ≤ g + 1 + 1 by have := Hg.out; omega) (.bool t1) (.slice T1 lt1 ct1) (.bool t2) (.slice T2 lt2 ct2))
        have m1 := hid (hq.offbox j2 (noInt_four _ _ _ _ _ _ _ _) (gb4' _ _ (.bool t1) (.slice T1 lt1 ct1) (.bool t2) (.slice T2 lt2 ct2)))
        clear R0 R1 R2 hq hb1 hb2 h4 hcells j2
        go_wp2
        exact bodyPost_ret (v := .agg #[.bool t1, .slice T1 lt1 ct1, .bool t2, .slice T2 lt2 ct2]) (by simp [results, Tryz.results89, go_sem, i0, i1, i2, i3]) rfl ⟨_, _, _, _, _, _, _, _, rfl, by rw [pc_end HI, if_neg (by rw [HE.out]; exact HE2.out), HE.out]; exact m1.out, h11.out⟩
    · have hd2 : decide (cmpQ ((X (i + 1) : Int) : Rat) y < 0) = false := decide_eq_false (by unfold cmpQ; rw [if_neg hcy]; split <;> decide)
      have HE := hid (show endv n X i y = y by unfold endv; rw [if_neg (fun h => hcy h.2)])
      clear hcy
      go_region_held3 (fun w' => w'.cell? ⟨g, 0, none⟩ = some (.slice (some ad') n c) ∧ w'.cell? ⟨ad'.block, ad'.off + (i + 1), none⟩ = some (.int .i64 (X (i + 1))) ∧ w'.cell? ⟨g + 1, 0, none⟩ = some (.bool y1) ∧ w'.cell? ⟨g + 1, 1, none⟩ = some (.slice Y1 ly1 cy1) ∧ w'.cell? ⟨g + 1, 2, none⟩ = some (.bool y2) ∧ w'.cell? ⟨g + 1, 3, none⟩ = some (.slice Y2 ly2 cy2)) (first | with_reducible exact Pa.cells D0 | with_reducible exact Pa.cells D1 | with_reducible exact Pa.cells D2) (first
        | (go_at_call 88; with_reducible refine (rQ (X (i + 1)) _ (by omega) (by omega)).mono ?_; rintro e wv1 ⟨r1, R1', o1, e1', r2, R2', o2, e2', rfl, h4, hb1⟩; have D1 := D0.below hb1)
        | (go_at_call 26; with_reducible refine (rCmpRat (h4.ri LX1 (by decide)) (RY0.below hb1) (by decide) (by omega) (by decide) (by omega) (by omega)).mono ?_; rintro e wv2 ⟨rfl, hb2⟩; have D2 := D1.below hb2))
      have S02 := (S00.below hb1).below hb2
      have j72 := (j70.step hb1).step hb2
      have RY2 := (RY0.below hb1).below hb2
      have P : Pb w g B0 (some ad') n c B m d kc X Q y1 Y1 ly1 cy1 y2 Y2 ly2 cy2 k y ad' i g7 y1 Y1 ly1 cy1 y2 Y2 ly2 cy2 y wv2 := ⟨D2.al, S02, j72, RY2⟩
      clear D0 D1 D2 hb1 hb2 h4 hcells S00 j70 RY0
      go_upto_region 4 with fail
      have R0 := P.below (dr0 )
      clear P
      by_cases he : y ≤ (X i : Rat)
      · have hd : decide (cmpQ y ((X i : Int) : Rat) ≤ 0) = true := decide_eq_true (by have := cmpQ_le he; omega)
        have HE2 := hid he
        clear he
        have hcells := R0.cells
        go_region_held3 (fun w' => w'.cell? ⟨g, 0, none⟩ = some (.slice (some ad') n c) ∧ w'.cell? (ad'.add i) = some (.int .i64 (X i)) ∧ w'.cell? ⟨g7, 0, none⟩ = some (.bool y1) ∧ w'.cell? ⟨g7, 1, none⟩ = some (.slice Y1 ly1 cy1) ∧ w'.cell? ⟨g7, 2, none⟩ = some (.bool y2) ∧ w'.cell? ⟨g7, 3, none⟩ = some (.slice Y2 ly2 cy2)) (first | with_reducible exact Pb.cells R0 | with_reducible exact Pb.cells R1 | with_reducible exact Pb.cells R2) (first
          | (go_at_call 88; with_reducible refine (rQ (X i) _ (by omega) (by omega)).mono ?_; rintro e wv1 ⟨r1, R1', o1, y1', r2, R2', o2, y2', rfl, h4, hb1⟩; have R1 := R0.below hb1)
          | (go_at_call 26; with_reducible refine (rCmpRat R1.er (h4.ri LX (by decide)) (by omega) (by decide) (by omega) (by decide) (by omega)).mono ?_; rintro e wv2 ⟨rfl, hb2⟩; have R2 := R1.below hb2))
        clear R0 R1 hb1 hb2 h4 hcells
        go_wp2_with fail
        refine (rQ 0 _ (by decide) (by decide)).mono ?_
        rintro e w9 ⟨t1, T1, lt1, ct1, t2, T2, lt2, ct2, rfl, hq, hb9⟩
        have P9 := R2.al.below hb9
        have j2 := P9.jr
        have hlj := j2.lt
        obtain ⟨i0, i1, i2, i3, i4, i5, i6, i7⟩ := j2.c4
        have h11 := hid (below4 P9.bl (show w.heap.size ≤ g + 1 + 1 by have := Hg.out; omega) (.bool t1) (.slice T1 lt1 ct1) (.bool t2) (.slice T2 lt2 ct2))
        have m1 := hid (hq.offbox j2 (noInt_four _ _ _ _ _ _ _ _) (gb4' _ _ (.bool t1) (.slice T1 lt1 ct1) (.bool t2) (.slice T2 lt2 ct2)))
        clear R2 P9 hq hb9 j2
        go_wp2
        exact bodyPost_ret (v := .agg #[.bool t1, .slice T1 lt1 ct1, .bool t2, .slice T2 lt2 ct2]) (by simp [results, Tryz.results89, go_sem, i0, i1, i2, i3]) rfl ⟨_, _, _, _, _, _, _, _, rfl, by rw [pc_end HI, if_pos (by rw [HE.out]; exact HE2.out)]; exact m1.out, h11.out⟩
      · have hd : decide (cmpQ y ((X i : Int) : Rat) ≤ 0) = false := decide_eq_false (by have := cmpQ_gt (Rat.not_le.1 he); omega)
        have HE2 := hid he
        clear he
        have hcells := R0.cells
        go_region_held3 (fun w' => w'.cell? ⟨g, 0, none⟩ = some (.slice (some ad') n c) ∧ w'.cell? (ad'.add i) = some (.int .i64 (X i)) ∧ w'.cell? ⟨g7, 0, none⟩ = some (.bool y1) ∧ w'.cell? ⟨g7, 1, none⟩ = some (.slice Y1 ly1 cy1) ∧ w'.cell? ⟨g7, 2, none⟩ = some (.bool y2) ∧ w'.cell? ⟨g7, 3, none⟩ = some (.slice Y2 ly2 cy2)) (first | with_reducible exact Pb.cells R0 | with_reducible exact Pb.cells R1 | with_reducible exact Pb.cells R2) (first
          | (go_at_call 88; with_reducible refine (rQ (X i) _ (by omega) (by omega)).mono ?_; rintro e wv1 ⟨r1, R1', o1, y1', r2, R2', o2, y2', rfl, h4, hb1⟩; have R1 := R0.below hb1)
          | (go_at_call 26; with_reducible refine (rCmpRat R1.er (h4.ri LX (by decide)) (by omega) (by decide) (by omega) (by decide) (by omega)).mono ?_; rintro e wv2 ⟨rfl, hb2⟩; have R2 := R1.below hb2))
        have S2 := R2
        clear R0 R1 R2 hb1 hb2 h4 hcells
        go_upto_region 6 with fail
        have R0 := S2.below (dr0 (W := wv2))
        clear S2
        have hcells := R0.cells
        go_region_held3 (fun w' => w'.cell? ⟨g, 0, none⟩ = some (.slice (some ad') n c) ∧ w'.cell? (ad'.add i) = some (.int .i64 (X i)) ∧ w'.cell? ⟨g7, 0, none⟩ = some (.bool y1) ∧ w'.cell? ⟨g7, 1, none⟩ = some (.slice Y1 ly1 cy1) ∧ w'.cell? ⟨g7, 2, none⟩ = some (.bool y2) ∧ w'.cell? ⟨g7, 3, none⟩ = some (.slice Y2 ly2 cy2)) (first | with_reducible exact Pb.cells R0 | with_reducible exact Pb.cells R1 | with_reducible exact Pb.cells R2 | with_reducible exact Pb.off R2 hg7.out HB0.out) (first
          | (go_at_call 88; with_reducible refine (rQ (X i) _ (by omega) (by omega)).mono ?_; rintro e wv3 ⟨r1, R1', o1, y1', r2, R2', o2, y2', rfl, h4, hb1⟩; have R1 := R0.below hb1)
          | (go_at_call 20; with_reducible refine (rSubRat R1.er (h4.ri LX (by decide)) (by omega) (by decide) (by omega) (by decide)).mono ?_; rintro e wv4 ⟨t1, T1, lt1, ct1, t2, T2, lt2, ct2, rfl, hq, hb2⟩; have R2 := R1.below hb2; have hlj := R2.al.jr.lt; obtain ⟨i0, i1, i2, i3, i4, i5, i6, i7⟩ := R2.al.jr.c4))
        have j2 := R2.al.jr
        have h11 := hid (below4 R2.al.bl (show w.heap.size ≤ g + 1 + 1 by have := Hg.out; omega) (.bool t1) (.slice T1 lt1 ct1) (.bool t2) (.slice T2 lt2 ct2))
        have m1 := hid (hq.offbox j2 (noInt_four _ _ _ _ _ _ _ _) (gb4' _ _ (.bool t1) (.slice T1 lt1 ct1) (.bool t2) (.slice T2 lt2 ct2)))
        clear R0 R1 R2 hq hb1 hb2 h4 hcells j2
        go_wp2
        exact bodyPost_ret (v := .agg #[.bool t1, .slice T1 lt1 ct1, .bool t2, .slice T2 lt2 ct2]) (by simp [results, Tryz.results89, go_sem, i0, i1, i2, i3]) rfl ⟨_, _, _, _, _, _, _, _, rfl, by rw [pc_end HI, if_neg (by rw [HE.out]; exact HE2.out), HE.out]; exact m1.out, h11.out⟩
  · have hd1 : decide ((i : Int) + 1 < (n : Int)) = false := decide_eq_false (by omega)
    have hW1 : IntKind.i64.wrap ((i : Int) + 1) = (i : Int) + 1 := by rw [IntKind.wrap_i64]; omega
    have HE := hid (show endv n X i y = y by unfold endv; rw [if_neg (fun h => hlt h.1)])
    obtain ⟨ad', hA, S0⟩ := PA.cv.es hi
    subst hA
    obtain ⟨x0, x1, -, -⟩ := PA.jc.c2
    have P : Pb w g B0 (some ad') n c B m d kc X Q y1 Y1 ly1 cy1 y2 Y2 ly2 cy2 k y ad' i g7 y1 Y1 ly1 cy1 y2 Y2 ly2 cy2 y W1 := ⟨PA, S0, j7, RY⟩
    clear PA S0 j7 RY
    go_quiet (fail)
    rename_i nq
    clear x0 x1
    have P' := P.below ((Below.refl _ _).drewN' nq)
    clear P
    have P := P'
    clear P'
    generalize W1.drewN nq = W2 at *
    go_upto_region 4 with fail
    have R0 := P.below (dr0 )
    clear P
    by_cases he : y ≤ (X i : Rat)
    · have hd : decide (cmpQ y ((X i : Int) : Rat) ≤ 0) = true := decide_eq_true (by have := cmpQ_le he; omega)
      have HE2 := hid he
      clear he
      have hcells := R0.cells
      go_region_held3 (fun w' => w'.cell? ⟨g, 0, none⟩ = some (.slice (some ad') n c) ∧ w'.cell? (ad'.add i) = some (.int .i64 (X i)) ∧ w'.cell? ⟨g7, 0, none⟩ = some (.bool y1) ∧ w'.cell? ⟨g7, 1, none⟩ = some (.slice Y1 ly1 cy1) ∧ w'.cell? ⟨g7, 2, none⟩ = some (.bool y2) ∧ w'.cell? ⟨g7, 3, none⟩ = some (.slice Y2 ly2 cy2)) (first | with_reducible exact Pb.cells R0 | with_reducible exact Pb.cells R1 | with_reducible exact Pb.cells R2) (first
        | (go_at_call 88; with_reducible refine (rQ (X i) _ (by omega) (by omega)).mono ?_; rintro e wv1 ⟨r1, R1', o1, y1', r2, R2', o2, y2', rfl, h4, hb1⟩; have R1 := R0.below hb1)
        | (go_at_call 26; with_reducible refine (rCmpRat R1.er (h4.ri LX (by decide)) (by omega) (by decide) (by omega) (by decide) (by omega)).mono ?_; rintro e wv2 ⟨rfl, hb2⟩; have R2 := R1.below hb2))
      clear R0 R1 hb1 hb2 h4 hcells
      go_wp2_with fail
      refine (rQ 0 _ (by decide) (by decide)).mono ?_
      rintro e w9 ⟨t1, T1, lt1, ct1, t2, T2, lt2, ct2, rfl, hq, hb9⟩
      have P9 := R2.al.below hb9
      have j2 := P9.jr
      have hlj := j2.lt
      obtain ⟨i0, i1, i2, i3, i4, i5, i6, i7⟩ := j2.c4
      have h11 := hid (below4 P9.bl (show w.heap.size ≤ g + 1 + 1 by have := Hg.out; omega) (.bool t1) (.slice T1 lt1 ct1) (.bool t2) (.slice T2 lt2 ct2))
      have m1 := hid (hq.offbox j2 (noInt_four _ _ _ _ _ _ _ _) (gb4' _ _ (.bool t1) (.slice T1 lt1 ct1) (.bool t2) (.slice T2 lt2 ct2)))
      clear R2 P9 hq hb9 j2
      go_wp2
      exact bodyPost_ret (v := .agg #[.bool t1, .slice T1 lt1 ct1, .bool t2, .slice T2 lt2 ct2]) (by simp [results, Tryz.results89, go_sem, i0, i1, i2, i3]) rfl ⟨_, _, _, _, _, _, _, _, rfl, by rw [pc_end HI, if_pos (by rw [HE.out]; exact HE2.out)]; exact m1.out, h11.out⟩
    · have hd : decide (cmpQ y ((X i : Int) : Rat) ≤ 0) = false := decide_eq_false (by have := cmpQ_gt (Rat.not_le.1 he); omega)
      have HE2 := hid he
      clear he
      have hcells := R0.cells
      go_region_held3 (fun w' => w'.cell? ⟨g, 0, none⟩ = some (.slice (some ad') n c) ∧ w'.cell? (ad'.add i) = some (.int .i64 (X i)) ∧ w'.cell? ⟨g7, 0, none⟩ = some (.bool y1) ∧ w'.cell? ⟨g7, 1, none⟩ = some (.slice Y1 ly1 cy1) ∧ w'.cell? ⟨g7, 2, none⟩ = some (.bool y2) ∧ w'.cell? ⟨g7, 3, none⟩ = some (.slice Y2 ly2 cy2)) (first | with_reducible exact Pb.cells R0 | with_reducible exact Pb.cells R1 | with_reducible exact Pb.cells R2) (first
        | (go_at_call 88; with_reducible refine (rQ (X i) _ (by omega) (by omega)).mono ?_; rintro e wv1 ⟨r1, R1', o1, y1', r2, R2', o2, y2', rfl, h4, hb1⟩; have R1 := R0.below hb1)
        | (go_at_call 26; with_reducible refine (rCmpRat R1.er (h4.ri LX (by decide)) (by omega) (by decide) (by omega) (by decide) (by omega)).mono ?_; rintro e wv2 ⟨rfl, hb2⟩; have R2 := R1.below hb2))
      have S2 := R2
      clear R0 R1 R2 hb1 hb2 h4 hcells
      go_upto_region 6 with fail
      have R0 := S2.below (dr0 (W := wv2))
      clear S2
      have hcells := R0.cells
      go_region_held3 (fun w' => w'.cell? ⟨g, 0, none⟩ = some (.slice (some ad') n c) ∧ w'.cell? (ad'.add i) = some (.int .i64 (X i)) ∧ w'.cell? ⟨g7, 0, none⟩ = some (.bool y1) ∧ w'.cell? ⟨g7, 1, none⟩ = some (.slice Y1 ly1 cy1) ∧ w'.cell? ⟨g7, 2, none⟩ = some (.bool y2) ∧ w'.cell? ⟨g7, 3, none⟩ = some (.slice Y2 ly2 cy2)) (first | with_reducible exact Pb.cells R0 | with_reducible exact Pb.cells R1 | with_reducible exact Pb.cells R2 | with_reducible exact Pb.off R2 hg7.out HB0.out) (first
        | (go_at_call 88; with_reducible refine (rQ (X i) _ (by omega) (by omega)).mono ?_; rintro e wv3 ⟨r1, R1', o1, y1', r2, R2', o2, y2', rfl, h4, hb1⟩; have R1 := R0.below hb1)
        | (go_at_call 20; with_reducible refine (rSubRat R1.er (h4.ri LX (by decide)) (by omega) (by decide) (by omega) (by decide)).mono ?_; rintro e wv4 ⟨t1, T1, lt1, ct1, t2, T2, lt2, ct2, rfl, hq, hb2⟩; have R2 := R1.below hb2; have hlj := R2.al.jr.lt; obtain ⟨i0, i1, i2, i3, i4, i5, i6, i7⟩ := R2.al.jr.c4))
      have j2 := R2.al.jr
      have h11 := hid (below4 R2.al.bl (show w.heap.size ≤ g + 1 + 1 by have := Hg.out; omega) (.bool t1) (.slice T1 lt1 ct1) (.bool t2) (.slice T2 lt2 ct2))
      have m1 := hid (hq.offbox j2 (noInt_four _ _ _ _ _ _ _ _) (gb4' _ _ (.bool t1) (.slice T1 lt1 ct1) (.bool t2) (.slice T2 lt2 ct2)))
      clear R0 R1 R2 hq hb1 hb2 h4 hcells j2
      go_wp2
      exact bodyPost_ret (v := .agg #[.bool t1, .slice T1 lt1 ct1, .bool t2, .slice T2 lt2 ct2]) (by simp [results, Tryz.results89, go_sem, i0, i1, i2, i3]) rfl ⟨_, _, _, _, _, _, _, _, rfl, by rw [pc_end HI, if_neg (by rw [HE.out]; exact HE2.out), HE.out]; exact m1.out, h11.out⟩

end Go.Proofs.YtffipjofefemiaaGreatDoor
