/- ExactRises at curves and numbers that the statement looks at. -/
import Derived.Test.YtffipjofefemiaaGreatDoorRisL
import Derived.Test.YtffipjofefemiaaGreatDoorCkr
import Derived.Test.YtffipjofefemiaaGreatDoorRch
namespace Go.Proofs.YtffipjofefemiaaGreatDoor
open Go.RowKit Kb

section
variable {w : World} {s1 s2 t1 t2 : Bool} {A1 A2 B1 B2 : Option Addr} {n1 c1 n2 c2 m1 d1 m2 d2 k l : Nat} {x y : Rat}
theorem CmpQge (h : Qi w s1 A1 n1 c1 s2 A2 n2 c2 k x) (g0 : Qi w t1 B1 m1 d1 t2 B2 m2 d2 l y) (hk0 : 0 < k) (hl0 : 0 < l) (hk : k ≤ 400) (hl : l ≤ 400) (hT : Tb w) (e : y ≤ x) :
    Calls Tryz.prog 25 #[.agg #[.bool s1, .slice A1 n1 c1, .bool s2, .slice A2 n2 c2], .agg #[.bool t1, .slice B1 m1 d1, .bool t2, .slice B2 m2 d2]] w fun e w' => ∃ i : Int, e = .returned (.int .i64 i) ∧ decide (i < 0) = false ∧ Below w.heap.size w w' := by
  refine (CmpRat_q h g0 hk0 hl0 hk hl hT).mono ?_
  rintro _ w' ⟨rfl, hb⟩
  refine ⟨_, rfl, decide_eq_false ?_, hb⟩
  unfold cmpQ
  rw [if_neg (Rat.not_lt.2 e)]
  split <;> decide
theorem CmpQle2 (h : Qi w s1 A1 n1 c1 s2 A2 n2 c2 k x) (g0 : Qi w t1 B1 m1 d1 t2 B2 m2 d2 l y) (hk0 : 0 < k) (hl0 : 0 < l) (hk : k ≤ 400) (hl : l ≤ 400) (hT : Tb w) (e : x ≤ y) :
    Calls Tryz.prog 25 #[.agg #[.bool s1, .slice A1 n1 c1, .bool s2, .slice A2 n2 c2], .agg #[.bool t1, .slice B1 m1 d1, .bool t2, .slice B2 m2 d2]] w fun e w' => ∃ i : Int, e = .returned (.int .i64 i) ∧ decide (i ≤ 0) = true ∧ Below w.heap.size w w' := by
  refine (CmpRat_q h g0 hk0 hl0 hk hl hT).mono ?_
  rintro _ w' ⟨rfl, hb⟩
  exact ⟨_, rfl, decide_eq_true (by have := cmpQ_le e; omega), hb⟩
end
set_option maxRecDepth 100000 in
set_option maxHeartbeats 80000000 in
theorem rises_rest {w : World} {A : Option Addr} {n c : Nat} {B : Option Addr} {m d : Nat} {X : Nat → Int} {Q : Nat → Rat} {wd : Nat → Bool} {y1 : Bool} {Y1 : Option Addr} {ly1 cy1 : Nat} {y2 : Bool} {Y2 : Option Addr} {ly2 cy2 : Nat} {z1 : Bool} {Z1 : Option Addr} {lz1 cz1 : Nat} {z2 : Bool} {Z2 : Option Addr} {lz2 cz2 : Nat} (hs : Si w w.heap.size A n X) (hq : Sq0 w w.heap.size B m Q wd) (hT : Tb w) (hn : n ≤ 60) (hm : m ≤ 60) (hwd : ∀ i, i < m → wd i = false) (ho : 40 < n ∨ n ≤ 12) {y z : Rat} (hy : Qi w y1 Y1 ly1 cy1 y2 Y2 ly2 cy2 12 y) (hz : Qi w z1 Z1 lz1 cz1 z2 Z2 lz2 cz2 12 z) (hw1 : ly1 ≤ 12) (hw2 : ly2 ≤ 12) (hw3 : lz1 ≤ 12) (hw4 : lz2 ≤ 12) :
    Calls Tryz.prog 6 #[.agg #[.slice A n c, .slice B m d], .agg #[.bool y1, .slice Y1 ly1 cy1, .bool y2, .slice Y2 ly2 cy2], .agg #[.bool z1, .slice Z1 lz1 cz1, .bool z2, .slice Z2 lz2 cz2]] w fun e w' => e = .returned (.bool true) ∧ Below w.heap.size w w' := by
  have HD := hid hwd
  have hcm : Cv w w.heap.size A n B m 12 X Q := ⟨hs, hq.few hwd, Nat.le_refl _⟩
  clear hwd
  have b0 := three_new w (.cells #[.slice A n c, .slice B m d] 48) (.cells #[.bool y1, .slice Y1 ly1 cy1, .bool y2, .slice Y2 ly2 cy2] 26) (.cells #[.bool z1, .slice Z1 lz1 cz1, .bool z2, .slice Z2 lz2 cz2] 26)
  have hB := (((Below.refl w.heap.size w).alloc (Nat.le_refl _) (.cells #[.slice A n c, .slice B m d] 48)).alloc (by simp) (.cells #[.bool y1, .slice Y1 ly1 cy1, .bool y2, .slice Y2 ly2 cy2] 26)).alloc (by simp; omega) (.cells #[.bool z1, .slice Z1 lz1 cz1, .bool z2, .slice Z2 lz2 cz2] 26)
  obtain ⟨g, hg⟩ : ∃ g, w.heap.size = g := ⟨_, rfl⟩
  go_enter Tryz.func6, Tryz.ntmps6
  go_wp2_with fail
  rw [hg] at b0
  generalize ((w.alloc (.cells #[.slice A n c, .slice B m d] 48)).alloc (.cells #[.bool y1, .slice Y1 ly1 cy1, .bool y2, .slice Y2 ly2 cy2] 26)).alloc (.cells #[.bool z1, .slice Z1 lz1 cz1, .bool z2, .slice Z2 lz2 cz2] 26) = W0 at *
  have R0 : L0 w g A n c B m d y1 Y1 ly1 cy1 y2 Y2 ly2 cy2 z1 Z1 lz1 cz1 z2 Z2 lz2 cz2 W0 := ⟨b0.1, b0.2.1, b0.2.2, hB⟩
  have Hg := hid hg
  clear hB hg b0
  refine (heavy_no (hq.below R0.bl (Nat.le_refl _)) R0.bl.size hn hm HD.out ho).mono ?_
  rintro e w1 ⟨rfl, hb1⟩
  have R1 := R0.below hb1
  clear R0 hb1 hs hq
  obtain ⟨x2, x3, x4, x5, -, -, -, -⟩ := R1.jy.c4
  go_wp2_with fail
  refine (wide_no hw1 hw2).mono ?_
  rintro e w2 ⟨rfl, hb2⟩
  have R2 := R1.below hb2
  clear R1 hb2 x2 x3 x4 x5
  obtain ⟨x2, x3, x4, x5, -, -, -, -⟩ := R2.jz.c4
  go_wp2_with fail
  refine (wide_no hw3 hw4).mono ?_
  rintro e w3 ⟨rfl, hb3⟩
  have R3 := R2.below hb3
  clear R2 hb3 x2 x3 x4 x5
  obtain ⟨x0, x1, -, -⟩ := R3.jc.c2
  go_wp2_with fail
  refine (rCheckCurve (hcm.below R3.bl) (by decide) (by decide) hn hm).mono ?_
  rintro e w4 ⟨rr, rfl, HK, hb4⟩
  have R4 := R3.below hb4
  clear R3 hb4 x0 x1
  by_cases hr : rr = 0
  · obtain ⟨hn40, hmn0, hG⟩ := HK.out.valid hr
    have hmn := hmn0.symm
    clear hmn0
    subst hr
    have hn12 : n ≤ 12 := by omega
    have OK := hid (okc_of hn12 hG)
    clear HK hG HD
    subst hmn
    obtain ⟨x2, x3, x4, x5, -, -, -, -⟩ := R4.jy.c4
    obtain ⟨x6, x7, x8, x9, -, -, -, -⟩ := R4.jz.c4
    have hyR := Ri.mk (hy.below R4.bl) (show ly1 ≤ 1000 by omega) (show ly2 ≤ 1000 by omega)
    have hzR := Ri.mk (hz.below R4.bl) (show lz1 ≤ 1000 by omega) (show lz2 ≤ 1000 by omega)
    by_cases hyz : y ≤ z
    · have hd0 : decide (0 < cmpQ y z) = false := decide_eq_false (cmpQ_le hyz)
      have HYZ := hid hyz
      clear hyz
      go_wp2_with fail
      refine (rCmpRat hyR hzR (by decide) (by decide) (by decide) (by decide) (by decide)).mono ?_
      rintro e w5 ⟨rfl, hb5⟩
      have R5 := R4.below hb5
      clear R4 hb5 x2 x3 x4 x5 x6 x7 x8 x9 hyR hzR hm ho hw1 hw2 hw3 hw4 hn40
      have HC := hid hcm
      have hqQ : ∀ i, i < n → QL 12 (Q i) := fun i hi => by
        obtain ⟨_, _, _, _, _, _, _, _, _, _, _, _, _, _, _, hr⟩ := HC.out.q i hi
        exact hr.q.ql (by decide)
      have HQ := hid hqQ
      have LY := hy.ql (show 0 < 12 by decide)
      have LZ := hz.ql (show 0 < 12 by decide)
      have LVY : QL 194 (Kc.vl n X Q y) := (vl_ql OK.out hqQ LY).mono (by decide)
      have LVZ : QL 194 (Kc.vl n X Q z) := (vl_ql OK.out hqQ LZ).mono (by decide)
      have HY := hid hy
      have HZ := hid hz
      have HT := hid hT
      clear hcm hqQ hy hz hT hn
      obtain ⟨x0, x1, -, -⟩ := R5.jc.c2
      obtain ⟨x2, x3, x4, x5, -, -, -, -⟩ := R5.jy.c4
      go_wp2_with fail
      refine (Value_q (HC.out.below R5.bl) OK.out (HY.out.below R5.bl) (by decide) (by decide) (by decide) (HT.out.below R5.bl)).mono ?_
      rintro e w6 ⟨v1, V1, lv1, cv1, v2, V2, lv2, cv2, rfl, hv, hb6⟩
      have R6 := (R5.below hb6).below (alo (o := (.cells #[.bool v1, .slice V1 lv1 cv1, .bool v2, .slice V2 lv2 cv2] 26)))
      have j7 := Jq.made hv
      have hl6 : g + 1 + 1 < w6.heap.size := (R5.below hb6).jz.lt
      clear R5 hb6 hv x0 x1 x2 x3 x4 x5 hd0
      go_upto_region 4 with fail
      generalize w6.alloc (.cells #[.bool v1, .slice V1 lv1 cv1, .bool v2, .slice V2 lv2 cv2] 26) = W6 at *
      generalize w6.heap.size = g7 at *
      obtain ⟨x0, x1, -, -⟩ := R6.jc.c2
      obtain ⟨x2, x3, x4, x5, -, -, -, -⟩ := R6.jz.c4
      go_wp2_with fail
      refine (Value_q (HC.out.below R6.bl) OK.out (HZ.out.below R6.bl) (by decide) (by decide) (by decide) (HT.out.below R6.bl)).mono ?_
      rintro e w7 ⟨w1, W1, lw1, cw1, w2, W2, lw2, cw2, rfl, hv, hb7⟩
      have R7 := (R6.below hb7).below (alo (o := (.cells #[.bool w1, .slice W1 lw1 cw1, .bool w2, .slice W2 lw2 cw2] 26)))
      have j7' := (j7.below hb7).below (alo (o := (.cells #[.bool w1, .slice W1 lw1 cw1, .bool w2, .slice W2 lw2 cw2] 26)))
      have j9 := Jq.made hv
      have hl7 : g7 < w7.heap.size := (j7.below hb7).b.lt
      clear R6 hb7 hv x0 x1 x2 x3 x4 x5 j7
      go_upto_region 7 with fail
      generalize w7.alloc (.cells #[.bool w1, .slice W1 lw1 cw1, .bool w2, .slice W2 lw2 cw2] 26) = W7 at *
      generalize w7.heap.size = g9 at *
      have P7 : Lv w g A n c B n d y1 Y1 ly1 cy1 y2 Y2 ly2 cy2 z1 Z1 lz1 cz1 z2 Z2 lz2 cz2 g7 v1 V1 lv1 cv1 v2 V2 lv2 cv2 (Kc.vl n X Q y) g9 w1 W1 lw1 cw1 w2 W2 lw2 cw2 (Kc.vl n X Q z) W7 := ⟨R7, j7', j9⟩
      clear R7 j7' j9
      go_wp2_with fail
      refine (W_q 0 W7 (by decide) (by decide)).mono ?_
      rintro e w8 ⟨o1, O1, lo1, co1, o2, O2, lo2, co2, rfl, hm0, hb8⟩
      have P8 := (P7.below hb8).below (alo (o := (.cells #[.bool o1, .slice O1 lo1 co1, .bool o2, .slice O2 lo2 co2] 26)))
      have j11 := Jq.made hm0
      have hl8 : g9 < w8.heap.size := (P7.below hb8).b.b.lt
      clear P7 hb8 hm0
      go_upto_region 8 with fail
      generalize w8.alloc (.cells #[.bool o1, .slice O1 lo1 co1, .bool o2, .slice O2 lo2 co2] 26) = W8 at *
      generalize w8.heap.size = g11 at *
      have hw11 : w.heap.size ≤ g11 := by have := Hg.out; omega
      go_wp2
      go_loopw [12] (fun iv wx => ∃ (i : Nat) (M : Rat) (o1 : Bool) (O1 : Option Addr) (lo1 co1 : Nat) (o2 : Bool) (O2 : Option Addr) (lo2 co2 : Nat), i ≤ n ∧ iv = .int .i64 ((i : Nat) : Int) ∧ Hid ((0 ≤ M ∧ ∀ j, j < i → Q j ≤ M) ∧ QL 12 M) ∧ Lv w g A n c B n d y1 Y1 ly1 cy1 y2 Y2 ly2 cy2 z1 Z1 lz1 cz1 z2 Z2 lz2 cz2 g7 v1 V1 lv1 cv1 v2 V2 lv2 cv2 (Kc.vl n X Q y) g9 w1 W1 lw1 cw1 w2 W2 lw2 cw2 (Kc.vl n X Q z) wx ∧ Jq wx g11 o1 O1 lo1 co1 o2 O2 lo2 co2 M) (fun iv _ => n - (intOf iv).toNat)
      case atStart => exact ⟨0, _, o1, O1, lo1, co1, o2, O2, lo2, co2, Nat.zero_le _, rfl, hid ⟨⟨Rat.le_refl, fun j hj => absurd hj (Nat.not_lt_zero _)⟩, (whole_ql (k := 12) (z := 0) (Le.zero _) (by decide))⟩, P8, j11⟩
      case round =>
        obtain ⟨i, M, o1, O1, lo1, co1, o2, O2, lo2, co2, hi', rfl, HM, P, jm⟩ := hrel
        clear P8 j11
        by_cases hi : i < n
        · obtain ⟨x0, x1, -, -⟩ := P.o.jc.c2
          obtain ⟨bd, s1, S1, ls1, cs1, s2, S2, ls2, cs2, hBd, lb, q0, q1, q2, q3, hq⟩ := (HC.out.below P.o.bl).q i hi
          subst hBd
          go_upto_region 11 with fail
          have P0 := P.below (dr0 (W := wr))
          have m0 := jm.below (dr0 (W := wr))
          replace q0 : wr.drew.cell? (bd.add (i * 4)) = some (.bool s1) := q0
          replace q1 : wr.drew.cell? ⟨(bd.add (i * 4)).block, (bd.add (i * 4)).off + 1, none⟩ = some (.slice S1 ls1 cs1) := q1
          replace q2 : wr.drew.cell? ⟨(bd.add (i * 4)).block, (bd.add (i * 4)).off + 2, none⟩ = some (.bool s2) := q2
          replace q3 : wr.drew.cell? ⟨(bd.add (i * 4)).block, (bd.add (i * 4)).off + 3, none⟩ = some (.slice S2 ls2 cs2) := q3
          have hq' := hq.below (dr0 (W := wr))
          obtain ⟨y0, y1, -, -⟩ := P0.o.jc.c2
          obtain ⟨y2, y3, y4, y5, -, -, -, -⟩ := m0.b.c4
          have hbd := Nat.lt_of_lt_of_le lb P0.o.bl.size
          by_cases hgt : M < Q i
          · have hdq : decide (0 < cmpQ (Q i) M) = true := decide_eq_true (cmpQ_gt hgt)
            have HG := hid hgt
            clear hgt
            go_region_held3 (fun w' => w'.cell? ⟨g, 1, none⟩ = some (.slice (some bd) n d) ∧ w'.cell? (bd.add (i * 4)) = some (.bool s1) ∧ w'.cell? ⟨(bd.add (i * 4)).block, (bd.add (i * 4)).off + 1, none⟩ = some (.slice S1 ls1 cs1) ∧ w'.cell? ⟨(bd.add (i * 4)).block, (bd.add (i * 4)).off + 2, none⟩ = some (.bool s2) ∧ w'.cell? ⟨(bd.add (i * 4)).block, (bd.add (i * 4)).off + 3, none⟩ = some (.slice S2 ls2 cs2) ∧ w'.cell? ⟨g11, 0, none⟩ = some (.bool o1) ∧ w'.cell? ⟨g11, 1, none⟩ = some (.slice O1 lo1 co1) ∧ w'.cell? ⟨g11, 2, none⟩ = some (.bool o2) ∧ w'.cell? ⟨g11, 3, none⟩ = some (.slice O2 lo2 co2)) (first | exact ⟨y1, q0, q1, q2, q3, y2, y3, y4, y5⟩ | exact HS1.out) (first
              | (go_at_call 26; with_reducible refine (rCmpRat hq' (m0.z.ri HM.out.2 (by decide)) (by decide) (by decide) (by decide) (by decide) (by decide)).mono ?_; rintro e wa ⟨rfl, hbx⟩; have HS1 := hid (show wa.cell? ⟨g, 1, none⟩ = some (.slice (some bd) n d) ∧ wa.cell? (bd.add (i * 4)) = some (.bool s1) ∧ wa.cell? ⟨(bd.add (i * 4)).block, (bd.add (i * 4)).off + 1, none⟩ = some (.slice S1 ls1 cs1) ∧ wa.cell? ⟨(bd.add (i * 4)).block, (bd.add (i * 4)).off + 2, none⟩ = some (.bool s2) ∧ wa.cell? ⟨(bd.add (i * 4)).block, (bd.add (i * 4)).off + 3, none⟩ = some (.slice S2 ls2 cs2) ∧ wa.cell? ⟨g11, 0, none⟩ = some (.bool o1) ∧ wa.cell? ⟨g11, 1, none⟩ = some (.slice O1 lo1 co1) ∧ wa.cell? ⟨g11, 2, none⟩ = some (.bool o2) ∧ wa.cell? ⟨g11, 3, none⟩ = some (.slice O2 lo2 co2) from ⟨(P0.below hbx).o.jc.c2.2.1, (hbx.cell (p := bd.add (i * 4)) (in_add hbd)).trans q0, (hbx.cell (p := ⟨(bd.add (i * 4)).block, (bd.add (i * 4)).off + 1, none⟩) (in_add hbd)).trans q1, (hbx.cell (p := ⟨(bd.add (i * 4)).block, (bd.add (i * 4)).off + 2, none⟩) (in_add hbd)).trans q2, (hbx.cell (p := ⟨(bd.add (i * 4)).block, (bd.add (i * 4)).off + 3, none⟩) (in_add hbd)).trans q3, (m0.below hbx).b.c4.1, (m0.below hbx).b.c4.2.1, (m0.below hbx).b.c4.2.2.1, (m0.below hbx).b.c4.2.2.2.1⟩)))
            have hq2 := hq'.below hbx
            have P1 := P0.below hbx
            have m1 := m0.below hbx
            have k0 := (hbx.cell (p := bd.add (i * 4)) (in_add hbd)).trans q0
            have k1 := (hbx.cell (p := ⟨(bd.add (i * 4)).block, (bd.add (i * 4)).off + 1, none⟩) (in_add hbd)).trans q1
            have k2 := (hbx.cell (p := ⟨(bd.add (i * 4)).block, (bd.add (i * 4)).off + 2, none⟩) (in_add hbd)).trans q2
            have k3 := (hbx.cell (p := ⟨(bd.add (i * 4)).block, (bd.add (i * 4)).off + 3, none⟩) (in_add hbd)).trans q3
            clear P0 m0 q0 q1 q2 q3 y0 y1 y2 y3 y4 y5 x0 x1 hq hq' hbx P jm
            obtain ⟨x0, x1, -, -⟩ := P1.o.jc.c2
            go_wp2_with fail
            refine (rNormRat hq2 (by decide)).mono ?_
            rintro e wb ⟨r1, R1, lr1, cr1, r2, R2, lr2, cr2, rfl, hn2, hb2⟩
            have P2 := P1.below hb2
            have m2 := m1.below hb2
            have hlm := m2.b.lt
            obtain ⟨y0, y1, y2, y3, y4, y5, y6, y7⟩ := m2.b.c4
            have HP := hid (P2.offb m2.b (noInt_four _ _ _ _ _ _ _ _) (gb4' wb g11 (.bool r1) (.slice R1 lr1 cr1) (.bool r2) (.slice R2 lr2 cr2)) hw11 (by omega) (by omega) (by omega))
            have HJ := hid (m2.put hn2)
            clear P1 m1 P2 m2 hn2 hb2 hq2 k0 k1 k2 k3 x0 x1
            go_wp2
            go_roundw
            case rel => exact ⟨i + 1, Q i, r1, R1, lr1, cr1, r2, R2, lr2, cr2, by omega, by go_num, hid ⟨⟨by have := HM.out.1.1; have := HG.out; grind, fun j hj => by
                rcases Nat.lt_or_ge j i with h | h
                · have := HM.out.1.2 j h; have := HG.out; grind
                · have : j = i := by omega
                  subst this; exact Rat.le_refl⟩, HQ.out i hi⟩, HP.out, HJ.out⟩
            case measure => simp [intOf]; omega
          · have hdq : decide (0 < cmpQ (Q i) M) = false := decide_eq_false (cmpQ_le (Rat.not_lt.1 hgt))
            have HG := hid hgt
            clear hgt
            go_region_held3 (fun w' => w'.cell? ⟨g, 1, none⟩ = some (.slice (some bd) n d) ∧ w'.cell? (bd.add (i * 4)) = some (.bool s1) ∧ w'.cell? ⟨(bd.add (i * 4)).block, (bd.add (i * 4)).off + 1, none⟩ = some (.slice S1 ls1 cs1) ∧ w'.cell? ⟨(bd.add (i * 4)).block, (bd.add (i * 4)).off + 2, none⟩ = some (.bool s2) ∧ w'.cell? ⟨(bd.add (i * 4)).block, (bd.add (i * 4)).off + 3, none⟩ = some (.slice S2 ls2 cs2) ∧ w'.cell? ⟨g11, 0, none⟩ = some (.bool o1) ∧ w'.cell? ⟨g11, 1, none⟩ = some (.slice O1 lo1 co1) ∧ w'.cell? ⟨g11, 2, none⟩ = some (.bool o2) ∧ w'.cell? ⟨g11, 3, none⟩ = some (.slice O2 lo2 co2)) (first | exact ⟨y1, q0, q1, q2, q3, y2, y3, y4, y5⟩ | exact HS1.out) (first
              | (go_at_call 26; with_reducible refine (rCmpRat hq' (m0.z.ri HM.out.2 (by decide)) (by decide) (by decide) (by decide) (by decide) (by decide)).mono ?_; rintro e wa ⟨rfl, hbx⟩; have HS1 := hid (show wa.cell? ⟨g, 1, none⟩ = some (.slice (some bd) n d) ∧ wa.cell? (bd.add (i * 4)) = some (.bool s1) ∧ wa.cell? ⟨(bd.add (i * 4)).block, (bd.add (i * 4)).off + 1, none⟩ = some (.slice S1 ls1 cs1) ∧ wa.cell? ⟨(bd.add (i * 4)).block, (bd.add (i * 4)).off + 2, none⟩ = some (.bool s2) ∧ wa.cell? ⟨(bd.add (i * 4)).block, (bd.add (i * 4)).off + 3, none⟩ = some (.slice S2 ls2 cs2) ∧ wa.cell? ⟨g11, 0, none⟩ = some (.bool o1) ∧ wa.cell? ⟨g11, 1, none⟩ = some (.slice O1 lo1 co1) ∧ wa.cell? ⟨g11, 2, none⟩ = some (.bool o2) ∧ wa.cell? ⟨g11, 3, none⟩ = some (.slice O2 lo2 co2) from ⟨(P0.below hbx).o.jc.c2.2.1, (hbx.cell (p := bd.add (i * 4)) (in_add hbd)).trans q0, (hbx.cell (p := ⟨(bd.add (i * 4)).block, (bd.add (i * 4)).off + 1, none⟩) (in_add hbd)).trans q1, (hbx.cell (p := ⟨(bd.add (i * 4)).block, (bd.add (i * 4)).off + 2, none⟩) (in_add hbd)).trans q2, (hbx.cell (p := ⟨(bd.add (i * 4)).block, (bd.add (i * 4)).off + 3, none⟩) (in_add hbd)).trans q3, (m0.below hbx).b.c4.1, (m0.below hbx).b.c4.2.1, (m0.below hbx).b.c4.2.2.1, (m0.below hbx).b.c4.2.2.2.1⟩)))
            have hq2 := hq'.below hbx
            have P1 := P0.below hbx
            have m1 := m0.below hbx
            have k0 := (hbx.cell (p := bd.add (i * 4)) (in_add hbd)).trans q0
            have k1 := (hbx.cell (p := ⟨(bd.add (i * 4)).block, (bd.add (i * 4)).off + 1, none⟩) (in_add hbd)).trans q1
            have k2 := (hbx.cell (p := ⟨(bd.add (i * 4)).block, (bd.add (i * 4)).off + 2, none⟩) (in_add hbd)).trans q2
            have k3 := (hbx.cell (p := ⟨(bd.add (i * 4)).block, (bd.add (i * 4)).off + 3, none⟩) (in_add hbd)).trans q3
            clear P0 m0 q0 q1 q2 q3 y0 y1 y2 y3 y4 y5 x0 x1 hq hq' hbx P jm
            obtain ⟨x0, x1, -, -⟩ := P1.o.jc.c2
            have HP := hid P1
            have HJ := hid m1
            clear P1 m1 k0 k1 k2 k3 hq2
            go_wp2
            go_roundw
            case rel => exact ⟨i + 1, M, o1, O1, lo1, co1, o2, O2, lo2, co2, by omega, by go_num, hid ⟨⟨HM.out.1.1, fun j hj => by
                rcases Nat.lt_or_ge j i with h | h
                · exact HM.out.1.2 j h
                · have : j = i := by omega
                  subst this; exact Rat.not_lt.1 HG.out⟩, HM.out.2⟩, HP.out, HJ.out⟩
            case measure => simp [intOf]; omega
        · have hin : n = i := by omega
          subst hin
          obtain ⟨xc0, xc1, -, -⟩ := P.o.jc.c2
          obtain ⟨x0, x1, x2, x3, -, -, -, -⟩ := P.b.b.c4
          obtain ⟨x4, x5, x6, x7, -, -, -, -⟩ := P.a.b.c4
          go_wp2_with fail
          refine (SubRat_q (P.b.z.qi LVZ) (P.a.z.qi LVY) (by decide) (by decide) (by decide) (by decide) (HT.out.below P.o.bl)).mono ?_
          rintro e w9 ⟨r1, R1, lr1, cr1, r2, R2, lr2, cr2, rfl, hr, hb9⟩
          have P9 := (P.below hb9).below (alo (o := (.cells #[.bool r1, .slice R1 lr1 cr1, .bool r2, .slice R2 lr2 cr2] 26)))
          have m9 := (jm.below hb9).below (alo (o := (.cells #[.bool r1, .slice R1 lr1 cr1, .bool r2, .slice R2 lr2 cr2] 26)))
          have j13 := Jq.made hr
          have hl9 : g11 < w9.heap.size := (jm.below hb9).b.lt
          clear P jm hb9 hr xc0 xc1 x0 x1 x2 x3 x4 x5 x6 x7
          go_upto_region 14 with fail
          generalize w9.alloc (.cells #[.bool r1, .slice R1 lr1 cr1, .bool r2, .slice R2 lr2 cr2] 26) = W9 at *
          generalize w9.heap.size = g13 at *
          have D0 := Lx.below ⟨P9, m9, j13⟩ (dr0 (W := W9))
          clear P9 m9 j13
          have LR : QL 389 ((Kc.vl n X Q z) - (Kc.vl n X Q y)) := LVZ.sub LVY
          have LZY : QL 25 (z - y) := LZ.sub LY
          have LMZ : QL 37 (M * (z - y)) := HM.out.2.mul LZY
          have hdA := hid (show ((0 : Int) : Rat) ≤ (Kc.vl n X Q z) - (Kc.vl n X Q y) by
            have h := Kc.vl_mono (Q := Q) OK.out.inc OK.out.pos HYZ.out
            have e : ((0 : Int) : Rat) = 0 := rfl
            rw [e]; grind)
          have hdB := hid (Kc.vl_steep OK.out.inc HM.out.1.1 HM.out.1.2 HYZ.out)
          have hcells := D0.cells
          go_region_held3 (fun w' => w'.cell? ⟨g13, 0, none⟩ = some (.bool r1) ∧ w'.cell? ⟨g13, 1, none⟩ = some (.slice R1 lr1 cr1) ∧ w'.cell? ⟨g13, 2, none⟩ = some (.bool r2) ∧ w'.cell? ⟨g13, 3, none⟩ = some (.slice R2 lr2 cr2) ∧ w'.cell? ⟨g11, 0, none⟩ = some (.bool o1) ∧ w'.cell? ⟨g11, 1, none⟩ = some (.slice O1 lo1 co1) ∧ w'.cell? ⟨g11, 2, none⟩ = some (.bool o2) ∧ w'.cell? ⟨g11, 3, none⟩ = some (.slice O2 lo2 co2) ∧ w'.cell? ⟨g + 1 + 1, 0, none⟩ = some (.bool z1) ∧ w'.cell? ⟨g + 1 + 1, 1, none⟩ = some (.slice Z1 lz1 cz1) ∧ w'.cell? ⟨g + 1 + 1, 2, none⟩ = some (.bool z2) ∧ w'.cell? ⟨g + 1 + 1, 3, none⟩ = some (.slice Z2 lz2 cz2) ∧ w'.cell? ⟨g + 1, 0, none⟩ = some (.bool y1) ∧ w'.cell? ⟨g + 1, 1, none⟩ = some (.slice Y1 ly1 cy1) ∧ w'.cell? ⟨g + 1, 2, none⟩ = some (.bool y2) ∧ w'.cell? ⟨g + 1, 3, none⟩ = some (.slice Y2 ly2 cy2)) (first | with_reducible exact Lx.cells D0 | with_reducible exact Lx.cells D1 | with_reducible exact Lx.cells D2 | with_reducible exact Lx.cells D3 | with_reducible exact Lx.cells D4 | with_reducible exact Lx.cells D5) (first
            | (go_at_call 50; with_reducible refine (W_q 0 _ (by decide) (by decide)).mono ?_; rintro e wv1 ⟨a1, E1, o3, e1, a2, E2, o4, e2, rfl, h1, hb1⟩; have D1 := D0.below hb1)
            | (go_at_call 25; with_reducible refine (CmpQge (D1.r.z.qi LR) (h1.qi (whole_ql (k := 1) (z := 0) (Le.zero _) (by decide))) (by decide) (by decide) (by decide) (by decide) (HT.out.below D1.p.o.bl) hdA.out).mono ?_; rintro e wv2 ⟨i1, rfl, hi1, hb2⟩; have D2 := D1.below hb2)
            | (go_at_call 19; with_reducible refine (SubRat_q (HZ.out.below D2.p.o.bl) (HY.out.below D2.p.o.bl) (by decide) (by decide) (by decide) (by decide) (HT.out.below D2.p.o.bl)).mono ?_; rintro e wv3 ⟨a3, E3, o5, e3, a4, E4, o6, e4, rfl, h3, hb3⟩; have D3 := D2.below hb3)
            | (go_at_call 21; with_reducible refine (MulRat_q (D3.m.z.qi HM.out.2) (h3.qi LZY) (by decide) (by decide) (by decide) (by decide) (HT.out.below D3.p.o.bl)).mono ?_; rintro e wv4 ⟨a5, E5, o7, e5, a6, E6, o8, e6, rfl, h4, hb4⟩; have D4 := D3.below hb4)
            | (go_at_call 25; with_reducible refine (CmpQle (D4.r.z.qi LR) (h4.qi LMZ) (by decide) (by decide) (by decide) (by decide) (HT.out.below D4.p.o.bl) hdB.out).mono ?_; rintro e wv5 ⟨i2, rfl, hi2, hb5⟩; have D5 := D4.below hb5))
          have P := D5.p
          clear D0 D1 D2 D3 D4 D5 hcells h1 h3 h4 hb1 hb2 hb3 hb4 hb5 LR LZY LMZ
          obtain ⟨x0, x1, -, -⟩ := P.o.jc.c2
          obtain ⟨x2, x3, x4, x5, -, -, -, -⟩ := P.b.b.c4
          by_cases hw0 : 0 < (Kc.vl n X Q z)
          · have HW := hid hw0
            have hdC := hid (show ((0 : Int) : Rat) < (Kc.vl n X Q z) from hw0)
            clear hw0
            go_wp2_with fail
            refine (Reach_pos (HC.out.below P.o.bl) OK.out (P.b.z.qi LVZ) (by decide) (by decide) (by decide) (HT.out.below P.o.bl) HW.out).mono ?_
            rintro e wa ⟨t1, T1, lt1, ct1, t2, T2, lt2, ct2, E, rfl, HR, hbA⟩
            have HR' := hid HR
            clear HR hdA hdB
            rcases HR'.out with ⟨i, hi, hb1, hh, rfl, hq⟩ | ⟨hn0, -⟩
            · obtain ⟨rho, hrho⟩ : ∃ rho, Kc.hitAt X Q (Kc.vl n X Q z) i = rho := ⟨_, rfl⟩
              have H1 := hid (Kc.vl_hit OK.out.inc OK.out.pos HW.out hi hb1 hh)
              have H2 := hid (Kc.hit_where OK.out.inc OK.out.pos HW.out rfl hi hb1 hh)
              have H3 := hid (fun (y : Rat) (hy : y < Kc.hitAt X Q (Kc.vl n X Q z) i) => Kc.vl_ahead OK.out.inc OK.out.pos HW.out hi hb1 hh hy)
              rw [hrho] at H1 H2 H3 hq
              have LRH : QL 12 rho := by
                rcases H2.out.2 with e | ⟨hl, e⟩
                · rw [e]; exact LZ
                · rw [e]; exact (OK.out.ql hl).mono (by decide)
              have PA := (P.below hbA).below (alo (o := (.cells #[.bool t1, .slice T1 lt1 ct1, .bool t2, .slice T2 lt2 ct2] 26)))
              have j14 := Jq.made hq
              clear P hbA hq x0 x1 x2 x3 x4 x5 hrho hb1 hh hi HR'
              go_upto_region 17 with fail
              generalize wa.alloc (.cells #[.bool t1, .slice T1 lt1 ct1, .bool t2, .slice T2 lt2 ct2] 26) = WA at *
              generalize wa.heap.size = g14 at *
              have P0 := PA.below (dr0 (W := WA))
              have k0 := j14.below (dr0 (W := WA))
              clear PA j14
              have hcells := P0.cells
              go_region_held3 (fun w' => w'.cell? ⟨g9, 0, none⟩ = some (.bool w1) ∧ w'.cell? ⟨g9, 1, none⟩ = some (.slice W1 lw1 cw1) ∧ w'.cell? ⟨g9, 2, none⟩ = some (.bool w2) ∧ w'.cell? ⟨g9, 3, none⟩ = some (.slice W2 lw2 cw2)) (first | with_reducible exact Lv.cells P0 | with_reducible exact Lv.cells P1 | with_reducible exact Lv.cells P2) (first
                | (go_at_call 50; with_reducible refine (W_q 0 _ (by decide) (by decide)).mono ?_; rintro e wv1 ⟨a1, E1, o3, e1, a2, E2, o4, e2, rfl, h1, hb1⟩; have P1 := P0.below hb1)
                | (go_at_call 25; with_reducible refine (CmpQgt (P1.b.z.qi LVZ) (h1.qi (whole_ql (k := 1) (z := 0) (Le.zero _) (by decide))) (by decide) (by decide) (by decide) (by decide) (HT.out.below P1.o.bl) hdC.out).mono ?_; rintro e wv2 ⟨i3, rfl, hi3, hb2⟩; have P2 := P1.below hb2))
              have k2 := (k0.below hb1).below hb2
              have P := P2
              clear P0 P1 P2 hcells h1 hb1 hb2 k0
              obtain ⟨x0, x1, -, -⟩ := P.o.jc.c2
              obtain ⟨x2, x3, x4, x5, -, -, -, -⟩ := k2.b.c4
              go_wp2_with fail
              refine (Value_q (HC.out.below P.o.bl) OK.out (k2.z.qi LRH) (by decide) (by decide) (by decide) (HT.out.below P.o.bl)).mono ?_
              rintro e wb ⟨a1, J1, la1, ca1, a2, J2, la2, ca2, rfl, hv, hbB⟩
              rw [H1.out] at hv
              have PB := (P.below hbB).below (alo (o := (.cells #[.bool a1, .slice J1 la1 ca1, .bool a2, .slice J2 la2 ca2] 26)))
              have k3 := (k2.below hbB).below (alo (o := (.cells #[.bool a1, .slice J1 la1 ca1, .bool a2, .slice J2 la2 ca2] 26)))
              have j16 := Jq.made hv
              clear P k2 hbB hv x0 x1 x2 x3 x4 x5 hdC
              go_upto_region 20 with fail
              generalize wb.alloc (.cells #[.bool a1, .slice J1 la1 ca1, .bool a2, .slice J2 la2 ca2] 26) = WB at *
              generalize wb.heap.size = g16 at *
              have hdD : decide (0 < cmpQ rho z) = false := decide_eq_false (cmpQ_le H2.out.1)
              obtain ⟨x0, x1, x2, x3, -, -, -, -⟩ := j16.b.c4
              obtain ⟨x4, x5, x6, x7, -, -, -, -⟩ := PB.b.b.c4
              go_wp2_with fail
              refine (CmpQeq (j16.z.qi LVZ) (PB.b.z.qi LVZ) (by decide) (by decide) (by decide) (by decide) (HT.out.below PB.o.bl) rfl).mono ?_
              rintro e wc ⟨rfl, hbC⟩
              have PC := PB.below hbC
              have k4 := k3.below hbC
              clear PB k3 j16 hbC x0 x1 x2 x3 x4 x5 x6 x7
              obtain ⟨x0, x1, x2, x3, -, -, -, -⟩ := k4.b.c4
              obtain ⟨x4, x5, x6, x7, -, -, -, -⟩ := PC.o.jz.c4
              go_wp2_with fail
              refine (CmpRat_q (k4.z.qi LRH) (HZ.out.below PC.o.bl) (by decide) (by decide) (by decide) (by decide) (HT.out.below PC.o.bl)).mono ?_
              rintro e wd ⟨rfl, hbD⟩
              have PD := PC.below hbD
              have k5 := k4.below hbD
              clear PC k4 hbD x0 x1 x2 x3 x4 x5 x6 x7
              obtain ⟨x0, x1, x2, x3, -, -, -, -⟩ := k5.b.c4
              obtain ⟨x4, x5, x6, x7, -, -, -, -⟩ := PD.o.jy.c4
              by_cases hry : rho ≤ y
              · have hdE : decide (0 ≤ cmpQ y rho) = true := decide_eq_true (by
                  rcases Rat.le_iff_lt_or_eq.1 hry with h | h
                  · have := cmpQ_gt h; omega
                  · rw [h, cmpQ_self]; exact Int.le_refl _)
                clear hry
                go_wp2_with fail
                refine (CmpRat_q (HY.out.below PD.o.bl) (k5.z.qi LRH) (by decide) (by decide) (by decide) (by decide) (HT.out.below PD.o.bl)).mono ?_
                rintro e we ⟨rfl, hbE⟩
                have PE := PD.below hbE
                clear PD k5 hbE x0 x1 x2 x3 x4 x5 x6 x7
                go_wp2_with fail
                refine (awake_true _ (HT.out.below PE.o.bl)).mono ?_
                rintro e wz ⟨rfl, hbz⟩
                have hE := bthen PE.o.bl hbz (Nat.le_refl _)
                clear hbz PE
                go_wp2
                go_ret
                exact ⟨rfl, hE⟩
              · have hlt := Rat.not_le.1 hry
                have hdE : decide (0 ≤ cmpQ y rho) = false := decide_eq_false (by unfold cmpQ; rw [if_pos hlt]; decide)
                have hdF : decide (cmpQ (Kc.vl n X Q y) (Kc.vl n X Q z) < 0) = true := decide_eq_true (by unfold cmpQ; rw [if_pos (H3.out y hlt)]; decide)
                clear hry hlt
                go_wp2_with fail
                refine (CmpRat_q (HY.out.below PD.o.bl) (k5.z.qi LRH) (by decide) (by decide) (by decide) (by decide) (HT.out.below PD.o.bl)).mono ?_
                rintro e we ⟨rfl, hbE⟩
                have PE := PD.below hbE
                clear PD k5 hbE x0 x1 x2 x3 x4 x5 x6 x7
                obtain ⟨x0, x1, x2, x3, -, -, -, -⟩ := PE.a.b.c4
                obtain ⟨x4, x5, x6, x7, -, -, -, -⟩ := PE.b.b.c4
                go_wp2_with fail
                refine (CmpRat_q (PE.a.z.qi LVY) (PE.b.z.qi LVZ) (by decide) (by decide) (by decide) (by decide) (HT.out.below PE.o.bl)).mono ?_
                rintro e wf ⟨rfl, hbF⟩
                have PF := PE.below hbF
                clear PE hbF x0 x1 x2 x3 x4 x5 x6 x7
                go_wp2_with fail
                refine (awake_true _ (HT.out.below PF.o.bl)).mono ?_
                rintro e wz ⟨rfl, hbz⟩
                have hE := bthen PF.o.bl hbz (Nat.le_refl _)
                clear hbz PF
                go_wp2
                go_ret
                exact ⟨rfl, hE⟩
            · exact absurd hn0 (Kc.hit_of OK.out.inc OK.out.pos HW.out rfl)
          · have hdC := hid (show (Kc.vl n X Q z) ≤ ((0 : Int) : Rat) from Rat.not_lt.1 hw0)
            have HW := hid hw0
            clear hw0
            go_wp2_with fail
            refine (Reach_neg (HC.out.below P.o.bl) OK.out (P.b.z.qi LVZ) (by decide) (by decide) (HT.out.below P.o.bl) HW.out).mono ?_
            rintro e wa ⟨rfl, hbA⟩
            have PA := (P.below hbA).below (alo (o := (.cells #[.bool false, .slice none 0 0, .bool false, .slice none 0 0] 26)))
            clear P hbA x0 x1 x2 x3 x4 x5 hdA hdB
            go_upto_region 17 with fail
            generalize wa.alloc (.cells #[.bool false, .slice none 0 0, .bool false, .slice none 0 0] 26) = WA at *
            have P0 := PA.below (dr0 (W := WA))
            clear PA
            have hcells := P0.cells
            go_region_held3 (fun w' => w'.cell? ⟨g9, 0, none⟩ = some (.bool w1) ∧ w'.cell? ⟨g9, 1, none⟩ = some (.slice W1 lw1 cw1) ∧ w'.cell? ⟨g9, 2, none⟩ = some (.bool w2) ∧ w'.cell? ⟨g9, 3, none⟩ = some (.slice W2 lw2 cw2)) (first | with_reducible exact Lv.cells P0 | with_reducible exact Lv.cells P1 | with_reducible exact Lv.cells P2) (first
              | (go_at_call 50; with_reducible refine (W_q 0 _ (by decide) (by decide)).mono ?_; rintro e wv1 ⟨a1, E1, o3, e1, a2, E2, o4, e2, rfl, h1, hb1⟩; have P1 := P0.below hb1)
              | (go_at_call 25; with_reducible refine (CmpQle2 (P1.b.z.qi LVZ) (h1.qi (whole_ql (k := 1) (z := 0) (Le.zero _) (by decide))) (by decide) (by decide) (by decide) (by decide) (HT.out.below P1.o.bl) hdC.out).mono ?_; rintro e wv2 ⟨i3, rfl, hi3, hb2⟩; have P2 := P1.below hb2))
            have P := P2
            clear P0 P1 P2 hcells h1 hb1 hb2
            go_wp2_with fail
            refine (awake_true _ (HT.out.below P.o.bl)).mono ?_
            rintro e wz ⟨rfl, hbz⟩
            have hE := bthen P.o.bl hbz (Nat.le_refl _)
            clear hbz P
            go_wp2
            go_ret
            exact ⟨rfl, hE⟩
    · have hd0 : decide (0 < cmpQ y z) = true := decide_eq_true (cmpQ_gt (Rat.not_le.1 hyz))
      clear hyz
      go_wp2_with fail
      refine (rCmpRat hyR hzR (by decide) (by decide) (by decide) (by decide) (by decide)).mono ?_
      rintro e w5 ⟨rfl, hb5⟩
      have R5 := R4.below hb5
      clear R4 hb5 x2 x3 x4 x5 x6 x7 x8 x9 hyR hzR
      go_wp2_with fail
      refine (awake_true _ (hT.below R5.bl)).mono ?_
      rintro e w9 ⟨rfl, hb9⟩
      have hE := bthen R5.bl hb9 (Nat.le_refl _)
      clear hb9 R5
      go_wp2
      go_ret
      exact ⟨rfl, hE⟩
  · have hr1 : (rr == 0) = false := beq_eq_false_iff_ne.2 hr
    have hr2 : (rr != 0) = true := by simpa using hr
    clear hr HK
    go_wp2_with fail
    refine (awake_true _ (hT.below R4.bl)).mono ?_
    rintro e w9 ⟨rfl, hb9⟩
    have hE := bthen R4.bl hb9 (Nat.le_refl _)
    clear hb9 R4
    go_wp2
    go_ret
    exact ⟨rfl, hE⟩


end Go.Proofs.YtffipjofefemiaaGreatDoor
