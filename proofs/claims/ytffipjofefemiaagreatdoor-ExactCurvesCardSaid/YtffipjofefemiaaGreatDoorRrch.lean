/- The contract of the reference's Reach. For all valid curves of few starts, at fractions of few limbs. -/
import Derived.Test.YtffipjofefemiaaGreatDoorRval
import Derived.Test.YtffipjofefemiaaGreatDoorRch
import Derived.Deep.DeepCutAuto
namespace Go.Proofs.YtffipjofefemiaaGreatDoor
open Go.RowKit Kb

theorem Es.offj {wx wy : World} {B0 i gt : Nat} {ad : Addr} {x : Int} (h : Es wx B0 ad i x) (hg : wx.grownBy wy (some gt)) (hB : B0 ≤ gt) : Es wy B0 ad i x := by
  have l0 := h.la
  have l1 : ad.block < wx.heap.size := Nat.lt_of_lt_of_le h.la h.le
  have l2 : ad.block ≠ gt := by omega
  exact ⟨cell_grown (p := ad.add i) hg (in_add l1) (ne_add l2) h.s, h.la, Nat.le_trans h.le hg.size⟩
structure Ir (w : World) (g B0 : Nat) (A : Option Addr) (n c : Nat) (B : Option Addr) (m d kc : Nat) (X : Nat → Int) (Q : Nat → Rat) (y1 : Bool) (Y1 : Option Addr) (ly1 cy1 : Nat) (y2 : Bool) (Y2 : Option Addr) (ly2 cy2 : Nat) (k : Nat) (y : Rat) (ad : Addr) (i g7 : Nat) (e1 : Bool) (E1 : Option Addr) (le1 ce1 : Nat) (e2 : Bool) (E2 : Option Addr) (le2 ce2 : Nat) (q : Rat) (wx : World) : Prop where
  al : Al w g B0 A n c B m d kc X Q y1 Y1 ly1 cy1 y2 Y2 ly2 cy2 k y wx
  es : Es wx B0 ad i (X i)
  js : Jq wx g7 e1 E1 le1 ce1 e2 E2 le2 ce2 q
section
variable {w : World} {g B0 : Nat} {A : Option Addr} {n c : Nat} {B : Option Addr} {m d kc : Nat} {X : Nat → Int} {Q : Nat → Rat} {y1 : Bool} {Y1 : Option Addr} {ly1 cy1 : Nat} {y2 : Bool} {Y2 : Option Addr} {ly2 cy2 : Nat} {k : Nat} {y : Rat} {ad : Addr} {i g7 : Nat} {e1 : Bool} {E1 : Option Addr} {le1 ce1 : Nat} {e2 : Bool} {E2 : Option Addr} {le2 ce2 : Nat} {q : Rat} {wx wy : World}
theorem Ir.below (h : Ir w g B0 A n c B m d kc X Q y1 Y1 ly1 cy1 y2 Y2 ly2 cy2 k y ad i g7 e1 E1 le1 ce1 e2 E2 le2 ce2 q wx) (hb : Below wx.heap.size wx wy) : Ir w g B0 A n c B m d kc X Q y1 Y1 ly1 cy1 y2 Y2 ly2 cy2 k y ad i g7 e1 E1 le1 ce1 e2 E2 le2 ce2 q wy := ⟨h.al.below hb, h.es.below hb, h.js.below hb⟩
theorem Ir.cells (h : Ir w g B0 A n c B m d kc X Q y1 Y1 ly1 cy1 y2 Y2 ly2 cy2 k y ad i g7 e1 E1 le1 ce1 e2 E2 le2 ce2 q wx) : wx.cell? ⟨g, 0, none⟩ = some (.slice A n c) ∧ wx.cell? ⟨g, 1, none⟩ = some (.slice B m d) ∧ wx.cell? ⟨g + 1, 0, none⟩ = some (.bool y1) ∧ wx.cell? ⟨g + 1, 1, none⟩ = some (.slice Y1 ly1 cy1) ∧ wx.cell? ⟨g + 1, 2, none⟩ = some (.bool y2) ∧ wx.cell? ⟨g + 1, 3, none⟩ = some (.slice Y2 ly2 cy2) ∧ wx.cell? (ad.add i) = some (.int .i64 (X i)) ∧ wx.cell? ⟨g7, 0, none⟩ = some (.bool e1) ∧ wx.cell? ⟨g7, 1, none⟩ = some (.slice E1 le1 ce1) ∧ wx.cell? ⟨g7, 2, none⟩ = some (.bool e2) ∧ wx.cell? ⟨g7, 3, none⟩ = some (.slice E2 le2 ce2) :=
  ⟨h.al.jc.c2.1, h.al.jc.c2.2.1, h.al.jy.c4.1, h.al.jy.c4.2.1, h.al.jy.c4.2.2.1, h.al.jy.c4.2.2.2.1, h.es.s, h.js.b.c4.1, h.js.b.c4.2.1, h.js.b.c4.2.2.1, h.js.b.c4.2.2.2.1⟩
end
theorem Ir.clo {w : World} {g B0 : Nat} {A : Option Addr} {n c : Nat} {B : Option Addr} {m d kc : Nat} {X : Nat → Int} {Q : Nat → Rat} {y1 : Bool} {Y1 : Option Addr} {ly1 cy1 : Nat} {y2 : Bool} {Y2 : Option Addr} {ly2 cy2 : Nat} {k : Nat} {y : Rat} {ad : Addr} {i g7 : Nat} {e1 : Bool} {E1 : Option Addr} {le1 ce1 : Nat} {e2 : Bool} {E2 : Option Addr} {le2 ce2 : Nat} {q : Rat} {wx : World} (kk : Ir w g B0 A n c B m d kc X Q y1 Y1 ly1 cy1 y2 Y2 ly2 cy2 k y ad i g7 e1 E1 le1 ce1 e2 E2 le2 ce2 q wx) (h1 : w.heap.size = g) (h2 : B0 ≤ g) (h3 : 0 < g) : Clo4 (Ir w g B0 A n c B m d kc X Q y1 Y1 ly1 cy1 y2 Y2 ly2 cy2 k y ad i g7 e1 E1 le1 ce1 e2 E2 le2 ce2 q) wx.heap.size :=
  ⟨fun q hb => q.below hb, fun {a h' u0 u1 u2 u3} q hq => by
    have e1 := Nat.lt_of_lt_of_le kk.al.jr.lt hq.2
    have e3 := Nat.lt_of_lt_of_le kk.js.b.lt hq.2
    have hG := gb4' a h' u0 u1 u2 u3
    have hN := noInt_four false false none none 0 0 0 0
    exact ⟨q.al.offb hq.1 hN hG ⟨h1, h2, e1, Nat.lt_trans h3 (by omega)⟩, q.es.offj hG (by omega), q.js.offb hq.1 hN hG (Nat.ne_of_lt e3)⟩⟩
structure Iy (w : World) (g B0 : Nat) (A : Option Addr) (n c : Nat) (B : Option Addr) (m d kc : Nat) (X : Nat → Int) (Q : Nat → Rat) (y1 : Bool) (Y1 : Option Addr) (ly1 cy1 : Nat) (y2 : Bool) (Y2 : Option Addr) (ly2 cy2 : Nat) (k : Nat) (y : Rat) (ad : Addr) (i g7 : Nat) (e1 : Bool) (E1 : Option Addr) (le1 ce1 : Nat) (e2 : Bool) (E2 : Option Addr) (le2 ce2 : Nat) (q : Rat) (g8 : Nat) (f1 : Bool) (F1 : Option Addr) (lf1 cf1 : Nat) (f2 : Bool) (F2 : Option Addr) (lf2 cf2 : Nat) (hv : Rat) (wx : World) : Prop where
  o : Ir w g B0 A n c B m d kc X Q y1 Y1 ly1 cy1 y2 Y2 ly2 cy2 k y ad i g7 e1 E1 le1 ce1 e2 E2 le2 ce2 q wx
  l : Jq wx g8 f1 F1 lf1 cf1 f2 F2 lf2 cf2 hv
  sn : Es wx B0 ad (i + 1) (X (i + 1))
section
variable {w : World} {g B0 : Nat} {A : Option Addr} {n c : Nat} {B : Option Addr} {m d kc : Nat} {X : Nat → Int} {Q : Nat → Rat} {y1 : Bool} {Y1 : Option Addr} {ly1 cy1 : Nat} {y2 : Bool} {Y2 : Option Addr} {ly2 cy2 : Nat} {k : Nat} {y : Rat} {ad : Addr} {i g7 : Nat} {e1 : Bool} {E1 : Option Addr} {le1 ce1 : Nat} {e2 : Bool} {E2 : Option Addr} {le2 ce2 : Nat} {q : Rat} {g8 : Nat} {f1 : Bool} {F1 : Option Addr} {lf1 cf1 : Nat} {f2 : Bool} {F2 : Option Addr} {lf2 cf2 : Nat} {hv : Rat} {wx wy : World}
theorem Iy.below (h : Iy w g B0 A n c B m d kc X Q y1 Y1 ly1 cy1 y2 Y2 ly2 cy2 k y ad i g7 e1 E1 le1 ce1 e2 E2 le2 ce2 q g8 f1 F1 lf1 cf1 f2 F2 lf2 cf2 hv wx) (hb : Below wx.heap.size wx wy) : Iy w g B0 A n c B m d kc X Q y1 Y1 ly1 cy1 y2 Y2 ly2 cy2 k y ad i g7 e1 E1 le1 ce1 e2 E2 le2 ce2 q g8 f1 F1 lf1 cf1 f2 F2 lf2 cf2 hv wy := ⟨h.o.below hb, h.l.below hb, h.sn.below hb⟩
theorem Iy.cells (h : Iy w g B0 A n c B m d kc X Q y1 Y1 ly1 cy1 y2 Y2 ly2 cy2 k y ad i g7 e1 E1 le1 ce1 e2 E2 le2 ce2 q g8 f1 F1 lf1 cf1 f2 F2 lf2 cf2 hv wx) : wx.cell? ⟨g, 0, none⟩ = some (.slice A n c) ∧ wx.cell? ⟨ad.block, ad.off + (i + 1), none⟩ = some (.int .i64 (X (i + 1))) ∧ wx.cell? ⟨g8, 0, none⟩ = some (.bool f1) ∧ wx.cell? ⟨g8, 1, none⟩ = some (.slice F1 lf1 cf1) ∧ wx.cell? ⟨g8, 2, none⟩ = some (.bool f2) ∧ wx.cell? ⟨g8, 3, none⟩ = some (.slice F2 lf2 cf2) :=
  ⟨h.o.al.jc.c2.1, h.sn.next, h.l.b.c4.1, h.l.b.c4.2.1, h.l.b.c4.2.2.1, h.l.b.c4.2.2.2.1⟩
end

set_option maxRecDepth 100000 in
set_option maxHeartbeats 80000000 in
theorem rReach_pos {w : World} {A : Option Addr} {n c : Nat} {B : Option Addr} {d B0 kc k : Nat} {X : Nat → Int} {Q : Nat → Rat} {y : Rat} {y1 : Bool} {Y1 : Option Addr} {ly1 cy1 : Nat} {y2 : Bool} {Y2 : Option Addr} {ly2 cy2 : Nat} (h : Cv w B0 A n B n kc X Q) (ok : Okc n X Q) (k0 : Ri w y1 Y1 ly1 cy1 y2 Y2 ly2 cy2 k y) (hkc : 0 < kc) (hk0 : 2 ≤ k) (hkc12 : kc ≤ 12) (hk12 : k ≤ 12) (hT : Tb w) (hv : 0 < y) :
    Calls Tryz.prog 40 #[.agg #[.slice A n c, .slice B n d], .agg #[.bool y1, .slice Y1 ly1 cy1, .bool y2, .slice Y2 ly2 cy2]] w fun e w' => ∃ t1 T1 lt1 ct1 t2 T2 lt2 ct2 E, e = .returned (.tuple #[.agg #[.bool t1, .slice T1 lt1 ct1, .bool t2, .slice T2 lt2 ct2], .int .i64 E]) ∧ Rout n X Q y t1 T1 lt1 ct1 t2 T2 lt2 ct2 E w' ∧ Below w.heap.size w w' := by
  have b0 := three_new w (.cells #[.slice A n c, .slice B n d] 48) (.cells #[.bool y1, .slice Y1 ly1 cy1, .bool y2, .slice Y2 ly2 cy2] 26) (.cells #[.bool false, .slice none 0 0, .bool false, .slice none 0 0] 26)
  have hB := (((Below.refl w.heap.size w).alloc (Nat.le_refl _) (.cells #[.slice A n c, .slice B n d] 48)).alloc (by simp) (.cells #[.bool y1, .slice Y1 ly1 cy1, .bool y2, .slice Y2 ly2 cy2] 26)).alloc (by simp; omega) (.cells #[.bool false, .slice none 0 0, .bool false, .slice none 0 0] 26)
  obtain ⟨g, hg⟩ : ∃ g, w.heap.size = g := ⟨_, rfl⟩
  have hw1 := k0.h1
  have hw2 := k0.h2
  have hn12 := ok.few
  have hqQ : ∀ i, i < n → QL kc (Q i) := fun i hi => by
    obtain ⟨_, _, _, _, _, _, _, _, _, _, _, _, _, _, _, hr⟩ := h.q i hi
    exact hr.q.ql hkc
  have HQ := hid hqQ
  have LY := k0.q.ql (show 0 < k by omega)
  have hsy : y.num.sign = 1 := Int.sign_eq_one_of_pos (by have h1 := Rat.num_nonneg.2 (show 0 ≤ y by grind); have h2 : y.num ≠ 0 := fun e => (show y ≠ 0 by grind) (Rat.num_eq_zero.1 e); omega)
  go_enter Tryz.func40, Tryz.ntmps40
  go_wp2_with fail
  rw [hg] at b0
  generalize ((w.alloc (.cells #[.slice A n c, .slice B n d] 48)).alloc (.cells #[.bool y1, .slice Y1 ly1 cy1, .bool y2, .slice Y2 ly2 cy2] 26)).alloc (.cells #[.bool false, .slice none 0 0, .bool false, .slice none 0 0] 26) = W0 at *
  have hle := h.le
  have hTl := hT.2
  have P0 : Al w g B0 A n c B n d kc X Q y1 Y1 ly1 cy1 y2 Y2 ly2 cy2 k y W0 := ⟨h.below hB, b0.1, b0.2.1, b0.2.2, k0.q.below hB, hT.below hB, hB⟩
  have OK := hid ok
  have Hg := hid (show w.heap.size = g ∧ B0 ≤ g ∧ 0 < g from ⟨hg, by omega, by omega⟩)
  clear h k0 hT hB hg b0 ok hle hTl hqQ hv
  refine (rSignRat (Ri.mk P0.qy hw1 hw2) (by omega) (by omega)).mono ?_
  rintro e w1 ⟨rfl, hb1⟩
  have P1 := P0.below hb1
  clear P0 hb1
  obtain ⟨x0, x1, -, -⟩ := P1.jc.c2
  go_wp2
  go_loopw [6] (fun iv wr => ∃ (i : Nat), i ≤ n ∧ iv = .int .i64 ((i : Nat) : Int) ∧ Hid (∀ j, j < i → ¬ Kc.Hit n X Q y j) ∧ Al w g B0 A n c B n d kc X Q y1 Y1 ly1 cy1 y2 Y2 ly2 cy2 k y wr) (fun iv _ => n - (intOf iv).toNat)
  case atStart => exact ⟨0, Nat.zero_le _, rfl, hid (fun j hj => absurd hj (Nat.not_lt_zero _)), P1⟩
  case round =>
    obtain ⟨i, hi', rfl, HN, P⟩ := hrel
    clear P1 x0 x1
    obtain ⟨x0, x1, -, -⟩ := P.jc.c2
    by_cases hi : i < n
    · obtain ⟨bd, s1, S1, ls1, cs1, s2, S2, ls2, cs2, hBd, el⟩ := P.cv.el hi
      obtain ⟨ad, hA, es⟩ := P.cv.es hi
      have LX := OK.out.ql hi
      have LS := HQ.out i hi
      have hx := OK.out.far i hi
      have hQn := hid (OK.out.pos i hi)
      subst hBd; subst hA
      have q0 := el.q0
      have q1 := el.q1
      have q2 := el.q2
      have q3 := el.q3
      go_wp2_with fail
      refine (rNormRat el.r (by omega)).mono ?_
      rintro e w3 ⟨e1, E1, le1, ce1, e2, E2, le2, ce2, rfl, hqs, hb3⟩
      have T0 : Ir w g B0 (some ad) n c (some bd) n d kc X Q y1 Y1 ly1 cy1 y2 Y2 ly2 cy2 k y ad i w3.heap.size e1 E1 le1 ce1 e2 E2 le2 ce2 (Q i) (w3.alloc (.cells #[.bool e1, .slice E1 le1 ce1, .bool e2, .slice E2 le2 ce2] 26)) := have hA := alo (W := w3) (o := (.cells #[.bool e1, .slice E1 le1 ce1, .bool e2, .slice E2 le2 ce2] 26)); Ir.mk ((P.below hb3).below hA) ((es.below hb3).below hA) (Jq.made hqs)
      clear P el es hqs hb3 x0 x1 q0 q1 q2 q3
      go_upto_region 6 with fail
      generalize w3.alloc (.cells #[.bool e1, .slice E1 le1 ce1, .bool e2, .slice E2 le2 ce2] 26) = W3 at *
      generalize w3.heap.size = g7 at *
      obtain ⟨n0, n1, n2, n3, -, -, -, -⟩ := T0.js.b.c4
      go_wp2_with fail
      refine (rSignRat (T0.js.z.ri LS (by omega)) hkc (by omega)).mono ?_
      rintro e w4 ⟨rfl, hb4⟩
      have R := T0.below hb4
      clear T0 hb4 n0 n1 n2 n3
      by_cases hq0 : Q i = 0
      · have hsg : (Q i).num.sign = 0 := by rw [hq0]; rfl
        have HQ0 := hid hq0
        have HP := hid R.al
        clear hq0 R
        go_wp2
        go_roundw
        case rel =>
          refine ⟨i + 1, by omega, by go_num, hid (fun j hj => ?_), HP.out⟩
          rcases Nat.lt_or_ge j i with h1 | h1
          · exact HN.out j h1
          · have : j = i := by omega
            subst this
            exact fun hh => hh.1 HQ0.out
        case measure => simp [intOf]; omega
      · have hsg : (Q i).num.sign = 1 := Int.sign_eq_one_of_pos (by have h1 := Rat.num_nonneg.2 hQn.out; have h2 : (Q i).num ≠ 0 := fun e => hq0 (Rat.num_eq_zero.1 e); omega)
        have HQ0 := hid hq0
        have LP := pre_ql OK.out HQ.out hi
        have Hm2 := hid (show i * (kc + 3) ≤ 11 * 15 from Nat.mul_le_mul (by omega) (by omega))
        have hm2 : 1 + i * (kc + 3) ≤ 166 := by have := Hm2.out; omega
        have HV := hid (Kc.vl_at (Q := Q) OK.out.inc hi)
        have LPv : QL (1 + i * (kc + 3)) (Kc.vl n X Q ((X i : Int) : Rat)) := by rw [HV.out]; exact LP
        clear hq0
        have K := R.clo Hg.out.1 Hg.out.2.1 Hg.out.2.2
        go_upto_region 8 with fail
        go_cut [8] (fun s8 wx => One4 (Ir w g B0 (some ad) n c (some bd) n d kc X Q y1 Y1 ly1 cy1 y2 Y2 ly2 cy2 k y ad i g7 e1 E1 le1 ce1 e2 E2 le2 ce2 (Q i)) w4.heap.size (((X i : Int) : Rat) + (y - Kc.vl n X Q ((X i : Int) : Rat)) / Q i) s8 wx)
        case first =>
          go_region_held3 (fun w' => w'.cell? ⟨g, 0, none⟩ = some (.slice (some ad) n c) ∧ w'.cell? ⟨g, 1, none⟩ = some (.slice (some bd) n d) ∧ w'.cell? ⟨g + 1, 0, none⟩ = some (.bool y1) ∧ w'.cell? ⟨g + 1, 1, none⟩ = some (.slice Y1 ly1 cy1) ∧ w'.cell? ⟨g + 1, 2, none⟩ = some (.bool y2) ∧ w'.cell? ⟨g + 1, 3, none⟩ = some (.slice Y2 ly2 cy2) ∧ w'.cell? (ad.add i) = some (.int .i64 (X i)) ∧ w'.cell? ⟨g7, 0, none⟩ = some (.bool e1) ∧ w'.cell? ⟨g7, 1, none⟩ = some (.slice E1 le1 ce1) ∧ w'.cell? ⟨g7, 2, none⟩ = some (.bool e2) ∧ w'.cell? ⟨g7, 3, none⟩ = some (.slice E2 le2 ce2)) (first
            | with_reducible exact Ir.cells (K.below R dr0)
            | with_reducible exact Ir.cells (K.below R dr1)
            | with_reducible exact Ir.cells R1
            | with_reducible exact Ir.cells (K.below R1 al1)
            | with_reducible exact Ir.cells R2
            | with_reducible exact Ir.cells (K.below R2 al1)
            | with_reducible exact Ir.cells R3
            | with_reducible exact Ir.cells (K.below R3 al1)
            | with_reducible exact Ir.cells R4
            | with_reducible exact Ir.cells (K.below R4 al1)
            | with_reducible exact Ir.cells R5
            | with_reducible exact Ir.cells (K.below R5 al1)
            | with_reducible exact Ir.cells R6
            | with_reducible exact Ir.cells (K.below R6 al1)
            | with_reducible exact Ir.cells (K.set R6 qa)) (first
            | (go_at_call 88; (first | with_reducible refine (rQ (X i) _ (by omega) (by omega)).mono ?_ | with_reducible refine (rQ (X i) _ (by omega) (by omega)).mono ?_); rintro e wa1 ⟨r1, E1, o3, x1, r2, E2, o4, x2, rfl, h4, hb1⟩; (first | (have H := sd1q (Nat.le_refl _) hb1; obtain ⟨hc1, qa⟩ := H) | (have hc1 := sd0 hb1)); have R1 := K.below R hc1; have hN1 := hc1.size)
            | (go_at_call 88; (first | with_reducible refine (rQ (X i) _ (by omega) (by omega)).mono ?_ | with_reducible refine (rQ (X i) _ (by omega) (by omega)).mono ?_); rintro e wa2 ⟨r3, E3, o5, x3, r4, E4, o6, x4, rfl, h5, hb2⟩; (first | (have H := se1q hN1 hb2; obtain ⟨hc2, qa⟩ := H) | (have hc2 := hb2; (try replace qa := qa.step hc2))); have R2 := K.below R1 hc2; have hN2 := Nat.le_trans hN1 hc2.size; replace h4 := h4.below hc2)
            | (go_at_call 42; (first | with_reducible refine (rValue R2.al.cv OK.out (h5.ri LX (by decide)) hkc (by decide) (by omega) R2.al.tb).mono ?_ | with_reducible refine (rValue (K.below R2 al1).al.cv OK.out ((h5.below al1).ri LX (by decide)) hkc (by decide) (by omega) (K.below R2 al1).al.tb).mono ?_); rintro e wa3 ⟨r5, E5, o7, x5, r6, E6, o8, x6, rfl, h6, hb3⟩; (first | (have H := se1q hN2 hb3; obtain ⟨hc3, qa⟩ := H) | (have hc3 := hb3; (try replace qa := qa.step hc3))); have R3 := K.below R2 hc3; have hN3 := Nat.le_trans hN2 hc3.size; replace h4 := h4.below hc3; replace h5 := h5.below hc3)
            | (go_at_call 20; (first | with_reducible refine (rSubRat (Ri.mk R3.al.qy hw1 hw2) (h6.ri LPv (by omega)) (by omega) (by omega) (by omega) (by omega)).mono ?_ | with_reducible refine (rSubRat (Ri.mk (K.below R3 al1).al.qy hw1 hw2) ((h6.below al1).ri LPv (by omega)) (by omega) (by omega) (by omega) (by omega)).mono ?_); rintro e wa4 ⟨r7, E7, o9, x7, r8, E8, p9, x8, rfl, h7, hb4⟩; (first | (have H := se1q hN3 hb4; obtain ⟨hc4, qa⟩ := H) | (have hc4 := hb4; (try replace qa := qa.step hc4))); have R4 := K.below R3 hc4; have hN4 := Nat.le_trans hN3 hc4.size; replace h4 := h4.below hc4; replace h5 := h5.below hc4; replace h6 := h6.below hc4)
            | (go_at_call 13; (first | with_reducible refine (rQuoRat (h7.ri (LY.sub LPv) (by omega)) (R4.js.z.ri LS (by omega)) (by omega) hkc (by omega) (by omega) HQ0.out).mono ?_ | with_reducible refine (rQuoRat ((h7.below al1).ri (LY.sub LPv) (by omega)) ((K.below R4 al1).js.z.ri LS (by omega)) (by omega) hkc (by omega) (by omega) HQ0.out).mono ?_); rintro e wa5 ⟨a1, F1, p1, x9, a2, F2, p2, z1, rfl, h8, hb5⟩; (first | (have H := se1q hN4 hb5; obtain ⟨hc5, qa⟩ := H) | (have hc5 := hb5; (try replace qa := qa.step hc5))); have R5 := K.below R4 hc5; have hN5 := Nat.le_trans hN4 hc5.size; replace h4 := h4.below hc5; replace h5 := h5.below hc5; replace h6 := h6.below hc5; replace h7 := h7.below hc5)
            | (go_at_call 18; (first | with_reducible refine (rAddRat (h4.ri LX (by decide)) (h8.ri ((LY.sub LPv).div' LS HQ0.out (by omega)) (by omega)) (by decide) (by omega) (by decide) (by omega)).mono ?_ | with_reducible refine (rAddRat ((h4.below al1).ri LX (by decide)) ((h8.below al1).ri ((LY.sub LPv).div' LS HQ0.out (by omega)) (by omega)) (by decide) (by omega) (by decide) (by omega)).mono ?_); rintro e wa6 ⟨f1, F1, lf1, cf1, f2, F2, lf2, cf2, rfl, h9, hb6⟩; (first | (have H := se1q hN5 hb6; obtain ⟨hc6, qa⟩ := H) | (have hc6 := hb6; (try replace qa := qa.step hc6))); have R6 := K.below R5 hc6; have hN6 := Nat.le_trans hN5 hc6.size; replace h4 := h4.below hc6; replace h5 := h5.below hc6; replace h6 := h6.below hc6; replace h7 := h7.below hc6; replace h8 := h8.below hc6; (try have lqa := qa.lt); (try obtain ⟨_, _, _, _, _, _, _, _⟩ := qa.1.c4)))
          all_goals
            (try clear lqa)
            go_wp2_with fail
            go_meet
            first
              | with_reducible exact one4a K R6 h9 hN6
              | with_reducible exact one4b K R6 h9 qa
        case rest =>
          obtain ⟨g8, f1, F1, lf1, cf1, f2, F2, lf2, cf2, rfl, hN8, j8, hM⟩ := hcut
          rw [HV.out] at j8
          clear R K hN8
          rename World => wc
          have LH := LX.add ((LY.sub LP).div' LS HQ0.out (by omega))
          clear LPv
          have hW1 : IntKind.i64.wrap ((i : Int) + 1) = (i : Int) + 1 := by rw [IntKind.wrap_i64]; omega
          by_cases hlast : i + 1 = n
          · have hd1 : decide ((i : Int) + 1 = (n : Int)) = true := decide_eq_true (by omega)
            have hb1 : ((i : Int) + 1 == (n : Int)) = true := beq_iff_eq.2 (by omega)
            have Hl := hid hlast
            have P : M1 (Ir w g B0 (some ad) n c (some bd) n d kc X Q y1 Y1 ly1 cy1 y2 Y2 ly2 cy2 k y ad i g7 e1 E1 le1 ce1 e2 E2 le2 ce2 (Q i)) g8 f1 F1 lf1 cf1 f2 F2 lf2 cf2 (((X i : Int) : Rat) + (y - Kc.pre X Q i) / Q i) wc := ⟨hM, j8⟩
            clear hM j8
            obtain ⟨x0, x1, -, -⟩ := P.o.al.jc.c2
            clear hlast
            go_upto_region 9 with fail
            go_quiet (fail)
            rename_i nq
            clear x0 x1
            have P' : M1 (Ir w g B0 (some ad) n c (some bd) n d kc X Q y1 Y1 ly1 cy1 y2 Y2 ly2 cy2 k y ad i g7 e1 E1 le1 ce1 e2 E2 le2 ce2 (Q i)) g8 f1 F1 lf1 cf1 f2 F2 lf2 cf2 (((X i : Int) : Rat) + (y - Kc.pre X Q i) / Q i) (wc.drewN nq) := ⟨P.o.below ((Below.refl _ _).drewN' nq), P.l.below ((Below.refl _ _).drewN' nq)⟩
            clear P
            generalize wc.drewN nq = W2 at *
            have j2 := P'.o.al.jr
            have hlj := j2.lt
            obtain ⟨i0, i1, i2, i3, i4, i5, i6, i7⟩ := j2.c4
            obtain ⟨z0, z1', z2', z3, -, -, -, -⟩ := P'.l.b.c4
            have h11 := hid (below4 P'.o.al.bl (show w.heap.size ≤ g + 1 + 1 by have := Hg.out.1; omega) (.bool f1) (.slice F1 lf1 cf1) (.bool f2) (.slice F2 lf2 cf2))
            have m1 := hid (P'.l.z.offbox j2 (noInt_four _ _ _ _ _ _ _ _) (gb4' _ _ (.bool f1) (.slice F1 lf1 cf1) (.bool f2) (.slice F2 lf2 cf2)))
            clear P' j2
            go_wp2
            exact bodyPost_ret (v := .tuple #[.agg #[.bool f1, .slice F1 lf1 cf1, .bool f2, .slice F2 lf2 cf2], .int .i64 0]) (by simp [results, Tryz.results40, go_sem, i0, i1, i2, i3]) rfl ⟨_, _, _, _, _, _, _, _, _, rfl, rout_hit hi HN.out ⟨HQ0.out, .inl Hl.out⟩ m1.out, h11.out⟩
          · have hlt : i + 1 < n := by omega
            have hd1 : decide ((i : Int) + 1 = (n : Int)) = false := decide_eq_false (by omega)
            have hb1 : ((i : Int) + 1 == (n : Int)) = false := beq_eq_false_iff_ne.2 (by omega)
            obtain ⟨ad2, hA2, S1⟩ := hM.al.cv.es hlt
            injection hA2 with hA2
            subst hA2
            have LX1 := OK.out.ql hlt
            obtain ⟨hx1, hx2⟩ := OK.out.far (i + 1) hlt
            have hZ1 : (0 : Int) ≤ (i : Int) + 1 := by omega
            have hN1 : ((i : Int) + 1).toNat = i + 1 := by omega
            have hlI : (i : Int) + 1 < (n : Int) := by omega
            go_upto_region 9 with fail
            have D0 : Iy w g B0 (some ad) n c (some bd) n d kc X Q y1 Y1 ly1 cy1 y2 Y2 ly2 cy2 k y ad i g7 e1 E1 le1 ce1 e2 E2 le2 ce2 (Q i) g8 f1 F1 lf1 cf1 f2 F2 lf2 cf2 (((X i : Int) : Rat) + (y - Kc.pre X Q i) / Q i) wc.drew := Iy.below ⟨hM, j8, S1⟩ (dr0 (W := wc))
            clear hM j8 S1
            have hcells := D0.cells
            by_cases hc : ((X i : Int) : Rat) + (y - Kc.pre X Q i) / Q i ≤ ((X (i + 1) : Int) : Rat)
            · have hd : decide (cmpQ (((X i : Int) : Rat) + (y - Kc.pre X Q i) / Q i) ((X (i + 1) : Int) : Rat) ≤ 0) = true := decide_eq_true (by have := cmpQ_le hc; omega)
              have Hc := hid (show (y - Kc.pre X Q i) / Q i ≤ (X (i + 1) : Rat) - (X i : Rat) by grind)
              clear hc
              go_region_held3 (fun w' => w'.cell? ⟨g, 0, none⟩ = some (.slice (some ad) n c) ∧ w'.cell? ⟨ad.block, ad.off + (i + 1), none⟩ = some (.int .i64 (X (i + 1))) ∧ w'.cell? ⟨g8, 0, none⟩ = some (.bool f1) ∧ w'.cell? ⟨g8, 1, none⟩ = some (.slice F1 lf1 cf1) ∧ w'.cell? ⟨g8, 2, none⟩ = some (.bool f2) ∧ w'.cell? ⟨g8, 3, none⟩ = some (.slice F2 lf2 cf2)) (first | with_reducible exact Iy.cells D0 | with_reducible exact Iy.cells D1 | with_reducible exact Iy.cells D2) (first
                | (go_at_call 88; with_reducible refine (rQ (X (i + 1)) _ (by omega) (by omega)).mono ?_; rintro e wv1 ⟨r1, E1, o3, x1, r2, E2, o4, x2, rfl, h4, hb1'⟩; have D1 := D0.below hb1')
                | (go_at_call 26; with_reducible refine (rCmpRat (D1.l.z.ri LH (by omega)) (h4.ri LX1 (by decide)) (by omega) (by decide) (by omega) (by decide) (by omega)).mono ?_; rintro e wv2 ⟨rfl, hb2'⟩; have D2 := D1.below hb2'))
              clear D0 D1 hb1' hb2' h4 hcells
              have j2 := D2.o.al.jr
              have hlj := j2.lt
              obtain ⟨i0, i1, i2, i3, i4, i5, i6, i7⟩ := j2.c4
              obtain ⟨z0, z1', z2', z3, -, -, -, -⟩ := D2.l.b.c4
              have h11 := hid (below4 D2.o.al.bl (show w.heap.size ≤ g + 1 + 1 by have := Hg.out.1; omega) (.bool f1) (.slice F1 lf1 cf1) (.bool f2) (.slice F2 lf2 cf2))
              have m1 := hid (D2.l.z.offbox j2 (noInt_four _ _ _ _ _ _ _ _) (gb4' _ _ (.bool f1) (.slice F1 lf1 cf1) (.bool f2) (.slice F2 lf2 cf2)))
              clear D2 j2
              go_wp2
              exact bodyPost_ret (v := .tuple #[.agg #[.bool f1, .slice F1 lf1 cf1, .bool f2, .slice F2 lf2 cf2], .int .i64 0]) (by simp [results, Tryz.results40, go_sem, i0, i1, i2, i3]) rfl ⟨_, _, _, _, _, _, _, _, _, rfl, rout_hit hi HN.out ⟨HQ0.out, .inr Hc.out⟩ m1.out, h11.out⟩
            · have hd : decide (cmpQ (((X i : Int) : Rat) + (y - Kc.pre X Q i) / Q i) ((X (i + 1) : Int) : Rat) ≤ 0) = false := decide_eq_false (by have := cmpQ_gt (Rat.not_le.1 hc); omega)
              have Hc := hid (show ¬ (y - Kc.pre X Q i) / Q i ≤ (X (i + 1) : Rat) - (X i : Rat) by grind)
              have Hl := hid hlast
              clear hc hlast
              go_region_held3 (fun w' => w'.cell? ⟨g, 0, none⟩ = some (.slice (some ad) n c) ∧ w'.cell? ⟨ad.block, ad.off + (i + 1), none⟩ = some (.int .i64 (X (i + 1))) ∧ w'.cell? ⟨g8, 0, none⟩ = some (.bool f1) ∧ w'.cell? ⟨g8, 1, none⟩ = some (.slice F1 lf1 cf1) ∧ w'.cell? ⟨g8, 2, none⟩ = some (.bool f2) ∧ w'.cell? ⟨g8, 3, none⟩ = some (.slice F2 lf2 cf2)) (first | with_reducible exact Iy.cells D0 | with_reducible exact Iy.cells D1 | with_reducible exact Iy.cells D2) (first
                | (go_at_call 88; with_reducible refine (rQ (X (i + 1)) _ (by omega) (by omega)).mono ?_; rintro e wv1 ⟨r1, E1, o3, x1, r2, E2, o4, x2, rfl, h4, hb1'⟩; have D1 := D0.below hb1')
                | (go_at_call 26; with_reducible refine (rCmpRat (D1.l.z.ri LH (by omega)) (h4.ri LX1 (by decide)) (by omega) (by decide) (by omega) (by decide) (by omega)).mono ?_; rintro e wv2 ⟨rfl, hb2'⟩; have D2 := D1.below hb2'))
              clear D0 D1 hb1' hb2' h4 hcells
              have HP := hid D2.o.al
              clear D2
              go_wp2
              go_roundw
              case rel =>
                refine ⟨i + 1, by omega, by go_num, hid (fun j hj => ?_), HP.out⟩
                rcases Nat.lt_or_ge j i with h1 | h1
                · exact HN.out j h1
                · have : j = i := by omega
                  subst this
                  exact fun hh => hh.2.elim (fun e => Hl.out e) (fun e => Hc.out e)
              case measure => simp [intOf]; omega
    · have hin : n = i := by omega
      subst hin
      have j2 := P.jr
      have hlj := j2.lt
      have h11 := hid (below4 P.bl (show w.heap.size ≤ g + 1 + 1 by have := Hg.out.1; omega) (.bool false) (.slice none 0 0) (.bool false) (.slice none 0 0))
      obtain ⟨i0, i1, i2, i3, i4, i5, i6, i7⟩ := j2.c4
      clear j2 P
      go_wp2
      exact bodyPost_ret (v := .tuple #[.agg #[.bool false, .slice none 0 0, .bool false, .slice none 0 0], .int .i64 29]) (by simp [results, Tryz.results40, go_sem, i0, i1, i2, i3]) rfl ⟨_, _, _, _, _, _, _, _, _, rfl, rout_none HN.out, h11.out⟩

set_option maxRecDepth 100000 in
set_option maxHeartbeats 80000000 in
theorem rReach_neg {w : World} {A : Option Addr} {n c : Nat} {B : Option Addr} {d B0 kc k : Nat} {X : Nat → Int} {Q : Nat → Rat} {y : Rat} {y1 : Bool} {Y1 : Option Addr} {ly1 cy1 : Nat} {y2 : Bool} {Y2 : Option Addr} {ly2 cy2 : Nat} (h : Cv w B0 A n B n kc X Q) (k0 : Ri w y1 Y1 ly1 cy1 y2 Y2 ly2 cy2 k y) (hk0 : 2 ≤ k) (hk12 : k ≤ 12) (hT : Tb w) (hv : ¬ 0 < y) :
    Calls Tryz.prog 40 #[.agg #[.slice A n c, .slice B n d], .agg #[.bool y1, .slice Y1 ly1 cy1, .bool y2, .slice Y2 ly2 cy2]] w fun e w' => e = .returned (.tuple #[.agg #[.bool false, .slice none 0 0, .bool false, .slice none 0 0], .int .i64 2]) ∧ Below w.heap.size w w' := by
  have b0 := three_new w (.cells #[.slice A n c, .slice B n d] 48) (.cells #[.bool y1, .slice Y1 ly1 cy1, .bool y2, .slice Y2 ly2 cy2] 26) (.cells #[.bool false, .slice none 0 0, .bool false, .slice none 0 0] 26)
  have hB := (((Below.refl w.heap.size w).alloc (Nat.le_refl _) (.cells #[.slice A n c, .slice B n d] 48)).alloc (by simp) (.cells #[.bool y1, .slice Y1 ly1 cy1, .bool y2, .slice Y2 ly2 cy2] 26)).alloc (by simp; omega) (.cells #[.bool false, .slice none 0 0, .bool false, .slice none 0 0] 26)
  obtain ⟨g, hg⟩ : ∃ g, w.heap.size = g := ⟨_, rfl⟩
  have hw1 := k0.h1
  have hw2 := k0.h2
  have hsg : decide (y.num.sign ≤ 0) = true := decide_eq_true (by rw [num_sign]; have := cmpQ_le (Rat.not_lt.1 hv); omega)
  go_enter Tryz.func40, Tryz.ntmps40
  go_wp2_with fail
  rw [hg] at b0
  generalize ((w.alloc (.cells #[.slice A n c, .slice B n d] 48)).alloc (.cells #[.bool y1, .slice Y1 ly1 cy1, .bool y2, .slice Y2 ly2 cy2] 26)).alloc (.cells #[.bool false, .slice none 0 0, .bool false, .slice none 0 0] 26) = W0 at *
  have P0 : Al w g B0 A n c B n d kc X Q y1 Y1 ly1 cy1 y2 Y2 ly2 cy2 k y W0 := ⟨h.below hB, b0.1, b0.2.1, b0.2.2, k0.q.below hB, hT.below hB, hB⟩
  have Hg := hid hg
  clear h k0 hT hB hg b0 hv
  refine (rSignRat (Ri.mk P0.qy hw1 hw2) (by omega) (by omega)).mono ?_
  rintro e w1 ⟨he, hb1⟩
  obtain ⟨sg, hsgv, hd⟩ : ∃ sg : Int, y.num.sign = sg ∧ decide (sg ≤ 0) = true := ⟨_, rfl, hsg⟩
  rw [hsgv] at he
  subst he
  clear hsg hsgv
  have P := P0.below hb1
  clear P0 hb1
  have j2 := P.jr
  have hlj := j2.lt
  have h11 := hid (below4 P.bl (show w.heap.size ≤ g + 1 + 1 by have := Hg.out; omega) (.bool false) (.slice none 0 0) (.bool false) (.slice none 0 0))
  obtain ⟨i0, i1, i2, i3, i4, i5, i6, i7⟩ := j2.c4
  clear j2 P
  go_wp2
  exact bodyPost_ret (v := .tuple #[.agg #[.bool false, .slice none 0 0, .bool false, .slice none 0 0], .int .i64 2]) (by simp [results, Tryz.results40, go_sem, i0, i1, i2, i3]) rfl ⟨rfl, h11.out⟩

end Go.Proofs.YtffipjofefemiaaGreatDoor
