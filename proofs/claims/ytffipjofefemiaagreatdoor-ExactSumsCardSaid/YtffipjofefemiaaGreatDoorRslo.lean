/- The contract of the reference's Slope. For all valid curves of few starts. -/
import Derived.Test.YtffipjofefemiaaGreatDoorRpc
import Derived.Test.YtffipjofefemiaaGreatDoorSlp
namespace Go.Proofs.YtffipjofefemiaaGreatDoor
open Go.RowKit Kb

structure Ps (w : World) (g B0 : Nat) (A : Option Addr) (n c : Nat) (B : Option Addr) (m d kc : Nat) (X : Nat → Int) (Q : Nat → Rat) (y1 : Bool) (Y1 : Option Addr) (ly1 cy1 : Nat) (y2 : Bool) (Y2 : Option Addr) (ly2 cy2 : Nat) (k : Nat) (y : Rat) (ad : Addr) (i : Nat) (wx : World) : Prop where
  al : Al w g B0 A n c B m d kc X Q y1 Y1 ly1 cy1 y2 Y2 ly2 cy2 k y wx
  s : Es wx B0 ad i (X i)
section
variable {w : World} {g B0 : Nat} {A : Option Addr} {n c : Nat} {B : Option Addr} {m d kc : Nat} {X : Nat → Int} {Q : Nat → Rat} {y1 : Bool} {Y1 : Option Addr} {ly1 cy1 : Nat} {y2 : Bool} {Y2 : Option Addr} {ly2 cy2 : Nat} {k : Nat} {y : Rat} {ad : Addr} {i : Nat} {wx wy : World}
theorem Ps.below (h : Ps w g B0 A n c B m d kc X Q y1 Y1 ly1 cy1 y2 Y2 ly2 cy2 k y ad i wx) (hb : Below wx.heap.size wx wy) : Ps w g B0 A n c B m d kc X Q y1 Y1 ly1 cy1 y2 Y2 ly2 cy2 k y ad i wy := ⟨h.al.below hb, h.s.below hb⟩
theorem Ps.cells (h : Ps w g B0 A n c B m d kc X Q y1 Y1 ly1 cy1 y2 Y2 ly2 cy2 k y ad i wx) : wx.cell? ⟨g, 0, none⟩ = some (.slice A n c) ∧ wx.cell? (ad.add i) = some (.int .i64 (X i)) ∧ wx.cell? ⟨g + 1, 0, none⟩ = some (.bool y1) ∧ wx.cell? ⟨g + 1, 1, none⟩ = some (.slice Y1 ly1 cy1) ∧ wx.cell? ⟨g + 1, 2, none⟩ = some (.bool y2) ∧ wx.cell? ⟨g + 1, 3, none⟩ = some (.slice Y2 ly2 cy2) :=
  ⟨h.al.jc.c2.1, h.s.s, h.al.jy.c4.1, h.al.jy.c4.2.1, h.al.jy.c4.2.2.1, h.al.jy.c4.2.2.2.1⟩
end

/-- The number of starts that have been gone through and count. -/
def mn (i u : Nat) : Nat := if i ≤ u then i else u
theorem slq_step {n : Nat} {X : Nat → Int} {Q : Nat → Rat} {y : Rat} {u i : Nat} (hu : Upto n X y u) (hi : i < n) (h : (X i : Rat) ≤ y) : slq Q (mn (i + 1) u) = Q i := by
  have h1 : i < u := by
    rcases Nat.lt_or_ge i u with h1 | h1
    · exact h1
    · have := hu.hi i h1 hi; grind
  have e : mn (i + 1) u = i + 1 := if_pos (by omega)
  rw [e]
  unfold slq
  rw [if_neg (by omega)]
  rfl
theorem slq_zero {Q : Nat → Rat} {u : Nat} : slq Q (mn 0 u) = ((0 : Int) : Rat) := by
  have e : mn 0 u = 0 := if_pos (Nat.zero_le _)
  rw [e]
  unfold slq
  rw [if_pos rfl]
  rfl
theorem slq_stay {n : Nat} {X : Nat → Int} {y : Rat} {u i : Nat} (hu : Upto n X y u) (h : ¬ (X i : Rat) ≤ y) : mn (i + 1) u = mn i u := by
  have h1 : u ≤ i := by
    rcases Nat.lt_or_ge i u with h1 | h1
    · exact absurd (hu.lo i h1) h
    · exact h1
  unfold mn
  by_cases h2 : i ≤ u
  · have : i = u := by omega
    subst this
    rw [if_neg (by omega), if_pos (by omega)]
  · rw [if_neg (by omega), if_neg (by omega)]
set_option maxRecDepth 100000 in
set_option maxHeartbeats 80000000 in
theorem rSlope {w : World} {A : Option Addr} {n c : Nat} {B : Option Addr} {d B0 kc k : Nat} {X : Nat → Int} {Q : Nat → Rat} {y : Rat} {y1 : Bool} {Y1 : Option Addr} {ly1 cy1 : Nat} {y2 : Bool} {Y2 : Option Addr} {ly2 cy2 : Nat} (h : Cv w B0 A n B n kc X Q) (ok : Okc n X Q) (k0 : Ri w y1 Y1 ly1 cy1 y2 Y2 ly2 cy2 k y) (hkc : kc ≤ 400) (hk0 : 2 ≤ k) (hk : k ≤ 200) (hT : Tb w) {u : Nat} (hu : Upto n X y u) :
    Calls Tryz.prog 43 #[.agg #[.slice A n c, .slice B n d], .agg #[.bool y1, .slice Y1 ly1 cy1, .bool y2, .slice Y2 ly2 cy2]] w fun e w' => ∃ t1 T1 lt1 ct1 t2 T2 lt2 ct2, e = .returned (.agg #[.bool t1, .slice T1 lt1 ct1, .bool t2, .slice T2 lt2 ct2]) ∧ Qf w' t1 T1 lt1 ct1 t2 T2 lt2 ct2 (slq Q u) ∧ Below w.heap.size w w' := by
  have b0 := three_new w (.cells #[.slice A n c, .slice B n d] 48) (.cells #[.bool y1, .slice Y1 ly1 cy1, .bool y2, .slice Y2 ly2 cy2] 26) (.cells #[.bool false, .slice none 0 0, .bool false, .slice none 0 0] 26)
  have hB := (((Below.refl w.heap.size w).alloc (Nat.le_refl _) (.cells #[.slice A n c, .slice B n d] 48)).alloc (by simp) (.cells #[.bool y1, .slice Y1 ly1 cy1, .bool y2, .slice Y2 ly2 cy2] 26)).alloc (by simp; omega) (.cells #[.bool false, .slice none 0 0, .bool false, .slice none 0 0] 26)
  obtain ⟨g, hg⟩ : ∃ g, w.heap.size = g := ⟨_, rfl⟩
  have hw1 := k0.h1
  have hw2 := k0.h2
  have hn12 := ok.few
  have HU := hid hu
  clear hu
  go_enter Tryz.func43, Tryz.ntmps43
  go_wp2_with fail
  rw [hg] at b0
  generalize ((w.alloc (.cells #[.slice A n c, .slice B n d] 48)).alloc (.cells #[.bool y1, .slice Y1 ly1 cy1, .bool y2, .slice Y2 ly2 cy2] 26)).alloc (.cells #[.bool false, .slice none 0 0, .bool false, .slice none 0 0] 26) = W0 at *
  have hle := h.le
  have hTl := hT.2
  have P0 : Al w g B0 A n c B n d kc X Q y1 Y1 ly1 cy1 y2 Y2 ly2 cy2 k y W0 := ⟨h.below hB, b0.1, b0.2.1, b0.2.2, k0.q.below hB, hT.below hB, hB⟩
  have OK := hid ok
  have Hg := hid (show w.heap.size = g ∧ B0 ≤ g ∧ 0 < g from ⟨hg, by omega, by omega⟩)
  clear h k0 hT hB hg b0 ok hle hTl
  refine (rQ 0 _ (by decide) (by decide)).mono ?_
  rintro e w1 ⟨o1, O1, lo1, co1, o2, O2, lo2, co2, rfl, hq0, hb1⟩
  have P1 := (P0.below hb1).below (alo (o := (.cells #[.bool o1, .slice O1 lo1 co1, .bool o2, .slice O2 lo2 co2] 26)))
  have j5 := Jq.made hq0
  have hg5 : g + 1 + 1 < w1.heap.size := (P0.below hb1).jr.lt
  clear P0 hb1 hq0
  go_upto_region 2 with fail
  generalize w1.alloc (.cells #[.bool o1, .slice O1 lo1 co1, .bool o2, .slice O2 lo2 co2] 26) = W1 at *
  generalize w1.heap.size = g5 at *
  go_wp2
  go_loopw [6] (fun iv wr => ∃ (i : Nat) (o1 : Bool) (O1 : Option Addr) (lo1 co1 : Nat) (o2 : Bool) (O2 : Option Addr) (lo2 co2 : Nat), i ≤ n ∧ iv = .int .i64 ((i : Nat) : Int) ∧ Al w g B0 A n c B n d kc X Q y1 Y1 ly1 cy1 y2 Y2 ly2 cy2 k y wr ∧ Jq wr g5 o1 O1 lo1 co1 o2 O2 lo2 co2 (slq Q (mn i u))) (fun iv _ => n - (intOf iv).toNat)
  case atStart => exact ⟨0, o1, O1, lo1, co1, o2, O2, lo2, co2, Nat.zero_le _, rfl, P1, by rw [slq_zero]; exact j5⟩
  case round =>
    obtain ⟨i, o1, O1, lo1, co1, o2, O2, lo2, co2, hi', rfl, P, jo⟩ := hrel
    clear P1 j5
    obtain ⟨x0, x1, -, -⟩ := P.jc.c2
    by_cases hi : i < n
    · obtain ⟨ad, hA, es⟩ := P.cv.es hi
      have LX := OK.out.ql hi
      have hx := OK.out.far i hi
      subst hA
      have D0 : Ps w g B0 (some ad) n c B n d kc X Q y1 Y1 ly1 cy1 y2 Y2 ly2 cy2 k y ad i wr.drew := Ps.below ⟨P, es⟩ (dr0 (W := wr))
      have jo1 := jo.below (dr0 (W := wr))
      by_cases hc : (X i : Rat) ≤ y
      · have hd : decide (cmpQ ((X i : Int) : Rat) y ≤ 0) = true := decide_eq_true (by have := cmpQ_le hc; omega)
        have HE := hid (slq_step (Q := Q) HU.out hi hc)
        clear hc
        go_upto_region 5 with fail
        clear P es jo x0 x1
        have hcells := D0.cells
        go_region_held3 (fun w' => w'.cell? ⟨g, 0, none⟩ = some (.slice (some ad) n c) ∧ w'.cell? (ad.add i) = some (.int .i64 (X i)) ∧ w'.cell? ⟨g + 1, 0, none⟩ = some (.bool y1) ∧ w'.cell? ⟨g + 1, 1, none⟩ = some (.slice Y1 ly1 cy1) ∧ w'.cell? ⟨g + 1, 2, none⟩ = some (.bool y2) ∧ w'.cell? ⟨g + 1, 3, none⟩ = some (.slice Y2 ly2 cy2)) (first | with_reducible exact Ps.cells D0 | with_reducible exact Ps.cells D1 | with_reducible exact Ps.cells D2) (first
          | (go_at_call 88; with_reducible refine (rQ (X i) _ (by omega) (by omega)).mono ?_; rintro e wv1 ⟨r1, R1', o3, e1', r2, R2', o4, e2', rfl, h4, hb1⟩; have D1 := D0.below hb1)
          | (go_at_call 26; with_reducible refine (rCmpRat (h4.ri LX (by decide)) (Ri.mk D1.al.qy hw1 hw2) (by decide) (by omega) (by decide) (by omega) (by omega)).mono ?_; rintro e wv2 ⟨rfl, hb2⟩; have D2 := D1.below hb2))
        have jo2 := (jo1.below hb1).below hb2
        have PP := D2.al
        clear D0 D1 D2 hcells h4 hb1 hb2 jo1
        obtain ⟨bd, s1, S1, ls1, cs1, s2, S2, ls2, cs2, hBd, el⟩ := PP.cv.el hi
        obtain ⟨x0, x1, -, -⟩ := PP.jc.c2
        have q0 := el.q0
        have q1 := el.q1
        have q2 := el.q2
        have q3 := el.q3
        subst hBd
        go_wp2_with fail
        refine (rNormRat el.r (by omega)).mono ?_
        rintro e w3 ⟨t1, T1, lt1, ct1, t2, T2, lt2, ct2, rfl, hq, hb3⟩
        have P3 := PP.below hb3
        have j3 := jo2.below hb3
        have hlj := j3.b.lt
        obtain ⟨k0, k1, k2, k3, k4, k5, k6, k7⟩ := j3.b.c4
        have HP := hid (P3.offb j3.b (noInt_four _ _ _ _ _ _ _ _) (gb4' w3 g5 (.bool t1) (.slice T1 lt1 ct1) (.bool t2) (.slice T2 lt2 ct2)) ⟨Hg.out.1, Hg.out.2.1, hg5, Nat.lt_trans Hg.out.2.2 (by omega)⟩)
        have HJ := hid (j3.put2 hq)
        clear PP jo2 P3 j3 hq hb3 el q0 q1 q2 q3 x0 x1
        go_wp2
        go_roundw
        case rel => exact ⟨i + 1, t1, T1, lt1, ct1, t2, T2, lt2, ct2, by omega, by go_num, HP.out, by rw [HE.out]; exact HJ.out⟩
        case measure => simp [intOf]; omega
      · have hd : decide (cmpQ ((X i : Int) : Rat) y ≤ 0) = false := decide_eq_false (by have := cmpQ_gt (Rat.not_le.1 hc); omega)
        have HE := hid (slq_stay HU.out hc)
        clear hc
        go_upto_region 5 with fail
        clear P es jo x0 x1
        have hcells := D0.cells
        go_region_held3 (fun w' => w'.cell? ⟨g, 0, none⟩ = some (.slice (some ad) n c) ∧ w'.cell? (ad.add i) = some (.int .i64 (X i)) ∧ w'.cell? ⟨g + 1, 0, none⟩ = some (.bool y1) ∧ w'.cell? ⟨g + 1, 1, none⟩ = some (.slice Y1 ly1 cy1) ∧ w'.cell? ⟨g + 1, 2, none⟩ = some (.bool y2) ∧ w'.cell? ⟨g + 1, 3, none⟩ = some (.slice Y2 ly2 cy2)) (first | with_reducible exact Ps.cells D0 | with_reducible exact Ps.cells D1 | with_reducible exact Ps.cells D2) (first
          | (go_at_call 88; with_reducible refine (rQ (X i) _ (by omega) (by omega)).mono ?_; rintro e wv1 ⟨r1, R1', o3, e1', r2, R2', o4, e2', rfl, h4, hb1⟩; have D1 := D0.below hb1)
          | (go_at_call 26; with_reducible refine (rCmpRat (h4.ri LX (by decide)) (Ri.mk D1.al.qy hw1 hw2) (by decide) (by omega) (by decide) (by omega) (by omega)).mono ?_; rintro e wv2 ⟨rfl, hb2⟩; have D2 := D1.below hb2))
        have jo2 := (jo1.below hb1).below hb2
        have PP := D2.al
        clear D0 D1 D2 hcells h4 hb1 hb2 jo1
        have HP := hid PP
        have HJ := hid jo2
        clear PP jo2
        go_wp2
        go_roundw
        case rel => exact ⟨i + 1, o1, O1, lo1, co1, o2, O2, lo2, co2, by omega, by go_num, HP.out, by rw [HE.out]; exact HJ.out⟩
        case measure => simp [intOf]; omega
    · have hin : n = i := by omega
      subst hin
      have j2 := P.jr
      have hl7 := j2.lt
      have e0 : mn n u = u := by unfold mn; have := HU.out.le; split <;> omega
      rw [e0] at jo
      obtain ⟨i0, i1, i2, i3, i4, i5, i6, i7⟩ := j2.c4
      obtain ⟨k0, k1, k2, k3, -, -, -, -⟩ := jo.b.c4
      have h11 := hid (below4 P.bl (show w.heap.size ≤ g + 1 + 1 by have := Hg.out.1; omega) (.bool o1) (.slice O1 lo1 co1) (.bool o2) (.slice O2 lo2 co2))
      have m1 := hid (jo.z.offbox j2 (noInt_four _ _ _ _ _ _ _ _) (gb4' _ _ (.bool o1) (.slice O1 lo1 co1) (.bool o2) (.slice O2 lo2 co2)))
      clear P jo j2 e0
      go_wp2
      exact bodyPost_ret (v := .agg #[.bool o1, .slice O1 lo1 co1, .bool o2, .slice O2 lo2 co2]) (by simp [results, Tryz.results43, go_sem, i0, i1, i2, i3]) rfl ⟨_, _, _, _, _, _, _, _, rfl, m1.out, h11.out⟩

end Go.Proofs.YtffipjofefemiaaGreatDoor
