/- The contract of Integral. For all valid curves of few starts, at fractions of few limbs. -/
import Derived.Test.YtffipjofefemiaaGreatDoorAint
namespace Go.Proofs.YtffipjofefemiaaGreatDoor
open Go.RowKit Kb

theorem rv_half : rv 1 2 = hf := by unfold rv hf pn pd; rfl
set_option maxRecDepth 100000 in
set_option maxHeartbeats 80000000 in
theorem Integral_q {w : World} {A : Option Addr} {n c : Nat} {B : Option Addr} {d B0 kc k : Nat} {X : Nat → Int} {Q : Nat → Rat} {y : Rat} {y1 : Bool} {Y1 : Option Addr} {ly1 cy1 : Nat} {y2 : Bool} {Y2 : Option Addr} {ly2 cy2 : Nat} (h : Cv w B0 A n B n kc X Q) (ok : Okc n X Q) (k0 : Qi w y1 Y1 ly1 cy1 y2 Y2 ly2 cy2 k y) (hkc : 0 < kc) (hk : 2 ≤ k) (hsz : kc + 2 * k ≤ 40) (hsz2 : kc + k ≤ 24) (hT : Tb w) :
    Calls Tryz.prog 36 #[.agg #[.slice A n c, .slice B n d], .agg #[.bool y1, .slice Y1 ly1 cy1, .bool y2, .slice Y2 ly2 cy2]] w fun e w' => ∃ t1 T1 lt1 ct1 t2 T2 lt2 ct2, e = .returned (.tuple #[.agg #[.bool t1, .slice T1 lt1 ct1, .bool t2, .slice T2 lt2 ct2], .int .i64 0]) ∧ Qf w' t1 T1 lt1 ct1 t2 T2 lt2 ct2 (ig n X Q y) ∧ Below w.heap.size w w' := by
  have b0 := three_new w (.cells #[.slice A n c, .slice B n d] 48) (.cells #[.bool y1, .slice Y1 ly1 cy1, .bool y2, .slice Y2 ly2 cy2] 26) (.cells #[.bool false, .slice none 0 0, .bool false, .slice none 0 0] 26)
  have hB := (((Below.refl w.heap.size w).alloc (Nat.le_refl _) (.cells #[.slice A n c, .slice B n d] 48)).alloc (by simp) (.cells #[.bool y1, .slice Y1 ly1 cy1, .bool y2, .slice Y2 ly2 cy2] 26)).alloc (by simp; omega) (.cells #[.bool false, .slice none 0 0, .bool false, .slice none 0 0] 26)
  obtain ⟨g, hg⟩ : ∃ g, w.heap.size = g := ⟨_, rfl⟩
  go_enter Tryz.func36, Tryz.ntmps36
  go_wp2_with fail
  rw [hg] at b0
  generalize ((w.alloc (.cells #[.slice A n c, .slice B n d] 48)).alloc (.cells #[.bool y1, .slice Y1 ly1 cy1, .bool y2, .slice Y2 ly2 cy2] 26)).alloc (.cells #[.bool false, .slice none 0 0, .bool false, .slice none 0 0] 26) = W0 at *
  have P0 : Al w g B0 A n c B n d kc X Q y1 Y1 ly1 cy1 y2 Y2 ly2 cy2 k y W0 := ⟨h.below hB, b0.1, b0.2.1, b0.2.2, k0.below hB, hT.below hB, hB⟩
  have OK := hid ok
  have Hg := hid hg
  clear h k0 hT hB hg b0 ok
  refine (CheckCurve_ok P0.cv hkc OK.out).mono ?_
  rintro e w1 ⟨rfl, hb1⟩
  have P1 := P0.below hb1
  clear P0 hb1
  go_wp2_with fail
  refine (Of1 _).mono ?_
  rintro e w2 ⟨r1, R1, o1, e1, rfl, hn1, hb2⟩
  have P2 := P1.below hb2
  clear P1 hb2
  go_wp2_with fail
  refine (zn_open (Of_any 2 _ (by decide) (by decide))).mono ?_
  rintro e w3 ⟨r2, R2, o2, e2, rfl, hn2, hb3⟩
  have P3 := (P2.below hb3).below (alo (o := (.cells #[.bool r1, .slice R1 o1 e1, .bool r2, .slice R2 o2 e2] 26)))
  have hqh : Qi w3 r1 R1 o1 e1 r2 R2 o2 e2 1 hf := ⟨1, 2, (hn1.below hb3).zi, hn2.zi, rv_half, Le.one (by decide), (by unfold Le; decide)⟩
  have jh : Xb (w3.alloc (.cells #[.bool r1, .slice R1 o1 e1, .bool r2, .slice R2 o2 e2] 26)) w3.heap.size r1 R1 o1 e1 r2 R2 o2 e2 1 hf := ⟨Bk.of_alloc _ _ rfl, hqh.below alo⟩
  have hlh : g + 1 + 1 < w3.heap.size := (P2.below hb3).jr.lt
  clear P2 hn1 hn2 hb3 hqh
  go_upto_region 5 with fail
  generalize w3.alloc (.cells #[.bool r1, .slice R1 o1 e1, .bool r2, .slice R2 o2 e2] 26) = W3 at *
  generalize w3.heap.size = gh at *
  obtain ⟨x0, x1, -, -⟩ := P3.jc.c2
  obtain ⟨x2, x3, x4, x5, -, -, -, -⟩ := P3.jy.c4
  go_wp2_with fail
  refine (along_part P3.cv (Nat.le_refl _) OK.out P3.qy hkc hk hsz hsz2 P3.tb (gy := g + 1) ⟨P3.jy, P3.qy⟩ jh).mono ?_
  rintro e w7 ⟨t1, T1, lt1, ct1, t2, T2, lt2, ct2, rfl, hq, hb7⟩
  have P7 := (P3.below hb7).below (alo (o := (.cells #[.bool t1, .slice T1 lt1 ct1, .bool t2, .slice T2 lt2 ct2] 26)))
  have j7 := Jq.made hq
  have hl9 : g + 1 + 1 < w7.heap.size := (P3.below hb7).jr.lt
  clear P3 jh hq hb7 x0 x1 x2 x3 x4 x5
  go_upto_region 6 with fail
  generalize w7.alloc (.cells #[.bool t1, .slice T1 lt1 ct1, .bool t2, .slice T2 lt2 ct2] 26) = W7 at *
  generalize w7.heap.size = g7 at *
  have j2 := P7.jr
  have hl7 := j2.lt
  obtain ⟨i0, i1, i2, i3, i4, i5, i6, i7⟩ := j2.c4
  obtain ⟨y0, y1, y2, y3, -, -, -, -⟩ := j7.b.c4
  have h11 := hid (below4 P7.bl (show w.heap.size ≤ g + 1 + 1 by have := Hg.out; omega) (.bool t1) (.slice T1 lt1 ct1) (.bool t2) (.slice T2 lt2 ct2))
  have m1 := hid (j7.z.offbox j2 (noInt_four _ _ _ _ _ _ _ _) (gb4' _ _ (.bool t1) (.slice T1 lt1 ct1) (.bool t2) (.slice T2 lt2 ct2)))
  clear P7 j2 j7
  go_wp2
  exact bodyPost_ret (v := .tuple #[.agg #[.bool t1, .slice T1 lt1 ct1, .bool t2, .slice T2 lt2 ct2], .int .i64 0]) (by simp [results, Tryz.results36, go_sem, i0, i1, i2, i3]) rfl ⟨_, _, _, _, _, _, _, _, rfl, m1.out, h11.out⟩

end Go.Proofs.YtffipjofefemiaaGreatDoor
