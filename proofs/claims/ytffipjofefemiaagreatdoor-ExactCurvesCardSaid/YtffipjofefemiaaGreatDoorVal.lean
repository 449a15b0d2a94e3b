/- The contract of Value; the size of a value. For all valid curves of few starts, at fractions of few limbs. -/
import Derived.Test.YtffipjofefemiaaGreatDoorAlq
namespace Go.Proofs.YtffipjofefemiaaGreatDoor
open Go.RowKit Kb

set_option maxRecDepth 100000 in
set_option maxHeartbeats 80000000 in
theorem Value_q {w : World} {A : Option Addr} {n c : Nat} {B : Option Addr} {d B0 kc k : Nat} {X : Nat → Int} {Q : Nat → Rat} {s1 : Bool} {A1 : Option Addr} {n1 c1 : Nat} {s2 : Bool} {A2 : Option Addr} {n2 c2 : Nat} {y : Rat} (h : Cv w B0 A n B n kc X Q) (ok : Okc n X Q) (k0 : Qi w s1 A1 n1 c1 s2 A2 n2 c2 k y) (hkc : 0 < kc) (hk : 2 ≤ k) (hsz : kc + k ≤ 29) (hT : Tb w) :
    Calls Tryz.prog 34 #[.agg #[.slice A n c, .slice B n d], .agg #[.bool s1, .slice A1 n1 c1, .bool s2, .slice A2 n2 c2]] w fun e w' => ∃ s1 A1 n1 c1 s2 A2 n2 c2, e = .returned (.tuple #[.agg #[.bool s1, .slice A1 n1 c1, .bool s2, .slice A2 n2 c2], .int .i64 0]) ∧ Qf w' s1 A1 n1 c1 s2 A2 n2 c2 (Kc.vl n X Q y) ∧ Below w.heap.size w w' := by
  have b0 := three_new w (.cells #[.slice A n c, .slice B n d] 48) (.cells #[.bool s1, .slice A1 n1 c1, .bool s2, .slice A2 n2 c2] 26) (.cells #[.bool false, .slice none 0 0, .bool false, .slice none 0 0] 26)
  have hB := (((Below.refl w.heap.size w).alloc (Nat.le_refl _) (.cells #[.slice A n c, .slice B n d] 48)).alloc (by simp) (.cells #[.bool s1, .slice A1 n1 c1, .bool s2, .slice A2 n2 c2] 26)).alloc (by simp; omega) (.cells #[.bool false, .slice none 0 0, .bool false, .slice none 0 0] 26)
  obtain ⟨g, hg⟩ : ∃ g, w.heap.size = g := ⟨_, rfl⟩
  go_enter Tryz.func34, Tryz.ntmps34
  go_wp2_with fail
  rw [hg] at b0
  generalize ((w.alloc (.cells #[.slice A n c, .slice B n d] 48)).alloc (.cells #[.bool s1, .slice A1 n1 c1, .bool s2, .slice A2 n2 c2] 26)).alloc (.cells #[.bool false, .slice none 0 0, .bool false, .slice none 0 0] 26) = W0 at *
  have P0 : Al w g B0 A n c B n d kc X Q s1 A1 n1 c1 s2 A2 n2 c2 k y W0 := ⟨h.below hB, b0.1, b0.2.1, b0.2.2, k0.below hB, hT.below hB, hB⟩
  have OK := hid ok
  have Hg := hid hg
  clear h k0 hT hB hg b0 ok
  refine (CheckCurve_ok P0.cv hkc OK.out).mono ?_
  rintro e w1 ⟨rfl, hb1⟩
  have P1 := P0.below hb1
  clear P0 hb1
  obtain ⟨x0, x1, -, -⟩ := P1.jc.c2
  obtain ⟨x2, x3, x4, x5, -, -, -, -⟩ := P1.jy.c4
  go_wp2_with fail
  refine (along_rise P1.cv (Nat.le_refl _) OK.out P1.qy hkc hk hsz P1.tb).mono ?_
  rintro e w7 ⟨t1, A3, n3, c3, t2, A4, n4, c4, rfl, hq, hb7⟩
  have P7 := P1.below hb7
  have j2 := P7.jr
  have hl7 := j2.lt
  obtain ⟨i0, i1, i2, i3, i4, i5, i6, i7⟩ := j2.c4
  have h11 := hid (below4 P7.bl (show w.heap.size ≤ g + 1 + 1 by have := Hg.out; omega) (.bool t1) (.slice A3 n3 c3) (.bool t2) (.slice A4 n4 c4))
  have m1 := hid (hq.offbox j2 (noInt_four _ _ _ _ _ _ _ _) (gb4' _ _ (.bool t1) (.slice A3 n3 c3) (.bool t2) (.slice A4 n4 c4)))
  clear P7 P1 hq hb7 j2 x0 x1 x2 x3 x4 x5
  go_wp2
  exact bodyPost_ret (v := .tuple #[.agg #[.bool t1, .slice A3 n3 c3, .bool t2, .slice A4 n4 c4], .int .i64 0]) (by simp [results, Tryz.results34, go_sem, i0, i1, i2, i3]) rfl ⟨_, _, _, _, _, _, _, _, rfl, m1.out, h11.out⟩

end Go.Proofs.YtffipjofefemiaaGreatDoor
