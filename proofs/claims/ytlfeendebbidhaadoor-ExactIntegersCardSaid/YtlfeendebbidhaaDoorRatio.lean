/- The contract of Ratio. For all machine integers, the second not 0, given the contract of commonDivisor at their sizes. -/
import Derived.Test.YtlfeendebbidhaaDoorComb
namespace Go.Proofs.YtlfeendebbidhaaDoor
open Go.RowKit Kb

theorem fraction_nz2 (s1 s2 : Bool) (A1 A2 : Option Addr) (n1 c1 n2 c2 : Nat) (z y : Int) {w : World} (h : Nm w (.slice A1 n1 c1) z.natAbs) (k : Nm w (.slice A2 n2 c2) y.natAbs) (hs1 : Hid (s1 = decide (z < 0))) (hs2 : Hid (s2 = decide (y < 0))) (hT : Tb w) (hC : CD z.natAbs y.natAbs) (hb0 : y ≠ 0) (ha : (dig z.natAbs).length ≤ 400000000) (hb : (dig y.natAbs).length ≤ 400000000) :
    Calls Tryd.prog 60 #[.agg #[.bool s1, .slice A1 n1 c1], .agg #[.bool s2, .slice A2 n2 c2]] w fun e w' => ∃ v, e = .returned v ∧ Rz w' v (toZ (decide (z < 0) != decide (y < 0)) (z.natAbs / Nat.gcd z.natAbs y.natAbs)) ((y.natAbs / Nat.gcd z.natAbs y.natAbs : Nat)) ∧ Below w.heap.size w w' := by
  rw [hs1.out, hs2.out]
  by_cases hg : Nat.gcd z.natAbs y.natAbs = 1
  · have := fraction_one (decide (z < 0)) (decide (y < 0)) A1 A2 n1 c1 n2 c2 _ _ w h.raw k.raw hT hC hg
    rw [hg, Nat.div_one, Nat.div_one]; exact this
  · exact fraction_div (decide (z < 0)) (decide (y < 0)) A1 A2 n1 c1 n2 c2 _ _ w h.raw k.raw hT hC hg (by omega) ha hb

set_option maxRecDepth 100000 in
set_option maxHeartbeats 4000000 in
theorem Ratio_any (x y : Int) (w : World) (h1 : -9223372036854775808 ≤ x) (h2 : x ≤ 9223372036854775807) (k1 : -9223372036854775808 ≤ y) (k2 : y ≤ 9223372036854775807) (h0 : y ≠ 0) (hT : Tb w) (hC : CD x.natAbs y.natAbs) :
    Calls Tryd.prog 35 #[.int .i64 x, .int .i64 y] w fun e w' => ∃ v, e = .returned (.tuple #[v, .int .i64 0]) ∧ Rz w' v (toZ (decide (x < 0) != decide (y < 0)) (x.natAbs / Nat.gcd x.natAbs y.natAbs)) ((y.natAbs / Nat.gcd x.natAbs y.natAbs : Nat)) ∧ Below w.heap.size w w' := by
  have hy : (y == 0) = false := by rw [beq_eq_false_iff_ne]; exact h0
  have hB := (Below.refl w.heap.size w).alloc (Nat.le_refl _) (.cells #[.bool false, .slice none 0 0, .bool false, .slice none 0 0] 42)
  have b0 := Bk.of_alloc w (.cells #[.bool false, .slice none 0 0, .bool false, .slice none 0 0] 42) rfl
  obtain ⟨g, hg⟩ : ∃ g, w.heap.size = g := ⟨_, rfl⟩
  have H0 := hid h0
  clear h0
  go_enter Tryd.func35, Tryd.ntmps35
  go_wp2_with fail
  refine (nz_openb (Of_any x _ h1 h2)).mono ?_
  rintro e w1 ⟨s1, A1, n1, c1, rfl, hs1, hn1, hb1⟩
  replace b0 := b0.step hb1
  go_wp2_with fail
  refine (nz_openb (Of_any y _ k1 k2)).mono ?_
  rintro e w2 ⟨s2, A2, n2, c2, rfl, hs2, hn2, hb2⟩
  replace b0 := b0.step hb2
  have l1 : (dig x.natAbs).length ≤ 4 := dig_length_le (by rw [show (65536 : Nat) ^ 4 = 18446744073709551616 from rfl]; omega)
  have l2 : (dig y.natAbs).length ≤ 4 := dig_length_le (by rw [show (65536 : Nat) ^ 4 = 18446744073709551616 from rfl]; omega)
  have hB2 := bthen (bthen hB hb1 (Nat.le_refl _)) hb2 (Nat.le_refl _)
  have T2 := ((hT.below hB).below hb1).below hb2
  go_wp2_with fail
  refine (rz_open (fraction_nz2 s1 s2 A1 A2 n1 c1 n2 c2 x y (hn1.below hb2) hn2 hs1 hs2 T2 hC H0.out (by omega) (by omega))).mono ?_
  rintro e w3 ⟨t1, A3, n3, c3, t2, A4, n4, c4, rfl, ht1, ht2, hn3, hn4, hb3⟩
  replace b0 := b0.step hb3
  rw [hg] at b0
  have h3 := bthen hB2 hb3 (Nat.le_refl _)
  have h11 := hid (below4 h3 (show w.heap.size ≤ g by omega) (.bool t1) (.slice A3 n3 c3) (.bool t2) (.slice A4 n4 c4))
  have m1 := hid (hn3.offbox b0 (noInt_four _ _ _ _ _ _ _ _) (gb4 _ _ (.bool t1) (.slice A3 n3 c3) (.bool t2) (.slice A4 n4 c4)))
  have m2 := hid (hn4.offbox b0 (noInt_four _ _ _ _ _ _ _ _) (gb4 _ _ (.bool t1) (.slice A3 n3 c3) (.bool t2) (.slice A4 n4 c4)))
  have hl := b0.lt
  obtain ⟨i0, i1, i2, i3, i4, i5, i6, i7⟩ := b0.c4
  clear hn3 hn4 b0 hb1 hb2 hb3 hB h3 hB2 T2 hT hn1 hn2 hg
  go_wp2
  exact bodyPost_ret (v := .tuple #[.agg #[.bool t1, .slice A3 n3 c3, .bool t2, .slice A4 n4 c4], .int .i64 0]) (by simp [results, Tryd.results35, go_sem, i0, i1, i2, i3]) rfl ⟨_, rfl, ⟨t1, A3, n3, c3, t2, A4, n4, c4, rfl, ht1, ht2, m1.out, m2.out⟩, h11.out⟩

end Go.Proofs.YtlfeendebbidhaaDoor
