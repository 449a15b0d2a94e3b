/- The contracts of newTotal, total.add and total.value at whole numbers. For all integers whose limbs fit into memory. -/
import Derived.Test.YtlfeendebbidhaaDoorOne
namespace Go.Proofs.YtlfeendebbidhaaDoor
open Go.RowKit Kb

/-- The total at block g is the whole number z. -/
def Tot (w : World) (g : Nat) (z : Int) : Prop :=
  ∃ s1 A1 n1 c1 s2 A2 n2 c2, Bk w g (.cells #[.bool s1, .slice A1 n1 c1, .bool s2, .slice A2 n2 c2] 111 (0, 0)) ∧ Hid (s1 = decide (z < 0)) ∧ Hid (s2 = false) ∧ Nm w (.slice A1 n1 c1) z.natAbs ∧ Nm w (.slice A2 n2 c2) 1

set_option maxRecDepth 100000 in
set_option maxHeartbeats 2000000 in
theorem newTotal_any (w : World) :
    Calls Tryd.prog 80 #[] w fun e w' => ∃ g, e = .returned (.pointer (some ⟨g, 0, none⟩)) ∧ w.heap.size ≤ g ∧ Tot w' g 0 ∧ Below w.heap.size w w' := by
  go_enter Tryd.func80, Tryd.ntmps80
  go_wp2_with fail
  refine (nz_openb (Of_any 1 _ (by decide) (by decide))).mono ?_
  rintro e w1 ⟨s1, A1, n1, c1, rfl, hs1, hn1, hb1⟩
  have hb2 := hb1.alloc hb1.size (.cells #[.bool false, .slice none 0 0, .bool s1, .slice A1 n1 c1] 111)
  have ht : Tot (w1.alloc (.cells #[.bool false, .slice none 0 0, .bool s1, .slice A1 n1 c1] 111)) w1.heap.size 0 := ⟨false, none, 0, 0, s1, A1, n1, c1, Bk.of_alloc _ _ rfl, hid rfl, hid (by rw [hs1.out]; rfl), nm_nil _, hn1.below ((Below.refl _ _).alloc (Nat.le_refl _) _)⟩
  have hsz := hb1.size
  clear hn1 hb1
  go_wp2
  go_ret
  exact ⟨_, rfl, hsz, ht, hb2⟩

theorem rn_one (z : Int) : rn z 1 = z := by unfold rn; rw [Nat.gcd_one_right, Nat.div_one, toZ_of]
theorem Tot.below {w w' : World} {g : Nat} {z : Int} (h : Tot w g z) (hb : Below w.heap.size w w') : Tot w' g z := by
  obtain ⟨s1, A1, n1, c1, s2, A2, n2, c2, h1, h2, h3, h4, h5⟩ := h
  exact ⟨s1, A1, n1, c1, s2, A2, n2, c2, h1.step hb, h2, h3, h4.below hb, h5.below hb⟩
theorem Tot.lt {w : World} {g : Nat} {z : Int} (h : Tot w g z) : g < w.heap.size := by
  obtain ⟨s1, A1, n1, c1, s2, A2, n2, c2, h1, _⟩ := h
  exact h1.lt

set_option maxRecDepth 100000 in
set_option maxHeartbeats 2000000 in
theorem total_value (g : Nat) (z : Int) (w : World) (h : Tot w g z) (hz : z ≠ 0) (hT : Tb w) (hl : (dig z.natAbs).length ≤ 400000000) :
    Calls Tryd.prog 84 #[.pointer (some ⟨g, 0, none⟩)] w fun e w' => ∃ v, e = .returned v ∧ Rz w' v z 1 ∧ Below w.heap.size w w' := by
  have hal := (Below.refl w.heap.size w).alloc (Nat.le_refl _) (.cells #[.bool false, .slice none 0 0, .bool false, .slice none 0 0] 42)
  have j2 := Bk.of_alloc w (.cells #[.bool false, .slice none 0 0, .bool false, .slice none 0 0] 42) rfl
  have Hlt := h.lt
  obtain ⟨s1, A1, n1, c1, s2, A2, n2, c2, hb, hs1, hs2, hn1, hn2⟩ := h.below hal.drew
  have T1 := hT.below hal.drew
  obtain ⟨g2, hg2⟩ : ∃ g2, w.heap.size = g2 := ⟨_, rfl⟩
  obtain rfl : s2 = false := hs2.out
  clear h hT hs2
  go_enter Tryd.func84, Tryd.ntmps84
  go_wp2_with fail
  rw [hg2] at j2 hal
  have hal' := hid hal.drew
  replace j2 : Bk (w.alloc (.cells #[.bool false, .slice none 0 0, .bool false, .slice none 0 0] 42)).drew g2 _ := j2
  have hb' : Bk (w.alloc (.cells #[.bool false, .slice none 0 0, .bool false, .slice none 0 0] 42)) g _ := hb
  have hj' : Bk (w.alloc (.cells #[.bool false, .slice none 0 0, .bool false, .slice none 0 0] 42)) g2 _ := j2
  generalize w.alloc (.cells #[.bool false, .slice none 0 0, .bool false, .slice none 0 0] 42) = W0 at *
  obtain ⟨x0, x1, x2, x3, -, -, -, -⟩ := hb'.c4
  have hne : g2 ≠ g := by omega
  have hn2' : Nm W0.drew (.slice A2 n2 c2) (toZ false 1).natAbs := hn2
  go_region_held3 (fun w' => w'.cell? ⟨g, 0, none⟩ = some (.bool s1) ∧ w'.cell? ⟨g, 1, none⟩ = some (.slice A1 n1 c1) ∧ w'.cell? ⟨g, 2, none⟩ = some (.bool false) ∧ w'.cell? ⟨g, 3, none⟩ = some (.slice A2 n2 c2)) (first | exact ⟨x0, x1, x2, x3⟩ | exact ⟨y0, y1, y2, y3⟩ | exact ⟨off_four hne y0, off_four hne y1, off_four hne y2, off_four hne y3⟩) (first
    | (go_at_call 60; with_reducible refine (rz_open (fraction_nz s1 false A1 A2 n1 c1 n2 c2 z 1 hn1 hn2' hs1 (hid rfl) T1 (CD_one _ (by omega)) (by decide) hl (by rw [dig_small (by decide) (by decide)]; decide))).mono ?_; rintro e w3 ⟨t1, A3, n3, c3, t2, A4, n4, c4, rfl, ht1, ht2, hn3, hn4, hb3⟩; replace j2 := j2.step hb3; replace hb := hb.step hb3; obtain ⟨y0, y1, y2, y3, -, -, -, -⟩ := hb.c4; obtain ⟨i0, i1, i2, i3, i4, i5, i6, i7⟩ := j2.c4; have hl3 := j2.lt))
  rw [rn_one] at ht1 hn3
  rw [Nat.gcd_one_right] at ht2 hn4
  have h3 := bthen hal'.out hb3 (by omega)
  have h11 := hid (below4 h3 (Nat.le_refl g2) (.bool t1) (.slice A3 n3 c3) (.bool t2) (.slice A4 n4 c4))
  have m1 := hid (hn3.offbox j2 (noInt_four _ _ _ _ _ _ _ _) (gb4 _ _ (.bool t1) (.slice A3 n3 c3) (.bool t2) (.slice A4 n4 c4)))
  have m2 := hid (hn4.offbox j2 (noInt_four _ _ _ _ _ _ _ _) (gb4 _ _ (.bool t1) (.slice A3 n3 c3) (.bool t2) (.slice A4 n4 c4)))
  clear x0 x1 x2 x3 y0 y1 y2 y3 hb j2 hn1 hn2 hn3 hn4 hb3 h3 hb' hj'
  go_wp2
  exact bodyPost_ret (v := .agg #[.bool t1, .slice A3 n3 c3, .bool t2, .slice A4 n4 c4]) (by simp [results, Tryd.results84, go_sem, i0, i1, i2, i3]) rfl ⟨_, rfl, ⟨t1, A3, n3, c3, t2, A4, n4, c4, rfl, ht1, ht2, m1.out, m2.out⟩, by rw [hg2]; exact h11.out⟩

end Go.Proofs.YtlfeendebbidhaaDoor
