/- The contracts of Floor and Small. For all fractions with positive denominators whose limbs fit into memory; for numbers below 2^63. -/
import Derived.Test.YtlfeendebbidhaaDoorTotAdd
namespace Go.Proofs.YtlfeendebbidhaaDoor
open Go.RowKit Kb

set_option maxRecDepth 100000 in
set_option maxHeartbeats 2000000 in
theorem Floor_pos (p : Bool) (A B : Option Addr) (n c m d a b : Nat) (w : World) (h : Fr w p A n c a B m d b) :
    Calls Tryd.prog 31 #[.agg #[.bool p, .slice A n c, .bool false, .slice B m d]] w fun e w' => ∃ v, e = .returned v ∧ Nz w' v (toZ p a / (b : Int)) ∧ Below w.heap.size w w' := by
  have hb0 := below_two w (.cells #[.bool p, .slice A n c, .bool false, .slice B m d] 42) (.cells #[.bool false, .slice none 0 0] 24)
  have j1 := box1 w (.cells #[.bool p, .slice A n c, .bool false, .slice B m d] 42) (.cells #[.bool false, .slice none 0 0] 24)
  have j2 := box2 w (.cells #[.bool p, .slice A n c, .bool false, .slice B m d] 42) (.cells #[.bool false, .slice none 0 0] 24)
  have h0 := h.below hb0
  go_enter Tryd.func31, Tryd.ntmps31
  go_wp2_with fail
  refine (parts_pos p A B n c m d b _ h0.den h0.pos).mono ?_
  rintro e w1 ⟨rfl, hb1⟩
  replace j2 := j2.step hb1
  have h1 := h0.below hb1
  have hB1 := hid (bthen hb0 hb1 (Nat.le_refl _))
  clear h h0 hb0 hb1
  go_wp2_with fail
  refine (DivMod_any p false A B n c m d a b _ h1.num h1.den h1.pos (by have := h1.ln; omega) (by have := h1.ld; omega)).mono ?_
  rintro e w2 ⟨v, u, rfl, hv, hu, hb2⟩
  obtain ⟨A1, n1, c1, rfl, hn1⟩ := hv
  obtain ⟨A2, n2, c2, rfl, hn2⟩ := hu
  replace j2 := j2.step hb2
  have hB2 := bthen hB1.out hb2 (Nat.le_refl _)
  have e0 : toZ false b = (b : Int) := by unfold toZ; rw [if_neg (by decide)]
  rw [e0] at hn1 hn2 ⊢
  obtain ⟨s1, hs1⟩ : ∃ s1, s1 = decide (toZ p a / (b : Int) < 0) := ⟨_, rfl⟩
  obtain ⟨s2, hs2⟩ : ∃ s2, s2 = decide (toZ p a % (b : Int) < 0) := ⟨_, rfl⟩
  rw [← hs1, ← hs2]
  have hqb := below_two w2 (.cells #[.bool s1, .slice A1 n1 c1] 24) (.cells #[.bool s2, .slice A2 n2 c2] 24)
  have j3 := j2.alloc2 (.cells #[.bool s1, .slice A1 n1 c1] 24) (.cells #[.bool s2, .slice A2 n2 c2] 24)
  have hn3 := hn1.below hqb
  have hB3 := bthen hB2 hqb (Nat.le_refl _)
  have hlq := j2.lt
  obtain ⟨g, hg⟩ : ∃ g, w.heap.size = g := ⟨_, rfl⟩
  rw [hg] at j3
  have h5 := hid ((hB3.setCell (p := ⟨g + 1, 0, none⟩) (by show w.heap.size ≤ g + 1; omega) (.bool s1)).setCell (p := ⟨g + 1, 1, none⟩) (by show w.heap.size ≤ g + 1; omega) (.slice A1 n1 c1))
  have hN := hid (hn3.offbox j3 (noInt_zero _ _ _ _) (gb2 _ (g + 1) 0 1 (.bool s1) (.slice A1 n1 c1)))
  obtain ⟨y0, y1, y2, y3⟩ := j3.c2
  have hl3 := j3.lt
  have Hs := hid hs1
  clear hqb hn3 hB3 hB2 hn1 hb2 hn2 h1 j2 j1 hs1 hs2 j3
  go_wp2
  exact bodyPost_ret (v := .agg #[.bool s1, .slice A1 n1 c1]) (by simp [results, Tryd.results31, go_sem, y0, y1]) rfl ⟨_, rfl, ⟨A1, n1, c1, by rw [Hs.out], hN.out⟩, h5.out⟩

set_option maxRecDepth 100000 in
set_option maxHeartbeats 2000000 in
theorem Small_nat (A : Option Addr) (n c a : Nat) (w : World) (h : Raw w A n c a) (ha : a < 9223372036854775808) :
    Calls Tryd.prog 8 #[.agg #[.bool false, .slice A n c]] w fun e w' => e = .returned (.tuple #[.int .i64 a, .bool true]) ∧ Below w.heap.size w w' := by
  have hl : (dig a).length ≤ 4 := dig_length_le (by rw [show (65536 : Nat) ^ 4 = 18446744073709551616 from rfl]; omega)
  have hb0 := (Below.refl w.heap.size w).alloc (Nat.le_refl _) (.cells #[.bool false, .slice A n c] 24)
  have j1 := Bk.of_alloc w (.cells #[.bool false, .slice A n c] 24) rfl
  have h0 := h.below hb0
  clear h
  go_enter Tryd.func8, Tryd.ntmps8
  go_wp2_with fail
  refine (size_any false A n c a _ h0).mono ?_
  rintro e w1 ⟨v, rfl, hv, hb1⟩
  replace j1 := j1.step hb1
  obtain ⟨x0, x1, -, -⟩ := j1.c2
  have hl1 := j1.lt
  have hv' := hv
  obtain ⟨A', c', rfl, -⟩ := hv
  have hle : ¬ (4 : Int) < ((dig a).length : Int) := by omega
  go_wp2_with fail
  refine (wordOf_nm hv' (by rw [show (65536 : Nat) ^ 4 = 18446744073709551616 from rfl]; omega)).mono ?_
  rintro e w2 ⟨rfl, rfl⟩
  have hlt : ¬ (9223372036854775808 : Int) ≤ (a : Int) := by omega
  have hw : IntKind.i64.wrap (a : Int) = (a : Int) := by rw [IntKind.wrap_i64]; omega
  have hB1 := bthen hb0 hb1 (Nat.le_refl _)
  have hge : (decide ((9223372036854775808 : Int) ≤ (a : Int))) = false := decide_eq_false hlt
  clear ha hlt hle
  go_wp2
  go_ret2
  exact ⟨rfl, hB1⟩

end Go.Proofs.YtlfeendebbidhaaDoor
