/- The contract of Value at the curve and the number of the statements' example. -/
import Derived.Test.YtlfeendebbidhaaDoorAlong
namespace Go.Proofs.YtlfeendebbidhaaDoor
open Go.RowKit Kb

theorem along_exn (b sb sc n1 c1 m1 d1 n2 c2 m2 d2 : Nat) (A1 B1 A2 B2 A B : Option Addr) (n c m d : Nat) (w : World) (h : Crv w b sb A1 n1 c1 B1 m1 d1 A2 n2 c2 B2 m2 d2) (hn : Nm w (.slice A n c) 5) (hd : Nm w (.slice B m d) 1) (hT : Tb w) :
    Calls Tryd.prog 66 #[.agg #[.slice (some ⟨b, 0, none⟩) 2 2, .slice (some ⟨sb, 0, none⟩) 2 sc], .agg #[.bool false, .slice A n c, .bool false, .slice B m d], .func (.func 67) #[] #[]] w fun e w' => ∃ v, e = .returned v ∧ Rz w' v ((10 : Nat) : Int) ((1 : Nat) : Int) ∧ Below w.heap.size w w' :=
  along_ex b sb sc n1 c1 m1 d1 n2 c2 m2 d2 A1 B1 A2 B2 A B n c m d w h hn hd hT

set_option maxRecDepth 100000 in
set_option maxHeartbeats 4000000 in
theorem Value_ex (b sb sc n1 c1 m1 d1 n2 c2 m2 d2 : Nat) (A1 B1 A2 B2 A B : Option Addr) (n c m d : Nat) (w : World) (h : Crv w b sb A1 n1 c1 B1 m1 d1 A2 n2 c2 B2 m2 d2) (hn : Nm w (.slice A n c) 5) (hd : Nm w (.slice B m d) 1) (hT : Tb w) :
    Calls Tryd.prog 37 #[.agg #[.slice (some ⟨b, 0, none⟩) 2 2, .slice (some ⟨sb, 0, none⟩) 2 sc], .agg #[.bool false, .slice A n c, .bool false, .slice B m d]] w fun e w' => ∃ A1 n1 c1 A2 n2 c2, e = .returned (.tuple #[.agg #[.bool false, .slice A1 n1 c1, .bool false, .slice A2 n2 c2], .int .i64 0]) ∧ Nm w' (.slice A1 n1 c1) 10 ∧ Nm w' (.slice A2 n2 c2) 1 ∧ Below w.heap.size w w' := by
  have b0 := three_new w (.cells #[.slice (some ⟨b, 0, none⟩) 2 2, .slice (some ⟨sb, 0, none⟩) 2 sc] 58) (.cells #[.bool false, .slice A n c, .bool false, .slice B m d] 42) (.cells #[.bool false, .slice none 0 0, .bool false, .slice none 0 0] 42)
  have hB := (((Below.refl w.heap.size w).alloc (Nat.le_refl _) (.cells #[.slice (some ⟨b, 0, none⟩) 2 2, .slice (some ⟨sb, 0, none⟩) 2 sc] 58)).alloc (by simp) (.cells #[.bool false, .slice A n c, .bool false, .slice B m d] 42)).alloc (by simp; omega) (.cells #[.bool false, .slice none 0 0, .bool false, .slice none 0 0] 42)
  obtain ⟨g, hg⟩ : ∃ g, w.heap.size = g := ⟨_, rfl⟩
  go_enter Tryd.func37, Tryd.ntmps37
  go_wp2_with fail
  rw [hg] at b0
  generalize ((w.alloc (.cells #[.slice (some ⟨b, 0, none⟩) 2 2, .slice (some ⟨sb, 0, none⟩) 2 sc] 58)).alloc (.cells #[.bool false, .slice A n c, .bool false, .slice B m d] 42)).alloc (.cells #[.bool false, .slice none 0 0, .bool false, .slice none 0 0] 42) = W0 at *
  have h0 := h.below hB
  have hn0 := hn.below hB
  have hd0 := hd.below hB
  have T0 := hT.below hB
  have HB := hid hB
  have Hg := hid hg
  obtain ⟨a0, a1, a2⟩ := b0
  clear hB hg h hn hd hT
  refine (CheckCurve_ex b sb sc n1 c1 m1 d1 n2 c2 m2 d2 A1 B1 A2 B2 _ h0).mono ?_
  rintro e w1 ⟨rfl, hb1⟩
  replace a0 := a0.step hb1
  replace a1 := a1.step hb1
  replace a2 := a2.step hb1
  have h1 := h0.below hb1
  have hn1' := hn0.below hb1
  have hd1' := hd0.below hb1
  have T1 := T0.below hb1
  have HB1 := hid (bthen HB.out hb1 (Nat.le_refl _))
  obtain ⟨x0, x1, -, -⟩ := a0.c2
  obtain ⟨x2, x3, x4, x5, -, -, -, -⟩ := a1.c4
  clear h0 hn0 hd0 T0 hb1
  go_wp2_with fail
  refine (rz_nat (along_exn b sb sc n1 c1 m1 d1 n2 c2 m2 d2 A1 B1 A2 B2 A B n c m d _ h1 hn1' hd1' T1)).mono ?_
  rintro e w7 ⟨A6, n6, c6, A7, n7, c7, rfl, hn6, hn7, hb7⟩
  have q4 := a2.step hb7
  have hl7 := q4.lt
  obtain ⟨i0, i1, i2, i3, i4, i5, i6, i7⟩ := q4.c4
  have h5 := bthen HB1.out hb7 (Nat.le_refl _)
  have hgl := Hg.out
  have h11 := hid (below4 h5 (show w.heap.size ≤ g + 1 + 1 by omega) (.bool false) (.slice A6 n6 c6) (.bool false) (.slice A7 n7 c7))
  have m1' := hid (hn6.offbox q4 (noInt_four _ _ _ _ _ _ _ _) (gb4 _ _ (.bool false) (.slice A6 n6 c6) (.bool false) (.slice A7 n7 c7)))
  have m2' := hid (hn7.offbox q4 (noInt_four _ _ _ _ _ _ _ _) (gb4 _ _ (.bool false) (.slice A6 n6 c6) (.bool false) (.slice A7 n7 c7)))
  clear hgl h5 q4 hn6 hn7 hb7 x0 x1 x2 x3 x4 x5 a0 a1 a2 h1 hn1' hd1' T1
  go_wp2
  exact bodyPost_ret (v := .tuple #[.agg #[.bool false, .slice A6 n6 c6, .bool false, .slice A7 n7 c7], .int .i64 0]) (by simp [results, Tryd.results37, go_sem, i0, i1, i2, i3]) rfl ⟨A6, n6, c6, A7, n7, c7, rfl, m1'.out, m2'.out, h11.out⟩

end Go.Proofs.YtlfeendebbidhaaDoor
