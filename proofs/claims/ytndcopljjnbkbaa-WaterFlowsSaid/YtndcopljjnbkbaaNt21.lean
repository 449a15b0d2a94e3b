/- Networks: Started of the reference at no turns; Flow's first part. -/
import Derived.Test.YtndcopljjnbkbaaNt20
namespace Go.Proofs.Ytndcopljjnbkbaa
open Go.RowKit Go.Maps Kb Wb

section
variable {w : World} {B0 B1 : Nat} {N : Nd} {W : Wd}
set_option maxRecDepth 100000 in
theorem rTurns_nil (w : World) (N : Nd) :
    Calls Try.prog 59 #[.agg #[.slice N.A N.n N.c, .slice N.M N.m N.d, .slice N.K N.k N.e], .slice none 0 0] w fun e w' => e = .returned (.int .i64 0) ∧ Below w.heap.size w w' := by
  have hb0 := alo (W := w) (o := .cells #[.slice N.A N.n N.c, .slice N.M N.m N.d, .slice N.K N.k N.e] 26)
  go_enter Try.func59, Try.ntmps59
  go_wp2_with fail
  generalize w.alloc (.cells #[.slice N.A N.n N.c, .slice N.M N.m N.d, .slice N.K N.k N.e] 26) = W0 at *
  have HB0 := hid hb0
  clear hb0
  go_loopw [5] (fun iv wr => iv = .int .i64 0 ∧ wr = W0) (fun _ _ => 0)
  case atStart => exact ⟨rfl, rfl⟩
  case round =>
    obtain ⟨rfl, rfl⟩ := hrel
    go_wp2
    go_ret
    exact ⟨rfl, HB0.out⟩

set_option maxRecDepth 100000 in
set_option maxHeartbeats 4000000 in
theorem rStarted_nil (h : Nt w B0 N) (hs : Nsm N) (hw : Wt w B1 W) :
    Calls Try.prog 20 #[.agg #[.slice N.A N.n N.c, .slice N.M N.m N.d, .slice N.K N.k N.e], .agg #[.int .i64 W.min, .slice W.A W.n W.c, .slice W.M W.m W.d], .slice none 0 0] w fun e w' => ∃ r : Int, e = .returned (.int .i64 r) ∧ Hid (We N W r) ∧ Below w.heap.size w w' := by
  obtain ⟨g, hg⟩ : ∃ g, w.heap.size = g := ⟨_, rfl⟩
  have hb0 := ((Below.refl w.heap.size w).alloc (Nat.le_refl _) (.cells #[.slice N.A N.n N.c, .slice N.M N.m N.d, .slice N.K N.k N.e] 26)).alloc (by simp) (.cells #[.int .i64 W.min, .slice W.A W.n W.c, .slice W.M W.m W.d] 33)
  have K1 := (Nb.new h hg).below (alo (o := .cells #[.int .i64 W.min, .slice W.A W.n W.c, .slice W.M W.m W.d] 33))
  have V1 : Wx _ (g + 1) B1 W := ⟨Bk.of_alloc (w.alloc (.cells #[.slice N.A N.n N.c, .slice N.M N.m N.d, .slice N.K N.k N.e] 26)) (.cells #[.int .i64 W.min, .slice W.A W.n W.c, .slice W.M W.m W.d] 33) (by simp [hg]), hw.below hb0⟩
  go_enter Try.func20, Try.ntmps20
  go_wp2_with fail
  generalize (w.alloc (.cells #[.slice N.A N.n N.c, .slice N.M N.m N.d, .slice N.K N.k N.e] 26)).alloc (.cells #[.int .i64 W.min, .slice W.A W.n W.c, .slice W.M W.m W.d] 33) = W0 at *
  have HB0 := hid hb0
  clear hb0 h hg hw
  refine (rCheckNetwork_any K1.a hs).mono ?_
  rintro e w2 ⟨q, rfl, hq, hb⟩
  have K2 := K1.below hb
  have V2 := V1.below hb
  have HB2 := hid (bthen HB0.out hb (Nat.le_refl _))
  clear hb K1 V1
  by_cases h0 : q = 0
  · subst h0
    obtain ⟨x0, x1, x2⟩ := K2.cells
    obtain ⟨y0, y1, y2⟩ := V2.cells
    go_wp2_with fail
    refine (rCheckWater_any hq hs K2.a V2.a).mono ?_
    rintro e w3 ⟨r, rfl, hr, hb⟩
    have K3 := K2.below hb
    have HB3 := hid (bthen HB2.out hb (Nat.le_refl _))
    have HE := hid (hr.out.we hq.out)
    clear hb K2 V2 x0 x1 x2 y0 y1 y2
    by_cases h1 : r = 0
    · subst h1
      obtain ⟨x0, x1, x2⟩ := K3.cells
      go_wp2_with fail
      refine (rTurns_nil _ N).mono ?_
      rintro e w4 ⟨rfl, hb⟩
      have HB4 := hid (bthen HB3.out hb (Nat.le_refl _))
      clear hb
      go_wp2
      go_ret
      exact ⟨0, rfl, HE, HB4.out⟩
    · have hr1 : (r != 0) = true := by rw [bne_iff_ne]; exact h1
      clear h1
      go_wp2
      go_ret
      exact ⟨r, rfl, HE, HB3.out⟩
  · have hq1 : (q != 0) = true := by rw [bne_iff_ne]; exact h0
    have HE := hid (show We N W q from ⟨q, hq.out, .inl ⟨h0, rfl⟩⟩)
    clear h0
    go_wp2
    go_ret
    exact ⟨q, rfl, HE, HB2.out⟩
end

end Go.Proofs.Ytndcopljjnbkbaa
