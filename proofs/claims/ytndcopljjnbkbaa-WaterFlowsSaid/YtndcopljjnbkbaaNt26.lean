/- Networks: Flow of the program. For every network, state and name. -/
import Derived.Test.YtndcopljjnbkbaaNt25
import Derived.Test.YtndcopljjnbkbaaNt8
namespace Go.Proofs.Ytndcopljjnbkbaa
open Go.RowKit Go.Maps Kb Wb

/-- r is what link i does. -/
def Fli (N : Nd) (W : Wd) (i : Nat) (r : Int) : Prop := ∃ q z b x q2 z2 b2 x2, Sds N W (N.l i).fr q z b x ∧ Sds N W (N.l i).tw q2 z2 b2 x2 ∧ Flw (N.l i) (W.Y i) q z b x q2 z2 b2 x2 r
/-- r and c are what Flow answers, q being the error of the state, p the place of the link. -/
def Flq (N : Nd) (W : Wd) (q p r c : Int) : Prop := (q ≠ 0 ∧ r = 0 ∧ c = q) ∨ (q = 0 ∧ p = -1 ∧ r = 0 ∧ c = 6) ∨ (q = 0 ∧ c = 0 ∧ ∃ i : Nat, p = i ∧ i < N.k ∧ Fli N W i r)
theorem sides_of {N : Nd} {W : Wd} (h : Cn N 0) {i : Nat} (hi : i < N.k) : ∃ q z b x q2 z2 b2 x2, Sds N W (N.l i).fr q z b x ∧ Sds N W (N.l i).tw q2 z2 b2 x2 := by
  obtain ⟨_, _, e1, e2, e3⟩ := link_ok h hi
  obtain ⟨q, z, b, x, h1⟩ := Sds.exists (W := W) e1 (fun e => e3 (.inl e))
  obtain ⟨q2, z2, b2, x2, h2⟩ := Sds.exists (W := W) e2 (fun e => e3 (.inr e))
  exact ⟨q, z, b, x, q2, z2, b2, x2, h1, h2⟩
set_option maxRecDepth 100000 in
set_option maxHeartbeats 16000000 in
theorem Flow_any {w : World} {B0 B1 : Nat} {N : Nd} {W : Wd} {s : ByteArray} {q p : Int} (hq : Hid (We N W q)) (hp : Hid (Ixn N.k N.lnm s p)) (h : Nt w B0 N) (hs : Nsm N) (hw : Wt w B1 W) :
    Calls Try.prog 19 #[.agg #[.slice N.A N.n N.c, .slice N.M N.m N.d, .slice N.K N.k N.e], .agg #[.int .i64 W.min, .slice W.A W.n W.c, .slice W.M W.m W.d], .string s] w fun e w' => ∃ r c : Int, e = .returned (.tuple #[.int .i64 r, .int .i64 c]) ∧ Hid (Flq N W q p r c) ∧ Below w.heap.size w w' := by
  obtain ⟨g, hg⟩ : ∃ g, w.heap.size = g := ⟨_, rfl⟩
  obtain ⟨g1, hg1⟩ : ∃ g', g + 1 = g' := ⟨_, rfl⟩
  have hb0 := ((Below.refl w.heap.size w).alloc (Nat.le_refl _) (.cells #[.slice N.A N.n N.c, .slice N.M N.m N.d, .slice N.K N.k N.e] 26)).alloc (by simp) (.cells #[.int .i64 W.min, .slice W.A W.n W.c, .slice W.M W.m W.d] 33)
  have n1 := (Nb.new h hg).below (alo (o := .cells #[.int .i64 W.min, .slice W.A W.n W.c, .slice W.M W.m W.d] 33))
  have k1 : Bk _ g1 _ := Bk.of_alloc (w.alloc (.cells #[.slice N.A N.n N.c, .slice N.M N.m N.d, .slice N.K N.k N.e] 26)) (.cells #[.int .i64 W.min, .slice W.A W.n W.c, .slice W.M W.m W.d] 33) (by simp [hg, hg1])
  have a1 := (hw.below (alo (o := .cells #[.slice N.A N.n N.c, .slice N.M N.m N.d, .slice N.K N.k N.e] 26))).below (alo (o := .cells #[.int .i64 W.min, .slice W.A W.n W.c, .slice W.M W.m W.d] 33))
  have hkk := hs.k
  have Hs := hid hs
  clear hs h hw
  obtain ⟨x0, x1, x2⟩ := n1.cells
  obtain ⟨y0, y1, y2⟩ := k1.c3
  go_enter Try.func19, Try.ntmps19
  go_wp2_with fail
  generalize (w.alloc (.cells #[.slice N.A N.n N.c, .slice N.M N.m N.d, .slice N.K N.k N.e] 26)).alloc (.cells #[.int .i64 W.min, .slice W.A W.n W.c, .slice W.M W.m W.d] 33) = W0 at *
  have HB0 := hid hb0
  have Hg := hid hg
  have Hg1 := hid hg1
  clear hb0 hg hg1 x0 x1 x2 y0 y1 y2
  refine (waterError_is hq n1.a Hs.out a1).mono ?_
  rintro e w2 ⟨rfl, hb⟩
  have n2 := n1.below hb
  have k2 := k1.step hb
  have a2 := a1.below hb
  have HB2 := hid (bthen HB0.out hb (Nat.le_refl _))
  clear hb n1 k1 a1
  obtain ⟨x0, x1, x2⟩ := n2.cells
  obtain ⟨y0, y1, y2⟩ := k2.c3
  by_cases q0 : q = 0
  · subst q0
    have HFit := hid (Fit.of hq.out)
    go_wp2_with fail
    clear x0 x1 x2 y0 y1 y2
    refine (findLink_is hp n2.a Hs.out).mono ?_
    rintro e w3 ⟨rfl, hb⟩
    have n3 := n2.below hb
    have k3 := k2.step hb
    have a3 := a2.below hb
    have HB3 := hid (bthen HB2.out hb (Nat.le_refl _))
    clear hb n2 k2 a2
    obtain ⟨x0, x1, x2⟩ := n3.cells
    obtain ⟨y0, y1, y2⟩ := k3.c3
    rcases hp.out with ⟨rfl, _⟩ | ⟨i, hi, _, _, rfl⟩
    · have HE := hid (show Flq N W 0 (-1) 0 6 from .inr (.inl ⟨rfl, rfl, rfl, rfl⟩))
      go_wp2
      go_ret2
      exact ⟨0, 6, rfl, HE, HB3.out⟩
    · obtain ⟨sq, z, b, x, sq2, z2, b2, xx, h1, h2⟩ := sides_of (W := W) HFit.out.c hi
      have H1 := hid h1
      have H2 := hid h2
      clear h1 h2
      go_wp2_with fail
      clear x0 x1 x2 y0 y1 y2
      refine (flow_any H1 H2 HFit Hs n3.a a3 hi).mono ?_
      rintro e w4 ⟨r, rfl, hr, hb⟩
      have HB4 := hid (bthen HB3.out hb (Nat.le_refl _))
      have HE := hid (show Flq N W 0 i r 0 from .inr (.inr ⟨rfl, rfl, i, rfl, hi, _, _, _, _, _, _, _, _, H1.out, H2.out, hr.out⟩))
      clear hb hr
      go_wp2
      go_ret2
      exact ⟨r, 0, rfl, HE, HB4.out⟩
  · have hd : (q != 0) = true := by rw [bne_iff_ne]; exact q0
    have HE := hid (show Flq N W q p 0 q from .inl ⟨q0, rfl, rfl⟩)
    clear q0
    go_wp2
    go_ret2
    exact ⟨0, q, rfl, HE, HB2.out⟩

end Go.Proofs.Ytndcopljjnbkbaa
