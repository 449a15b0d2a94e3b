/- Networks: Copy of any state that fits, moved, Step of the reference. For every network and state that fit each other. A region's orders, where a fact on the world is asked behind every operation but the late one. -/
import Derived.Test.YtockfiobhmohnaaRt5
import Derived.Test.YtockfiobhmohnaaRm2
import Derived.Test.YtockfiobhmohnaaGa
import Derived.StillTail
import Derived.Deep.RegionHeld3
namespace Go.Proofs.Ytockfiobhmohnaa
open Go.RowKit Go.Maps Kb Wb

set_option maxRecDepth 100000 in
set_option maxHeartbeats 16000000 in
theorem movedR_any {w : World} {B0 B1 : Nat} {N : Nd} {W : Wd} {s s2 : ByteArray} {p p2 k : Int} (hp : Hid (Ixn N.n N.bnm s p)) (hp2 : Hid (Ixn N.n N.bnm s2 p2)) (hne : p ≠ p2) (h : Nt w B0 N) (hs : Nsm N) (hw : Wt w B1 W) (hnn : W.n = N.n) (hn : 0 < W.n) (hm : 0 < W.m) (hm9 : W.m ≤ 1000)
    (k0 : -3000000000 ≤ k) (k1 : k ≤ 3000000000) (hX : ∀ i, i < W.n → 0 ≤ W.X i ∧ W.X i ≤ 9000000000000000000) :
    Calls Try.prog 43 #[.agg #[.slice N.A N.n N.c, .slice N.M N.m N.d, .slice N.K N.k N.e], .agg #[.int .i64 W.min, .slice W.A W.n W.c, .slice W.M W.m W.d], .string s, .string s2, .int .i64 k] w fun e w' => ∃ gl c gm d, e = .returned (.agg #[.int .i64 W.min, .slice (some ⟨gl, 0, none⟩) W.n c, .slice (some ⟨gm, 0, none⟩) W.m d]) ∧ w'.ownsRow w.heap.size 3 1 (.slice (some ⟨gl, 0, none⟩) W.n c) W.n (ints (give (take W.X p k) p2 k) W.n) ∧ w'.ownsRow w.heap.size 4 1 (.slice (some ⟨gm, 0, none⟩) W.m d) W.m (bools W.Y W.m) ∧ Below w.heap.size w w' := by
  have hn9 : W.n ≤ 1000 := by rw [hnn]; exact hs.n
  obtain ⟨g, hg⟩ : ∃ g, w.heap.size = g := ⟨_, rfl⟩
  have hb0 := (((Below.refl w.heap.size w).alloc (Nat.le_refl _) (.cells #[.slice N.A N.n N.c, .slice N.M N.m N.d, .slice N.K N.k N.e] 26)).alloc (by simp) (.cells #[.int .i64 W.min, .slice W.A W.n W.c, .slice W.M W.m W.d] 30)).alloc (by simp; omega) (.cells #[.int .i64 0, .slice none 0 0, .slice none 0 0] 30)
  have n1 := ((Nb.new h hg).below (alo (o := .cells #[.int .i64 W.min, .slice W.A W.n W.c, .slice W.M W.m W.d] 30))).below (alo (o := .cells #[.int .i64 0, .slice none 0 0, .slice none 0 0] 30))
  have w1 : Bk _ (g + 1) _ := (Bk.of_alloc (w.alloc (.cells #[.slice N.A N.n N.c, .slice N.M N.m N.d, .slice N.K N.k N.e] 26)) (.cells #[.int .i64 W.min, .slice W.A W.n W.c, .slice W.M W.m W.d] 30) (by simp [hg])).alloc (.cells #[.int .i64 0, .slice none 0 0, .slice none 0 0] 30)
  have r1 : Bk _ (g + 1 + 1) _ := Bk.of_alloc ((w.alloc (.cells #[.slice N.A N.n N.c, .slice N.M N.m N.d, .slice N.K N.k N.e] 26)).alloc (.cells #[.int .i64 W.min, .slice W.A W.n W.c, .slice W.M W.m W.d] 30)) (.cells #[.int .i64 0, .slice none 0 0, .slice none 0 0] 30) (by simp [hg])
  have a1 := ((hw.below (alo (o := .cells #[.slice N.A N.n N.c, .slice N.M N.m N.d, .slice N.K N.k N.e] 26))).below (alo (o := .cells #[.int .i64 W.min, .slice W.A W.n W.c, .slice W.M W.m W.d] 30))).below (alo (o := .cells #[.int .i64 0, .slice none 0 0, .slice none 0 0] 30))
  have hs0 : (((w.alloc (.cells #[.slice N.A N.n N.c, .slice N.M N.m N.d, .slice N.K N.k N.e] 26)).alloc (.cells #[.int .i64 W.min, .slice W.A W.n W.c, .slice W.M W.m W.d] 30)).alloc (.cells #[.int .i64 0, .slice none 0 0, .slice none 0 0] 30)).heap.size = g + 3 := by simp [hg]
  have Hs := hid hs
  have HX := hid hX
  have Hnn := hid hnn
  clear hs h hw hX hnn
  obtain ⟨y0, y1, y2⟩ := w1.c3
  go_enter Try.func43, Try.ntmps43
  go_wp2_with fail
  generalize ((w.alloc (.cells #[.slice N.A N.n N.c, .slice N.M N.m N.d, .slice N.K N.k N.e] 26)).alloc (.cells #[.int .i64 W.min, .slice W.A W.n W.c, .slice W.M W.m W.d] 30)).alloc (.cells #[.int .i64 0, .slice none 0 0, .slice none 0 0] 30) = W0 at *
  have HB0 := hid hb0
  have Hg := hid hg
  have Hs0 := hid hs0
  clear hb0 hg hs0 y0 y1 y2
  refine (Copy_any a1 hn hm hn9 hm9).mono ?_
  rintro e w2 ⟨A, c, M, d, rfl, hC, hb⟩
  obtain ⟨gl, -, rfl, hgl, -⟩ := own_cur hC.x hn
  obtain ⟨gm, -, rfl, hgm, -⟩ := own_cur hC.y hm
  have N1 := hid n1
  have R1 := hid r1
  have n2 := n1.below hb
  have r2 := r1.step hb
  obtain ⟨x0, x1, x2⟩ := n2.cells
  obtain ⟨gb, hgb⟩ : ∃ gb, w2.heap.size = gb := ⟨_, rfl⟩
  have hba := alo (W := w2) (o := .cells #[.int .i64 W.min, .slice (some ⟨gl, 0, none⟩) W.n c, .slice (some ⟨gm, 0, none⟩) W.m d] 30)
  have M3 : Mo _ gb gl gm W0.heap.size W c d W.X := ⟨Bk.of_alloc w2 _ hgb, own_below hC.x hba, own_below hC.y hba⟩
  have B3 := hid (bth hb hba hb.size)
  have hl2 : g + 2 < w2.heap.size := r2.lt
  have hl0 : g < w2.heap.size := by omega
  have hl3 : g < gb := by omega
  have Hgb9 := hid (show W0.heap.size ≤ gb by rw [← hgb]; exact hb.size)
  clear n1 r1 a1 w1
  go_wp2_with fail
  have Hgb := hid hgb
  generalize w2.alloc (.cells #[.int .i64 W.min, .slice (some ⟨gl, 0, none⟩) W.n c, .slice (some ⟨gm, 0, none⟩) W.m d] 30) = W3 at *
  clear hgb hb hba hl2 hl0 hl3 n2 r2 x0 x1 x2 hC
  have n3 := N1.out.below B3.out
  refine (rBasin_is hp n3.a Hs.out).mono ?_
  rintro e w4 ⟨rfl, hb⟩
  have M4 := M3.below hb
  have B4 := hid (bth B3.out hb B3.out.size)
  clear hb n3 M3
  rcases hp.out with ⟨rfl, _⟩ | ⟨i, hi, _, _, rfl⟩
  · clear hp
    have n5 := N1.out.below B4.out
    obtain ⟨x0, x1, x2⟩ := n5.cells
    go_wp2_with fail
    clear x0 x1 x2
    refine (rBasin_is hp2 n5.a Hs.out).mono ?_
    rintro e w6 ⟨rfl, hb⟩
    have M6 := M4.below hb
    have B6 := hid (bth B4.out hb B4.out.size)
    clear hb n5 M4
    rcases hp2.out with ⟨rfl, _⟩ | ⟨j, hj, _, _, rfl⟩
    · exact absurd rfl hne
    · have hjN : j < W.n := by rw [Hnn.out]; exact hj
      have hXj := HX.out j hjN
      have hjI : (j : Int) < (W.n : Int) := by omega
      clear hne hj hp2
      obtain ⟨c0, c1, c2⟩ := M6.cells
      obtain ⟨q0, q1, q2⟩ := M6.at_ hjN
      have hv : IntKind.i64.wrap (W.X j + k) = W.X j + k := IntWalk.i64_in _ (by omega)
      go_wp2_with fail
      go_region
      have M7 := ((M6).put hn hm hjN (W.X j + k)).below dr0
      have B7 := hid (B6.out.setCell (p := ⟨gl, j, none⟩) q2 (.int .i64 (W.X j + k))).drew
      generalize (w6.setCell ⟨gl, j, none⟩ (.int .i64 (W.X j + k))).drew = w6s at *
      clear c0 c1 c2 q0 q1 hv M6
      obtain ⟨c0, c1, c2⟩ := M7.cells
      have r9 := R1.out.step B7.out
      obtain ⟨r90, r91, r92⟩ := r9.c3
      have f0 := Bk.fz r9 0
      have f1 := Bk.fz r9 1
      have f2 := Bk.fz r9 2
      have J := fill3 (u0 := .int .i64 W.min) (u1 := .slice (some ⟨gl, 0, none⟩) W.n c) (u2 := .slice (some ⟨gm, 0, none⟩) W.m d) r9
      obtain ⟨j0, j1, j2⟩ := J.c3
      have hzz : w.heap.size ≤ W0.heap.size := HB0.out.size
      have hgb2 : gb ≠ g + 1 + 1 := by have := Hgb9.out; have := Hs0.out; omega
      go_wp2
      exact bodyPost_ret (v := .agg #[.int .i64 W.min, .slice (some ⟨gl, 0, none⟩) W.n c, .slice (some ⟨gm, 0, none⟩) W.m d]) (by simp [results, Try.results43, go_sem, j0, j1, j2]) rfl ⟨gl, c, gm, d, rfl, by rw [take_neg, give_at]; exact own_base (M7.off3 hgb2 (by rw [Hs0.out]; omega)).x hzz, own_base (M7.off3 hgb2 (by rw [Hs0.out]; omega)).y hzz, bset3 (HB0.out.trans (B7.out.mono hzz)) (by rw [Hg.out]; omega)⟩
  · have hiN : i < W.n := by rw [Hnn.out]; exact hi
    have hXi := HX.out i hiN
    have hiI : (i : Int) < (W.n : Int) := by omega
    clear hp hi
    obtain ⟨c0, c1, c2⟩ := M4.cells
    obtain ⟨q0, q1, q2⟩ := M4.at_ hiN
    have hv : IntKind.i64.wrap (W.X i - k) = W.X i - k := IntWalk.i64_in _ (by omega)
    go_wp2_with fail
    go_region
    have M5 := ((M4).put hn hm hiN (W.X i - k)).below dr0
    have B5 := hid (B4.out.setCell (p := ⟨gl, i, none⟩) q2 (.int .i64 (W.X i - k))).drew
    generalize (w4.setCell ⟨gl, i, none⟩ (.int .i64 (W.X i - k))).drew = w4s at *
    clear c0 c1 c2 q0 q1 hv M4
    have n5 := N1.out.below B5.out
    obtain ⟨x0, x1, x2⟩ := n5.cells
    go_wp2_with fail
    clear x0 x1 x2
    refine (rBasin_is hp2 n5.a Hs.out).mono ?_
    rintro e w6 ⟨rfl, hb⟩
    have M6 := M5.below hb
    have B6 := hid (bth B5.out hb B5.out.size)
    clear hb n5 M5
    rcases hp2.out with ⟨rfl, _⟩ | ⟨j, hj, _, _, rfl⟩
    · clear hp2 hne
      obtain ⟨c0, c1, c2⟩ := M6.cells
      have r9 := R1.out.step B6.out
      obtain ⟨r90, r91, r92⟩ := r9.c3
      have f0 := Bk.fz r9 0
      have f1 := Bk.fz r9 1
      have f2 := Bk.fz r9 2
      have J := fill3 (u0 := .int .i64 W.min) (u1 := .slice (some ⟨gl, 0, none⟩) W.n c) (u2 := .slice (some ⟨gm, 0, none⟩) W.m d) r9
      obtain ⟨j0, j1, j2⟩ := J.c3
      have hzz : w.heap.size ≤ W0.heap.size := HB0.out.size
      have hgb2 : gb ≠ g + 1 + 1 := by have := Hgb9.out; have := Hs0.out; omega
      go_wp2
      exact bodyPost_ret (v := .agg #[.int .i64 W.min, .slice (some ⟨gl, 0, none⟩) W.n c, .slice (some ⟨gm, 0, none⟩) W.m d]) (by simp [results, Try.results43, go_sem, j0, j1, j2]) rfl ⟨gl, c, gm, d, rfl, by rw [take_at, give_neg]; exact own_base (M6.off3 hgb2 (by rw [Hs0.out]; omega)).x hzz, own_base (M6.off3 hgb2 (by rw [Hs0.out]; omega)).y hzz, bset3 (HB0.out.trans (B6.out.mono hzz)) (by rw [Hg.out]; omega)⟩
    · have hjN : j < W.n := by rw [Hnn.out]; exact hj
      have hXj := HX.out j hjN
      have hjI : (j : Int) < (W.n : Int) := by omega
      have hup : upd W.X i (W.X i - k) j = W.X j := if_neg (fun e => hne (by rw [e]))
      clear hne hj hp2
      obtain ⟨c0, c1, c2⟩ := M6.cells
      obtain ⟨q0, q1, q2⟩ := M6.at_ hjN
      rw [hup] at q0
      have hv : IntKind.i64.wrap (W.X j + k) = W.X j + k := IntWalk.i64_in _ (by omega)
      go_wp2_with fail
      go_region
      have M7 := ((M6).put hn hm hjN (W.X j + k)).below dr0
      have B7 := hid (B6.out.setCell (p := ⟨gl, j, none⟩) q2 (.int .i64 (W.X j + k))).drew
      generalize (w6.setCell ⟨gl, j, none⟩ (.int .i64 (W.X j + k))).drew = w6s at *
      clear c0 c1 c2 q0 q1 hv M6
      obtain ⟨c0, c1, c2⟩ := M7.cells
      have r9 := R1.out.step B7.out
      obtain ⟨r90, r91, r92⟩ := r9.c3
      have f0 := Bk.fz r9 0
      have f1 := Bk.fz r9 1
      have f2 := Bk.fz r9 2
      have J := fill3 (u0 := .int .i64 W.min) (u1 := .slice (some ⟨gl, 0, none⟩) W.n c) (u2 := .slice (some ⟨gm, 0, none⟩) W.m d) r9
      obtain ⟨j0, j1, j2⟩ := J.c3
      have hzz : w.heap.size ≤ W0.heap.size := HB0.out.size
      have hgb2 : gb ≠ g + 1 + 1 := by have := Hgb9.out; have := Hs0.out; omega
      go_wp2
      exact bodyPost_ret (v := .agg #[.int .i64 W.min, .slice (some ⟨gl, 0, none⟩) W.n c, .slice (some ⟨gm, 0, none⟩) W.m d]) (by simp [results, Try.results43, go_sem, j0, j1, j2]) rfl ⟨gl, c, gm, d, rfl, by rw [take_at, give_at, hup]; exact own_base (M7.off3 hgb2 (by rw [Hs0.out]; omega)).x hzz, own_base (M7.off3 hgb2 (by rw [Hs0.out]; omega)).y hzz, bset3 (HB0.out.trans (B7.out.mono hzz)) (by rw [Hg.out]; omega)⟩

theorem Fit.none {N : Nd} {W : Wd} (h : Fit N W) (hn : N.n = 0) : N.k = 0 := by
  rcases Nat.eq_zero_or_pos N.k with h0 | h0
  · exact h0
  · exfalso
    obtain ⟨_, _, e1, e2, _⟩ := link_ok h.c h0
    have hne := link_ne h.c h0
    rcases endB_iff.1 e1 with a1 | ⟨j, hj, _⟩
    · rcases endB_iff.1 e2 with a2 | ⟨j, hj, _⟩
      · exact hne (a1.trans a2.symm)
      · omega
    · omega
theorem Copy_all {w : World} {B1 : Nat} {N : Nd} {W : Wd} (hF : Fit N W) (hs : Nsm N) (hw : Wt w B1 W) :
    Calls Try.prog 41 #[.agg #[.int .i64 W.min, .slice W.A W.n W.c, .slice W.M W.m W.d]] w fun e w' => ∃ A c M d, e = .returned (.agg #[.int .i64 W.min, .slice A N.n c, .slice M N.k d]) ∧ w'.ownsRow w.heap.size 3 1 (.slice A N.n c) N.n (ints W.X N.n) ∧ w'.ownsRow w.heap.size 4 1 (.slice M N.k d) N.k (bools W.Y N.k) ∧ Below w.heap.size w w' := by
  have hn := hF.n
  have hm := hF.m
  have hn9 : W.n ≤ 1000 := by rw [hn]; exact hs.n
  have hm9 : W.m ≤ 1000 := by rw [hm]; exact hs.k
  rw [← hn, ← hm]
  rcases Nat.eq_zero_or_pos W.n with h0 | h0
  · have h1 : W.m = 0 := by rw [hm]; exact hF.none (by omega)
    refine (Copy_00 hw h0 h1).mono ?_
    rintro e w' ⟨A, c, M, d, rfl, hc, hb⟩
    exact ⟨A, c, M, d, rfl, hc.x, hc.y, hb⟩
  · rcases Nat.eq_zero_or_pos W.m with h1 | h1
    · refine (Copy_n0 hw h0 h1 hn9).mono ?_
      rintro e w' ⟨A, c, M, d, rfl, hc, hb⟩
      exact ⟨A, c, M, d, rfl, hc.x, hc.y, hb⟩
    · refine (Copy_any hw h0 h1 hn9 hm9).mono ?_
      rintro e w' ⟨A, c, M, d, rfl, hc, hb⟩
      exact ⟨A, c, M, d, rfl, hc.x, hc.y, hb⟩
theorem basin_pos {N : Nd} (hC : Cn N 0) {i : Nat} (hi : i < N.k) : 0 < N.n := by
  rcases Nat.eq_zero_or_pos N.n with h0 | h0
  · have hF : Fit N (Wp N 0 (fun _ => 0) fun _ => false) := ⟨hC, (show (0 : Int) ≤ 0 by decide), (show (0 : Int) ≤ 1000000 by decide), rfl, rfl, fun j hj => by omega⟩
    have := hF.none h0
    omega
  · exact h0
theorem moved_is {w : World} {B0 B1 : Nat} {N : Nd} {W : Wd} {i : Nat} {r : Int} (HF : Hid (Fit N W)) (Hs : Hid (Nsm N)) (h : Nt w B0 N) (hw : Wt w B1 W) (hi : i < N.k) (r0 : -1000000000 ≤ r) (r1 : r ≤ 1000000000) :
    Calls Try.prog 43 #[.agg #[.slice N.A N.n N.c, .slice N.M N.m N.d, .slice N.K N.k N.e], .agg #[.int .i64 W.min, .slice W.A W.n W.c, .slice W.M W.m W.d], .string (N.l i).fr, .string (N.l i).tw, .int .i64 r] w fun e w' => ∃ A c M d, e = .returned (.agg #[.int .i64 W.min, .slice A N.n c, .slice M N.k d]) ∧ w'.ownsRow w.heap.size 3 1 (.slice A N.n c) N.n (ints (mvX N W.X i r) N.n) ∧ w'.ownsRow w.heap.size 4 1 (.slice M N.k d) N.k (bools W.Y N.k) ∧ Below w.heap.size w w' := by
  have hn := HF.out.n
  have hm := HF.out.m
  have hp := basin_pos HF.out.c hi
  refine (movedR_any (hid (ixB_is N _)) (hid (ixB_is N _)) (ixB_ne HF.out.c hi) h Hs.out hw hn (by omega) (by omega) (by rw [hm]; exact Hs.out.k) (by omega) (by omega) (fun j hj => by have := HF.out.wp.lit (show j < N.n by omega); omega)).mono ?_
  rintro e w' ⟨gl, c, gm, d, rfl, h1, h2, hb⟩
  rw [hn] at h1 ⊢
  rw [hm] at h2 ⊢
  exact ⟨_, c, _, d, rfl, h1, h2, hb⟩
/-- The state of a run of the reference: a box with rows of its own, beside the row fv of what the links did. -/
structure Ro (w : World) (gb bs : Nat) (N : Nd) (t : Int) (X : Nat → Int) (Y : Nat → Bool) (A : Option Addr) (c : Nat) (M : Option Addr) (d : Nat) : Prop where
  b : Bk w gb (.cells #[.int .i64 t, .slice A N.n c, .slice M N.k d] 30 (0, 0))
  x : w.ownsRow bs 3 1 (.slice A N.n c) N.n (ints X N.n)
  y : w.ownsRow bs 4 1 (.slice M N.k d) N.k (bools Y N.k)
section
variable {w w' : World} {gb b c d : Nat} {N : Nd} {t : Int} {X : Nat → Int} {Y : Nat → Bool} {A M : Option Addr}
theorem Ro.below (h : Ro w gb b N t X Y A c M d) (hb : Below w.heap.size w w') : Ro w' gb b N t X Y A c M d := ⟨h.b.step hb, own_below h.x hb, own_below h.y hb⟩
theorem Ro.wt (h : Ro w gb b N t X Y A c M d) : Wt w w.heap.size (Wr N t A c M d X Y) := by
  obtain ⟨a1, a2, a3⟩ := own_xs h.x
  obtain ⟨b1, b2, b3⟩ := own_xs h.y
  exact ⟨fun i hi => by obtain ⟨ad, e, h1, h2⟩ := a1 i hi; exact ⟨ad, e, h1, h2.trans (ints_get _ hi)⟩, fun i hi => by obtain ⟨ad, e, h1, h2⟩ := b1 i hi; exact ⟨ad, e, h1, h2.trans (bools_get _ hi)⟩, Nat.le_refl _, a2, a3, b2, b3⟩
end
/-- A network in a box, a state in a box, and a link of the network. -/
structure Nro (w : World) (g gb B0 bs : Nat) (N : Nd) (t : Int) (X : Nat → Int) (Y : Nat → Bool) (A : Option Addr) (c : Nat) (M : Option Addr) (d : Nat) (al : Addr) (i : Nat) : Prop where
  n : Nb w g B0 N
  o : Ro w gb bs N t X Y A c M d
  hal : N.K = some al
  i : i < N.k
section
variable {w w' : World} {g gb B0 b c d i : Nat} {N : Nd} {t : Int} {X : Nat → Int} {Y : Nat → Bool} {A M : Option Addr} {al : Addr}
theorem Nro.below (h : Nro w g gb B0 b N t X Y A c M d al i) (hb : Below w.heap.size w w') : Nro w' g gb B0 b N t X Y A c M d al i := ⟨h.n.below hb, h.o.below hb, h.hal, h.i⟩
theorem Nro.cells (h : Nro w g gb B0 b N t X Y A c M d al i) : w.cell? ⟨g, 0, none⟩ = some (.slice N.A N.n N.c) ∧ w.cell? ⟨g, 1, none⟩ = some (.slice N.M N.m N.d) ∧ w.cell? ⟨g, 2, none⟩ = some (.slice (some al) N.k N.e) ∧ w.cell? ⟨gb, 0, none⟩ = some (.int .i64 t) ∧ w.cell? ⟨gb, 1, none⟩ = some (.slice A N.n c) ∧ w.cell? ⟨gb, 2, none⟩ = some (.slice M N.k d) ∧ w.cell? (al.add (i * 8)) = some (.string (N.l i).nm) ∧ w.cell? ⟨(al.add (i * 8)).block, (al.add (i * 8)).off + 1, none⟩ = some (.int .i64 (N.l i).kind) ∧ w.cell? ⟨(al.add (i * 8)).block, (al.add (i * 8)).off + 2, none⟩ = some (.string (N.l i).fr) ∧ w.cell? ⟨(al.add (i * 8)).block, (al.add (i * 8)).off + 3, none⟩ = some (.string (N.l i).tw) ∧ w.cell? ⟨(al.add (i * 8)).block, (al.add (i * 8)).off + 4, none⟩ = some (.int .i64 (N.l i).sill) ∧ w.cell? ⟨(al.add (i * 8)).block, (al.add (i * 8)).off + 5, none⟩ = some (.int .i64 (N.l i).rate) ∧ w.cell? ⟨(al.add (i * 8)).block, (al.add (i * 8)).off + 6, none⟩ = some (.int .i64 (N.l i).fac) ∧ w.cell? ⟨(al.add (i * 8)).block, (al.add (i * 8)).off + 7, none⟩ = some (.int .i64 (N.l i).lift) := by
  obtain ⟨x0, x1, x2⟩ := h.n.cells
  obtain ⟨y0, y1, y2⟩ := h.o.b.c3
  obtain ⟨al', e, _, c0, c1, c2, c3, c4, c5, c6, c7⟩ := h.n.a.l.at_ i h.i
  rw [h.hal] at e x2
  injection e with e
  subst e
  exact ⟨x0, x1, x2, y0, y1, y2, c0, c1, c2, c3, c4, c5, c6, c7⟩
end
theorem Act_floA {w : World} {B0 B1 : Nat} {N : Nd} {W : Wd} {i : Nat} {r : Int} {K' : Option Addr} (hK : N.K = K') (hr : flo N W.min W.X true i = r) (HF : Hid (Fit N W)) (Hs : Hid (Nsm N)) (h : Nt w B0 N) (hw : Wt w B1 W) (hi : i < N.k) :
    Calls Try.prog 42 #[.agg #[.slice N.A N.n N.c, .slice N.M N.m N.d, .slice K' N.k N.e], .agg #[.int .i64 W.min, .slice W.A W.n W.c, .slice W.M W.m W.d], .agg #[.string (N.l i).nm, .int .i64 (N.l i).kind, .string (N.l i).fr, .string (N.l i).tw, .int .i64 (N.l i).sill, .int .i64 (N.l i).rate, .int .i64 (N.l i).fac, .int .i64 (N.l i).lift]] w fun e w' => e = .returned (.int .i64 r) ∧ Below w.heap.size w w' := by
  subst hK hr; exact Act_flo HF Hs h hw hi
theorem moved_isA {w : World} {B0 B1 : Nat} {N : Nd} {W : Wd} {i : Nat} {r : Int} {K' : Option Addr} (hK : N.K = K') (HF : Hid (Fit N W)) (Hs : Hid (Nsm N)) (h : Nt w B0 N) (hw : Wt w B1 W) (hi : i < N.k) (r0 : -1000000000 ≤ r) (r1 : r ≤ 1000000000) :
    Calls Try.prog 43 #[.agg #[.slice N.A N.n N.c, .slice N.M N.m N.d, .slice K' N.k N.e], .agg #[.int .i64 W.min, .slice W.A W.n W.c, .slice W.M W.m W.d], .string (N.l i).fr, .string (N.l i).tw, .int .i64 r] w fun e w' => ∃ A c M d, e = .returned (.agg #[.int .i64 W.min, .slice A N.n c, .slice M N.k d]) ∧ w'.ownsRow w.heap.size 3 1 (.slice A N.n c) N.n (ints (mvX N W.X i r) N.n) ∧ w'.ownsRow w.heap.size 4 1 (.slice M N.k d) N.k (bools W.Y N.k) ∧ Below w.heap.size w w' := by
  subst hK; exact moved_is HF Hs h hw hi r0 r1

end Go.Proofs.Ytockfiobhmohnaa

namespace Go.Proofs.Ytockfiobhmohnaa
open Go.RowKit Kb

section
variable {P : Program} {ops : Array Oper} {Q : Exit → Act → World → Prop} {md : Region.Mode} {S : World → Prop} {late : Nat}

/-- Whatever order is picked: behind every operation but number 'late' the world meets S. -/
def wpLate (P : Program) (md : Region.Mode) (ops : Array Oper) (Q : Exit → Act → World → Prop) (S : World → Prop) (late : Nat) : Nat → Array Bool → Act → World → Prop
  | 0, seen, a, w => Region.ready md ops seen = [] ∧ Q .normal a w
  | fuel + 1, seen, a, w =>
    (Region.ready md ops seen = [] → Q .normal a w) ∧
    ∀ i ∈ Region.ready md ops seen, wpOp P ops Q i (fun a' w' => (i ≠ late → S w') ∧ wpLate P md ops Q S late fuel (seen.setIfInBounds i true) a' w') a w

theorem wpAny_of_wpLate : ∀ (fuel : Nat) (seen : Array Bool) (a : Act) (w : World), wpLate P md ops Q S late fuel seen a w → wpAny P md ops Q fuel seen a w
  | 0, _, _, _, h => h
  | fuel + 1, _, _, _, h => ⟨h.1, fun i hi => wpOp_mono (fun a' w' h' => wpAny_of_wpLate fuel _ a' w' h'.2) (h.2 i hi)⟩

/-- D leads from operation i to the late one: each waits for one of D, i apart; none has come up. -/
def leads (md : Region.Mode) (ops : Array Oper) (late i : Nat) (D : List Nat) : Bool :=
  D.contains late && D.all fun d => d == i || D.any fun e => Region.waitsFor md ops d e
def fresh (seen : Array Bool) (D : List Nat) : Bool := D.all fun d => !seen.getD d true

theorem leads_not_ready {i j : Nat} {D : List Nat} {seen : Array Bool} (hl : leads md ops late i D = true) (hf : fresh seen D = true) (hj : j ∈ Region.ready md ops seen) (hji : j ≠ i) : j ∉ D := by
  intro hD
  unfold leads at hl
  rw [Bool.and_eq_true, List.all_eq_true] at hl
  have h1 := hl.2 j hD
  rw [Bool.or_eq_true, List.any_eq_true] at h1
  rcases h1 with h1 | ⟨e, he, h1⟩
  · exact hji (by simpa using h1)
  · obtain ⟨oj, hoj, ed, hed, hb, hon⟩ := Region.waitsFor_spec h1
    obtain ⟨-, oj', hoj', hall⟩ := mem_ready.1 hj
    rw [hoj] at hoj'
    cases hoj'
    have h2 := hall ed hed hb
    unfold fresh at hf
    rw [List.all_eq_true] at hf
    have h3 := hf e he
    rw [hon] at h2
    rcases Nat.lt_or_ge e seen.size with h' | h'
    · simp [h'] at h2 h3; rw [h3] at h2; cases h2
    · simp [Array.getElem?_eq_none h'] at h2
theorem fresh_set {j : Nat} {D : List Nat} {seen : Array Bool} (hf : fresh seen D = true) (hj : j ∉ D) : fresh (seen.setIfInBounds j true) D = true := by
  unfold fresh at hf ⊢
  rw [List.all_eq_true] at hf ⊢
  intro d hd
  have h := hf d hd
  have hne : j ≠ d := fun e => hj (e ▸ hd)
  rw [getD_set_ne true hne]
  exact h

/-- An operation that yields in every world that meets S may be taken first, if it leads to the late one. -/
theorem wpLate_first {i : Nat} {D : List Nat} {oi : Oper} {v : Value} (hi : ops[i]? = some oi) (hsel : ∀ (j : Nat) (o : Oper) cs b, ops[j]? = some o → o.op ≠ .select cs b)
    (hQ : ∀ c a w, Q (.panic c) (a.put oi.dst v) w → Q (.panic c) a w) (hl : leads md ops late i D = true) :
    ∀ (fuel : Nat) (seen : Array Bool) (a : Act) (w : World), fresh seen D = true →
      (∀ j oj, ops[j]? = some oj → j ≠ i → seen.getD j true = false → (∀ e ∈ oj.after, Region.binds md e = true → e.on ≠ i) → oi.apart ops oj = true) →
      i ∈ Region.ready md ops seen → YieldsIf P ops S oi v a → S w →
      wpLate P md ops Q S late fuel (seen.setIfInBounds i true) (a.put oi.dst v) w → wpLate P md ops Q S late (fuel + 1) seen a w := by
  have hlate : late ∈ D := by
    unfold leads at hl
    rw [Bool.and_eq_true] at hl
    simpa using hl.1
  intro fuel
  induction fuel with
  | zero =>
    intro seen a w _ _ hr hy hS H
    refine ⟨fun h => absurd hr (by rw [h]; simp), fun j hj => ?_⟩
    by_cases hji : j = i
    · rw [hji]
      exact hy.wpOp hi hS ⟨fun _ => hS, H⟩
    · exact absurd (ready_mono hj hji) (by rw [H.1]; simp)
  | succ fuel ih =>
    intro seen a w hf hfree hr hy hS H
    refine ⟨fun h => absurd hr (by rw [h]; simp), fun j hj => ?_⟩
    by_cases hji : j = i
    · rw [hji]
      exact hy.wpOp hi hS ⟨fun _ => hS, H⟩
    · have hjD := leads_not_ready hl hf hj hji
      have hjl : j ≠ late := fun e => hjD (e ▸ hlate)
      obtain ⟨hun, oj, hoj, hall⟩ := mem_ready.1 hj
      have hi0 := (mem_ready.1 hr).1
      have hno : ∀ e ∈ oj.after, Region.binds md e = true → e.on ≠ i := fun e he hb heq => by
        have h1 := hall e he hb
        rw [heq] at h1
        rcases Nat.lt_or_ge i seen.size with h' | h'
        · simp [h'] at hi0 h1; rw [hi0] at h1; cases h1
        · simp [Array.getElem?_eq_none h'] at h1
      have h2 := wpOp_putIf hoj (hfree j oj hoj hji hun hno) (fun cs b => hsel i oi cs b hi) (fun cs b => hsel j oj cs b hoj) hQ hy (H.2 j (ready_mono hj hji))
      refine wpOp_mono (fun a' w' h3 => ⟨fun _ => h3.2.1 hjl, ih (seen.setIfInBounds j true) a' w' (fresh_set hf hjD) ?_ (ready_mono hr (Ne.symm hji)) h3.1 (h3.2.1 hjl) ?_⟩) h2
      · intro k ok hk hki hku hkn
        refine hfree k ok hk hki ?_ hkn
        by_cases hjk : j = k
        · rw [← hjk]; exact hun
        · rw [getD_set_ne true hjk] at hku; exact hku
      · rw [Array.setIfInBounds_comm _ _ hji]
        exact h3.2.2

/-- Number i of a list that is written out. -/
def nth : List Oper → Nat → Option Oper
  | [], _ => none
  | o :: _, 0 => some o
  | _ :: l, i + 1 => nth l i
theorem nth_eq {l : List Oper} {i : Nat} {o : Oper} (h : nth l i = some o) : l[i]? = some o := by
  induction l generalizing i with
  | nil => cases h
  | cons x l ih =>
    cases i with
    | zero => exact h
    | succ i => exact ih h
theorem nth_ops {i : Nat} {o : Oper} (h : nth ops.toList i = some o) : ops[i]? = some o := by
  rw [← Array.getElem?_toList]
  exact nth_eq h
/-- The move of a walk: number i is taken first. -/
theorem wpLate_take (i : Nat) (D : List Nat) {oi : Oper} {v : Value} {fuel : Nat} {seen : Array Bool} {a : Act} {w : World} (hi : nth ops.toList i = some oi)
    (hs : Region.noSelect ops = true) (hf : Region.free md ops seen i = true) (hr : (Region.ready md ops seen).contains i = true)
    (hQ : ∀ c a w, Q (.panic c) (a.put oi.dst v) w → Q (.panic c) a w) (hl : leads md ops late i D = true) (hd : fresh seen D = true) (hy : YieldsIf P ops S oi v a) (hS : S w)
    (h : wpLate P md ops Q S late fuel (seen.setIfInBounds i true) (a.put oi.dst v) w) : wpLate P md ops Q S late (fuel + 1) seen a w :=
  wpLate_first (nth_ops hi) (Region.noSelect_spec hs) hQ hl fuel seen a w hd (Region.free_spec (nth_ops hi) hf) (by simpa using hr) hy hS h

/-- Number i is the only one that may come up, and it is not the late one. -/
theorem wpLate_one (i : Nat) {o : Oper} {fuel : Nat} {seen : Array Bool} {a : Act} {w : World} (hr : Region.ready md ops seen = [i]) (ho : nth ops.toList i = some o)
    (h : ∀ K' : Act → World → Prop, Shut (∀ a w, S w → (S w → wpLate P md ops Q S late fuel (seen.setIfInBounds i true) a w) → K' a w) → if Region.wanted o (yielded ops a.tmps) = true then Oper.wp P o a w K' Q else K' (a.put o.dst undef) w) : wpLate P md ops Q S late (fuel + 1) seen a w := by
  refine ⟨fun h0 => absurd hr (by rw [h0]; simp), fun j hj => ?_⟩
  rw [hr, List.mem_singleton] at hj
  subst hj
  exact wpOp_step (nth_ops ho) (fun K' hK => h K' (fun a w hS hW => hK a w ⟨fun _ => hS, hW hS⟩))
/-- The late one, and nothing behind it. -/
theorem wpLate_last (i : Nat) {o : Oper} {fuel : Nat} {seen : Array Bool} {a : Act} {w : World} (hi : i = late) (hr : Region.ready md ops seen = [i]) (hn : Region.ready md ops (seen.setIfInBounds i true) = []) (ho : nth ops.toList i = some o)
    (h : ∀ K' : Act → World → Prop, Shut (∀ a w, Q .normal a w → K' a w) → if Region.wanted o (yielded ops a.tmps) = true then Oper.wp P o a w K' Q else K' (a.put o.dst undef) w) : wpLate P md ops Q S late (fuel + 1) seen a w := by
  refine ⟨fun h0 => absurd hr (by rw [h0]; simp), fun j hj => ?_⟩
  rw [hr, List.mem_singleton] at hj
  subst hj
  refine wpOp_step (nth_ops ho) (fun K' hK => h K' (fun a w hq => hK a w ⟨fun e => absurd hi e, ?_⟩))
  cases fuel with
  | zero => exact ⟨hn, hq⟩
  | succ f => exact ⟨fun _ => hq, by rw [hn]; simp⟩
/-- The beginning. -/
theorem wp_region_late (late : Nat) (S : World → Prop) {id : Nat} {a : Act} {w : World} (hm : P.follows .mixedOrders = true) (hS : S w.drew)
    (h : S w.drew → wpLate P .any ops Q S late ops.size (Array.replicate ops.size false) a w.drew) : (Code.region id ops true).wp P Q a w :=
  wp_region_any hm (wpAny_of_wpLate _ _ _ _ (h hS))
end
end Go.Proofs.Ytockfiobhmohnaa

