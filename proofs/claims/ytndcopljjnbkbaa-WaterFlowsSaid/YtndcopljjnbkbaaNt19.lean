/- Networks: Levels of the reference. -/
import Derived.Test.YtndcopljjnbkbaaNt14
namespace Go.Proofs.Ytndcopljjnbkbaa
open Go.RowKit Go.Maps Kb Wb

section
variable {w : World} {B0 B1 : Nat} {N : Nd} {W : Wd}
set_option maxRecDepth 100000 in
set_option maxHeartbeats 8000000 in
theorem rLevels_ok (hF : Hid (Fit N W)) (hs : Nsm N) (h : Nt w B0 N) (hw : Wt w B1 W) :
    Calls Try.prog 22 #[.agg #[.slice N.A N.n N.c, .slice N.M N.m N.d, .slice N.K N.k N.e], .agg #[.int .i64 W.min, .slice W.A W.n W.c, .slice W.M W.m W.d]] w fun e w' => ∃ v : Value, e = .returned v ∧ Hid (w'.ownsRow w.heap.size 3 1 v N.n (ints (fun i => lvB (N.b i) (W.X i)) N.n)) ∧ Below w.heap.size w w' := by
  have hnn := hs.n
  obtain ⟨i0, hi0, hz0, hz1, hz2⟩ := info_parts info_int
  obtain ⟨g, hg⟩ : ∃ g, w.heap.size = g := ⟨_, rfl⟩
  have hb0 := ((Below.refl w.heap.size w).alloc (Nat.le_refl _) (.cells #[.slice N.A N.n N.c, .slice N.M N.m N.d, .slice N.K N.k N.e] 26)).alloc (by simp) (.cells #[.int .i64 W.min, .slice W.A W.n W.c, .slice W.M W.m W.d] 33)
  have K1 := (Nb.new h hg).below (alo (o := .cells #[.int .i64 W.min, .slice W.A W.n W.c, .slice W.M W.m W.d] 33))
  have V1 : Wx _ (g + 1) B1 W := ⟨Bk.of_alloc (w.alloc (.cells #[.slice N.A N.n N.c, .slice N.M N.m N.d, .slice N.K N.k N.e] 26)) (.cells #[.int .i64 W.min, .slice W.A W.n W.c, .slice W.M W.m W.d] 33) (by simp [hg]), hw.below hb0⟩
  go_enter Try.func22, Try.ntmps22
  go_wp2_with fail
  generalize (w.alloc (.cells #[.slice N.A N.n N.c, .slice N.M N.m N.d, .slice N.K N.k N.e] 26)).alloc (.cells #[.int .i64 W.min, .slice W.A W.n W.c, .slice W.M W.m W.d] 33) = W0 at *
  have HB0 := hid hb0
  have Hg := hid hg
  clear hb0 h hg hw
  have hown0 := hid (World.ownsRow_nil W0 W0.heap.size 3 1)
  go_loopw [5, 6] (fun sv iv wr => ∃ (i : Nat), i ≤ N.n ∧ iv = .int .i64 i ∧ Hid (wr.ownsRow W0.heap.size 3 1 sv i (ints (fun i => lvB (N.b i) (W.X i)) i)) ∧ Below W0.heap.size W0 wr) (fun _ iv _ => N.n - (intOf iv).toNat)
  case atStart => exact ⟨0, Nat.zero_le _, rfl, hown0, Below.refl _ _⟩
  case round =>
    obtain ⟨i, hi, rfl, HO, hbel⟩ := hrel
    have K3 := K1.below hbel
    have V3 := V1.below hbel
    have Hbel := hid hbel
    obtain ⟨x0, x1, x2⟩ := K3.cells
    clear hbel
    by_cases hlt : i < N.n
    · have B := hF.out.c.bas hlt
      have iW : i < W.n := by have := hF.out.n; omega
      obtain ⟨ab, hab, -⟩ := K3.a.b.at_ i hlt
      obtain ⟨al, hal, -, -⟩ := V3.a.x i iW
      have D0 : Hi wr.drew g B0 B1 N W al ab i := (Hi.mk K3 V3 hal hab iW hlt).below dr0
      have dlt : decide ((i : Int) < (N.n : Int)) = true := decide_eq_true (by omega)
      have Hlit := hid (show 0 ≤ W.X i ∧ W.X i ≤ capB (N.b i) from hF.out.l i hlt)
      have Hlev := hid (lvB_lev B Hlit.out.1 Hlit.out.2)
      obtain ⟨lv, hlv⟩ : ∃ lv, lvB (N.b i) (W.X i) = lv := ⟨_, rfl⟩
      rw [hlv] at Hlev
      have Hlv := hid hlv
      have Own1 := hid HO.out.drew
      clear hab hal hlv
      have hil : (i : Int) < (W.n : Int) := by omega
      have hin : (i : Int) < (N.n : Int) := by omega
      go_upto_region 5 with (fail)
      clear x0 x1 x2
      obtain ⟨z0, z1, z3, z4, z5, z6⟩ := D0.cells
      go_region_law (first
        | (refine step_append_lies _ (by rfl) _ _ _ (by rfl) W0.heap.size 3 i0 (.int .i64 0) 1 8 Try.underlying27 hi0 hz0 hz1 hz2 rfl (by decide) u5 i _ (by rfl) (Own4.out.alloc _) ⟨w4.heap.size, 0, none⟩ 1 1 [.int .i64 lv] (by rfl) rfl (cell_one_new _ _ _) (one_cell (.int .i64 lv) rfl) (by decide) (by unfold maxLen; omega) (by omega) (by have := HB4.out.size; simp; omega) _ rfl ?_; intro g1 cap1 w5 hown5 hgrow5 hat5 hlt5)
        | (go_simp; go_at_call 60; refine (rLevelOf_any (N.b i).nm D0.pa B Hlit.out.1 Hlev.out).mono ?_; rintro e w4 ⟨rfl, hb4⟩; have HB4 := hid (Hbel.out.drew.trans (hb4.mono Hbel.out.drew.size)); have Own4 := hid (own_below Own1.out hb4)))
      all_goals
        have hb5 := (HB4.out.alloc HB4.out.size (.cells #[.int .i64 lv] 3)).grown hgrow5 (by have := HB4.out.size; simp; omega) (fun k hk => (Own4.out.lt k hk).1)
        rw [← Hlv.out, ints_snoc (fun i => lvB (N.b i) (W.X i)) i] at hown5
        have HO5 := hid hown5
        have HB5 := hid hb5
        clear hb5 hown5 hgrow5 hat5 hlt5 hb4 D0 z0 z1 z3 z4 z5 z6
        go_wp2
        go_roundw
        case rel => exact ⟨i + 1, by omega, by go_num, HO5, HB5.out⟩
        case measure => simp [intOf]; omega
    · have e : i = N.n := by omega
      have dlt : decide ((i : Int) < (N.n : Int)) = false := decide_eq_false (by omega)
      subst e
      have HB := hid (bthen HB0.out Hbel.out (Nat.le_refl _))
      have HO2 := hid (own_base HO.out HB0.out.size)
      go_wp2
      go_ret
      exact ⟨_, rfl, HO2, HB.out⟩
end

end Go.Proofs.Ytndcopljjnbkbaa
