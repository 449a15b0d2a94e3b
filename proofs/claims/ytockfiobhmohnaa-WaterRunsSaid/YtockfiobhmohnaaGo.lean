/- Networks: Run of the reference. For every network, state and turns that fit each other. The walk of WaterFlows. For every case and name. Networks: SameWater at two states that are equal; the errors of a case. -/
import Derived.Test.YtockfiobhmohnaaRt7
import Derived.Test.YtockfiobhmohnaaGm
namespace Go.Proofs.Ytockfiobhmohnaa
open Go.RowKit Go.Maps Kb Wb

section
variable {w w' : World} {gb bs c d : Nat} {N : Nd} {t : Int} {X : Nat → Int} {Y : Nat → Bool} {A M : Option Addr}
theorem Ro.rowy (h : Ro w gb bs N t X Y A c M d) (hn : 0 < N.k) : ∃ gl cur, M = some ⟨gl, 0, none⟩ ∧ Bk w gl (.cells cur 4 (0, 0)) ∧ bs ≤ gl ∧ ∀ j, j < N.k → cur[j]? = some (.bool (Y j)) := by
  obtain ⟨g', cur, e, hb, hg, h1, h2, hs, ht, hl⟩ := own_cur h.y hn
  exact ⟨g', cur, e, hg, hb, fun j hj => by rw [cur_get ht hj, bools_get _ hj]⟩
theorem Ro.putY (h : Ro w gb bs N t X Y A c M d) {i gm : Nat} (hi : i < N.k) (hM : M = some ⟨gm, 0, none⟩) (v : Bool) : Ro (w.setCell ⟨gm, i, none⟩ (.bool v)) gb bs N t X (updY Y i v) A c M d := by
  obtain ⟨gl', cur, e, hg, _⟩ := h.rowy (by omega)
  rw [hM] at e
  injection e with e
  injection e with e
  subst e
  refine ⟨bk_set h.b (bk_ty h.b hg (by decide)), h.x.kept (gb_set (World.grownBy.refl _ (some gm)) i _) (.inr ?_), ?_⟩
  · rcases h.x.2 with ⟨e, _⟩ | ⟨g', cap, cur', e, _, hg', _⟩
    · rw [e]; simp [Value.ownBlock]
    · rw [e]
      simp only [Value.ownBlock]
      exact fun e => bk_ty (show Bk w g' (.cells cur' 3 (0, 0)) from hg') hg (by decide) (by injection e)
  · have hy := h.y
    subst hM
    exact own_putY hy hi v
theorem Ro.aty (h : Ro w gb bs N t X Y A c M d) {i : Nat} (hi : i < N.k) : ∃ gm, M = some ⟨gm, 0, none⟩ ∧ w.cell? ⟨gm, i, none⟩ = some (.bool (Y i)) ∧ w.frozen? ⟨gm, i, none⟩ = false ∧ bs ≤ gm ∧ gb ≠ gm := by
  obtain ⟨gl, cur, e, hg, hb, hc⟩ := h.rowy (by omega)
  exact ⟨gl, e, (cell_of_row w _ i _ _ _ hg).trans (hc i hi), Bk.fz hg i, hb, bk_ty h.b hg (by decide)⟩
end
/-- A network in a box, a state in a box, and a turn of a list. -/
structure Nto (w : World) (g gb B0 B2 bs : Nat) (N : Nd) (t : Int) (X : Nat → Int) (Y : Nat → Bool) (A : Option Addr) (c : Nat) (M : Option Addr) (d : Nat) (T : Tn) (ad : Addr) (i : Nat) : Prop where
  n : Nb w g B0 N
  o : Ro w gb bs N t X Y A c M d
  t : Tl w B2 (some ad) T.p T.tm T.tl T.tp
  i : i < T.p
section
variable {w w' : World} {g gb B0 B2 bs c d i : Nat} {N : Nd} {t : Int} {X : Nat → Int} {Y : Nat → Bool} {A M : Option Addr} {T : Tn} {ad : Addr}
theorem Nto.below (h : Nto w g gb B0 B2 bs N t X Y A c M d T ad i) (hb : Below w.heap.size w w') : Nto w' g gb B0 B2 bs N t X Y A c M d T ad i := ⟨h.n.below hb, h.o.below hb, h.t.below hb, h.i⟩
theorem Nto.cells (h : Nto w g gb B0 B2 bs N t X Y A c M d T ad i) : w.cell? ⟨g, 0, none⟩ = some (.slice N.A N.n N.c) ∧ w.cell? ⟨g, 1, none⟩ = some (.slice N.M N.m N.d) ∧ w.cell? ⟨g, 2, none⟩ = some (.slice N.K N.k N.e) ∧ w.cell? ⟨gb, 0, none⟩ = some (.int .i64 t) ∧ w.cell? ⟨gb, 1, none⟩ = some (.slice A N.n c) ∧ w.cell? ⟨gb, 2, none⟩ = some (.slice M N.k d) ∧ w.cell? (ad.add (i * 3)) = some (.int .i64 (T.tm i)) ∧ w.cell? ⟨(ad.add (i * 3)).block, (ad.add (i * 3)).off + 1, none⟩ = some (.string (T.tl i)) ∧ w.cell? ⟨(ad.add (i * 3)).block, (ad.add (i * 3)).off + 2, none⟩ = some (.bool (T.tp i)) := by
  obtain ⟨x0, x1, x2⟩ := h.n.cells
  obtain ⟨y0, y1, y2⟩ := h.o.b.c3
  obtain ⟨ad', e, _, c0, c1, c2⟩ := h.t.at_ i h.i
  injection e with e
  subst e
  exact ⟨x0, x1, x2, y0, y1, y2, c0, c1, c2⟩
end

set_option maxRecDepth 100000 in
set_option maxHeartbeats 8000000 in
theorem rRun_any {w : World} {B0 B1 B2 u : Nat} {N : Nd} {W : Wd} {T : Tn} {P : Option Addr} (k : Nat) (HF : Hid (Fit N W)) (Hs : Hid (Nsm N)) (Hte : Hid (Te N T 0)) (h : Nt w B0 N) (hw : Wt w B1 W) (hT : Tl w B2 P T.p T.tm T.tl T.tp) (hk : W.min + k ≤ 1000000) :
    Calls Try.prog 16 #[.agg #[.slice N.A N.n N.c, .slice N.M N.m N.d, .slice N.K N.k N.e], .agg #[.int .i64 W.min, .slice W.A W.n W.c, .slice W.M W.m W.d], .slice P T.p u, .int .i64 k] w fun e w' => ∃ v, e = .returned v ∧ Hid (Wo w.heap.size w' N (W.min + k) (rnS N T W.min W.X W.Y k).1 (rnS N T W.min W.X W.Y k).2 v) ∧ Below w.heap.size w w' := by
  have t0 : 0 ≤ W.min := HF.out.t0
  have hp := Hte.out.zero.1
  have HG := hid Hte.out.zero.2
  obtain ⟨g, hg⟩ : ∃ g, w.heap.size = g := ⟨_, rfl⟩
  have hb0 := (((Below.refl w.heap.size w).alloc (Nat.le_refl _) (.cells #[.slice N.A N.n N.c, .slice N.M N.m N.d, .slice N.K N.k N.e] 26)).alloc (by simp) (.cells #[.int .i64 W.min, .slice W.A W.n W.c, .slice W.M W.m W.d] 30)).alloc (by simp; omega) (.cells #[.int .i64 0, .slice none 0 0, .slice none 0 0] 30)
  have K1 := ((Nb.new h hg).below (alo (o := .cells #[.int .i64 W.min, .slice W.A W.n W.c, .slice W.M W.m W.d] 30))).below (alo (o := .cells #[.int .i64 0, .slice none 0 0, .slice none 0 0] 30))
  have V1 := hw.below hb0
  have V2 : Bk _ (g + 1) _ := (Bk.of_alloc (w.alloc (.cells #[.slice N.A N.n N.c, .slice N.M N.m N.d, .slice N.K N.k N.e] 26)) (.cells #[.int .i64 W.min, .slice W.A W.n W.c, .slice W.M W.m W.d] 30) (by simp [hg])).alloc (.cells #[.int .i64 0, .slice none 0 0, .slice none 0 0] 30)
  have R1 : Bk _ (g + 1 + 1) _ := Bk.of_alloc ((w.alloc (.cells #[.slice N.A N.n N.c, .slice N.M N.m N.d, .slice N.K N.k N.e] 26)).alloc (.cells #[.int .i64 W.min, .slice W.A W.n W.c, .slice W.M W.m W.d] 30)) (.cells #[.int .i64 0, .slice none 0 0, .slice none 0 0] 30) (by simp [hg])
  have T1 := hT.below hb0
  have hs0 : (((w.alloc (.cells #[.slice N.A N.n N.c, .slice N.M N.m N.d, .slice N.K N.k N.e] 26)).alloc (.cells #[.int .i64 W.min, .slice W.A W.n W.c, .slice W.M W.m W.d] 30)).alloc (.cells #[.int .i64 0, .slice none 0 0, .slice none 0 0] 30)).heap.size = g + 3 := by simp [hg]
  go_enter Try.func16, Try.ntmps16
  go_wp2_with fail
  generalize ((w.alloc (.cells #[.slice N.A N.n N.c, .slice N.M N.m N.d, .slice N.K N.k N.e] 26)).alloc (.cells #[.int .i64 W.min, .slice W.A W.n W.c, .slice W.M W.m W.d] 30)).alloc (.cells #[.int .i64 0, .slice none 0 0, .slice none 0 0] 30) = W0 at *
  have HB0 := hid hb0
  have Hg := hid hg
  have Hs0 := hid hs0
  have HKV := hid (fun (V : World) (hV : Below W0.heap.size W0 V) => (show Nb V g B0 N ∧ Tl V B2 P T.p T.tm T.tl T.tp ∧ Bk V (g + 1 + 1) (.cells #[.int .i64 0, .slice none 0 0, .slice none 0 0] 30 (0, 0)) from ⟨K1.below hV, T1.below hV, R1.step hV⟩))
  clear hb0 hg hs0 h hw R1 K1 T1 hT V2
  refine (Copy_all HF.out Hs.out V1).mono ?_
  rintro e w2 ⟨A, c, M, d, rfl, hx, hy, hb⟩
  obtain ⟨gb, hgb⟩ : ∃ gb, w2.heap.size = gb := ⟨_, rfl⟩
  have hba := alo (W := w2) (o := .cells #[.int .i64 W.min, .slice A N.n c, .slice M N.k d] 30)
  have O3 : Ro _ gb W0.heap.size N W.min W.X W.Y A c M d := ⟨Bk.of_alloc w2 _ hgb, own_below hx hba, own_below hy hba⟩
  have HB3 := hid (hb.trans (hba.mono hb.size))
  have HGB := hid (show W0.heap.size ≤ gb from by rw [← hgb]; exact hb.size)
  clear V1 hx hy hba hb
  go_wp2_with fail
  generalize w2.alloc (.cells #[.int .i64 W.min, .slice A N.n c, .slice M N.k d] 30) = w3 at *
  clear hgb
  go_loopw [10] (fun iv wr => ∃ i : Nat, i ≤ k ∧ iv = .int .i64 i ∧ (∃ A c M d, Ro wr gb W0.heap.size N (W.min + i) (rnS N T W.min W.X W.Y i).1 (rnS N T W.min W.X W.Y i).2 A c M d) ∧ Below W0.heap.size W0 wr) (fun iv _ => k - (intOf iv).toNat)
  case atStart => exact ⟨0, Nat.zero_le _, rfl, ⟨A, c, M, d, by rw [show W.min + ((0 : Nat) : Int) = W.min by omega]; exact O3⟩, HB3.out⟩
  case round =>
    obtain ⟨i, hi, rfl, ⟨A, c, M, d, Oi⟩, hbi⟩ := hrel
    have HBi := hid hbi
    rename World => wo
    clear hbi O3 HB3
    by_cases hlt : i < k
    · have dlt : decide ((i : Int) < (k : Int)) = true := decide_eq_true (by omega)
      obtain ⟨X, hX⟩ : ∃ X, (rnS N T W.min W.X W.Y i).1 = X := ⟨_, rfl⟩
      obtain ⟨Y, hY⟩ : ∃ Y, (rnS N T W.min W.X W.Y i).2 = Y := ⟨_, rfl⟩
      obtain ⟨t, ht⟩ : ∃ t, W.min + (i : Int) = t := ⟨_, rfl⟩
      have HFi := hid (rnS_ok (T := T) HF.out.wp (HKV.out _ HBi.out).1.a i (by omega))
      rw [hX, hY, ht] at Oi HFi
      have HXY := hid (show stX N t (tuY N T t Y T.p) X N.k = (rnS N T W.min W.X W.Y (i + 1)).1 ∧ tuY N T t Y T.p = (rnS N T W.min W.X W.Y (i + 1)).2 ∧ t + 1 = W.min + ((i + 1 : Nat) : Int) from by
        rw [← hX, ← hY, ← ht]
        exact ⟨rfl, rfl, by omega⟩)
      clear hX hY ht
      go_wp2_with fail
      go_loopw [11] (fun iv wr => ∃ j : Nat, j ≤ T.p ∧ iv = .int .i64 j ∧ Ro wr gb W0.heap.size N t X (tuY N T t Y j) A c M d ∧ Below W0.heap.size W0 wr) (fun iv _ => T.p - (intOf iv).toNat)
      case atStart => exact ⟨0, Nat.zero_le _, rfl, Oi, HBi.out⟩
      case round =>
        obtain ⟨j, hj, rfl, Oj, hbj⟩ := hrel
        have HBj := hid hbj
        obtain ⟨Kj, Tj, -⟩ := HKV.out _ HBj.out
        clear hbj Oi HBi
        by_cases hjt : j < T.p
        · have djt : decide ((j : Int) < (T.p : Int)) = true := decide_eq_true (by omega)
          obtain ⟨ad, hA, -⟩ := Tj.at_ j hjt
          subst hA
          have D := Nto.mk Kj Oj Tj hjt
          obtain ⟨x0, x1, x2, x3, x4, x5, x6, x7, x8⟩ := D.cells
          by_cases hm : T.tm j = t
          · have dm : (T.tm j == t) = true := by rw [beq_iff_eq]; exact hm
            have HY := hid (show tuY N T t Y (j + 1) = updB (tuY N T t Y j) (ixL N (T.tl j)) (T.tp j) from if_pos hm)
            clear hm Oj Kj Tj
            go_wp2_with fail
            have DQ := hid (fun q => D.below ((Below.refl _ _).drewN' q))
            have HBQ := hid (fun q => HBj.out.drewN' q)
            clear D HBj
            go_quiet (fail)
            clear x0 x1 x2 x3 x4 x5 x6 x7 x8
            generalize hwq : wr.drewN _ = wq at *
            have D1 : Nto wq g gb B0 B2 W0.heap.size N t X (tuY N T t Y j) A c M d T ad j := by rw [← hwq]; exact DQ.out _
            have HB3 := hid (show Below W0.heap.size W0 wq from by rw [← hwq]; exact HBQ.out _)
            clear DQ HBQ hwq
            have hix := (HG.out j hjt).2.2
            obtain ⟨l, hl, hll⟩ : ∃ l : Nat, l < N.k ∧ ixL N (T.tl j) = l := by
              rcases ixL_is N (T.tl j) with ⟨e, _⟩ | ⟨l, hl, _, _, e⟩
              · omega
              · exact ⟨l, hl, e⟩
            have HIX := hid (show Ixn N.k N.lnm (T.tl j) l from hll ▸ ixL_is N (T.tl j))
            rw [hll, updB_at] at HY
            clear hix hll
            obtain ⟨gm, hM, -, -, -, -⟩ := D1.o.aty hl
            subst hM
            have hlI : (l : Int) < (N.k : Int) := by omega
            have HR3 := hid (D1.below dr0)
            clear D1
            go_wp2_with fail
            go_region_held3 (fun w' => w'.cell? ⟨g, 0, none⟩ = some (.slice N.A N.n N.c) ∧ w'.cell? ⟨g, 1, none⟩ = some (.slice N.M N.m N.d) ∧ w'.cell? ⟨g, 2, none⟩ = some (.slice N.K N.k N.e) ∧ w'.cell? ⟨gb, 0, none⟩ = some (.int .i64 t) ∧ w'.cell? ⟨gb, 1, none⟩ = some (.slice A N.n c) ∧ w'.cell? ⟨gb, 2, none⟩ = some (.slice (some ⟨gm, 0, none⟩) N.k d) ∧ w'.cell? (ad.add (j * 3)) = some (.int .i64 (T.tm j)) ∧ w'.cell? ⟨(ad.add (j * 3)).block, (ad.add (j * 3)).off + 1, none⟩ = some (.string (T.tl j)) ∧ w'.cell? ⟨(ad.add (j * 3)).block, (ad.add (j * 3)).off + 2, none⟩ = some (.bool (T.tp j))) (first | with_reducible exact Nto.cells HR3.out | with_reducible exact Nto.cells D4 | with_reducible exact Nto.cells D5) (first
              | (go_at_call 44; (with_reducible refine (rLink_is HIX HR3.out.n.a Hs.out).mono ?_); rintro e w4 ⟨rfl, hb4⟩; have D4 := HR3.out.below hb4; obtain ⟨gm', e, q0, q1, q2, q3⟩ := D4.o.aty hl; injection e with e; injection e with e; subst e; have HB5 := hid ((HB3.out.drew.trans (hb4.mono HB3.out.size)).setCell (p := ⟨gm, l, none⟩) q2 (.bool (T.tp j))); have D5 : Nto _ g gb B0 B2 W0.heap.size N t X _ A c _ d T ad j := ⟨(HKV.out _ HB5.out).1, D4.o.putY hl rfl (T.tp j), (HKV.out _ HB5.out).2.1, hjt⟩))
            clear hb4 q0 q1 q2 q3 D4 HR3
            go_wp2
            go_roundw
            case rel => exact ⟨j + 1, by omega, by go_num, by rw [HY.out]; exact D5.o, HB5.out⟩
            case measure => simp [intOf]; omega
          · have dm : (T.tm j == t) = false := by rw [beq_eq_false_iff_ne]; exact hm
            have HY := hid (show tuY N T t Y (j + 1) = tuY N T t Y j from if_neg hm)
            clear hm Kj Tj
            go_wp2_with fail
            have OQ := hid (fun q => Oj.below ((Below.refl _ _).drewN' q))
            have HBQ := hid (fun q => HBj.out.drewN' q)
            clear D HBj Oj
            go_quiet (fail)
            go_wp2
            go_roundw
            case rel => exact ⟨j + 1, by omega, by go_num, by rw [HY.out]; exact OQ.out _, HBQ.out _⟩
            case measure => simp [intOf]; omega
        · have djt : decide ((j : Int) < (T.p : Int)) = false := decide_eq_false (by omega)
          obtain rfl : j = T.p := by omega
          obtain ⟨x0, x1, x2⟩ := Kj.cells
          obtain ⟨y0, y1, y2⟩ := Oj.b.c3
          have hFj : Fit N (Wr N t A c M d X (tuY N T t Y T.p)) := ⟨HFi.out.c, HFi.out.t0, HFi.out.t1, rfl, rfl, HFi.out.l⟩
          go_wp2_with fail
          refine (rStep_any (W := Wr N t A c M d X (tuY N T t Y T.p)) (hid hFj) Hs Kj.a Oj.wt).mono ?_
          rintro e w5 ⟨v, x, rfl, hwo, hox, hb5⟩
          obtain ⟨A5, c5, M5, d5, rfl, hx5, hy5⟩ := hwo.out
          obtain ⟨Ax, cx, rfl⟩ := own_slice hox
          have b5 := Oj.b.step hb5
          obtain ⟨z0, z1, z2⟩ := b5.c3
          have f0 := Bk.fz b5 0
          have f1 := Bk.fz b5 1
          have f2 := Bk.fz b5 2
          have hgl : gb < wr.heap.size := Oj.b.lt
          have O6 : Ro (((w5.setCell ⟨gb, 0, none⟩ (.int .i64 (t + 1))).setCell ⟨gb, 1, none⟩ (.slice A5 N.n c5)).setCell ⟨gb, 2, none⟩ (.slice M5 N.k d5)) gb W0.heap.size N (t + 1) (stX N t (tuY N T t Y T.p) X N.k) (tuY N T t Y T.p) A5 c5 M5 d5 := ⟨fill3 b5, own_base (own_setBox hx5 hgl) HBj.out.size, own_base (own_setBox hy5 hgl) HBj.out.size⟩
          have HB6 := hid (bset3 (u0 := .int .i64 (t + 1)) (u1 := .slice A5 N.n c5) (u2 := .slice M5 N.k d5) (HBj.out.trans (hb5.mono HBj.out.size)) HGB.out)
          have HTR := hid (fun (V : World) (h : Ro V gb W0.heap.size N (t + 1) (stX N t (tuY N T t Y T.p) X N.k) (tuY N T t Y T.p) A5 c5 M5 d5) => (show Ro V gb W0.heap.size N (W.min + ((i + 1 : Nat) : Int)) (rnS N T W.min W.X W.Y (i + 1)).1 (rnS N T W.min W.X W.Y (i + 1)).2 A5 c5 M5 d5 from by rw [← HXY.out.1, ← HXY.out.2.1, ← HXY.out.2.2]; exact h))
          have HO6 := hid O6
          clear hwo hox hx5 hy5 hb5 b5 x0 x1 x2 y0 y1 y2 Oj Kj Tj HBj O6 hFj
          go_wp2
          go_roundw
          case rel => exact ⟨i + 1, by omega, by go_num, ⟨A5, c5, M5, d5, HTR.out _ HO6.out⟩, HB6.out⟩
          case measure => simp [intOf]; omega
    · have dlt : decide ((i : Int) < (k : Int)) = false := decide_eq_false (by omega)
      obtain rfl : i = k := by omega
      obtain ⟨Ki, Ti, Zi⟩ := HKV.out _ HBi.out
      have hlg : g + 1 + 1 < W0.heap.size := by have := Hs0.out; omega
      have hzz : w.heap.size ≤ W0.heap.size := HB0.out.size
      have OX := hid (own_base (own_setBox (u0 := .int .i64 (W.min + (i : Int))) (u1 := .slice A N.n c) (u2 := .slice M N.k d) Oi.x hlg) hzz)
      have OY := hid (own_base (own_setBox (u0 := .int .i64 (W.min + (i : Int))) (u1 := .slice A N.n c) (u2 := .slice M N.k d) Oi.y hlg) hzz)
      obtain ⟨y0, y1, y2⟩ := Oi.b.c3
      obtain ⟨r0, r1, r2⟩ := Zi.c3
      have f0 := Bk.fz Zi 0
      have f1 := Bk.fz Zi 1
      have f2 := Bk.fz Zi 2
      clear Ki Ti Oi
      go_wp2
      have RZ := Zi.put_all (.int .i64 (W.min + (i : Int))) (.slice A N.n c) (.slice M N.k d)
      have hbz := hid (bset3 (u0 := .int .i64 (W.min + (i : Int))) (u1 := .slice A N.n c) (u2 := .slice M N.k d) (HB0.out.trans (HBi.out.mono HB0.out.size)) (show w.heap.size ≤ g + 1 + 1 by rw [Hg.out]; omega))
      clear Zi
      generalize ((wo.setCell ⟨g + 1 + 1, 0, none⟩ (.int .i64 (W.min + (i : Int)))).setCell ⟨g + 1 + 1, 1, none⟩ (.slice A N.n c)).setCell ⟨g + 1 + 1, 2, none⟩ (.slice M N.k d) = WZ at *
      clear r0 r1 r2
      obtain ⟨r0, r1, r2⟩ := RZ.c3
      exact bodyPost_ret (v := .agg #[.int .i64 (W.min + (i : Int)), .slice A N.n c, .slice M N.k d]) (by simp [results, Try.results16, go_sem, r0, r1, r2]) rfl ⟨_, rfl, hid ⟨A, c, M, d, rfl, OX.out, OY.out⟩, hbz.out⟩

end Go.Proofs.Ytockfiobhmohnaa

namespace Go.Proofs.Ytockfiobhmohnaa
open Go.RowKit Go.Maps Kb Wb

/-- A case in a box. -/
structure Cw (w : World) (g B0 B1 : Nat) (N : Nd) (W : Wd) (P : Option Addr) (p u : Nat) : Prop where
  b : Bk w g (.cells #[.slice N.A N.n N.c, .slice N.M N.m N.d, .slice N.K N.k N.e, .int .i64 W.min, .slice W.A W.n W.c, .slice W.M W.m W.d, .slice P p u] 33 (0, 0))
  n : Nt w B0 N
  a : Wt w B1 W
section
variable {w w' : World} {g B0 B1 : Nat} {N : Nd} {W : Wd} {P : Option Addr} {p u : Nat}
theorem Cw.below (h : Cw w g B0 B1 N W P p u) (hb : Below w.heap.size w w') : Cw w' g B0 B1 N W P p u := ⟨h.b.step hb, h.n.below hb, h.a.below hb⟩
theorem Cw.cells (h : Cw w g B0 B1 N W P p u) : w.cell? ⟨g, 0, none⟩ = some (.slice N.A N.n N.c) ∧ w.cell? ⟨g, 1, none⟩ = some (.slice N.M N.m N.d) ∧ w.cell? ⟨g, 2, none⟩ = some (.slice N.K N.k N.e) ∧ w.cell? ⟨g, 3, none⟩ = some (.int .i64 W.min) ∧ w.cell? ⟨g, 4, none⟩ = some (.slice W.A W.n W.c) ∧ w.cell? ⟨g, 5, none⟩ = some (.slice W.M W.m W.d) ∧ w.cell? ⟨g, 6, none⟩ = some (.slice P p u) := by
  have hh := fun i => cell_of_row w g i _ _ _ h.b
  exact ⟨hh 0, hh 1, hh 2, hh 3, hh 4, hh 5, hh 6⟩
/-- A case and a link of it. -/
structure Cl (w : World) (g B0 B1 : Nat) (N : Nd) (W : Wd) (P : Option Addr) (p u : Nat) (al : Addr) (i : Nat) : Prop where
  c : Cw w g B0 B1 N W P p u
  k : N.K = some al
  i : i < N.k
theorem Cl.below {al : Addr} {i : Nat} (h : Cl w g B0 B1 N W P p u al i) (hb : Below w.heap.size w w') : Cl w' g B0 B1 N W P p u al i := ⟨h.c.below hb, h.k, h.i⟩
theorem Cl.cells {al : Addr} {i : Nat} (h : Cl w g B0 B1 N W P p u al i) : w.cell? ⟨g, 0, none⟩ = some (.slice N.A N.n N.c) ∧ w.cell? ⟨g, 1, none⟩ = some (.slice N.M N.m N.d) ∧ w.cell? ⟨g, 2, none⟩ = some (.slice (some al) N.k N.e) ∧ w.cell? ⟨g, 3, none⟩ = some (.int .i64 W.min) ∧ w.cell? ⟨g, 4, none⟩ = some (.slice W.A W.n W.c) ∧ w.cell? ⟨g, 5, none⟩ = some (.slice W.M W.m W.d) ∧ w.cell? ⟨g, 6, none⟩ = some (.slice P p u) ∧ w.cell? (al.add (i * 8)) = some (.string (N.l i).nm) ∧ w.cell? ⟨(al.add (i * 8)).block, (al.add (i * 8)).off + 1, none⟩ = some (.int .i64 (N.l i).kind) ∧ w.cell? ⟨(al.add (i * 8)).block, (al.add (i * 8)).off + 2, none⟩ = some (.string (N.l i).fr) ∧ w.cell? ⟨(al.add (i * 8)).block, (al.add (i * 8)).off + 3, none⟩ = some (.string (N.l i).tw) ∧ w.cell? ⟨(al.add (i * 8)).block, (al.add (i * 8)).off + 4, none⟩ = some (.int .i64 (N.l i).sill) ∧ w.cell? ⟨(al.add (i * 8)).block, (al.add (i * 8)).off + 5, none⟩ = some (.int .i64 (N.l i).rate) ∧ w.cell? ⟨(al.add (i * 8)).block, (al.add (i * 8)).off + 6, none⟩ = some (.int .i64 (N.l i).fac) ∧ w.cell? ⟨(al.add (i * 8)).block, (al.add (i * 8)).off + 7, none⟩ = some (.int .i64 (N.l i).lift) := by
  obtain ⟨a0, a1, a2, a3, a4, a5, a6⟩ := h.c.cells
  obtain ⟨al', e, _, c0, c1, c2, c3, c4, c5, c6, c7⟩ := h.c.n.l.at_ i h.i
  rw [h.k] at a2 e
  injection e with e
  subst e
  exact ⟨a0, a1, a2, a3, a4, a5, a6, c0, c1, c2, c3, c4, c5, c6, c7⟩
end
theorem Act_isA {w : World} {B0 B1 : Nat} {N : Nd} {W : Wd} {i : Nat} {q : Bool} {z x : Int} {b : Bd} {q2 : Bool} {z2 x2 : Int} {b2 : Bd} {K' : Option Addr} (hK : N.K = K') (HS1 : Hid (Sds N W (N.l i).fr q z b x)) (HS2 : Hid (Sds N W (N.l i).tw q2 z2 b2 x2)) (HF : Hid (Fit N W)) (Hs : Hid (Nsm N)) (h : Nt w B0 N) (hw : Wt w B1 W) (hi : i < N.k) :
    Calls Try.prog 42 #[.agg #[.slice N.A N.n N.c, .slice N.M N.m N.d, .slice K' N.k N.e], .agg #[.int .i64 W.min, .slice W.A W.n W.c, .slice W.M W.m W.d], .agg #[.string (N.l i).nm, .int .i64 (N.l i).kind, .string (N.l i).fr, .string (N.l i).tw, .int .i64 (N.l i).sill, .int .i64 (N.l i).rate, .int .i64 (N.l i).fac, .int .i64 (N.l i).lift]] w fun e w' => ∃ r : Int, e = .returned (.int .i64 r) ∧ Hid (Flw (N.l i) true q z b x q2 z2 b2 x2 r) ∧ Below w.heap.size w w' := by
  subst hK; exact Act_is HS1 HS2 HF Hs h hw hi
end Go.Proofs.Ytockfiobhmohnaa

namespace Go.Proofs.Ytockfiobhmohnaa
open Go.RowKit Go.Maps Kb Wb

/-- The slice at A reads as n truth values. -/
structure Bs (w : World) (B0 : Nat) (A : Option Addr) (n : Nat) (Y : Nat → Bool) : Prop where
  at_ : ∀ i, i < n → ∃ ad, A = some ad ∧ ad.block < B0 ∧ w.cell? (ad.add i) = some (.bool (Y i))
  le : B0 ≤ w.heap.size
theorem Bs.below {w w' : World} {B0 n : Nat} {A : Option Addr} {Y : Nat → Bool} (h : Bs w B0 A n Y) (hb : Below w.heap.size w w') : Bs w' B0 A n Y :=
  ⟨fun i hi => by
    obtain ⟨ad, e, h1, h2⟩ := h.at_ i hi
    exact ⟨ad, e, h1, (hb.cell (p := ad.add i) (in_add (Nat.lt_of_lt_of_le h1 h.le))).trans h2⟩, Nat.le_trans h.le hb.size⟩
theorem Ys.own {w : World} {base n c : Nat} {T : TypeId} {A : Option Addr} {Z : Nat → Int} (h : w.ownsRow base T 1 (.slice A n c) n (ints Z n)) : Ys w w.heap.size A n Z :=
  ⟨fun i hi => by obtain ⟨ad, e, h1, h2⟩ := (own_xs h).1 i hi; exact ⟨ad, e, h1, h2.trans (ints_get _ hi)⟩, Nat.le_refl _⟩
theorem Bs.own {w : World} {base n c : Nat} {T : TypeId} {A : Option Addr} {Y : Nat → Bool} (h : w.ownsRow base T 1 (.slice A n c) n (bools Y n)) : Bs w w.heap.size A n Y :=
  ⟨fun i hi => by obtain ⟨ad, e, h1, h2⟩ := (own_xs h).1 i hi; exact ⟨ad, e, h1, h2.trans (bools_get _ hi)⟩, Nat.le_refl _⟩
set_option maxRecDepth 100000 in
theorem SameWater_any {w : World} {B0 B1 n c c' : Nat} {A A' : Option Addr} {Z : Nat → Int} {m d d' : Nat} {M M' : Option Addr} {Y : Nat → Bool} (t : Int) (h : Ys w B0 A n Z) (k : Ys w B1 A' n Z) (f : Bs w B0 M m Y) (f' : Bs w B1 M' m Y) (hn : n ≤ 9223372036854775807) (hm : m ≤ 9223372036854775807) :
    Calls Try.prog 14 #[.agg #[.int .i64 t, .slice A n c, .slice M m d], .agg #[.int .i64 t, .slice A' n c', .slice M' m d']] w fun e w' => e = .returned (.bool true) ∧ Below w.heap.size w w' := by
  obtain ⟨g, hg⟩ : ∃ g, w.heap.size = g := ⟨_, rfl⟩
  have hb0 := ((Below.refl w.heap.size w).alloc (Nat.le_refl _) (.cells #[.int .i64 t, .slice A n c, .slice M m d] 30)).alloc (by simp) (.cells #[.int .i64 t, .slice A' n c', .slice M' m d'] 30)
  have R1 := (Bk.of_alloc w (.cells #[.int .i64 t, .slice A n c, .slice M m d] 30) hg).alloc (.cells #[.int .i64 t, .slice A' n c', .slice M' m d'] 30)
  have S1 : Bk _ (g + 1) _ := Bk.of_alloc (w.alloc (.cells #[.int .i64 t, .slice A n c, .slice M m d] 30)) (.cells #[.int .i64 t, .slice A' n c', .slice M' m d'] 30) (by simp [hg])
  have h1 := h.below hb0
  have k1 := k.below hb0
  have f1 := f.below hb0
  have g1 := f'.below hb0
  go_enter Try.func14, Try.ntmps14
  go_upto_region 1 with fail
  generalize (w.alloc (.cells #[.int .i64 t, .slice A n c, .slice M m d] 30)).alloc (.cells #[.int .i64 t, .slice A' n c', .slice M' m d'] 30) = W0 at *
  have HB0 := hid hb0
  have Hg := hid hg
  clear hb0 hg h k f f'
  obtain ⟨r0, r1, r2⟩ := R1.c3
  obtain ⟨s0, s1, s2⟩ := S1.c3
  go_wp2_with fail
  refine (Ints_true h1 k1 hn).mono ?_
  rintro e w2 ⟨rfl, hb⟩
  have F2 := f1.below hb
  have G2 := g1.below hb
  have R2 := R1.step hb
  have S2 := S1.step hb
  have HB2 := hid (bthen HB0.out hb (Nat.le_refl _))
  clear hb h1 k1 f1 g1 R1 S1 r0 r1 r2 s0 s1 s2
  obtain ⟨r0, r1, r2⟩ := R2.c3
  obtain ⟨s0, s1, s2⟩ := S2.c3
  go_wp2_with fail
  clear r0 r1 r2 s0 s1 s2
  go_loopw [5] (fun iv wr => ∃ i : Nat, i ≤ m ∧ iv = .int .i64 i ∧ Below w2.heap.size w2 wr) (fun iv _ => m - (intOf iv).toNat)
  case atStart => exact ⟨0, Nat.zero_le _, rfl, Below.refl _ _⟩
  case round =>
    obtain ⟨i, hi, rfl, hbel⟩ := hrel
    have P := F2.below hbel
    have Q := G2.below hbel
    obtain ⟨r0, r1, r2⟩ := (R2.step hbel).c3
    obtain ⟨s0, s1, s2⟩ := (S2.step hbel).c3
    have Hbel := hid hbel
    clear hbel
    by_cases hlt : i < m
    · obtain ⟨a1, hA1, -, q0⟩ := P.at_ i hlt
      obtain ⟨a2, hA2, -, p0⟩ := Q.at_ i hlt
      subst hA1
      subst hA2
      obtain ⟨y, hy⟩ : ∃ y, Y i = y := ⟨_, rfl⟩
      rw [hy] at q0 p0
      have dy : (y != y) = false := by cases y <;> rfl
      clear hy
      go_wp2
      go_quiet (fail)
      go_wp2
      go_roundw
      case rel => exact ⟨i + 1, by omega, by go_num, Hbel.out.drewN' _⟩
      case measure => simp [intOf]; omega
    · obtain rfl : i = m := by omega
      go_wp2
      go_ret
      exact ⟨rfl, bthen HB2.out Hbel.out (Nat.le_refl _)⟩


theorem Te.exists (N : Nd) (T : Tn) : ∃ r, Te N T r := by
  by_cases h : 200 < T.p
  · exact ⟨8, .inl ⟨h, rfl⟩⟩
  · rcases first_bad (Good1 N T) T.p with h1 | ⟨i, hi, h1, h2⟩
    · exact ⟨0, .inr ⟨by omega, .inr ⟨h1, rfl⟩⟩⟩
    · have hb : ∃ r, Bad1 N T i r := by
        by_cases g1 : 0 ≤ T.tm i ∧ T.tm i ≤ 1000000
        · by_cases g2 : 0 < i ∧ T.tm i < T.tm (i - 1)
          · exact ⟨10, .inr ⟨g1, .inl ⟨g2, rfl⟩⟩⟩
          · refine ⟨6, .inr ⟨g1, .inr ⟨g2, ?_, rfl⟩⟩⟩
            rcases Int.lt_or_le (ixL N (T.tl i)) 0 with h | h
            · exact h
            · exact absurd ⟨g1, g2, h⟩ h2
        · exact ⟨2, .inl ⟨g1, rfl⟩⟩
      obtain ⟨r, hr⟩ := hb
      exact ⟨r, .inr ⟨by omega, .inl ⟨i, hi, h1, hr⟩⟩⟩
theorem Se.exists (N : Nd) (W : Wd) (T : Tn) : ∃ r, Se N W T r := by
  obtain ⟨q, hq⟩ := We.exists N W
  obtain ⟨r, hr⟩ := Te.exists N T
  by_cases h : q = 0
  · exact ⟨r, q, hq, .inr ⟨h, hr⟩⟩
  · exact ⟨q, q, hq, .inl ⟨h, rfl⟩⟩
theorem Se.we {N : Nd} {W : Wd} {T : Tn} {q : Int} (h : We N W q) (h0 : q ≠ 0) : Se N W T q := ⟨q, h, .inl ⟨h0, rfl⟩⟩

end Go.Proofs.Ytockfiobhmohnaa

