/- Networks: minutes, Step, Run of the program. For every network, state and turns. -/
import Derived.Test.YtockfiobhmohnaaRt4
namespace Go.Proofs.Ytockfiobhmohnaa
open Go.RowKit Go.Maps Kb Wb

set_option maxRecDepth 100000 in
set_option maxHeartbeats 8000000 in
theorem minutes_any {w W0 : World} {g B0 B2 c d u : Nat} {N : Nd} {T : Tn} {t : Int} {A M P : Option Addr} {X : Nat → Int} {Y : Nat → Bool} (k : Nat) (hR : Rw w g W0.heap.size N t A c M d X Y P T.p u) (HN : Hid (Nt W0 B0 N)) (HT : Hid (Tl W0 B2 P T.p T.tm T.tl T.tp)) (Hb : Hid (Below W0.heap.size W0 w)) (Hs : Hid (Nsm N)) (Hte : Hid (Te N T 0)) (HF : Hid (Fit N (Wp N t X Y))) (hk : t + k ≤ 1000000) :
    Calls Try.prog 37 #[.pointer (some ⟨g, 0, none⟩), .int .i64 k] w fun e w' => e = .returned (.tuple #[]) ∧ Rw w' g W0.heap.size N (t + k) A c M d (rnS N T t X Y k).1 (rnS N T t X Y k).2 P T.p u ∧ Below W0.heap.size W0 w' ∧ Fr3 g A M w w' ∧ w.heap.size ≤ w'.heap.size := by
  have t0 : 0 ≤ t := HF.out.t0
  go_enter Try.func37, Try.ntmps37
  go_wp2_with fail
  go_loopw [5] (fun iv wr => ∃ i : Nat, i ≤ k ∧ iv = .int .i64 i ∧ Rw wr g W0.heap.size N (t + i) A c M d (rnS N T t X Y i).1 (rnS N T t X Y i).2 P T.p u ∧ Below W0.heap.size W0 wr ∧ Fr3 g A M w wr ∧ w.heap.size ≤ wr.heap.size) (fun iv _ => k - (intOf iv).toNat)
  case atStart => exact ⟨0, Nat.zero_le _, rfl, by rw [show t + ((0 : Nat) : Int) = t by omega]; exact hR, Hb.out, fun _ _ _ _ _ => rfl, Nat.le_refl _⟩
  case round =>
    obtain ⟨i, hi, rfl, R1, hb1, hf1, hz1⟩ := hrel
    have HB1 := hid hb1
    have HF1 := hid hf1
    have Hz1 := hid hz1
    clear hb1 hf1 hz1
    by_cases hlt : i < k
    · have dlt : decide ((i : Int) < (k : Int)) = true := decide_eq_true (by omega)
      have HFi := hid (rnS_ok (T := T) HF.out HN.out i (by omega))
      go_wp2_with fail
      refine (minute_any R1 HN HT HB1 Hs Hte HFi).mono ?_
      rintro e w2 ⟨v, rfl, hown, R2, hb2, hf2, hz2⟩
      have HB2 := hid hb2
      have HF2 := hid (HF1.out.trans hf2 Hz1.out)
      have HZ2 := hid (Nat.le_trans Hz1.out hz2)
      have R3 := hid R2
      rw [show t + (i : Int) + 1 = t + ((i + 1 : Nat) : Int) by omega] at R3
      clear hown hb2 hf2 hz2 R2 R1
      go_wp2
      go_roundw
      case rel => exact ⟨i + 1, by omega, by go_num, R3.out, HB2.out, HF2.out, HZ2.out⟩
      case measure => simp [intOf]; omega
    · have dlt : decide ((i : Int) < (k : Int)) = false := decide_eq_false (by omega)
      obtain rfl : i = k := by omega
      go_wp2
      exact Go.Great.bodyPost_end0 rfl rfl ⟨rfl, R1, HB1.out, HF1.out, Hz1.out⟩

/-- The value v is a state of a network, in rows of the call's own. -/
def Wo (b : Nat) (w : World) (N : Nd) (t : Int) (X : Nat → Int) (Y : Nat → Bool) (v : Value) : Prop :=
  ∃ A c M d, v = .agg #[.int .i64 t, .slice A N.n c, .slice M N.k d] ∧ w.ownsRow b 3 1 (.slice A N.n c) N.n (ints X N.n) ∧ w.ownsRow b 4 1 (.slice M N.k d) N.k (bools Y N.k)
/-- No turns. -/
def T00 : Tn := ⟨0, fun _ => 0, fun _ => s0, fun _ => false⟩
theorem Tl.none (w : World) : Tl w w.heap.size none T00.p T00.tm T00.tl T00.tp := ⟨fun _ hi => absurd hi (Nat.not_lt_zero _), Nat.le_refl _⟩
theorem Te.none (N : Nd) : Te N T00 0 := .inr ⟨by decide, .inr ⟨fun j hj => absurd hj (Nat.not_lt_zero _), rfl⟩⟩
theorem Se.of_we {N : Nd} {W : Wd} {q : Int} (h : We N W q) : Se N W T00 q := by
  by_cases h0 : q = 0
  · subst h0; exact ⟨0, h, .inr ⟨rfl, Te.none N⟩⟩
  · exact ⟨q, h, .inl ⟨h0, rfl⟩⟩
theorem own_setBox {w : World} {b g n : Nat} {T : TypeId} {v u0 u1 u2 : Value} {xs : List Value} (h : w.ownsRow b T 1 v n xs) (hg : g < b) : (((w.setCell ⟨g, 0, none⟩ u0).setCell ⟨g, 1, none⟩ u1).setCell ⟨g, 2, none⟩ u2).ownsRow b T 1 v n xs :=
  ownsRow_setCell_below (ownsRow_setCell_below (ownsRow_setCell_below h (a := ⟨g, 0, none⟩) hg _) (a := ⟨g, 1, none⟩) hg _) (a := ⟨g, 2, none⟩) hg _

set_option maxRecDepth 100000 in
set_option maxHeartbeats 8000000 in
theorem Step_err {w : World} {B0 B1 : Nat} {N : Nd} {W : Wd} {q : Int} (hq : Hid (Se N W T00 q)) (hq0 : q ≠ 0) (h : Nt w B0 N) (hs : Nsm N) (hw : Wt w B1 W) :
    Calls Try.prog 9 #[.agg #[.slice N.A N.n N.c, .slice N.M N.m N.d, .slice N.K N.k N.e], .agg #[.int .i64 W.min, .slice W.A W.n W.c, .slice W.M W.m W.d]] w fun e w' => e = .returned (.tuple #[.agg #[.int .i64 0, .slice none 0 0, .slice none 0 0], .slice none 0 0, .int .i64 q]) ∧ Below w.heap.size w w' := by
  have hqn : (q != 0) = true := by rw [bne_iff_ne]; exact hq0
  obtain ⟨g, hg⟩ : ∃ g, w.heap.size = g := ⟨_, rfl⟩
  have hb0 := (((Below.refl w.heap.size w).alloc (Nat.le_refl _) (.cells #[.slice N.A N.n N.c, .slice N.M N.m N.d, .slice N.K N.k N.e] 26)).alloc (by simp) (.cells #[.int .i64 W.min, .slice W.A W.n W.c, .slice W.M W.m W.d] 30)).alloc (by simp; omega) (.cells #[.int .i64 0, .slice none 0 0, .slice none 0 0] 30)
  have K1 := ((Nb.new h hg).below (alo (o := .cells #[.int .i64 W.min, .slice W.A W.n W.c, .slice W.M W.m W.d] 30))).below (alo (o := .cells #[.int .i64 0, .slice none 0 0, .slice none 0 0] 30))
  have V1 : Wx _ (g + 1) B1 W := ⟨(Bk.of_alloc (w.alloc (.cells #[.slice N.A N.n N.c, .slice N.M N.m N.d, .slice N.K N.k N.e] 26)) (.cells #[.int .i64 W.min, .slice W.A W.n W.c, .slice W.M W.m W.d] 30) (by simp [hg])).alloc (.cells #[.int .i64 0, .slice none 0 0, .slice none 0 0] 30), hw.below hb0⟩
  have R1 : Bk _ (g + 1 + 1) _ := Bk.of_alloc ((w.alloc (.cells #[.slice N.A N.n N.c, .slice N.M N.m N.d, .slice N.K N.k N.e] 26)).alloc (.cells #[.int .i64 W.min, .slice W.A W.n W.c, .slice W.M W.m W.d] 30)) (.cells #[.int .i64 0, .slice none 0 0, .slice none 0 0] 30) (by simp [hg])
  have hs0 : (((w.alloc (.cells #[.slice N.A N.n N.c, .slice N.M N.m N.d, .slice N.K N.k N.e] 26)).alloc (.cells #[.int .i64 W.min, .slice W.A W.n W.c, .slice W.M W.m W.d] 30)).alloc (.cells #[.int .i64 0, .slice none 0 0, .slice none 0 0] 30)).heap.size = g + 3 := by simp [hg]
  go_enter Try.func9, Try.ntmps9
  go_wp2_with fail
  generalize ((w.alloc (.cells #[.slice N.A N.n N.c, .slice N.M N.m N.d, .slice N.K N.k N.e] 26)).alloc (.cells #[.int .i64 W.min, .slice W.A W.n W.c, .slice W.M W.m W.d] 30)).alloc (.cells #[.int .i64 0, .slice none 0 0, .slice none 0 0] 30) = W0 at *
  have HB0 := hid hb0
  have Hg := hid hg
  have Hs0 := hid hs0
  have HR1 := hid R1
  have HN1 := hid K1.a
  have hbx : ∀ (V : World), Below W0.heap.size W0 V → Bk V (g + 1 + 1) (.cells #[.int .i64 0, .slice none 0 0, .slice none 0 0] 30 (0, 0)) := fun V hV => HR1.out.step hV
  have Hbx := hid hbx
  have HT1 := hid (Tl.none W0)
  have hp9 : T00.p ≤ 9223372036854775807 := by decide
  clear hb0 hg hs0 h hw R1 hbx
  refine (newRun_err hq hq0 HT1.out hp9 K1.a hs V1.a).mono ?_
  rintro e w2 ⟨rfl, hb⟩
  have HB2 := hid hb
  clear hb hq0 K1 V1
  have R2 := Hbx.out _ HB2.out
  obtain ⟨r0, r1, r2⟩ := R2.c3
  have f0 := R2.fz 0
  have f1 := R2.fz 1
  have f2 := R2.fz 2
  go_wp2
  have RZ := R2.put_all (.int .i64 0) (.slice none 0 0) (.slice none 0 0)
  have hbz := hid (bset3 (u0 := .int .i64 0) (u1 := .slice none 0 0) (u2 := .slice none 0 0) (HB0.out.trans (HB2.out.mono HB0.out.size)) (show w.heap.size ≤ g + 1 + 1 by rw [Hg.out]; omega))
  clear R2
  generalize (((w2.setCell ⟨g + 1 + 1, 0, none⟩ (.int .i64 0)).setCell ⟨g + 1 + 1, 1, none⟩ (.slice none 0 0)).setCell ⟨g + 1 + 1, 2, none⟩ (.slice none 0 0)) = WZ at *
  clear r0 r1 r2
  obtain ⟨r0, r1, r2⟩ := RZ.c3
  exact bodyPost_ret (v := .tuple #[.agg #[.int .i64 0, .slice none 0 0, .slice none 0 0], .slice none 0 0, .int .i64 q]) (by simp [results, Try.results9, go_sem, r0, r1, r2]) rfl ⟨rfl, hbz.out⟩

set_option maxRecDepth 100000 in
set_option maxHeartbeats 8000000 in
theorem Step_late {w : World} {B0 B1 : Nat} {N : Nd} {W : Wd} (hq : Hid (Se N W T00 0)) (hm : lstB W.min 1 = false) (h : Nt w B0 N) (hs : Nsm N) (hw : Wt w B1 W) :
    Calls Try.prog 9 #[.agg #[.slice N.A N.n N.c, .slice N.M N.m N.d, .slice N.K N.k N.e], .agg #[.int .i64 W.min, .slice W.A W.n W.c, .slice W.M W.m W.d]] w fun e w' => e = .returned (.tuple #[.agg #[.int .i64 0, .slice none 0 0, .slice none 0 0], .slice none 0 0, .int .i64 2]) ∧ Below w.heap.size w w' := by
  have HFit := hid hq.out.zero.1
  obtain ⟨g, hg⟩ : ∃ g, w.heap.size = g := ⟨_, rfl⟩
  have hb0 := (((Below.refl w.heap.size w).alloc (Nat.le_refl _) (.cells #[.slice N.A N.n N.c, .slice N.M N.m N.d, .slice N.K N.k N.e] 26)).alloc (by simp) (.cells #[.int .i64 W.min, .slice W.A W.n W.c, .slice W.M W.m W.d] 30)).alloc (by simp; omega) (.cells #[.int .i64 0, .slice none 0 0, .slice none 0 0] 30)
  have K1 := ((Nb.new h hg).below (alo (o := .cells #[.int .i64 W.min, .slice W.A W.n W.c, .slice W.M W.m W.d] 30))).below (alo (o := .cells #[.int .i64 0, .slice none 0 0, .slice none 0 0] 30))
  have V1 : Wx _ (g + 1) B1 W := ⟨(Bk.of_alloc (w.alloc (.cells #[.slice N.A N.n N.c, .slice N.M N.m N.d, .slice N.K N.k N.e] 26)) (.cells #[.int .i64 W.min, .slice W.A W.n W.c, .slice W.M W.m W.d] 30) (by simp [hg])).alloc (.cells #[.int .i64 0, .slice none 0 0, .slice none 0 0] 30), hw.below hb0⟩
  have R1 : Bk _ (g + 1 + 1) _ := Bk.of_alloc ((w.alloc (.cells #[.slice N.A N.n N.c, .slice N.M N.m N.d, .slice N.K N.k N.e] 26)).alloc (.cells #[.int .i64 W.min, .slice W.A W.n W.c, .slice W.M W.m W.d] 30)) (.cells #[.int .i64 0, .slice none 0 0, .slice none 0 0] 30) (by simp [hg])
  have hs0 : (((w.alloc (.cells #[.slice N.A N.n N.c, .slice N.M N.m N.d, .slice N.K N.k N.e] 26)).alloc (.cells #[.int .i64 W.min, .slice W.A W.n W.c, .slice W.M W.m W.d] 30)).alloc (.cells #[.int .i64 0, .slice none 0 0, .slice none 0 0] 30)).heap.size = g + 3 := by simp [hg]
  go_enter Try.func9, Try.ntmps9
  go_wp2_with fail
  generalize ((w.alloc (.cells #[.slice N.A N.n N.c, .slice N.M N.m N.d, .slice N.K N.k N.e] 26)).alloc (.cells #[.int .i64 W.min, .slice W.A W.n W.c, .slice W.M W.m W.d] 30)).alloc (.cells #[.int .i64 0, .slice none 0 0, .slice none 0 0] 30) = W0 at *
  have HB0 := hid hb0
  have Hg := hid hg
  have Hs0 := hid hs0
  have HR1 := hid R1
  have HN1 := hid K1.a
  have hbx : ∀ (V : World), Below W0.heap.size W0 V → Bk V (g + 1 + 1) (.cells #[.int .i64 0, .slice none 0 0, .slice none 0 0] 30 (0, 0)) := fun V hV => HR1.out.step hV
  have Hbx := hid hbx
  have HT1 := hid (Tl.none W0)
  have hp9 : T00.p ≤ 9223372036854775807 := by decide
  clear hb0 hg hs0 h hw R1 hbx
  refine (newRun_ok hq HT1.out hp9 K1.a hs V1.a).mono ?_
  rintro e w2 ⟨gr, A, c, M, d, rfl, Rr, hb⟩
  have HB2 := hid hb
  clear hb K1 V1
  go_wp2_with fail
  refine (lasts_any Rr HFit.out.t0 HFit.out.t1 _).mono ?_
  rintro e w3 ⟨rfl, hb⟩
  have HB3 := hid (HB2.out.trans (hb.mono HB2.out.size))
  clear hb Rr
  rw [hm]
  have R2 := Hbx.out _ HB3.out
  obtain ⟨r0, r1, r2⟩ := R2.c3
  have f0 := R2.fz 0
  have f1 := R2.fz 1
  have f2 := R2.fz 2
  go_wp2
  have RZ := R2.put_all (.int .i64 0) (.slice none 0 0) (.slice none 0 0)
  have hbz := hid (bset3 (u0 := .int .i64 0) (u1 := .slice none 0 0) (u2 := .slice none 0 0) (HB0.out.trans (HB3.out.mono HB0.out.size)) (show w.heap.size ≤ g + 1 + 1 by rw [Hg.out]; omega))
  clear R2
  generalize (((w3.setCell ⟨g + 1 + 1, 0, none⟩ (.int .i64 0)).setCell ⟨g + 1 + 1, 1, none⟩ (.slice none 0 0)).setCell ⟨g + 1 + 1, 2, none⟩ (.slice none 0 0)) = WZ at *
  clear r0 r1 r2
  obtain ⟨r0, r1, r2⟩ := RZ.c3
  exact bodyPost_ret (v := .tuple #[.agg #[.int .i64 0, .slice none 0 0, .slice none 0 0], .slice none 0 0, .int .i64 2]) (by simp [results, Try.results9, go_sem, r0, r1, r2]) rfl ⟨rfl, hbz.out⟩


set_option maxRecDepth 100000 in
set_option maxHeartbeats 8000000 in
theorem Step_ok {w : World} {B0 B1 : Nat} {N : Nd} {W : Wd} (hq : Hid (Se N W T00 0)) (hl : lstB W.min 1 = true) (h : Nt w B0 N) (hs : Nsm N) (hw : Wt w B1 W) :
    Calls Try.prog 9 #[.agg #[.slice N.A N.n N.c, .slice N.M N.m N.d, .slice N.K N.k N.e], .agg #[.int .i64 W.min, .slice W.A W.n W.c, .slice W.M W.m W.d]] w fun e w' => ∃ v x, e = .returned (.tuple #[v, x, .int .i64 0]) ∧ Hid (Wo w.heap.size w' N (W.min + 1) (stX N W.min W.Y W.X N.k) W.Y v) ∧ w'.ownsRow w.heap.size 3 1 x N.k (ints (fwX N W.min W.Y W.X) N.k) ∧ Below w.heap.size w w' := by
  have HFit := hid hq.out.zero.1
  have Hte := hid hq.out.zero.2
  have Hs := hid hs
  have HFw := hid HFit.out.wp
  obtain ⟨g, hg⟩ : ∃ g, w.heap.size = g := ⟨_, rfl⟩
  have hb0 := (((Below.refl w.heap.size w).alloc (Nat.le_refl _) (.cells #[.slice N.A N.n N.c, .slice N.M N.m N.d, .slice N.K N.k N.e] 26)).alloc (by simp) (.cells #[.int .i64 W.min, .slice W.A W.n W.c, .slice W.M W.m W.d] 30)).alloc (by simp; omega) (.cells #[.int .i64 0, .slice none 0 0, .slice none 0 0] 30)
  have K1 := ((Nb.new h hg).below (alo (o := .cells #[.int .i64 W.min, .slice W.A W.n W.c, .slice W.M W.m W.d] 30))).below (alo (o := .cells #[.int .i64 0, .slice none 0 0, .slice none 0 0] 30))
  have V1 : Wx _ (g + 1) B1 W := ⟨(Bk.of_alloc (w.alloc (.cells #[.slice N.A N.n N.c, .slice N.M N.m N.d, .slice N.K N.k N.e] 26)) (.cells #[.int .i64 W.min, .slice W.A W.n W.c, .slice W.M W.m W.d] 30) (by simp [hg])).alloc (.cells #[.int .i64 0, .slice none 0 0, .slice none 0 0] 30), hw.below hb0⟩
  have R1 : Bk _ (g + 1 + 1) _ := Bk.of_alloc ((w.alloc (.cells #[.slice N.A N.n N.c, .slice N.M N.m N.d, .slice N.K N.k N.e] 26)).alloc (.cells #[.int .i64 W.min, .slice W.A W.n W.c, .slice W.M W.m W.d] 30)) (.cells #[.int .i64 0, .slice none 0 0, .slice none 0 0] 30) (by simp [hg])
  have hs0 : (((w.alloc (.cells #[.slice N.A N.n N.c, .slice N.M N.m N.d, .slice N.K N.k N.e] 26)).alloc (.cells #[.int .i64 W.min, .slice W.A W.n W.c, .slice W.M W.m W.d] 30)).alloc (.cells #[.int .i64 0, .slice none 0 0, .slice none 0 0] 30)).heap.size = g + 3 := by simp [hg]
  go_enter Try.func9, Try.ntmps9
  go_wp2_with fail
  generalize ((w.alloc (.cells #[.slice N.A N.n N.c, .slice N.M N.m N.d, .slice N.K N.k N.e] 26)).alloc (.cells #[.int .i64 W.min, .slice W.A W.n W.c, .slice W.M W.m W.d] 30)).alloc (.cells #[.int .i64 0, .slice none 0 0, .slice none 0 0] 30) = W0 at *
  have HB0 := hid hb0
  have Hg := hid hg
  have Hs0 := hid hs0
  have HR1 := hid R1
  have HN1 := hid K1.a
  have hbx : ∀ (V : World), Below W0.heap.size W0 V → Bk V (g + 1 + 1) (.cells #[.int .i64 0, .slice none 0 0, .slice none 0 0] 30 (0, 0)) := fun V hV => HR1.out.step hV
  have Hbx := hid hbx
  have HT1 := hid (Tl.none W0)
  have hp9 : T00.p ≤ 9223372036854775807 := by decide
  clear hb0 hg hs0 h hw R1 hbx
  refine (newRun_ok hq HT1.out hp9 K1.a hs V1.a).mono ?_
  rintro e w2 ⟨gr, A, c, M, d, rfl, Rr, hb⟩
  have HB2 := hid hb
  clear hb K1 V1
  go_wp2_with fail
  refine (lasts_any Rr HFit.out.t0 HFit.out.t1 _).mono ?_
  rintro e w3 ⟨rfl, hb⟩
  have HB3 := hid (HB2.out.trans (hb.mono HB2.out.size))
  have R3 := Rr.below hb
  clear hb Rr
  rw [hl]
  go_wp2_with fail
  refine (minute_any (T := T00) R3 HN1 HT1 HB3 Hs Hte HFw).mono ?_
  rintro e w4 ⟨v, rfl, hown, R4, hb, -, -⟩
  have HB4 := hid hb
  obtain ⟨A2, c2, rfl⟩ := own_slice hown
  have HO := hid (own_base hown (show W0.heap.size ≤ w3.heap.size from HB3.out.size))
  clear hb R3 hown
  have hzz : w.heap.size ≤ W0.heap.size := HB0.out.size
  have hlg : g + 1 + 1 < W0.heap.size := by have := Hs0.out; omega
  have OX := hid (own_base (own_setBox (u0 := .int .i64 (W.min + 1)) (u1 := .slice A N.n c) (u2 := .slice M N.k d) R4.x hlg) hzz)
  have OY := hid (own_base (own_setBox (u0 := .int .i64 (W.min + 1)) (u1 := .slice A N.n c) (u2 := .slice M N.k d) R4.y hlg) hzz)
  have OV := hid (own_base (own_setBox (u0 := .int .i64 (W.min + 1)) (u1 := .slice A N.n c) (u2 := .slice M N.k d) HO.out hlg) hzz)
  obtain ⟨y0, y1, y2, y3, y4, y5, y6⟩ := R4.cells
  have R2 := Hbx.out _ HB4.out
  obtain ⟨r0, r1, r2⟩ := R2.c3
  have f0 := R2.fz 0
  have f1 := R2.fz 1
  have f2 := R2.fz 2
  go_wp2
  clear y0 y1 y2 y3 y4 y5 y6 R4
  have RZ := R2.put_all (.int .i64 (W.min + 1)) (.slice A N.n c) (.slice M N.k d)
  have hbz := hid (bset3 (u0 := .int .i64 (W.min + 1)) (u1 := .slice A N.n c) (u2 := .slice M N.k d) (HB0.out.trans (HB4.out.mono HB0.out.size)) (show w.heap.size ≤ g + 1 + 1 by rw [Hg.out]; omega))
  clear R2
  generalize (((w4.setCell ⟨g + 1 + 1, 0, none⟩ (.int .i64 (W.min + 1))).setCell ⟨g + 1 + 1, 1, none⟩ (.slice A N.n c)).setCell ⟨g + 1 + 1, 2, none⟩ (.slice M N.k d)) = WZ at *
  clear r0 r1 r2
  obtain ⟨r0, r1, r2⟩ := RZ.c3
  exact bodyPost_ret (v := .tuple #[.agg #[.int .i64 (W.min + 1), .slice A N.n c, .slice M N.k d], .slice A2 N.k c2, .int .i64 0]) (by simp [results, Try.results9, go_sem, r0, r1, r2]) rfl ⟨_, _, rfl, hid ⟨A, c, M, d, rfl, OX.out, OY.out⟩, OV.out, hbz.out⟩


set_option maxRecDepth 100000 in
set_option maxHeartbeats 8000000 in
theorem Run_err {w : World} {B0 B1 B2 u : Nat} {N : Nd} {W : Wd} {T : Tn} {P : Option Addr} {q : Int} (m : Int) (hq : Hid (Se N W T q)) (hq0 : q ≠ 0) (hT : Tl w B2 P T.p T.tm T.tl T.tp) (hp9 : T.p ≤ 9223372036854775807) (h : Nt w B0 N) (hs : Nsm N) (hw : Wt w B1 W) :
    Calls Try.prog 10 #[.agg #[.slice N.A N.n N.c, .slice N.M N.m N.d, .slice N.K N.k N.e], .agg #[.int .i64 W.min, .slice W.A W.n W.c, .slice W.M W.m W.d], .slice P T.p u, .int .i64 m] w fun e w' => e = .returned (.tuple #[.agg #[.int .i64 0, .slice none 0 0, .slice none 0 0], .int .i64 q]) ∧ Below w.heap.size w w' := by
  have hqn : (q != 0) = true := by rw [bne_iff_ne]; exact hq0
  obtain ⟨g, hg⟩ : ∃ g, w.heap.size = g := ⟨_, rfl⟩
  have hb0 := (((Below.refl w.heap.size w).alloc (Nat.le_refl _) (.cells #[.slice N.A N.n N.c, .slice N.M N.m N.d, .slice N.K N.k N.e] 26)).alloc (by simp) (.cells #[.int .i64 W.min, .slice W.A W.n W.c, .slice W.M W.m W.d] 30)).alloc (by simp; omega) (.cells #[.int .i64 0, .slice none 0 0, .slice none 0 0] 30)
  have K1 := ((Nb.new h hg).below (alo (o := .cells #[.int .i64 W.min, .slice W.A W.n W.c, .slice W.M W.m W.d] 30))).below (alo (o := .cells #[.int .i64 0, .slice none 0 0, .slice none 0 0] 30))
  have V1 : Wx _ (g + 1) B1 W := ⟨(Bk.of_alloc (w.alloc (.cells #[.slice N.A N.n N.c, .slice N.M N.m N.d, .slice N.K N.k N.e] 26)) (.cells #[.int .i64 W.min, .slice W.A W.n W.c, .slice W.M W.m W.d] 30) (by simp [hg])).alloc (.cells #[.int .i64 0, .slice none 0 0, .slice none 0 0] 30), hw.below hb0⟩
  have R1 : Bk _ (g + 1 + 1) _ := Bk.of_alloc ((w.alloc (.cells #[.slice N.A N.n N.c, .slice N.M N.m N.d, .slice N.K N.k N.e] 26)).alloc (.cells #[.int .i64 W.min, .slice W.A W.n W.c, .slice W.M W.m W.d] 30)) (.cells #[.int .i64 0, .slice none 0 0, .slice none 0 0] 30) (by simp [hg])
  have hs0 : (((w.alloc (.cells #[.slice N.A N.n N.c, .slice N.M N.m N.d, .slice N.K N.k N.e] 26)).alloc (.cells #[.int .i64 W.min, .slice W.A W.n W.c, .slice W.M W.m W.d] 30)).alloc (.cells #[.int .i64 0, .slice none 0 0, .slice none 0 0] 30)).heap.size = g + 3 := by simp [hg]
  have T1 := hT.below hb0
  go_enter Try.func10, Try.ntmps10
  go_wp2_with fail
  generalize ((w.alloc (.cells #[.slice N.A N.n N.c, .slice N.M N.m N.d, .slice N.K N.k N.e] 26)).alloc (.cells #[.int .i64 W.min, .slice W.A W.n W.c, .slice W.M W.m W.d] 30)).alloc (.cells #[.int .i64 0, .slice none 0 0, .slice none 0 0] 30) = W0 at *
  have HB0 := hid hb0
  have Hg := hid hg
  have Hs0 := hid hs0
  have HR1 := hid R1
  have HN1 := hid K1.a
  have hbx : ∀ (V : World), Below W0.heap.size W0 V → Bk V (g + 1 + 1) (.cells #[.int .i64 0, .slice none 0 0, .slice none 0 0] 30 (0, 0)) := fun V hV => HR1.out.step hV
  have Hbx := hid hbx
  have HT1 := hid T1
  clear hb0 hg hs0 h hw R1 hbx hT T1
  refine (newRun_err hq hq0 HT1.out hp9 K1.a hs V1.a).mono ?_
  rintro e w2 ⟨rfl, hb⟩
  have HB2 := hid hb
  clear hb hq0 K1 V1
  have R2 := Hbx.out _ HB2.out
  obtain ⟨r0, r1, r2⟩ := R2.c3
  have f0 := R2.fz 0
  have f1 := R2.fz 1
  have f2 := R2.fz 2
  go_wp2
  have RZ := R2.put_all (.int .i64 0) (.slice none 0 0) (.slice none 0 0)
  have hbz := hid (bset3 (u0 := .int .i64 0) (u1 := .slice none 0 0) (u2 := .slice none 0 0) (HB0.out.trans (HB2.out.mono HB0.out.size)) (show w.heap.size ≤ g + 1 + 1 by rw [Hg.out]; omega))
  clear R2
  generalize (((w2.setCell ⟨g + 1 + 1, 0, none⟩ (.int .i64 0)).setCell ⟨g + 1 + 1, 1, none⟩ (.slice none 0 0)).setCell ⟨g + 1 + 1, 2, none⟩ (.slice none 0 0)) = WZ at *
  clear r0 r1 r2
  obtain ⟨r0, r1, r2⟩ := RZ.c3
  exact bodyPost_ret (v := .tuple #[.agg #[.int .i64 0, .slice none 0 0, .slice none 0 0], .int .i64 q]) (by simp [results, Try.results10, go_sem, r0, r1, r2]) rfl ⟨rfl, hbz.out⟩

set_option maxRecDepth 100000 in
set_option maxHeartbeats 8000000 in
theorem Run_late {w : World} {B0 B1 B2 u : Nat} {N : Nd} {W : Wd} {T : Tn} {P : Option Addr} (m : Int) (hq : Hid (Se N W T 0)) (hm : lstB W.min m = false) (hT : Tl w B2 P T.p T.tm T.tl T.tp) (hp9 : T.p ≤ 9223372036854775807) (h : Nt w B0 N) (hs : Nsm N) (hw : Wt w B1 W) :
    Calls Try.prog 10 #[.agg #[.slice N.A N.n N.c, .slice N.M N.m N.d, .slice N.K N.k N.e], .agg #[.int .i64 W.min, .slice W.A W.n W.c, .slice W.M W.m W.d], .slice P T.p u, .int .i64 m] w fun e w' => e = .returned (.tuple #[.agg #[.int .i64 0, .slice none 0 0, .slice none 0 0], .int .i64 2]) ∧ Below w.heap.size w w' := by
  have HFit := hid hq.out.zero.1
  obtain ⟨g, hg⟩ : ∃ g, w.heap.size = g := ⟨_, rfl⟩
  have hb0 := (((Below.refl w.heap.size w).alloc (Nat.le_refl _) (.cells #[.slice N.A N.n N.c, .slice N.M N.m N.d, .slice N.K N.k N.e] 26)).alloc (by simp) (.cells #[.int .i64 W.min, .slice W.A W.n W.c, .slice W.M W.m W.d] 30)).alloc (by simp; omega) (.cells #[.int .i64 0, .slice none 0 0, .slice none 0 0] 30)
  have K1 := ((Nb.new h hg).below (alo (o := .cells #[.int .i64 W.min, .slice W.A W.n W.c, .slice W.M W.m W.d] 30))).below (alo (o := .cells #[.int .i64 0, .slice none 0 0, .slice none 0 0] 30))
  have V1 : Wx _ (g + 1) B1 W := ⟨(Bk.of_alloc (w.alloc (.cells #[.slice N.A N.n N.c, .slice N.M N.m N.d, .slice N.K N.k N.e] 26)) (.cells #[.int .i64 W.min, .slice W.A W.n W.c, .slice W.M W.m W.d] 30) (by simp [hg])).alloc (.cells #[.int .i64 0, .slice none 0 0, .slice none 0 0] 30), hw.below hb0⟩
  have R1 : Bk _ (g + 1 + 1) _ := Bk.of_alloc ((w.alloc (.cells #[.slice N.A N.n N.c, .slice N.M N.m N.d, .slice N.K N.k N.e] 26)).alloc (.cells #[.int .i64 W.min, .slice W.A W.n W.c, .slice W.M W.m W.d] 30)) (.cells #[.int .i64 0, .slice none 0 0, .slice none 0 0] 30) (by simp [hg])
  have hs0 : (((w.alloc (.cells #[.slice N.A N.n N.c, .slice N.M N.m N.d, .slice N.K N.k N.e] 26)).alloc (.cells #[.int .i64 W.min, .slice W.A W.n W.c, .slice W.M W.m W.d] 30)).alloc (.cells #[.int .i64 0, .slice none 0 0, .slice none 0 0] 30)).heap.size = g + 3 := by simp [hg]
  have T1 := hT.below hb0
  go_enter Try.func10, Try.ntmps10
  go_wp2_with fail
  generalize ((w.alloc (.cells #[.slice N.A N.n N.c, .slice N.M N.m N.d, .slice N.K N.k N.e] 26)).alloc (.cells #[.int .i64 W.min, .slice W.A W.n W.c, .slice W.M W.m W.d] 30)).alloc (.cells #[.int .i64 0, .slice none 0 0, .slice none 0 0] 30) = W0 at *
  have HB0 := hid hb0
  have Hg := hid hg
  have Hs0 := hid hs0
  have HR1 := hid R1
  have HN1 := hid K1.a
  have hbx : ∀ (V : World), Below W0.heap.size W0 V → Bk V (g + 1 + 1) (.cells #[.int .i64 0, .slice none 0 0, .slice none 0 0] 30 (0, 0)) := fun V hV => HR1.out.step hV
  have Hbx := hid hbx
  have HT1 := hid T1
  clear hb0 hg hs0 h hw R1 hbx hT T1
  refine (newRun_ok hq HT1.out hp9 K1.a hs V1.a).mono ?_
  rintro e w2 ⟨gr, A, c, M, d, rfl, Rr, hb⟩
  have HB2 := hid hb
  clear hb K1 V1
  go_wp2_with fail
  refine (lasts_any Rr HFit.out.t0 HFit.out.t1 _).mono ?_
  rintro e w3 ⟨rfl, hb⟩
  have HB3 := hid (HB2.out.trans (hb.mono HB2.out.size))
  clear hb Rr
  rw [hm]
  have R2 := Hbx.out _ HB3.out
  obtain ⟨r0, r1, r2⟩ := R2.c3
  have f0 := R2.fz 0
  have f1 := R2.fz 1
  have f2 := R2.fz 2
  go_wp2
  have RZ := R2.put_all (.int .i64 0) (.slice none 0 0) (.slice none 0 0)
  have hbz := hid (bset3 (u0 := .int .i64 0) (u1 := .slice none 0 0) (u2 := .slice none 0 0) (HB0.out.trans (HB3.out.mono HB0.out.size)) (show w.heap.size ≤ g + 1 + 1 by rw [Hg.out]; omega))
  clear R2
  generalize (((w3.setCell ⟨g + 1 + 1, 0, none⟩ (.int .i64 0)).setCell ⟨g + 1 + 1, 1, none⟩ (.slice none 0 0)).setCell ⟨g + 1 + 1, 2, none⟩ (.slice none 0 0)) = WZ at *
  clear r0 r1 r2
  obtain ⟨r0, r1, r2⟩ := RZ.c3
  exact bodyPost_ret (v := .tuple #[.agg #[.int .i64 0, .slice none 0 0, .slice none 0 0], .int .i64 2]) (by simp [results, Try.results10, go_sem, r0, r1, r2]) rfl ⟨rfl, hbz.out⟩


set_option maxRecDepth 100000 in
set_option maxHeartbeats 8000000 in
theorem Run_ok {w : World} {B0 B1 B2 u : Nat} {N : Nd} {W : Wd} {T : Tn} {P : Option Addr} {m : Int} (hq : Hid (Se N W T 0)) (k : Nat) (hm : m = k) (hl : lstB W.min m = true) (hT : Tl w B2 P T.p T.tm T.tl T.tp) (hp9 : T.p ≤ 9223372036854775807) (h : Nt w B0 N) (hs : Nsm N) (hw : Wt w B1 W) :
    Calls Try.prog 10 #[.agg #[.slice N.A N.n N.c, .slice N.M N.m N.d, .slice N.K N.k N.e], .agg #[.int .i64 W.min, .slice W.A W.n W.c, .slice W.M W.m W.d], .slice P T.p u, .int .i64 m] w fun e w' => ∃ v, e = .returned (.tuple #[v, .int .i64 0]) ∧ Hid (Wo w.heap.size w' N (W.min + k) (rnS N T W.min W.X W.Y k).1 (rnS N T W.min W.X W.Y k).2 v) ∧ Below w.heap.size w w' := by
  have HFit := hid hq.out.zero.1
  have Hte := hid hq.out.zero.2
  have Hs := hid hs
  have HFw := hid HFit.out.wp
  have hmk : W.min + (k : Int) ≤ 1000000 := by
    unfold lstB at hl
    rw [Bool.and_eq_true] at hl
    have := of_decide_eq_true hl.2
    omega
  subst hm
  obtain ⟨g, hg⟩ : ∃ g, w.heap.size = g := ⟨_, rfl⟩
  have hb0 := (((Below.refl w.heap.size w).alloc (Nat.le_refl _) (.cells #[.slice N.A N.n N.c, .slice N.M N.m N.d, .slice N.K N.k N.e] 26)).alloc (by simp) (.cells #[.int .i64 W.min, .slice W.A W.n W.c, .slice W.M W.m W.d] 30)).alloc (by simp; omega) (.cells #[.int .i64 0, .slice none 0 0, .slice none 0 0] 30)
  have K1 := ((Nb.new h hg).below (alo (o := .cells #[.int .i64 W.min, .slice W.A W.n W.c, .slice W.M W.m W.d] 30))).below (alo (o := .cells #[.int .i64 0, .slice none 0 0, .slice none 0 0] 30))
  have V1 : Wx _ (g + 1) B1 W := ⟨(Bk.of_alloc (w.alloc (.cells #[.slice N.A N.n N.c, .slice N.M N.m N.d, .slice N.K N.k N.e] 26)) (.cells #[.int .i64 W.min, .slice W.A W.n W.c, .slice W.M W.m W.d] 30) (by simp [hg])).alloc (.cells #[.int .i64 0, .slice none 0 0, .slice none 0 0] 30), hw.below hb0⟩
  have R1 : Bk _ (g + 1 + 1) _ := Bk.of_alloc ((w.alloc (.cells #[.slice N.A N.n N.c, .slice N.M N.m N.d, .slice N.K N.k N.e] 26)).alloc (.cells #[.int .i64 W.min, .slice W.A W.n W.c, .slice W.M W.m W.d] 30)) (.cells #[.int .i64 0, .slice none 0 0, .slice none 0 0] 30) (by simp [hg])
  have hs0 : (((w.alloc (.cells #[.slice N.A N.n N.c, .slice N.M N.m N.d, .slice N.K N.k N.e] 26)).alloc (.cells #[.int .i64 W.min, .slice W.A W.n W.c, .slice W.M W.m W.d] 30)).alloc (.cells #[.int .i64 0, .slice none 0 0, .slice none 0 0] 30)).heap.size = g + 3 := by simp [hg]
  have T1 := hT.below hb0
  go_enter Try.func10, Try.ntmps10
  go_wp2_with fail
  generalize ((w.alloc (.cells #[.slice N.A N.n N.c, .slice N.M N.m N.d, .slice N.K N.k N.e] 26)).alloc (.cells #[.int .i64 W.min, .slice W.A W.n W.c, .slice W.M W.m W.d] 30)).alloc (.cells #[.int .i64 0, .slice none 0 0, .slice none 0 0] 30) = W0 at *
  have HB0 := hid hb0
  have Hg := hid hg
  have Hs0 := hid hs0
  have HR1 := hid R1
  have HN1 := hid K1.a
  have hbx : ∀ (V : World), Below W0.heap.size W0 V → Bk V (g + 1 + 1) (.cells #[.int .i64 0, .slice none 0 0, .slice none 0 0] 30 (0, 0)) := fun V hV => HR1.out.step hV
  have Hbx := hid hbx
  have HT1 := hid T1
  clear hb0 hg hs0 h hw R1 hbx hT T1
  refine (newRun_ok hq HT1.out hp9 K1.a hs V1.a).mono ?_
  rintro e w2 ⟨gr, A, c, M, d, rfl, Rr, hb⟩
  have HB2 := hid hb
  clear hb K1 V1
  go_wp2_with fail
  refine (lasts_any Rr HFit.out.t0 HFit.out.t1 _).mono ?_
  rintro e w3 ⟨rfl, hb⟩
  have HB3 := hid (HB2.out.trans (hb.mono HB2.out.size))
  have R3 := Rr.below hb
  clear hb Rr
  rw [hl]
  go_wp2_with fail
  refine (minutes_any k R3 HN1 HT1 HB3 Hs Hte HFw hmk).mono ?_
  rintro e w4 ⟨rfl, R4, hb, -, -⟩
  have HB4 := hid hb
  clear hb R3
  have hzz : w.heap.size ≤ W0.heap.size := HB0.out.size
  have hlg : g + 1 + 1 < W0.heap.size := by have := Hs0.out; omega
  have OX := hid (own_base (own_setBox (u0 := .int .i64 (W.min + (k : Int))) (u1 := .slice A N.n c) (u2 := .slice M N.k d) R4.x hlg) hzz)
  have OY := hid (own_base (own_setBox (u0 := .int .i64 (W.min + (k : Int))) (u1 := .slice A N.n c) (u2 := .slice M N.k d) R4.y hlg) hzz)
  obtain ⟨y0, y1, y2, y3, y4, y5, y6⟩ := R4.cells
  have R2 := Hbx.out _ HB4.out
  obtain ⟨r0, r1, r2⟩ := R2.c3
  have f0 := R2.fz 0
  have f1 := R2.fz 1
  have f2 := R2.fz 2
  go_wp2
  clear y0 y1 y2 y3 y4 y5 y6 R4
  have RZ := R2.put_all (.int .i64 (W.min + (k : Int))) (.slice A N.n c) (.slice M N.k d)
  have hbz := hid (bset3 (u0 := .int .i64 (W.min + (k : Int))) (u1 := .slice A N.n c) (u2 := .slice M N.k d) (HB0.out.trans (HB4.out.mono HB0.out.size)) (show w.heap.size ≤ g + 1 + 1 by rw [Hg.out]; omega))
  clear R2
  generalize (((w4.setCell ⟨g + 1 + 1, 0, none⟩ (.int .i64 (W.min + (k : Int)))).setCell ⟨g + 1 + 1, 1, none⟩ (.slice A N.n c)).setCell ⟨g + 1 + 1, 2, none⟩ (.slice M N.k d)) = WZ at *
  clear r0 r1 r2
  obtain ⟨r0, r1, r2⟩ := RZ.c3
  exact bodyPost_ret (v := .tuple #[.agg #[.int .i64 (W.min + (k : Int)), .slice A N.n c, .slice M N.k d], .int .i64 0]) (by simp [results, Try.results10, go_sem, r0, r1, r2]) rfl ⟨_, rfl, hid ⟨A, c, M, d, rfl, OX.out, OY.out⟩, hbz.out⟩


end Go.Proofs.Ytockfiobhmohnaa

