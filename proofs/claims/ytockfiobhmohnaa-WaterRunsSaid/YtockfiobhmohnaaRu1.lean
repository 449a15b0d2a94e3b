/- Networks: Course of the program. For every network, state, turns and question. -/
import Derived.Test.YtockfiobhmohnaaRta
namespace Go.Proofs.Ytockfiobhmohnaa
open Go.RowKit Go.Maps Kb Wb

/-- A question for a course that is right. -/
def CoOk (t E C : Int) : Prop := (1 ≤ E ∧ E ≤ 1000) ∧ (0 ≤ C ∧ C ≤ 200) ∧ t + (max (C - 1) 0) * E ≤ 1000000 ∧ (max (C - 1) 0) * E ≤ 10000
/-- Its error. -/
def CeR (N : Nd) (t : Int) (s : ByteArray) (E C r : Int) : Prop := (ixB N s < 0 ∧ r = 6) ∨ (0 ≤ ixB N s ∧ ((¬ CoOk t E C ∧ r = 2) ∨ (CoOk t E C ∧ r = 0)))
theorem CeR.same {N : Nd} {t : Int} {s : ByteArray} {E C r q : Int} (h : CeR N t s E C r) (k : CeR N t s E C q) : r = q := by
  rcases h with ⟨h, rfl⟩ | ⟨h, ⟨h1, rfl⟩ | ⟨h1, rfl⟩⟩ <;> rcases k with ⟨k, rfl⟩ | ⟨k, ⟨k1, rfl⟩ | ⟨k1, rfl⟩⟩ <;> first | rfl | omega | exact absurd k1 h1 | exact absurd h1 k1
theorem CeR.exists (N : Nd) (t : Int) (s : ByteArray) (E C : Int) : ∃ r, CeR N t s E C r := by
  by_cases h : ixB N s < 0
  · exact ⟨6, .inl ⟨h, rfl⟩⟩
  · by_cases k : CoOk t E C
    · exact ⟨0, .inr ⟨by omega, .inr ⟨k, rfl⟩⟩⟩
    · exact ⟨2, .inr ⟨by omega, .inl ⟨k, rfl⟩⟩⟩
/-- The levels of basin b, every so many minutes. -/
noncomputable def lvC (N : Nd) (T : Tn) (W : Wd) (b E : Nat) (i : Nat) : Int := lvB (N.b b) ((rnS N T W.min W.X W.Y (i * E)).1 b)

/-- What Course answers. -/
def CO (w : World) (bs : Nat) (N : Nd) (T : Tn) (W : Wd) (s : ByteArray) (E C r : Int) (A : Option Addr) (n c : Nat) : Prop :=
  (r ≠ 0 ∧ A = none ∧ n = 0 ∧ c = 0) ∨ (r = 0 ∧ ∃ b e : Nat, b < N.n ∧ ixB N s = b ∧ E = e ∧ C = n ∧ w.ownsRow bs 3 1 (.slice A n c) n (ints (lvC N T W b e) n))

theorem Rw.grownO {w w' : World} {g B c d p u G : Nat} {N : Nd} {t : Int} {A M P : Option Addr} {X : Nat → Int} {Y : Nat → Bool} {row : Option Nat} (h : Rw w g B N t A c M d X Y P p u) (ho : Olds G g A M) (hg : w.grownBy w' row) (hr : ∀ k, row = some k → G ≤ k) : Rw w' g B N t A c M d X Y P p u := by
  have ne : ∀ k, k < G → some k ≠ row := fun k hk e => by have := hr k e.symm; omega
  refine ⟨(hg.block g h.b.lt (ne g ho.1)).trans h.b, own_heap h.x fun k hk => ?_, own_heap h.y fun k hk => ?_, h.g⟩
  · refine hg.block k (h.x.lt k hk).2 (ne k ?_)
    cases hA : A with
    | none => rw [hA] at hk; simp [Value.ownBlock] at hk
    | some a =>
      rw [hA] at hk
      have : a.block = k := by simpa [Value.ownBlock] using hk
      have := ho.2.1 a hA
      omega
  · refine hg.block k (h.y.lt k hk).2 (ne k ?_)
    cases hM : M with
    | none => rw [hM] at hk; simp [Value.ownBlock] at hk
    | some a =>
      rw [hM] at hk
      have : a.block = k := by simpa [Value.ownBlock] using hk
      have := ho.2.2 a hM
      omega

set_option maxRecDepth 100000 in
set_option maxHeartbeats 8000000 in
theorem Course_err {w : World} {B0 B1 B2 u : Nat} {N : Nd} {W : Wd} {T : Tn} {P : Option Addr} {s : ByteArray} {E C : Int} {q : Int} (hq : Hid (Se N W T q)) (hq0 : q ≠ 0) (hT : Tl w B2 P T.p T.tm T.tl T.tp) (hp9 : T.p ≤ 9223372036854775807) (h : Nt w B0 N) (hs : Nsm N) (hw : Wt w B1 W) :
    Calls Try.prog 19 #[.agg #[.slice N.A N.n N.c, .slice N.M N.m N.d, .slice N.K N.k N.e], .agg #[.int .i64 W.min, .slice W.A W.n W.c, .slice W.M W.m W.d], .slice P T.p u, .agg #[.string s, .int .i64 E, .int .i64 C]] w fun e w' => e = .returned (.tuple #[.slice none 0 0, .int .i64 q]) ∧ Below w.heap.size w w' := by
  have hqn : (q != 0) = true := by rw [bne_iff_ne]; exact hq0
  obtain ⟨g, hg⟩ : ∃ g, w.heap.size = g := ⟨_, rfl⟩
  have hb0 := (((Below.refl w.heap.size w).alloc (Nat.le_refl _) (.cells #[.slice N.A N.n N.c, .slice N.M N.m N.d, .slice N.K N.k N.e] 26)).alloc (by simp) (.cells #[.int .i64 W.min, .slice W.A W.n W.c, .slice W.M W.m W.d] 30)).alloc (by simp; omega) (.cells #[.string s, .int .i64 E, .int .i64 C] 56)
  have K1 := ((Nb.new h hg).below (alo (o := .cells #[.int .i64 W.min, .slice W.A W.n W.c, .slice W.M W.m W.d] 30))).below (alo (o := .cells #[.string s, .int .i64 E, .int .i64 C] 56))
  have V1 : Wx _ (g + 1) B1 W := ⟨(Bk.of_alloc (w.alloc (.cells #[.slice N.A N.n N.c, .slice N.M N.m N.d, .slice N.K N.k N.e] 26)) (.cells #[.int .i64 W.min, .slice W.A W.n W.c, .slice W.M W.m W.d] 30) (by simp [hg])).alloc (.cells #[.string s, .int .i64 E, .int .i64 C] 56), hw.below hb0⟩
  have R1 : Bk _ (g + 1 + 1) _ := Bk.of_alloc ((w.alloc (.cells #[.slice N.A N.n N.c, .slice N.M N.m N.d, .slice N.K N.k N.e] 26)).alloc (.cells #[.int .i64 W.min, .slice W.A W.n W.c, .slice W.M W.m W.d] 30)) (.cells #[.string s, .int .i64 E, .int .i64 C] 56) (by simp [hg])
  have T1 := hT.below hb0
  go_enter Try.func19, Try.ntmps19
  go_wp2_with fail
  generalize ((w.alloc (.cells #[.slice N.A N.n N.c, .slice N.M N.m N.d, .slice N.K N.k N.e] 26)).alloc (.cells #[.int .i64 W.min, .slice W.A W.n W.c, .slice W.M W.m W.d] 30)).alloc (.cells #[.string s, .int .i64 E, .int .i64 C] 56) = W0 at *
  have HB0 := hid hb0
  have HN1 := hid K1.a
  have HT1 := hid T1
  have Hbx := hid (fun (V : World) (hV : Below W0.heap.size W0 V) => (show Nb V g B0 N ∧ Bk V (g + 1 + 1) (.cells #[.string s, .int .i64 E, .int .i64 C] 56 (0, 0)) from ⟨K1.below hV, R1.step hV⟩))
  clear hb0 hg h hw R1 hT T1
  refine (newRun_err hq hq0 HT1.out hp9 K1.a hs V1.a).mono ?_
  rintro e w2 ⟨rfl, hb⟩
  have HB2 := hid (bthen HB0.out hb (Nat.le_refl _))
  clear hb hq0 K1 V1
  go_wp2
  go_ret2
  exact ⟨rfl, HB2.out⟩

set_option maxRecDepth 100000 in
set_option maxHeartbeats 8000000 in
theorem Course_uni {w : World} {B0 B1 B2 u : Nat} {N : Nd} {W : Wd} {T : Tn} {P : Option Addr} {s : ByteArray} {E C : Int} {r : Int} (hq : Hid (Se N W T 0)) (hr : Hid (CeR N W.min s E C r)) (hT : Tl w B2 P T.p T.tm T.tl T.tp) (hp9 : T.p ≤ 9223372036854775807) (h : Nt w B0 N) (hs : Nsm N) (hw : Wt w B1 W) :
    Calls Try.prog 19 #[.agg #[.slice N.A N.n N.c, .slice N.M N.m N.d, .slice N.K N.k N.e], .agg #[.int .i64 W.min, .slice W.A W.n W.c, .slice W.M W.m W.d], .slice P T.p u, .agg #[.string s, .int .i64 E, .int .i64 C]] w fun e w' => ∃ A n c, e = .returned (.tuple #[.slice A n c, .int .i64 r]) ∧ Hid (CO w' w.heap.size N T W s E C r A n c) ∧ Below w.heap.size w w' := by
  have HFit := hid hq.out.zero.1
  have Hte := hid hq.out.zero.2
  have Hs := hid hs
  have HFw := hid HFit.out.wp
  obtain ⟨i0, hi0, hz0, hz1, hz2⟩ := info_parts info_int
  obtain ⟨g, hg⟩ : ∃ g, w.heap.size = g := ⟨_, rfl⟩
  have hb0 := (((Below.refl w.heap.size w).alloc (Nat.le_refl _) (.cells #[.slice N.A N.n N.c, .slice N.M N.m N.d, .slice N.K N.k N.e] 26)).alloc (by simp) (.cells #[.int .i64 W.min, .slice W.A W.n W.c, .slice W.M W.m W.d] 30)).alloc (by simp; omega) (.cells #[.string s, .int .i64 E, .int .i64 C] 56)
  have K1 := ((Nb.new h hg).below (alo (o := .cells #[.int .i64 W.min, .slice W.A W.n W.c, .slice W.M W.m W.d] 30))).below (alo (o := .cells #[.string s, .int .i64 E, .int .i64 C] 56))
  have V1 : Wx _ (g + 1) B1 W := ⟨(Bk.of_alloc (w.alloc (.cells #[.slice N.A N.n N.c, .slice N.M N.m N.d, .slice N.K N.k N.e] 26)) (.cells #[.int .i64 W.min, .slice W.A W.n W.c, .slice W.M W.m W.d] 30) (by simp [hg])).alloc (.cells #[.string s, .int .i64 E, .int .i64 C] 56), hw.below hb0⟩
  have R1 : Bk _ (g + 1 + 1) _ := Bk.of_alloc ((w.alloc (.cells #[.slice N.A N.n N.c, .slice N.M N.m N.d, .slice N.K N.k N.e] 26)).alloc (.cells #[.int .i64 W.min, .slice W.A W.n W.c, .slice W.M W.m W.d] 30)) (.cells #[.string s, .int .i64 E, .int .i64 C] 56) (by simp [hg])
  have T1 := hT.below hb0
  go_enter Try.func19, Try.ntmps19
  go_wp2_with fail
  generalize ((w.alloc (.cells #[.slice N.A N.n N.c, .slice N.M N.m N.d, .slice N.K N.k N.e] 26)).alloc (.cells #[.int .i64 W.min, .slice W.A W.n W.c, .slice W.M W.m W.d] 30)).alloc (.cells #[.string s, .int .i64 E, .int .i64 C] 56) = W0 at *
  have HB0 := hid hb0
  have HN1 := hid K1.a
  have HT1 := hid T1
  have Hbx := hid (fun (V : World) (hV : Below W0.heap.size W0 V) => (show Nb V g B0 N ∧ Bk V (g + 1 + 1) (.cells #[.string s, .int .i64 E, .int .i64 C] 56 (0, 0)) from ⟨K1.below hV, R1.step hV⟩))
  clear hb0 hg h hw R1 hT T1
  refine (newRun_ok hq HT1.out hp9 K1.a hs V1.a).mono ?_
  rintro e w2 ⟨gr, A, c, M, d, rfl, Rr, hb⟩
  have HB2 := hid hb
  clear hb K1 V1
  obtain ⟨K2, Q2⟩ := Hbx.out _ HB2.out
  obtain ⟨x0, x1, x2⟩ := K2.cells
  obtain ⟨q0, q1, q2⟩ := Q2.c3
  obtain ⟨ix, hix⟩ : ∃ ix, ixB N s = ix := ⟨_, rfl⟩
  have HIX := hid (show Ixn N.n N.bnm s ix from hix ▸ ixB_is N s)
  have Hix := hid hix
  go_wp2_with fail
  refine (findBasin_is HIX K2.a hs).mono ?_
  rintro e w3 ⟨rfl, hb⟩
  have R3 := Rr.below hb
  have HB3 := hid (HB2.out.trans (hb.mono HB2.out.size))
  obtain ⟨K3, Q3⟩ := Hbx.out _ HB3.out
  clear hb Rr K2 Q2 x0 x1 x2 q0 q1 q2 hix
  by_cases hneg : ix < 0
  · have dneg : decide (ix < 0) = true := decide_eq_true hneg
    obtain rfl : r = 6 := hr.out.same (.inl ⟨by rw [Hix.out]; exact hneg, rfl⟩)
    go_wp2
    go_ret2
    exact ⟨none, 0, 0, rfl, hid (.inl ⟨by decide, rfl, rfl, rfl⟩), bthen HB0.out HB3.out (Nat.le_refl _)⟩
  · have dneg : decide (ix < 0) = false := decide_eq_false hneg
    have Hge := hid (show 0 ≤ ixB N s from by rw [Hix.out]; omega)
    obtain ⟨bi, hbi, rfl⟩ : ∃ bi : Nat, bi < N.n ∧ ix = bi := by
      rcases HIX.out with ⟨e, _⟩ | ⟨j, hj, _, _, e⟩
      · omega
      · exact ⟨j, hj, e⟩
    obtain ⟨q0, q1, q2⟩ := Q3.c3
    have bad : ∀ (hne : ¬ CoOk W.min E C), r = 2 := fun hne => hr.out.same (.inr ⟨Hge.out, .inl ⟨hne, rfl⟩⟩)
    have Bad := hid bad
    clear bad
    by_cases hE : inB E 1 1000 = true
    · have hE' := inB_iff.1 hE
      by_cases hC : inB C 0 200 = true
      · have hC' := inB_iff.1 hC
        go_wp2_with ((with_reducible refine (Within_any _ _ _ _).mono ?_); rintro e w' ⟨rfl, rfl⟩)
        obtain ⟨m, hm⟩ : ∃ m, max (C - 1) 0 * E = m := ⟨_, rfl⟩
        have hmb : 0 ≤ m ∧ m ≤ 199000 := by
          rw [← hm]
          have a0 : 0 ≤ max (C - 1) 0 := by omega
          have a1 : max (C - 1) 0 ≤ 199 := by omega
          refine ⟨Int.mul_nonneg a0 (by omega), ?_⟩
          have := Int.mul_le_mul a1 hE'.2 (by omega) (by decide)
          omega
        rw [show wrap64 (max (C - 1) 0 * E) = m by rw [hm]; exact IntWalk.wrap64_in m (by omega)]
        refine (lasts_any R3 HFit.out.t0 HFit.out.t1 m).mono ?_
        rintro e w4 ⟨rfl, hb⟩
        have R4 := R3.below hb
        have HB4 := hid (HB3.out.trans (hb.mono HB3.out.size))
        obtain ⟨K4, Q4⟩ := Hbx.out _ HB4.out
        clear hb R3 K3 Q3 q0 q1 q2
        cases hl : lstB W.min m
        case false =>
          obtain rfl := Bad.out (fun h => by
            have hh : lstB W.min m = true := lstB_iff.2 ⟨⟨hmb.1, by rw [← hm]; exact h.2.2.2⟩, by rw [← hm]; exact h.2.2.1⟩
            rw [hh] at hl; cases hl)
          clear hl
          go_wp2
          go_ret2
          exact ⟨none, 0, 0, rfl, hid (.inl ⟨by decide, rfl, rfl, rfl⟩), bthen HB0.out HB4.out (Nat.le_refl _)⟩
        case true =>
          have hl' := lstB_iff.1 hl
          obtain rfl : r = 0 := hr.out.same (.inr ⟨Hge.out, .inr ⟨⟨hE', hC', by rw [hm]; exact hl'.2, by rw [hm]; exact hl'.1.2⟩, rfl⟩⟩)
          obtain ⟨n, rfl⟩ : ∃ n : Nat, C = n := ⟨C.toNat, by omega⟩
          obtain ⟨e, rfl⟩ : ∃ e : Nat, E = e := ⟨E.toNat, by omega⟩
          have HM := hid (show ∀ i, i < n → W.min + ((i * e : Nat) : Int) ≤ 1000000 from fun i hi => by
            have h1 : i * e ≤ (n - 1) * e := Nat.mul_le_mul_right e (by omega)
            have h2 : max ((n : Int) - 1) 0 = ((n - 1 : Nat) : Int) := by omega
            rw [h2] at hm
            have h3 : (((n - 1) * e : Nat) : Int) = m := by rw [← hm]; exact Int.natCast_mul _ _
            obtain ⟨p1, hp1⟩ : ∃ p1, i * e = p1 := ⟨_, rfl⟩
            obtain ⟨p2, hp2⟩ : ∃ p2, (n - 1) * e = p2 := ⟨_, rfl⟩
            rw [hp1, hp2] at h1
            rw [hp2] at h3
            have h5 : ((i * e : Nat) : Int) ≤ m := by rw [hp1, ← h3]; exact Int.ofNat_le.2 h1
            exact Int.le_trans (Int.add_le_add_left h5 _) hl'.2)
          have HO := hid R4.olds
          have R4' := hid (show Rw w4 gr W0.heap.size N (W.min + (((0 - 1) * e : Nat) : Int)) A c M d (rnS N T W.min W.X W.Y ((0 - 1) * e)).1 (rnS N T W.min W.X W.Y ((0 - 1) * e)).2 P T.p u from by
            rw [show (0 - 1) * e = 0 by simp, show W.min + ((0 : Nat) : Int) = W.min by omega]
            exact R4)
          have Hix2 := Hix
          have hn200 : n ≤ 200 := by omega
          clear hl hl' hm hmb R4 Hge Hix Bad hr hE hC hE' hC' hneg
          obtain ⟨q0, q1, q2⟩ := Q4.c3
          go_wp2_with fail
          clear q0 q1 q2 K4 Q4
          go_loopw [13, 53] (fun sv iv wr => ∃ i : Nat, i ≤ n ∧ iv = .int .i64 i ∧ Rw wr gr W0.heap.size N (W.min + (((i - 1) * e : Nat) : Int)) A c M d (rnS N T W.min W.X W.Y ((i - 1) * e)).1 (rnS N T W.min W.X W.Y ((i - 1) * e)).2 P T.p u ∧ wr.ownsRow W0.heap.size 3 1 sv i (ints (lvC N T W bi e) i) ∧ (∀ k, sv.ownBlock = some k → w4.heap.size ≤ k) ∧ Below W0.heap.size W0 wr ∧ w4.heap.size ≤ wr.heap.size) (fun _ iv _ => n - (intOf iv).toNat)
          case atStart => exact ⟨0, Nat.zero_le _, rfl, R4'.out, World.ownsRow_nil _ _ _ _, fun k hk => by simp [Value.ownBlock] at hk, HB4.out, Nat.le_refl _⟩
          case round =>
            obtain ⟨i, hi, rfl, Ri, hown, hsv, hbi2, hzi⟩ := hrel
            have HBi := hid hbi2
            have Own1 := hid hown
            have HSv := hid hsv
            have Hzi := hid hzi
            clear hbi2 hown hsv hzi R4' HB4
            obtain ⟨Ki, Qi⟩ := Hbx.out _ HBi.out
            by_cases hlt : i < n
            · have dlt : decide ((i : Int) < (n : Int)) = true := decide_eq_true (by omega)
              obtain ⟨q0, q1, q2⟩ := Qi.c3
              by_cases hip : 0 < i
              · have di0 : decide ((0 : Int) < (i : Int)) = true := decide_eq_true (by omega)
                have di1 : decide (0 < i) = true := decide_eq_true hip
                have hje : (i - 1) * e + e = i * e := by
                  obtain ⟨j, rfl⟩ : ∃ j, i = j + 1 := ⟨i - 1, by omega⟩
                  rw [Nat.add_sub_cancel, Nat.succ_mul]
                have HFi := hid (rnS_ok (T := T) HFw.out HN1.out ((i - 1) * e) (by have := HM.out i hlt; rw [← hje] at this; omega))
                go_wp2_with fail
                clear q0 q1 q2 Ki Qi
                refine (minutes_any e Ri HN1 HT1 HBi Hs Hte HFi (by have := HM.out i hlt; rw [← hje] at this; omega)).mono ?_
                rintro e' w5 ⟨rfl, R5, hb5, hf5, hz5⟩
                have R5p : Rw w5 gr W0.heap.size N (W.min + ((i * e : Nat) : Int)) A c M d (rnS N T W.min W.X W.Y (i * e)).1 (rnS N T W.min W.X W.Y (i * e)).2 P T.p u := by
                  rw [← hje, rnS_add, show W.min + (((i - 1) * e + e : Nat) : Int) = W.min + (((i - 1) * e : Nat) : Int) + (e : Int) by omega]
                  exact R5
                have Own5 := hid (own_heap Own1.out (w' := w5) (fun k hk => hf5.at_ HO.out (HSv.out k hk) (Own1.out.lt k hk).2))
                have HB5 := hid hb5
                have Hz5 := hid (Nat.le_trans Hzi.out hz5)
                clear hb5 hf5 hz5 R5 Ri Own1 HBi Hzi hje
                have HFl := hid (rnS_ok (T := T) HFw.out HN1.out (i * e) (HM.out i hlt))
                have hz' := HB5.out.size
                have ho' := HO.out.1
                go_wp2_with fail
                refine (level_any R5p (HN1.out.below HB5.out) HFl Hs hbi).mono ?_
                rintro e6 w6 ⟨rfl, hb6⟩
                have R6 := R5p.below hb6
                have HB6 := hid (HB5.out.trans (hb6.mono HB5.out.size))
                have Own6 := hid (own_below Own5.out hb6)
                have Hz6 := hid (Nat.le_trans Hz5.out hb6.size)
                have hB6s := HB6.out.size
                have HLV := hid (show lvC N T W bi e i = lvB (N.b bi) ((rnS N T W.min W.X W.Y (i * e)).1 bi) from rfl)
                obtain ⟨lv, hlv⟩ : ∃ lv, lvB (N.b bi) ((rnS N T W.min W.X W.Y (i * e)).1 bi) = lv := ⟨_, rfl⟩
                rw [hlv] at HLV ⊢
                clear hb6 hlv Own5 HB5 Hz5 R5p
                go_wp2_with (at_builtin; (refine wpList_append_lies _ (by rfl) _ _ _ (by rfl) W0.heap.size 3 i0 (.int .i64 0) 1 8 Try.underlying27 hi0 hz0 hz1 hz2 rfl (by decide) u13 i _ (by rfl) (Own6.out.alloc _) ⟨w6.heap.size, 0, none⟩ 1 1 [.int .i64 lv] (by rfl) rfl (cell_one_new _ _ _) (one_cell (.int .i64 lv) rfl) (by decide) (by unfold maxLen; omega) (by omega) (by simp; omega) _ rfl ?_; intro g7 cap7 w7 hown7 hgrow7 hat7 hlt7))
                have hb7 := (HB6.out.alloc HB6.out.size (.cells #[.int .i64 lv] 3)).grown hgrow7 (by simp; omega) (fun k hk => (Own6.out.lt k hk).1)
                have hk7 : ∀ k, (Value.slice (some ⟨g7, 0, none⟩) (i + 1) cap7).ownBlock = some k → w4.heap.size ≤ k := fun k hk => by
                  have e : g7 = k := by simpa [Value.ownBlock] using hk
                  subst e
                  rcases hat7 with h | h
                  · exact HSv.out _ h
                  · have := Hz6.out
                    simp at h
                    omega
                have RA := R6.below (alo (o := .cells #[.int .i64 lv] 3))
                have hGz : ∀ k, u13.ownBlock = some k → w4.heap.size ≤ k := HSv.out
                have R7 : Rw w7 gr W0.heap.size N (W.min + ((i * e : Nat) : Int)) A c M d (rnS N T W.min W.X W.Y (i * e)).1 (rnS N T W.min W.X W.Y (i * e)).2 P T.p u := RA.grownO HO.out hgrow7 hGz
                have Hk7 := hid hk7
                have HR7 := hid R7
                rw [← HLV.out, ints_snoc (lvC N T W bi e) i] at hown7
                have HO7 := hid hown7
                have HB7 := hid hb7
                have HZ7 := hid (show w4.heap.size ≤ w7.heap.size from Nat.le_trans Hz6.out (by have := hgrow7.size; simp at this; omega))
                clear hb7 hown7 hgrow7 hat7 hlt7 Own6 R6 RA R7 hk7 hGz HSv HB6
                go_wp2
                go_roundw
                case rel => exact ⟨i + 1, by omega, by go_num, by rw [Nat.add_sub_cancel]; exact HR7.out, HO7.out, Hk7.out, HB7.out, HZ7.out⟩
                case measure => simp [intOf]; omega
              · have di0 : decide ((0 : Int) < (i : Int)) = false := decide_eq_false (by omega)
                have di1 : decide (0 < i) = false := decide_eq_false hip
                have R5 : Rw wr gr W0.heap.size N (W.min + ((i * e : Nat) : Int)) A c M d (rnS N T W.min W.X W.Y (i * e)).1 (rnS N T W.min W.X W.Y (i * e)).2 P T.p u := by
                  have h := Ri
                  have e0 : i = 0 := by omega
                  rw [show (i - 1) * e = i * e by rw [e0]] at h
                  exact h
                clear Ri Ki Qi
                have HFl := hid (rnS_ok (T := T) HFw.out HN1.out (i * e) (HM.out i hlt))
                have hz' := HBi.out.size
                have ho' := HO.out.1
                go_wp2_with fail
                refine (level_any R5 (HN1.out.below HBi.out) HFl Hs hbi).mono ?_
                rintro e6 w6 ⟨rfl, hb6⟩
                have R6 := R5.below hb6
                have HB6 := hid (HBi.out.trans (hb6.mono HBi.out.size))
                have Own6 := hid (own_below Own1.out hb6)
                have Hz6 := hid (Nat.le_trans Hzi.out hb6.size)
                have hB6s := HB6.out.size
                have HLV := hid (show lvC N T W bi e i = lvB (N.b bi) ((rnS N T W.min W.X W.Y (i * e)).1 bi) from rfl)
                obtain ⟨lv, hlv⟩ : ∃ lv, lvB (N.b bi) ((rnS N T W.min W.X W.Y (i * e)).1 bi) = lv := ⟨_, rfl⟩
                rw [hlv] at HLV ⊢
                clear hb6 hlv Own1 HBi Hzi R5
                go_wp2_with (at_builtin; (refine wpList_append_lies _ (by rfl) _ _ _ (by rfl) W0.heap.size 3 i0 (.int .i64 0) 1 8 Try.underlying27 hi0 hz0 hz1 hz2 rfl (by decide) u13 i _ (by rfl) (Own6.out.alloc _) ⟨w6.heap.size, 0, none⟩ 1 1 [.int .i64 lv] (by rfl) rfl (cell_one_new _ _ _) (one_cell (.int .i64 lv) rfl) (by decide) (by unfold maxLen; omega) (by omega) (by simp; omega) _ rfl ?_; intro g7 cap7 w7 hown7 hgrow7 hat7 hlt7))
                have hb7 := (HB6.out.alloc HB6.out.size (.cells #[.int .i64 lv] 3)).grown hgrow7 (by simp; omega) (fun k hk => (Own6.out.lt k hk).1)
                have hk7 : ∀ k, (Value.slice (some ⟨g7, 0, none⟩) (i + 1) cap7).ownBlock = some k → w4.heap.size ≤ k := fun k hk => by
                  have e : g7 = k := by simpa [Value.ownBlock] using hk
                  subst e
                  rcases hat7 with h | h
                  · exact HSv.out _ h
                  · have := Hz6.out
                    simp at h
                    omega
                have RA := R6.below (alo (o := .cells #[.int .i64 lv] 3))
                have hGz : ∀ k, u13.ownBlock = some k → w4.heap.size ≤ k := HSv.out
                have R7 : Rw w7 gr W0.heap.size N (W.min + ((i * e : Nat) : Int)) A c M d (rnS N T W.min W.X W.Y (i * e)).1 (rnS N T W.min W.X W.Y (i * e)).2 P T.p u := RA.grownO HO.out hgrow7 hGz
                have Hk7 := hid hk7
                have HR7 := hid R7
                rw [← HLV.out, ints_snoc (lvC N T W bi e) i] at hown7
                have HO7 := hid hown7
                have HB7 := hid hb7
                have HZ7 := hid (show w4.heap.size ≤ w7.heap.size from Nat.le_trans Hz6.out (by have := hgrow7.size; simp at this; omega))
                clear hb7 hown7 hgrow7 hat7 hlt7 Own6 R6 RA R7 hk7 hGz HSv HB6
                go_wp2
                go_roundw
                case rel => exact ⟨i + 1, by omega, by go_num, by rw [Nat.add_sub_cancel]; exact HR7.out, HO7.out, Hk7.out, HB7.out, HZ7.out⟩
                case measure => simp [intOf]; omega
            · have dlt : decide ((i : Int) < (n : Int)) = false := decide_eq_false (by omega)
              obtain rfl : i = n := by omega
              obtain ⟨Af, cf, rfl⟩ := own_slice Own1.out
              go_wp2
              go_ret2
              exact ⟨Af, _, cf, rfl, hid (.inr ⟨rfl, bi, e, hbi, Hix2.out, rfl, rfl, own_base Own1.out HB0.out.size⟩), bthen HB0.out HBi.out (Nat.le_refl _)⟩
      · have hC0 := Bool.eq_false_iff.2 hC
        obtain rfl := Bad.out (fun h => hC (inB_t h.2.1))
        clear hC
        go_wp2_with ((with_reducible refine (Within_any _ _ _ _).mono ?_); rintro e w' ⟨rfl, rfl⟩)
        go_ret2
        exact ⟨none, 0, 0, rfl, hid (.inl ⟨by decide, rfl, rfl, rfl⟩), bthen HB0.out HB3.out (Nat.le_refl _)⟩
    · have hE0 := Bool.eq_false_iff.2 hE
      obtain rfl := Bad.out (fun h => hE (inB_t h.1))
      clear hE
      go_wp2_with ((with_reducible refine (Within_any _ _ _ _).mono ?_); rintro e w' ⟨rfl, rfl⟩)
      go_ret2
      exact ⟨none, 0, 0, rfl, hid (.inl ⟨by decide, rfl, rfl, rfl⟩), bthen HB0.out HB3.out (Nat.le_refl _)⟩

end Go.Proofs.Ytockfiobhmohnaa

