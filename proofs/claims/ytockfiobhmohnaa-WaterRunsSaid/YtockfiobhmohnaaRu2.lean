/- Networks: Until of the program. For every network, state, turns and target. -/
import Derived.Test.YtockfiobhmohnaaRu1
namespace Go.Proofs.Ytockfiobhmohnaa
open Go.RowKit Go.Maps Kb Wb

/-- The error of a target. -/
def UeR (N : Nd) (t : Int) (s : ByteArray) (E C r : Int) : Prop := (ixB N s < 0 ∧ r = 6) ∨ (0 ≤ ixB N s ∧ ((¬ ((-1000000 ≤ E ∧ E ≤ 1000000) ∧ lstB t C = true) ∧ r = 2) ∨ (((-1000000 ≤ E ∧ E ≤ 1000000) ∧ lstB t C = true) ∧ r = 0)))
theorem UeR.same {N : Nd} {t : Int} {s : ByteArray} {E C r q : Int} (h : UeR N t s E C r) (k : UeR N t s E C q) : r = q := by
  rcases h with ⟨h, rfl⟩ | ⟨h, ⟨h1, rfl⟩ | ⟨h1, rfl⟩⟩ <;> rcases k with ⟨k, rfl⟩ | ⟨k, ⟨k1, rfl⟩ | ⟨k1, rfl⟩⟩ <;> first | rfl | omega | exact absurd k1 h1 | exact absurd h1 k1
theorem UeR.exists (N : Nd) (t : Int) (s : ByteArray) (E C : Int) : ∃ r, UeR N t s E C r := by
  by_cases h : ixB N s < 0
  · exact ⟨6, .inl ⟨h, rfl⟩⟩
  · by_cases k : (-1000000 ≤ E ∧ E ≤ 1000000) ∧ lstB t C = true
    · exact ⟨0, .inr ⟨by omega, .inr ⟨k, rfl⟩⟩⟩
    · exact ⟨2, .inr ⟨by omega, .inl ⟨k, rfl⟩⟩⟩
/-- Whether a level is the target's. -/
def hitB (rs : Bool) (E l : Int) : Bool := match rs with | true => decide (E ≤ l) | false => decide (l ≤ E)
/-- k is the first minute that hits, or -1. -/
def UnR (N : Nd) (T : Tn) (W : Wd) (b : Nat) (E : Int) (rs : Bool) (n : Nat) (k : Int) : Prop :=
  (∃ j : Nat, j ≤ n ∧ (∀ i, i < j → hitB rs E (lvC N T W b 1 i) = false) ∧ hitB rs E (lvC N T W b 1 j) = true ∧ k = j) ∨ ((∀ i, i ≤ n → hitB rs E (lvC N T W b 1 i) = false) ∧ k = -1)
theorem UnR.same {N : Nd} {T : Tn} {W : Wd} {b : Nat} {E : Int} {rs : Bool} {n : Nat} {k q : Int} (h : UnR N T W b E rs n k) (l : UnR N T W b E rs n q) : k = q := by
  rcases h with ⟨j, hj, h1, h2, rfl⟩ | ⟨h1, rfl⟩ <;> rcases l with ⟨i, hi, l1, l2, rfl⟩ | ⟨l1, rfl⟩
  · rcases Nat.lt_trichotomy i j with e | e | e
    · rw [h1 i e] at l2; cases l2
    · subst e; rfl
    · rw [l1 j e] at h2; cases h2
  · rw [l1 j hj] at h2; cases h2
  · rw [h1 i hi] at l2; cases l2
  · rfl
/-- What Until answers: k, and the error r. -/
def UO (N : Nd) (T : Tn) (W : Wd) (s : ByteArray) (E C : Int) (rs : Bool) (r k f : Int) : Prop :=
  (r ≠ 0 ∧ k = 0 ∧ f = r) ∨ (r = 0 ∧ ∃ b n : Nat, b < N.n ∧ ixB N s = b ∧ C = n ∧ ((0 ≤ k ∧ f = 0 ∧ UnR N T W b E rs n k) ∨ (k = 0 ∧ f = 29 ∧ UnR N T W b E rs n (-1))))
theorem Bk.c4 {W : World} {g : Nat} {a b c d : Value} {T : TypeId} (h : Bk W g (.cells #[a, b, c, d] T (0, 0))) : W.cell? ⟨g, 0, none⟩ = some a ∧ W.cell? ⟨g, 1, none⟩ = some b ∧ W.cell? ⟨g, 2, none⟩ = some c ∧ W.cell? ⟨g, 3, none⟩ = some d := by
  have hh := fun i => cell_of_row W _ i _ _ _ h
  exact ⟨hh 0, hh 1, hh 2, hh 3⟩

set_option maxRecDepth 100000 in
set_option maxHeartbeats 8000000 in
theorem Until_err {w : World} {B0 B1 B2 u : Nat} {N : Nd} {W : Wd} {T : Tn} {P : Option Addr} {s : ByteArray} {E C : Int} {rs : Bool} {q : Int} (hq : Hid (Se N W T q)) (hq0 : q ≠ 0) (hT : Tl w B2 P T.p T.tm T.tl T.tp) (hp9 : T.p ≤ 9223372036854775807) (h : Nt w B0 N) (hs : Nsm N) (hw : Wt w B1 W) :
    Calls Try.prog 20 #[.agg #[.slice N.A N.n N.c, .slice N.M N.m N.d, .slice N.K N.k N.e], .agg #[.int .i64 W.min, .slice W.A W.n W.c, .slice W.M W.m W.d], .slice P T.p u, .agg #[.string s, .int .i64 E, .int .i64 C, .bool rs]] w fun e w' => e = .returned (.tuple #[.int .i64 0, .int .i64 q]) ∧ Below w.heap.size w w' := by
  have hqn : (q != 0) = true := by rw [bne_iff_ne]; exact hq0
  obtain ⟨g, hg⟩ : ∃ g, w.heap.size = g := ⟨_, rfl⟩
  have hb0 := (((Below.refl w.heap.size w).alloc (Nat.le_refl _) (.cells #[.slice N.A N.n N.c, .slice N.M N.m N.d, .slice N.K N.k N.e] 26)).alloc (by simp) (.cells #[.int .i64 W.min, .slice W.A W.n W.c, .slice W.M W.m W.d] 30)).alloc (by simp; omega) (.cells #[.string s, .int .i64 E, .int .i64 C, .bool rs] 58)
  have K1 := ((Nb.new h hg).below (alo (o := .cells #[.int .i64 W.min, .slice W.A W.n W.c, .slice W.M W.m W.d] 30))).below (alo (o := .cells #[.string s, .int .i64 E, .int .i64 C, .bool rs] 58))
  have V1 : Wx _ (g + 1) B1 W := ⟨(Bk.of_alloc (w.alloc (.cells #[.slice N.A N.n N.c, .slice N.M N.m N.d, .slice N.K N.k N.e] 26)) (.cells #[.int .i64 W.min, .slice W.A W.n W.c, .slice W.M W.m W.d] 30) (by simp [hg])).alloc (.cells #[.string s, .int .i64 E, .int .i64 C, .bool rs] 58), hw.below hb0⟩
  have R1 : Bk _ (g + 1 + 1) _ := Bk.of_alloc ((w.alloc (.cells #[.slice N.A N.n N.c, .slice N.M N.m N.d, .slice N.K N.k N.e] 26)).alloc (.cells #[.int .i64 W.min, .slice W.A W.n W.c, .slice W.M W.m W.d] 30)) (.cells #[.string s, .int .i64 E, .int .i64 C, .bool rs] 58) (by simp [hg])
  have T1 := hT.below hb0
  go_enter Try.func20, Try.ntmps20
  go_wp2_with fail
  generalize ((w.alloc (.cells #[.slice N.A N.n N.c, .slice N.M N.m N.d, .slice N.K N.k N.e] 26)).alloc (.cells #[.int .i64 W.min, .slice W.A W.n W.c, .slice W.M W.m W.d] 30)).alloc (.cells #[.string s, .int .i64 E, .int .i64 C, .bool rs] 58) = W0 at *
  have HB0 := hid hb0
  have HN1 := hid K1.a
  have HT1 := hid T1
  have Hbx := hid (fun (V : World) (hV : Below W0.heap.size W0 V) => (show Nb V g B0 N ∧ Bk V (g + 1 + 1) (.cells #[.string s, .int .i64 E, .int .i64 C, .bool rs] 58 (0, 0)) from ⟨K1.below hV, R1.step hV⟩))
  clear hb0 hg h hw R1 hT T1
  refine (newRun_err hq hq0 HT1.out hp9 K1.a hs V1.a).mono ?_
  rintro e w2 ⟨rfl, hb⟩
  have HB2 := hid (bthen HB0.out hb (Nat.le_refl _))
  clear hb hq0 K1 V1
  go_wp2
  go_ret2
  exact ⟨rfl, HB2.out⟩

set_option maxRecDepth 100000 in
set_option maxHeartbeats 8000000 in
theorem Until_uni {w : World} {B0 B1 B2 u : Nat} {N : Nd} {W : Wd} {T : Tn} {P : Option Addr} {s : ByteArray} {E C : Int} {rs : Bool} {r : Int} (hq : Hid (Se N W T 0)) (hr : Hid (UeR N W.min s E C r)) (hT : Tl w B2 P T.p T.tm T.tl T.tp) (hp9 : T.p ≤ 9223372036854775807) (h : Nt w B0 N) (hs : Nsm N) (hw : Wt w B1 W) :
    Calls Try.prog 20 #[.agg #[.slice N.A N.n N.c, .slice N.M N.m N.d, .slice N.K N.k N.e], .agg #[.int .i64 W.min, .slice W.A W.n W.c, .slice W.M W.m W.d], .slice P T.p u, .agg #[.string s, .int .i64 E, .int .i64 C, .bool rs]] w fun e w' => ∃ k f : Int, e = .returned (.tuple #[.int .i64 k, .int .i64 f]) ∧ Hid (UO N T W s E C rs r k f) ∧ Below w.heap.size w w' := by
  have HFit := hid hq.out.zero.1
  have Hte := hid hq.out.zero.2
  have Hs := hid hs
  have HFw := hid HFit.out.wp
  obtain ⟨g, hg⟩ : ∃ g, w.heap.size = g := ⟨_, rfl⟩
  have hb0 := (((Below.refl w.heap.size w).alloc (Nat.le_refl _) (.cells #[.slice N.A N.n N.c, .slice N.M N.m N.d, .slice N.K N.k N.e] 26)).alloc (by simp) (.cells #[.int .i64 W.min, .slice W.A W.n W.c, .slice W.M W.m W.d] 30)).alloc (by simp; omega) (.cells #[.string s, .int .i64 E, .int .i64 C, .bool rs] 58)
  have K1 := ((Nb.new h hg).below (alo (o := .cells #[.int .i64 W.min, .slice W.A W.n W.c, .slice W.M W.m W.d] 30))).below (alo (o := .cells #[.string s, .int .i64 E, .int .i64 C, .bool rs] 58))
  have V1 : Wx _ (g + 1) B1 W := ⟨(Bk.of_alloc (w.alloc (.cells #[.slice N.A N.n N.c, .slice N.M N.m N.d, .slice N.K N.k N.e] 26)) (.cells #[.int .i64 W.min, .slice W.A W.n W.c, .slice W.M W.m W.d] 30) (by simp [hg])).alloc (.cells #[.string s, .int .i64 E, .int .i64 C, .bool rs] 58), hw.below hb0⟩
  have R1 : Bk _ (g + 1 + 1) _ := Bk.of_alloc ((w.alloc (.cells #[.slice N.A N.n N.c, .slice N.M N.m N.d, .slice N.K N.k N.e] 26)).alloc (.cells #[.int .i64 W.min, .slice W.A W.n W.c, .slice W.M W.m W.d] 30)) (.cells #[.string s, .int .i64 E, .int .i64 C, .bool rs] 58) (by simp [hg])
  have T1 := hT.below hb0
  go_enter Try.func20, Try.ntmps20
  go_wp2_with fail
  generalize ((w.alloc (.cells #[.slice N.A N.n N.c, .slice N.M N.m N.d, .slice N.K N.k N.e] 26)).alloc (.cells #[.int .i64 W.min, .slice W.A W.n W.c, .slice W.M W.m W.d] 30)).alloc (.cells #[.string s, .int .i64 E, .int .i64 C, .bool rs] 58) = W0 at *
  have HB0 := hid hb0
  have HN1 := hid K1.a
  have HT1 := hid T1
  have Hbx := hid (fun (V : World) (hV : Below W0.heap.size W0 V) => (show Nb V g B0 N ∧ Bk V (g + 1 + 1) (.cells #[.string s, .int .i64 E, .int .i64 C, .bool rs] 58 (0, 0)) from ⟨K1.below hV, R1.step hV⟩))
  clear hb0 hg h hw R1 hT T1
  refine (newRun_ok hq HT1.out hp9 K1.a hs V1.a).mono ?_
  rintro e w2 ⟨gr, A, c, M, d, rfl, Rr, hb⟩
  have HB2 := hid hb
  clear hb K1 V1
  obtain ⟨K2, Q2⟩ := Hbx.out _ HB2.out
  obtain ⟨x0, x1, x2⟩ := K2.cells
  obtain ⟨q0, q1, q2, q3⟩ := Bk.c4 Q2
  obtain ⟨ix, hix⟩ : ∃ ix, ixB N s = ix := ⟨_, rfl⟩
  have HIX := hid (show Ixn N.n N.bnm s ix from hix ▸ ixB_is N s)
  have Hix := hid hix
  go_wp2_with fail
  refine (findBasin_is HIX K2.a hs).mono ?_
  rintro e w3 ⟨rfl, hb⟩
  have R3 := Rr.below hb
  have HB3 := hid (HB2.out.trans (hb.mono HB2.out.size))
  obtain ⟨K3, Q3⟩ := Hbx.out _ HB3.out
  clear hb Rr K2 Q2 x0 x1 x2 q0 q1 q2 q3 hix
  by_cases hneg : ix < 0
  · have dneg : decide (ix < 0) = true := decide_eq_true hneg
    obtain rfl : r = 6 := hr.out.same (.inl ⟨by rw [Hix.out]; exact hneg, rfl⟩)
    go_wp2
    go_ret2
    exact ⟨0, 6, rfl, hid (.inl ⟨by decide, rfl, rfl⟩), bthen HB0.out HB3.out (Nat.le_refl _)⟩
  · have dneg : decide (ix < 0) = false := decide_eq_false hneg
    have Hge := hid (show 0 ≤ ixB N s from by rw [Hix.out]; omega)
    obtain ⟨bi, hbi, rfl⟩ : ∃ bi : Nat, bi < N.n ∧ ix = bi := by
      rcases HIX.out with ⟨e, _⟩ | ⟨j, hj, _, _, e⟩
      · omega
      · exact ⟨j, hj, e⟩
    obtain ⟨q0, q1, q2, q3⟩ := Bk.c4 Q3
    have Bad := hid (fun (hne : ¬ ((-1000000 ≤ E ∧ E ≤ 1000000) ∧ lstB W.min C = true)) => (show r = 2 from hr.out.same (.inr ⟨Hge.out, .inl ⟨hne, rfl⟩⟩)))
    by_cases hE : inB E (-1000000) 1000000 = true
    · have hE' := inB_iff.1 hE
      go_wp2_with ((with_reducible refine (isLevel_any _ _).mono ?_); rintro e w' ⟨rfl, rfl⟩)
      refine (lasts_any R3 HFit.out.t0 HFit.out.t1 C).mono ?_
      rintro e w4 ⟨rfl, hb⟩
      have R4 := R3.below hb
      have HB4 := hid (HB3.out.trans (hb.mono HB3.out.size))
      obtain ⟨K4, Q4⟩ := Hbx.out _ HB4.out
      clear hb R3 K3 Q3 q0 q1 q2 q3
      cases hl : lstB W.min C
      case false =>
        obtain rfl := Bad.out (fun h => by rw [h.2] at hl; cases hl)
        clear hl
        go_wp2
        go_ret2
        exact ⟨0, 2, rfl, hid (.inl ⟨by decide, rfl, rfl⟩), bthen HB0.out HB4.out (Nat.le_refl _)⟩
      case true =>
        have hl' := lstB_iff.1 hl
        obtain rfl : r = 0 := hr.out.same (.inr ⟨Hge.out, .inr ⟨⟨hE', hl⟩, rfl⟩⟩)
        obtain ⟨n, rfl⟩ : ∃ n : Nat, C = n := ⟨C.toNat, by omega⟩
        have HM := hid (show ∀ i, i < n + 1 → W.min + (i : Int) ≤ 1000000 from fun i hi => by omega)
        have R4' := hid (show Rw w4 gr W0.heap.size N (W.min + ((0 - 1 : Nat) : Int)) A c M d (rnS N T W.min W.X W.Y (0 - 1)).1 (rnS N T W.min W.X W.Y (0 - 1)).2 P T.p u from by
          rw [show W.min + ((0 - 1 : Nat) : Int) = W.min by omega]
          exact R4)
        have Hix2 := Hix
        have hn : n ≤ 10000 := by omega
        have hw1 : IntKind.i64.wrap ((n : Int) + 1) = ((n + 1 : Nat) : Int) := by rw [IntWalk.i64_in _ (by omega)]; omega
        clear hl hl' R4 Hge Hix Bad hr hE hE' hneg
        obtain ⟨q0, q1, q2, q3⟩ := Bk.c4 Q4
        go_wp2_with fail
        clear q0 q1 q2 q3 K4 Q4
        go_loopw [45] (fun iv wr => ∃ i : Nat, i ≤ n + 1 ∧ iv = .int .i64 i ∧ Rw wr gr W0.heap.size N (W.min + ((i - 1 : Nat) : Int)) A c M d (rnS N T W.min W.X W.Y (i - 1)).1 (rnS N T W.min W.X W.Y (i - 1)).2 P T.p u ∧ (∀ j, j < i → hitB rs E (lvC N T W bi 1 j) = false) ∧ Below W0.heap.size W0 wr) (fun iv _ => (n + 1) - (intOf iv).toNat)
        case atStart => exact ⟨0, Nat.zero_le _, rfl, R4'.out, fun j hj => absurd hj (Nat.not_lt_zero _), HB4.out⟩
        case round =>
          obtain ⟨i, hi, rfl, Ri, hno, hbi2⟩ := hrel
          have HBi := hid hbi2
          have HNo := hid hno
          clear hbi2 hno R4' HB4
          obtain ⟨Ki, Qi⟩ := Hbx.out _ HBi.out
          by_cases hlt : i < n + 1
          · have dlt : decide ((i : Int) < (n : Int) + 1) = true := decide_eq_true (by omega)
            have dlt2 : decide ((i : Int) < ((n + 1 : Nat) : Int)) = true := decide_eq_true (by omega)
            obtain ⟨q0, q1, q2, q3⟩ := Bk.c4 Qi
            by_cases hip : 0 < i
            · have di0 : decide ((0 : Int) < (i : Int)) = true := decide_eq_true (by omega)
              have di1 : decide (0 < i) = true := decide_eq_true hip
              have HFi := hid (rnS_ok (T := T) HFw.out HN1.out (i - 1) (by have := HM.out i hlt; omega))
              go_wp2_with fail
              clear q0 q1 q2 q3 Ki Qi
              refine (minute_any Ri HN1 HT1 HBi Hs Hte HFi).mono ?_
              rintro e' w5 ⟨v, rfl, hown, R5, hb5, hf5, hz5⟩
              have R5p : Rw w5 gr W0.heap.size N (W.min + (i : Int)) A c M d (rnS N T W.min W.X W.Y i).1 (rnS N T W.min W.X W.Y i).2 P T.p u := by
                obtain ⟨j, rfl⟩ : ∃ j, i = j + 1 := ⟨i - 1, by omega⟩
                rw [Nat.add_sub_cancel] at R5
                rw [show W.min + ((j + 1 : Nat) : Int) = W.min + (j : Int) + 1 by omega]
                exact R5
              have HB5 := hid hb5
              clear hb5 hf5 hz5 R5 Ri HBi hown
              have HFl := hid (rnS_ok (T := T) HFw.out HN1.out i (HM.out i hlt))
              go_wp2_with fail
              refine (level_any R5p (HN1.out.below HB5.out) HFl Hs hbi).mono ?_
              rintro e6 w6 ⟨rfl, hb6⟩
              have R6 := R5p.below hb6
              have HB6 := hid (HB5.out.trans (hb6.mono HB5.out.size))
              have HLV := hid (show lvC N T W bi 1 i = lvB (N.b bi) ((rnS N T W.min W.X W.Y i).1 bi) from by unfold lvC; rw [Nat.mul_one])
              obtain ⟨lv, hlv⟩ : ∃ lv, lvB (N.b bi) ((rnS N T W.min W.X W.Y i).1 bi) = lv := ⟨_, rfl⟩
              rw [hlv] at HLV ⊢
              clear hb6 hlv HB5 R5p
              obtain ⟨-, Q6⟩ := Hbx.out _ HB6.out
              obtain ⟨q0, q1, q2, q3⟩ := Bk.c4 Q6
              clear Q6
              cases rs
              case true =>
                by_cases hh : E ≤ lv
                ·
                  have dh : decide (E ≤ lv) = true := decide_eq_true hh
                  have HH := hid (show UnR N T W bi E true n (i : Int) from .inl ⟨i, by omega, HNo.out, by rw [HLV.out]; exact dh, rfl⟩)
                  clear hh
                  go_wp2
                  go_ret2
                  exact ⟨_, _, rfl, hid (.inr ⟨rfl, bi, n, hbi, Hix2.out, rfl, .inl ⟨by omega, rfl, HH.out⟩⟩), bthen HB0.out HB6.out (Nat.le_refl _)⟩
                ·
                  have dh : decide (E ≤ lv) = false := decide_eq_false hh
                  have HH := hid (show hitB true E (lvC N T W bi 1 i) = false from by rw [HLV.out]; exact dh)
                  clear hh
                  go_wp2
                  go_roundw
                  case rel => exact ⟨i + 1, by omega, by go_num, by rw [Nat.add_sub_cancel]; exact R6, fun j hj => by
                    rcases Nat.lt_or_ge j i with h | h
                    · exact HNo.out j h
                    · have e : j = i := by omega
                      subst e
                      exact HH.out, HB6.out⟩
                  case measure => simp [intOf]; omega
              case false =>
                by_cases hh : lv ≤ E
                ·
                  have dh : decide (lv ≤ E) = true := decide_eq_true hh
                  have HH := hid (show UnR N T W bi E false n (i : Int) from .inl ⟨i, by omega, HNo.out, by rw [HLV.out]; exact dh, rfl⟩)
                  clear hh
                  go_wp2
                  go_ret2
                  exact ⟨_, _, rfl, hid (.inr ⟨rfl, bi, n, hbi, Hix2.out, rfl, .inl ⟨by omega, rfl, HH.out⟩⟩), bthen HB0.out HB6.out (Nat.le_refl _)⟩
                ·
                  have dh : decide (lv ≤ E) = false := decide_eq_false hh
                  have HH := hid (show hitB false E (lvC N T W bi 1 i) = false from by rw [HLV.out]; exact dh)
                  clear hh
                  go_wp2
                  go_roundw
                  case rel => exact ⟨i + 1, by omega, by go_num, by rw [Nat.add_sub_cancel]; exact R6, fun j hj => by
                    rcases Nat.lt_or_ge j i with h | h
                    · exact HNo.out j h
                    · have e : j = i := by omega
                      subst e
                      exact HH.out, HB6.out⟩
                  case measure => simp [intOf]; omega
            · have di0 : decide ((0 : Int) < (i : Int)) = false := decide_eq_false (by omega)
              have di1 : decide (0 < i) = false := decide_eq_false hip
              have R5 : Rw wr gr W0.heap.size N (W.min + (i : Int)) A c M d (rnS N T W.min W.X W.Y i).1 (rnS N T W.min W.X W.Y i).2 P T.p u := by
                have h := Ri
                have e0 : i = 0 := by omega
                rw [show i - 1 = i by omega] at h
                exact h
              clear Ri Ki Qi
              have HFl := hid (rnS_ok (T := T) HFw.out HN1.out i (HM.out i hlt))
              go_wp2_with fail
              refine (level_any R5 (HN1.out.below HBi.out) HFl Hs hbi).mono ?_
              rintro e6 w6 ⟨rfl, hb6⟩
              have R6 := R5.below hb6
              have HB6 := hid (HBi.out.trans (hb6.mono HBi.out.size))
              have HLV := hid (show lvC N T W bi 1 i = lvB (N.b bi) ((rnS N T W.min W.X W.Y i).1 bi) from by unfold lvC; rw [Nat.mul_one])
              obtain ⟨lv, hlv⟩ : ∃ lv, lvB (N.b bi) ((rnS N T W.min W.X W.Y i).1 bi) = lv := ⟨_, rfl⟩
              rw [hlv] at HLV ⊢
              clear hb6 hlv HBi R5
              obtain ⟨-, Q6⟩ := Hbx.out _ HB6.out
              obtain ⟨q0, q1, q2, q3⟩ := Bk.c4 Q6
              clear Q6
              cases rs
              case true =>
                by_cases hh : E ≤ lv
                ·
                  have dh : decide (E ≤ lv) = true := decide_eq_true hh
                  have HH := hid (show UnR N T W bi E true n (i : Int) from .inl ⟨i, by omega, HNo.out, by rw [HLV.out]; exact dh, rfl⟩)
                  clear hh
                  go_wp2
                  go_ret2
                  exact ⟨_, _, rfl, hid (.inr ⟨rfl, bi, n, hbi, Hix2.out, rfl, .inl ⟨by omega, rfl, HH.out⟩⟩), bthen HB0.out HB6.out (Nat.le_refl _)⟩
                ·
                  have dh : decide (E ≤ lv) = false := decide_eq_false hh
                  have HH := hid (show hitB true E (lvC N T W bi 1 i) = false from by rw [HLV.out]; exact dh)
                  clear hh
                  go_wp2
                  go_roundw
                  case rel => exact ⟨i + 1, by omega, by go_num, by rw [Nat.add_sub_cancel]; exact R6, fun j hj => by
                    rcases Nat.lt_or_ge j i with h | h
                    · exact HNo.out j h
                    · have e : j = i := by omega
                      subst e
                      exact HH.out, HB6.out⟩
                  case measure => simp [intOf]; omega
              case false =>
                by_cases hh : lv ≤ E
                ·
                  have dh : decide (lv ≤ E) = true := decide_eq_true hh
                  have HH := hid (show UnR N T W bi E false n (i : Int) from .inl ⟨i, by omega, HNo.out, by rw [HLV.out]; exact dh, rfl⟩)
                  clear hh
                  go_wp2
                  go_ret2
                  exact ⟨_, _, rfl, hid (.inr ⟨rfl, bi, n, hbi, Hix2.out, rfl, .inl ⟨by omega, rfl, HH.out⟩⟩), bthen HB0.out HB6.out (Nat.le_refl _)⟩
                ·
                  have dh : decide (lv ≤ E) = false := decide_eq_false hh
                  have HH := hid (show hitB false E (lvC N T W bi 1 i) = false from by rw [HLV.out]; exact dh)
                  clear hh
                  go_wp2
                  go_roundw
                  case rel => exact ⟨i + 1, by omega, by go_num, by rw [Nat.add_sub_cancel]; exact R6, fun j hj => by
                    rcases Nat.lt_or_ge j i with h | h
                    · exact HNo.out j h
                    · have e : j = i := by omega
                      subst e
                      exact HH.out, HB6.out⟩
                  case measure => simp [intOf]; omega
          · have dlt : decide ((i : Int) < (n : Int) + 1) = false := decide_eq_false (by omega)
            have dlt2 : decide ((i : Int) < ((n + 1 : Nat) : Int)) = false := decide_eq_false (by omega)
            have HH := hid (show UnR N T W bi E rs n (-1) from .inr ⟨fun j hj => HNo.out j (by omega), rfl⟩)
            go_wp2
            go_ret2
            exact ⟨0, 29, rfl, hid (.inr ⟨rfl, bi, n, hbi, Hix2.out, rfl, .inr ⟨rfl, rfl, HH.out⟩⟩), bthen HB0.out HBi.out (Nat.le_refl _)⟩
    · have hE0 := Bool.eq_false_iff.2 hE
      obtain rfl := Bad.out (fun h => hE (inB_t h.1))
      clear hE
      go_wp2_with ((with_reducible refine (isLevel_any _ _).mono ?_); rintro e w' ⟨rfl, rfl⟩)
      go_ret2
      exact ⟨0, 2, rfl, hid (.inl ⟨by decide, rfl, rfl⟩), bthen HB0.out HB3.out (Nat.le_refl _)⟩

end Go.Proofs.Ytockfiobhmohnaa

