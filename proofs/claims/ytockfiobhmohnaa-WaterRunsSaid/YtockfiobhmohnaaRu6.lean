/- The walk of WaterRuns. For every case, question and target. -/
import Derived.Test.YtockfiobhmohnaaRu5
import Derived.Test.YtockfiobhmohnaaRu3
import Derived.Test.YtockfiobhmohnaaRu2
namespace Go.Proofs.Ytockfiobhmohnaa
open Go.RowKit Go.Maps Kb Wb

/-- A case, a question, a target; the world they came from. -/
structure RnR (w0 w : World) (g B0 B1 B2 : Nat) (N : Nd) (W : Wd) (P : Option Addr) (T : Tn) (u : Nat) (s s2 : ByteArray) (E C L D : Int) (rs : Bool) : Prop where
  kc : Cw w g B0 B1 N W P T.p u
  tt : Tl w B2 P T.p T.tm T.tl T.tp
  q : Bk w (g + 1) (.cells #[.string s, .int .i64 E, .int .i64 C] 56 (0, 0))
  t : Bk w (g + 1 + 1) (.cells #[.string s2, .int .i64 L, .int .i64 D, .bool rs] 58 (0, 0))
  hb : Below w0.heap.size w0 w
theorem RnR.below {w0 w w' : World} {g B0 B1 B2 : Nat} {N : Nd} {W : Wd} {P : Option Addr} {T : Tn} {u : Nat} {s s2 : ByteArray} {E C L D : Int} {rs : Bool} (h : RnR w0 w g B0 B1 B2 N W P T u s s2 E C L D rs) (hb : Below w.heap.size w w') : RnR w0 w' g B0 B1 B2 N W P T u s s2 E C L D rs := ⟨h.kc.below hb, h.tt.below hb, h.q.step hb, h.t.step hb, bthen h.hb hb (Nat.le_refl _)⟩

/-- What Course answered. -/
def CY (w : World) (B : Nat) (N : Nd) (T : Tn) (W : Wd) (s : ByteArray) (E C r : Int) (A : Option Addr) (n : Nat) : Prop :=
  (r ≠ 0 ∧ n = 0) ∨ (r = 0 ∧ ∃ b e : Nat, b < N.n ∧ ixB N s = b ∧ E = e ∧ C = n ∧ Ys w B A n (lvC N T W b e))
theorem CY.of {w : World} {bs : Nat} {N : Nd} {T : Tn} {W : Wd} {s : ByteArray} {E C r : Int} {A : Option Addr} {n c : Nat} (h : CO w bs N T W s E C r A n c) : CY w w.heap.size N T W s E C r A n := by
  rcases h with ⟨h, -, h1, -⟩ | ⟨h, b, e, h1, h2, h3, h4, h5⟩
  · exact .inl ⟨h, h1⟩
  · exact .inr ⟨h, b, e, h1, h2, h3, h4, Ys.own h5⟩
theorem CY.below {w w' : World} {B : Nat} {N : Nd} {T : Tn} {W : Wd} {s : ByteArray} {E C r : Int} {A : Option Addr} {n : Nat} (h : CY w B N T W s E C r A n) (hb : Below w.heap.size w w') : CY w' B N T W s E C r A n := by
  rcases h with h | ⟨h, b, e, h1, h2, h3, h4, h5⟩
  · exact .inl h
  · exact .inr ⟨h, b, e, h1, h2, h3, h4, h5.below hb⟩
theorem CeR.min0 {N : Nd} {t : Int} {s : ByteArray} {e n : Nat} (h : CeR N t s (e : Int) (n : Int) 0) : e ≤ 1000 ∧ n ≤ 200 ∧ ∀ i, i < n → t + ((i * e : Nat) : Int) ≤ 1000000 := by
  rcases h with ⟨-, h⟩ | ⟨-, ⟨-, h⟩ | ⟨⟨h1, h2, h3, -⟩, -⟩⟩
  · cases h
  · cases h
  · refine ⟨by omega, by omega, fun i hi => ?_⟩
    have e1 : max ((n : Int) - 1) 0 = ((n - 1 : Nat) : Int) := by omega
    rw [e1, ← Int.natCast_mul] at h3
    have := Nat.mul_le_mul_right e (show i ≤ n - 1 by omega)
    omega
theorem UeR.min0 {N : Nd} {t : Int} {s : ByteArray} {E : Int} {n : Nat} (h : UeR N t s E (n : Int) 0) : t + n ≤ 1000000 := by
  rcases h with ⟨-, h⟩ | ⟨-, ⟨-, h⟩ | ⟨⟨-, h⟩, -⟩⟩
  · cases h
  · cases h
  · exact (lstB_iff.1 h).2
/-- No state. -/
def Wz : Wd := ⟨0, none, 0, 0, fun _ => 0, none, 0, 0, fun _ => false⟩
theorem Wt.zero (w : World) : Wt w w.heap.size Wz := ⟨fun i hi => absurd hi (Nat.not_lt_zero i), fun i hi => absurd hi (Nat.not_lt_zero i), Nat.le_refl _, Nat.le_refl _, Nat.zero_le _, Nat.le_refl _, Nat.zero_le _⟩

/-- A question or a target that is more than the law looks at. -/
def Big (s s2 : ByteArray) (E C D : Int) : Prop := 40 < (s.size : Int) ∨ 40 < (s2.size : Int) ∨ (10 < E ∧ E ≤ 1000) ∨ (6 < C ∧ C ≤ 200) ∨ (40 < D ∧ D ≤ 10000)

set_option maxRecDepth 100000 in
set_option maxHeartbeats 16000000 in
theorem runs_big {w : World} {B0 B1 B2 : Nat} {N : Nd} {W : Wd} {T : Tn} {P : Option Addr} {u : Nat} {s s2 : ByteArray} {E C L D : Int} {rs : Bool} (h : Nt w B0 N) (hw : Wt w B1 W) (hT : Tl w B2 P T.p T.tm T.tl T.tp) (hp9 : T.p ≤ 9223372036854775807) (hE : I64 E) (hC : I64 C) (hL : I64 L) (hD : I64 D)
    (hszl : ∀ i, i < N.k → (N.l i).nm.size < 9223372036854775808 ∧ (N.l i).fr.size < 9223372036854775808 ∧ (N.l i).tw.size < 9223372036854775808) (hsb : ∀ i, i < N.n → (N.b i).nm.size < 9223372036854775808) (hsz : ∀ i, i < T.p → (T.tl i).size < 9223372036854775808) (hcs : s.size < 9223372036854775808) (hts : s2.size < 9223372036854775808) (hbig : Big s s2 E C D) :
    Calls Try.prog 5 #[.agg #[.slice N.A N.n N.c, .slice N.M N.m N.d, .slice N.K N.k N.e, .int .i64 W.min, .slice W.A W.n W.c, .slice W.M W.m W.d, .slice P T.p u], .agg #[.string s, .int .i64 E, .int .i64 C], .agg #[.string s2, .int .i64 L, .int .i64 D, .bool rs]] w fun e w' => e = .returned (.bool true) ∧ Below w.heap.size w w' := by
  have HBG := hid hbig
  clear hbig
  have HE := hid hE
  have HCC := hid hC
  have HD0 := hid hD
  have HL0 := hid hL
  clear hE hC hD hL
  obtain ⟨g, hg⟩ : ∃ g, w.heap.size = g := ⟨_, rfl⟩
  have hb0 := alo (W := w) (o := .cells #[.slice N.A N.n N.c, .slice N.M N.m N.d, .slice N.K N.k N.e, .int .i64 W.min, .slice W.A W.n W.c, .slice W.M W.m W.d, .slice P T.p u] 33)
  have hb1 := alo (W := w.alloc (.cells #[.slice N.A N.n N.c, .slice N.M N.m N.d, .slice N.K N.k N.e, .int .i64 W.min, .slice W.A W.n W.c, .slice W.M W.m W.d, .slice P T.p u] 33)) (o := .cells #[.string s, .int .i64 E, .int .i64 C] 56)
  have hb2 := alo (W := (w.alloc (.cells #[.slice N.A N.n N.c, .slice N.M N.m N.d, .slice N.K N.k N.e, .int .i64 W.min, .slice W.A W.n W.c, .slice W.M W.m W.d, .slice P T.p u] 33)).alloc (.cells #[.string s, .int .i64 E, .int .i64 C] 56)) (o := .cells #[.string s2, .int .i64 L, .int .i64 D, .bool rs] 58)
  have K : Cw _ g B0 B1 N W P T.p u := ⟨Bk.of_alloc w (.cells #[.slice N.A N.n N.c, .slice N.M N.m N.d, .slice N.K N.k N.e, .int .i64 W.min, .slice W.A W.n W.c, .slice W.M W.m W.d, .slice P T.p u] 33) hg, h.below hb0, hw.below hb0⟩
  have TT := hT.below hb0
  replace K := (K.below hb1).below hb2
  replace TT := (TT.below hb1).below hb2
  have QX := (Bk.of_alloc (w.alloc (.cells #[.slice N.A N.n N.c, .slice N.M N.m N.d, .slice N.K N.k N.e, .int .i64 W.min, .slice W.A W.n W.c, .slice W.M W.m W.d, .slice P T.p u] 33)) (.cells #[.string s, .int .i64 E, .int .i64 C] 56) (show _ = g + 1 by simp [hg])).step hb2
  have TX := Bk.of_alloc ((w.alloc (.cells #[.slice N.A N.n N.c, .slice N.M N.m N.d, .slice N.K N.k N.e, .int .i64 W.min, .slice W.A W.n W.c, .slice W.M W.m W.d, .slice P T.p u] 33)).alloc (.cells #[.string s, .int .i64 E, .int .i64 C] 56)) (.cells #[.string s2, .int .i64 L, .int .i64 D, .bool rs] 58) (show _ = g + 1 + 1 by simp [hg])
  have HB := hid (bthen (bthen hb0 hb1 (Nat.le_refl _)) hb2 (Nat.le_refl _))
  clear h hw hT
  have Hsz := hid hsz
  have Hszl := hid hszl
  have Hsb := hid hsb
  have Hcs := hid hcs
  have Hts := hid hts
  clear hsz hszl hsb hcs hts hb0 hb1 hb2
  go_enter Try.func5, Try.ntmps5
  go_wp2_with fail
  have Hg := hid hg
  clear hg
  generalize ((w.alloc (.cells #[.slice N.A N.n N.c, .slice N.M N.m N.d, .slice N.K N.k N.e, .int .i64 W.min, .slice W.A W.n W.c, .slice W.M W.m W.d, .slice P T.p u] 33)).alloc (.cells #[.string s, .int .i64 E, .int .i64 C] 56)).alloc (.cells #[.string s2, .int .i64 L, .int .i64 D, .bool rs] 58) = W0 at *
  refine (awake_any _).mono ?_
  rintro e wc0 ⟨rfl, hb⟩
  replace K := K.below hb
  replace TT := TT.below hb
  replace QX := QX.step hb
  replace TX := TX.step hb
  replace HB := hid (bthen HB.out hb (Nat.le_refl _))
  clear hb
  obtain ⟨y0, y1, y2, y3, y4, y5, y6⟩ := K.cells
  go_wp2_with fail
  clear y0 y1 y2 y3 y4 y5 y6
  refine (Short_any K.n K.a TT hp9 Hszl.out Hsb.out Hsz.out).mono ?_
  rintro e w2 ⟨sh, rfl, hsh, hb⟩
  replace QX := QX.step hb
  replace TX := TX.step hb
  replace HB := hid (bthen HB.out hb (Nat.le_refl _))
  clear hb K TT hsh
  obtain ⟨q0, q1, q2⟩ := QX.c3
  obtain ⟨t0, t1, t2, t3⟩ := Bk.c4 TX
  clear QX TX
  cases sh
  case false =>
    go_wp2
    go_ret
    exact ⟨rfl, HB.out⟩
  case true =>
    by_cases h0a : 40 < (s.size : Int)
    · have d0a : decide (40 < (s.size : Int)) = true := decide_eq_true h0a
      go_wp2
      go_ret
      exact ⟨rfl, HB.out⟩
    · have d0a : decide (40 < (s.size : Int)) = false := decide_eq_false h0a
      by_cases h1a : 40 < (s2.size : Int)
      · have d1a : decide (40 < (s2.size : Int)) = true := decide_eq_true h1a
        go_wp2
        go_ret
        exact ⟨rfl, HB.out⟩
      · have d1a : decide (40 < (s2.size : Int)) = false := decide_eq_false h1a
        by_cases h2a : 10 < E
        · have d2a : decide (10 < E) = true := decide_eq_true h2a
          by_cases h2b : E ≤ 1000
          · have d2b : decide (E ≤ 1000) = true := decide_eq_true h2b
            go_wp2
            go_ret
            exact ⟨rfl, HB.out⟩
          · have d2b : decide (E ≤ 1000) = false := decide_eq_false h2b
            by_cases h3a : 6 < C
            · have d3a : decide (6 < C) = true := decide_eq_true h3a
              by_cases h3b : C ≤ 200
              · have d3b : decide (C ≤ 200) = true := decide_eq_true h3b
                go_wp2
                go_ret
                exact ⟨rfl, HB.out⟩
              · have d3b : decide (C ≤ 200) = false := decide_eq_false h3b
                by_cases h4a : 40 < D
                · have d4a : decide (40 < D) = true := decide_eq_true h4a
                  by_cases h4b : D ≤ 10000
                  · have d4b : decide (D ≤ 10000) = true := decide_eq_true h4b
                    go_wp2
                    go_ret
                    exact ⟨rfl, HB.out⟩
                  · have d4b : decide (D ≤ 10000) = false := decide_eq_false h4b
                    exfalso; have h := HBG.out; unfold Big at h; omega
                · have d4a : decide (40 < D) = false := decide_eq_false h4a
                  exfalso; have h := HBG.out; unfold Big at h; omega
            · have d3a : decide (6 < C) = false := decide_eq_false h3a
              by_cases h4a : 40 < D
              · have d4a : decide (40 < D) = true := decide_eq_true h4a
                by_cases h4b : D ≤ 10000
                · have d4b : decide (D ≤ 10000) = true := decide_eq_true h4b
                  go_wp2
                  go_ret
                  exact ⟨rfl, HB.out⟩
                · have d4b : decide (D ≤ 10000) = false := decide_eq_false h4b
                  exfalso; have h := HBG.out; unfold Big at h; omega
              · have d4a : decide (40 < D) = false := decide_eq_false h4a
                exfalso; have h := HBG.out; unfold Big at h; omega
        · have d2a : decide (10 < E) = false := decide_eq_false h2a
          by_cases h3a : 6 < C
          · have d3a : decide (6 < C) = true := decide_eq_true h3a
            by_cases h3b : C ≤ 200
            · have d3b : decide (C ≤ 200) = true := decide_eq_true h3b
              go_wp2
              go_ret
              exact ⟨rfl, HB.out⟩
            · have d3b : decide (C ≤ 200) = false := decide_eq_false h3b
              by_cases h4a : 40 < D
              · have d4a : decide (40 < D) = true := decide_eq_true h4a
                by_cases h4b : D ≤ 10000
                · have d4b : decide (D ≤ 10000) = true := decide_eq_true h4b
                  go_wp2
                  go_ret
                  exact ⟨rfl, HB.out⟩
                · have d4b : decide (D ≤ 10000) = false := decide_eq_false h4b
                  exfalso; have h := HBG.out; unfold Big at h; omega
              · have d4a : decide (40 < D) = false := decide_eq_false h4a
                exfalso; have h := HBG.out; unfold Big at h; omega
          · have d3a : decide (6 < C) = false := decide_eq_false h3a
            by_cases h4a : 40 < D
            · have d4a : decide (40 < D) = true := decide_eq_true h4a
              by_cases h4b : D ≤ 10000
              · have d4b : decide (D ≤ 10000) = true := decide_eq_true h4b
                go_wp2
                go_ret
                exact ⟨rfl, HB.out⟩
              · have d4b : decide (D ≤ 10000) = false := decide_eq_false h4b
                exfalso; have h := HBG.out; unfold Big at h; omega
            · have d4a : decide (40 < D) = false := decide_eq_false h4a
              exfalso; have h := HBG.out; unfold Big at h; omega


set_option maxRecDepth 100000 in
set_option maxHeartbeats 16000000 in
theorem runs_small {w : World} {B0 B1 B2 : Nat} {N : Nd} {W : Wd} {T : Tn} {P : Option Addr} {u : Nat} {s s2 : ByteArray} {E C L D : Int} {rs : Bool} (h : Nt w B0 N) (hw : Wt w B1 W) (hT : Tl w B2 P T.p T.tm T.tl T.tp) (hp9 : T.p ≤ 9223372036854775807) (hE : I64 E) (hC : I64 C) (hL : I64 L) (hD : I64 D)
    (hszl : ∀ i, i < N.k → (N.l i).nm.size < 9223372036854775808 ∧ (N.l i).fr.size < 9223372036854775808 ∧ (N.l i).tw.size < 9223372036854775808) (hsb : ∀ i, i < N.n → (N.b i).nm.size < 9223372036854775808) (hsz : ∀ i, i < T.p → (T.tl i).size < 9223372036854775808) (hcs : s.size < 9223372036854775808) (hts : s2.size < 9223372036854775808) (hbig : ¬ Big s s2 E C D) :
    Calls Try.prog 5 #[.agg #[.slice N.A N.n N.c, .slice N.M N.m N.d, .slice N.K N.k N.e, .int .i64 W.min, .slice W.A W.n W.c, .slice W.M W.m W.d, .slice P T.p u], .agg #[.string s, .int .i64 E, .int .i64 C], .agg #[.string s2, .int .i64 L, .int .i64 D, .bool rs]] w fun e w' => e = .returned (.bool true) ∧ Below w.heap.size w w' := by
  have HBG := hid hbig
  clear hbig
  have HE := hid hE
  have HCC := hid hC
  have HD0 := hid hD
  have HL0 := hid hL
  clear hE hC hD hL
  obtain ⟨g, hg⟩ : ∃ g, w.heap.size = g := ⟨_, rfl⟩
  have hb0 := alo (W := w) (o := .cells #[.slice N.A N.n N.c, .slice N.M N.m N.d, .slice N.K N.k N.e, .int .i64 W.min, .slice W.A W.n W.c, .slice W.M W.m W.d, .slice P T.p u] 33)
  have hb1 := alo (W := w.alloc (.cells #[.slice N.A N.n N.c, .slice N.M N.m N.d, .slice N.K N.k N.e, .int .i64 W.min, .slice W.A W.n W.c, .slice W.M W.m W.d, .slice P T.p u] 33)) (o := .cells #[.string s, .int .i64 E, .int .i64 C] 56)
  have hb2 := alo (W := (w.alloc (.cells #[.slice N.A N.n N.c, .slice N.M N.m N.d, .slice N.K N.k N.e, .int .i64 W.min, .slice W.A W.n W.c, .slice W.M W.m W.d, .slice P T.p u] 33)).alloc (.cells #[.string s, .int .i64 E, .int .i64 C] 56)) (o := .cells #[.string s2, .int .i64 L, .int .i64 D, .bool rs] 58)
  have K : Cw _ g B0 B1 N W P T.p u := ⟨Bk.of_alloc w (.cells #[.slice N.A N.n N.c, .slice N.M N.m N.d, .slice N.K N.k N.e, .int .i64 W.min, .slice W.A W.n W.c, .slice W.M W.m W.d, .slice P T.p u] 33) hg, h.below hb0, hw.below hb0⟩
  have TT := hT.below hb0
  replace K := (K.below hb1).below hb2
  replace TT := (TT.below hb1).below hb2
  have QX := (Bk.of_alloc (w.alloc (.cells #[.slice N.A N.n N.c, .slice N.M N.m N.d, .slice N.K N.k N.e, .int .i64 W.min, .slice W.A W.n W.c, .slice W.M W.m W.d, .slice P T.p u] 33)) (.cells #[.string s, .int .i64 E, .int .i64 C] 56) (show _ = g + 1 by simp [hg])).step hb2
  have TX := Bk.of_alloc ((w.alloc (.cells #[.slice N.A N.n N.c, .slice N.M N.m N.d, .slice N.K N.k N.e, .int .i64 W.min, .slice W.A W.n W.c, .slice W.M W.m W.d, .slice P T.p u] 33)).alloc (.cells #[.string s, .int .i64 E, .int .i64 C] 56)) (.cells #[.string s2, .int .i64 L, .int .i64 D, .bool rs] 58) (show _ = g + 1 + 1 by simp [hg])
  have HB := hid (bthen (bthen hb0 hb1 (Nat.le_refl _)) hb2 (Nat.le_refl _))
  clear h hw hT
  have Hsz := hid hsz
  have Hszl := hid hszl
  have Hsb := hid hsb
  have Hcs := hid hcs
  have Hts := hid hts
  clear hsz hszl hsb hcs hts hb0 hb1 hb2
  go_enter Try.func5, Try.ntmps5
  go_wp2_with fail
  have Hg := hid hg
  clear hg
  generalize ((w.alloc (.cells #[.slice N.A N.n N.c, .slice N.M N.m N.d, .slice N.K N.k N.e, .int .i64 W.min, .slice W.A W.n W.c, .slice W.M W.m W.d, .slice P T.p u] 33)).alloc (.cells #[.string s, .int .i64 E, .int .i64 C] 56)).alloc (.cells #[.string s2, .int .i64 L, .int .i64 D, .bool rs] 58) = W0 at *
  refine (awake_any _).mono ?_
  rintro e wc0 ⟨rfl, hb⟩
  replace K := K.below hb
  replace TT := TT.below hb
  replace QX := QX.step hb
  replace TX := TX.step hb
  replace HB := hid (bthen HB.out hb (Nat.le_refl _))
  clear hb
  go_upto_region 3 with fail

  go_cut [67] (fun s67 wx => ∃ b : Bool, s67 = .bool b ∧ RnR w wx g B0 B1 B2 N W P T u s s2 E C L D rs ∧ Hid (b = false → Css N W T.p T.tl))
  case first =>
    obtain ⟨y0, y1, y2, y3, y4, y5, y6⟩ := K.cells
    obtain ⟨q0, q1, q2⟩ := QX.c3
    obtain ⟨t0, t1, t2, t3⟩ := Bk.c4 TX
    go_wp2_with fail
    clear y0 y1 y2 y3 y4 y5 y6 q0 q1 q2 t0 t1 t2 t3
    refine (Short_any K.n K.a TT hp9 Hszl.out Hsb.out Hsz.out).mono ?_
    rintro e w2 ⟨sh, rfl, hsh, hb⟩
    replace K := K.below hb
    replace TT := TT.below hb
    replace QX := QX.step hb
    replace TX := TX.step hb
    replace HB := hid (bthen HB.out hb (Nat.le_refl _))
    have HRN := hid (RnR.mk (u := u) (s := s) (s2 := s2) (E := E) (C := C) (L := L) (D := D) (rs := rs) K TT QX TX HB.out)
    clear hb
    obtain ⟨q0, q1, q2⟩ := QX.c3
    obtain ⟨t0, t1, t2, t3⟩ := Bk.c4 TX
    clear K TT QX TX HB
    cases sh
    case false =>
      clear hsh
      go_wp2
      go_meet
      case rel => exact ⟨true, rfl, HRN.out, hid (fun h => by cases h)⟩
    case true =>
      have HC := hid (hsh.out rfl)
      clear hsh
      by_cases h0a : 40 < (s.size : Int)
      · have d0a : decide (40 < (s.size : Int)) = true := decide_eq_true h0a
        exfalso; have h := HBG.out; unfold Big at h; omega
      · have d0a : decide (40 < (s.size : Int)) = false := decide_eq_false h0a
        by_cases h1a : 40 < (s2.size : Int)
        · have d1a : decide (40 < (s2.size : Int)) = true := decide_eq_true h1a
          exfalso; have h := HBG.out; unfold Big at h; omega
        · have d1a : decide (40 < (s2.size : Int)) = false := decide_eq_false h1a
          by_cases h2a : 10 < E
          · have d2a : decide (10 < E) = true := decide_eq_true h2a
            by_cases h2b : E ≤ 1000
            · have d2b : decide (E ≤ 1000) = true := decide_eq_true h2b
              exfalso; have h := HBG.out; unfold Big at h; omega
            · have d2b : decide (E ≤ 1000) = false := decide_eq_false h2b
              by_cases h3a : 6 < C
              · have d3a : decide (6 < C) = true := decide_eq_true h3a
                by_cases h3b : C ≤ 200
                · have d3b : decide (C ≤ 200) = true := decide_eq_true h3b
                  exfalso; have h := HBG.out; unfold Big at h; omega
                · have d3b : decide (C ≤ 200) = false := decide_eq_false h3b
                  by_cases h4a : 40 < D
                  · have d4a : decide (40 < D) = true := decide_eq_true h4a
                    by_cases h4b : D ≤ 10000
                    · have d4b : decide (D ≤ 10000) = true := decide_eq_true h4b
                      exfalso; have h := HBG.out; unfold Big at h; omega
                    · have d4b : decide (D ≤ 10000) = false := decide_eq_false h4b
                      go_wp2
                      go_meet
                      case rel => exact ⟨false, rfl, HRN.out, hid (fun _ => HC.out)⟩
                  · have d4a : decide (40 < D) = false := decide_eq_false h4a
                    go_wp2
                    go_meet
                    case rel => exact ⟨false, rfl, HRN.out, hid (fun _ => HC.out)⟩
              · have d3a : decide (6 < C) = false := decide_eq_false h3a
                by_cases h4a : 40 < D
                · have d4a : decide (40 < D) = true := decide_eq_true h4a
                  by_cases h4b : D ≤ 10000
                  · have d4b : decide (D ≤ 10000) = true := decide_eq_true h4b
                    exfalso; have h := HBG.out; unfold Big at h; omega
                  · have d4b : decide (D ≤ 10000) = false := decide_eq_false h4b
                    go_wp2
                    go_meet
                    case rel => exact ⟨false, rfl, HRN.out, hid (fun _ => HC.out)⟩
                · have d4a : decide (40 < D) = false := decide_eq_false h4a
                  go_wp2
                  go_meet
                  case rel => exact ⟨false, rfl, HRN.out, hid (fun _ => HC.out)⟩
          · have d2a : decide (10 < E) = false := decide_eq_false h2a
            by_cases h3a : 6 < C
            · have d3a : decide (6 < C) = true := decide_eq_true h3a
              by_cases h3b : C ≤ 200
              · have d3b : decide (C ≤ 200) = true := decide_eq_true h3b
                exfalso; have h := HBG.out; unfold Big at h; omega
              · have d3b : decide (C ≤ 200) = false := decide_eq_false h3b
                by_cases h4a : 40 < D
                · have d4a : decide (40 < D) = true := decide_eq_true h4a
                  by_cases h4b : D ≤ 10000
                  · have d4b : decide (D ≤ 10000) = true := decide_eq_true h4b
                    exfalso; have h := HBG.out; unfold Big at h; omega
                  · have d4b : decide (D ≤ 10000) = false := decide_eq_false h4b
                    go_wp2
                    go_meet
                    case rel => exact ⟨false, rfl, HRN.out, hid (fun _ => HC.out)⟩
                · have d4a : decide (40 < D) = false := decide_eq_false h4a
                  go_wp2
                  go_meet
                  case rel => exact ⟨false, rfl, HRN.out, hid (fun _ => HC.out)⟩
            · have d3a : decide (6 < C) = false := decide_eq_false h3a
              by_cases h4a : 40 < D
              · have d4a : decide (40 < D) = true := decide_eq_true h4a
                by_cases h4b : D ≤ 10000
                · have d4b : decide (D ≤ 10000) = true := decide_eq_true h4b
                  exfalso; have h := HBG.out; unfold Big at h; omega
                · have d4b : decide (D ≤ 10000) = false := decide_eq_false h4b
                  go_wp2
                  go_meet
                  case rel => exact ⟨false, rfl, HRN.out, hid (fun _ => HC.out)⟩
              · have d4a : decide (40 < D) = false := decide_eq_false h4a
                go_wp2
                go_meet
                case rel => exact ⟨false, rfl, HRN.out, hid (fun _ => HC.out)⟩
  case rest =>
    obtain ⟨b, rfl, hrn, hcs⟩ := hcut
    cases b
    case true =>
      have HB9 := hid hrn.hb
      clear hrn hcs
      go_wp2
      go_ret
      exact ⟨rfl, HB9.out⟩
    case false =>
      have HC := hid (hcs.out rfl)
      obtain ⟨K, TT, QX, TX, hB⟩ := hrn
      have HB := hid hB
      clear hB hcs
      have Hs := hid HC.out.s.sm
      obtain ⟨s', hs0⟩ := Se.exists N W T
      have Hse := hid hs0
      clear hs0
      obtain ⟨y0, y1, y2, y3, y4, y5, y6⟩ := K.cells
      obtain ⟨q0, q1, q2⟩ := QX.c3
      go_wp2_with fail
      clear y0 y1 y2 y3 y4 y5 y6
      clear q0 q1 q2
      by_cases hse : s' = 0
      rotate_left
      · refine (Course_err Hse hse TT hp9 K.n Hs.out K.a).mono ?_
        rintro e w3 ⟨rfl, hb⟩
        replace K := K.below hb
        replace TT := TT.below hb
        replace QX := QX.step hb
        replace TX := TX.step hb
        replace HB := hid (bthen HB.out hb (Nat.le_refl _))
        clear hb
        obtain ⟨y0, y1, y2, y3, y4, y5, y6⟩ := K.cells
        obtain ⟨t0, t1, t2, t3⟩ := Bk.c4 TX
        go_wp2_with fail
        clear y0 y1 y2 y3 y4 y5 y6
        clear t0 t1 t2 t3
        refine (Until_err Hse hse TT hp9 K.n Hs.out K.a).mono ?_
        rintro e w4 ⟨rfl, hb⟩
        replace K := K.below hb
        replace TT := TT.below hb
        replace QX := QX.step hb
        replace TX := TX.step hb
        replace HB := hid (bthen HB.out hb (Nat.le_refl _))
        clear hb
        obtain ⟨y0, y1, y2, y3, y4, y5, y6⟩ := K.cells
        go_wp2_with fail
        clear y0 y1 y2 y3 y4 y5 y6
        refine (rStarted_any TT hp9 K.n Hs.out K.a).mono ?_
        rintro e w5 ⟨s'', rfl, hs', hb⟩
        obtain rfl := Hse.out.same hs'.out
        replace K := K.below hb
        replace TT := TT.below hb
        replace QX := QX.step hb
        replace TX := TX.step hb
        replace HB := hid (bthen HB.out hb (Nat.le_refl _))
        clear hb
        clear hs' K TT QX TX
        have dq2 : (s' != 0) = true := by rw [bne_iff_ne]; exact hse
        have dqe : (s' == s') = true := by rw [beq_iff_eq]
        clear hse
        go_wp2
        go_ret
        exact ⟨rfl, HB.out⟩
      · subst hse
        have HF := hid Hse.out.zero.1
        have Hte := hid Hse.out.zero.2
        have T0 := hid HF.out.t0
        have T1 := hid HF.out.t1
        obtain ⟨r, hr0⟩ := CeR.exists N W.min s E C
        have Hr := hid hr0
        obtain ⟨ru, hr1⟩ := UeR.exists N W.min s2 L D
        have Hru := hid hr1
        clear hr0 hr1
        refine (Course_uni Hse Hr TT hp9 K.n Hs.out K.a).mono ?_
        rintro e w3 ⟨A, n, c, rfl, hco, hb⟩
        have HCY := hid (CY.of hco.out)
        clear hco
        replace K := K.below hb
        replace TT := TT.below hb
        replace QX := QX.step hb
        replace TX := TX.step hb
        replace HB := hid (bthen HB.out hb (Nat.le_refl _))
        clear hb
        obtain ⟨y0, y1, y2, y3, y4, y5, y6⟩ := K.cells
        obtain ⟨t0, t1, t2, t3⟩ := Bk.c4 TX
        go_wp2_with fail
        clear y0 y1 y2 y3 y4 y5 y6
        clear t0 t1 t2 t3
        refine (Until_uni Hse Hru TT hp9 K.n Hs.out K.a).mono ?_
        rintro e w4 ⟨k, f, rfl, HUO, hb⟩
        replace K := K.below hb
        replace TT := TT.below hb
        replace QX := QX.step hb
        replace TX := TX.step hb
        replace HCY := hid (HCY.out.below hb)
        replace HB := hid (bthen HB.out hb (Nat.le_refl _))
        clear hb
        obtain ⟨y0, y1, y2, y3, y4, y5, y6⟩ := K.cells
        go_wp2_with fail
        clear y0 y1 y2 y3 y4 y5 y6
        refine (rStarted_any TT hp9 K.n Hs.out K.a).mono ?_
        rintro e w5 ⟨s'', rfl, hs', hb⟩
        obtain rfl := Hse.out.same hs'.out
        replace K := K.below hb
        replace TT := TT.below hb
        replace QX := QX.step hb
        replace TX := TX.step hb
        replace HCY := hid (HCY.out.below hb)
        replace HB := hid (bthen HB.out hb (Nat.le_refl _))
        clear hb
        clear hs'
        obtain ⟨y0, y1, y2, y3, y4, y5, y6⟩ := K.cells
        obtain ⟨q0, q1, q2⟩ := QX.c3
        go_wp2_with fail
        clear y0 y1 y2 y3 y4 y5 y6
        clear q0 q1 q2
        refine (CheckCourse_is Hr T0.out T1.out HE.out HCC.out K.n Hs.out).mono ?_
        rintro e w6 ⟨rfl, hb⟩
        replace K := K.below hb
        replace TT := TT.below hb
        replace QX := QX.step hb
        replace TX := TX.step hb
        replace HCY := hid (HCY.out.below hb)
        replace HB := hid (bthen HB.out hb (Nat.le_refl _))
        clear hb
        rcases HCY.out with ⟨hr0, rfl⟩ | ⟨rfl, b, e, hbn, hix, rfl, rfl, hys⟩
        · have dr : (r != 0) = true := by rw [bne_iff_ne]; exact hr0
          have drr : (r != r) = false := by rw [bne_eq_false_iff_eq]
          clear hr0 HCY Hr
          obtain ⟨y0, y1, y2, y3, y4, y5, y6⟩ := K.cells
          obtain ⟨t0, t1, t2, t3⟩ := Bk.c4 TX
          go_wp2_with fail
          clear y0 y1 y2 y3 y4 y5 y6
          clear t0 t1 t2 t3
          refine (CheckTarget_is Hru T0.out T1.out HL0.out HD0.out K.n Hs.out).mono ?_
          rintro e wt ⟨rfl, hb⟩
          replace K := K.below hb
          replace TT := TT.below hb
          replace QX := QX.step hb
          replace TX := TX.step hb
          replace HB := hid (bthen HB.out hb (Nat.le_refl _))
          clear hb
          rcases HUO.out with ⟨hu0, rfl, rfl⟩ | ⟨rfl, b2, n2, hb2, hix2, rfl, hun⟩
          · have du : (f != 0) = true := by rw [bne_iff_ne]; exact hu0
            have due : (f == f) = true := by rw [beq_iff_eq]
            clear hu0 HUO Hru K TT QX TX
            go_wp2
            go_ret
            exact ⟨rfl, HB.out⟩
          · have HUN := hid hun
            have Hix2 := hid (show Ixn N.n N.bnm s2 b2 from hix2 ▸ ixB_is N s2)
            have HK2 := hid (UeR.min0 Hru.out)
            clear hun hix2 HUO
            obtain ⟨y0, y1, y2, y3, y4, y5, y6⟩ := K.cells
            obtain ⟨t0, t1, t2, t3⟩ := Bk.c4 TX
            go_wp2_with fail
            clear y0 y1 y2 y3 y4 y5 y6
            clear t0 t1 t2 t3
            refine (rUntil_any n2 b2 hb2 Hix2 HF Hs Hte K.n K.a TT HK2.out).mono ?_
            rintro e wu ⟨k2, rfl, hk2, hb⟩
            replace HB := hid (bthen HB.out hb (Nat.le_refl _))
            clear hb K TT QX TX
            rcases HUN.out with ⟨hk0, rfl, hu⟩ | ⟨rfl, rfl, hu⟩
            · obtain rfl := hk2.out.same hu
              have dk : decide (k2 < 0) = false := decide_eq_false (by omega)
              have dke : (k2 == k2) = true := by rw [beq_iff_eq]
              clear hu hk2 hk0 HUN
              go_wp2
              go_ret
              exact ⟨rfl, HB.out⟩
            · obtain rfl := hk2.out.same hu
              clear hu hk2 HUN
              go_wp2
              go_ret
              exact ⟨rfl, HB.out⟩
        · have Hix := hid (show Ixn N.n N.bnm s b from hix ▸ ixB_is N s)
          have HKC := hid (CeR.min0 Hr.out)
          have Hbn := hid hbn
          clear hix HCY hbn
          obtain ⟨y0, y1, y2, y3, y4, y5, y6⟩ := K.cells
          obtain ⟨q0, q1, q2⟩ := QX.c3
          go_wp2_with fail
          clear y0 y1 y2 y3 y4 y5 y6
          clear q0 q1 q2
          refine (rCourse_any n e b Hbn.out Hix HF Hs Hte K.n K.a TT HKC.out.2.1 HKC.out.2.2).mono ?_
          rintro e' w7 ⟨A7, c7, rfl, h7, hb⟩
          replace K := K.below hb
          replace TT := TT.below hb
          replace QX := QX.step hb
          replace TX := TX.step hb
          replace hys := hys.below hb
          replace HB := hid (bthen HB.out hb (Nat.le_refl _))
          clear hb
          have Y7 := Ys.own h7
          clear h7
          go_wp2_with fail
          refine (Ints_true hys Y7 (by have := HKC.out.2.1; omega)).mono ?_
          rintro e' w8 ⟨rfl, hb⟩
          clear hys Y7
          replace K := K.below hb
          replace TT := TT.below hb
          replace QX := QX.step hb
          replace TX := TX.step hb
          replace HB := hid (bthen HB.out hb (Nat.le_refl _))
          clear hb
          obtain ⟨y0, y1, y2, y3, y4, y5, y6⟩ := K.cells
          obtain ⟨q0, q1, q2⟩ := QX.c3
          go_wp2_with fail
          clear y0 y1 y2 y3 y4 y5 y6
          clear q0 q1 q2
          refine (Run_uni (e : Int) Hse TT hp9 K.n Hs K.a).mono ?_
          rintro e' w9 ⟨g1, t1, A1, n1, c1, M1, k1, d1, rfl, hro, hb⟩
          replace K := K.below hb
          replace TT := TT.below hb
          replace QX := QX.step hb
          replace TX := TX.step hb
          replace HB := hid (bthen HB.out hb (Nat.le_refl _))
          clear hb
          rcases hro.out with ⟨hor, rfl, rfl, rfl, rfl, rfl, rfl, rfl⟩ | ⟨-, rfl, rfl, rfl, j, hj, hj1, hj2, rfl, h4, h5⟩
          · have hg1 : g1 = 2 := by rcases hor with ⟨h, -⟩ | ⟨-, h, -⟩; exact absurd rfl h; exact h
            subst hg1
            clear hro hor
            have WZ := Wt.zero w9
            have hb := alo (W := w9) (o := .cells #[.int .i64 0, .slice none 0 0, .slice none 0 0] 30)
            have BF := Bk.of_alloc w9 (.cells #[.int .i64 0, .slice none 0 0, .slice none 0 0] 30) rfl
            replace K := K.below hb
            replace TT := TT.below hb
            replace QX := QX.step hb
            replace TX := TX.step hb
            replace WZ := WZ.below hb
            replace HB := hid (bthen HB.out hb (Nat.le_refl _))
            clear hb
            obtain ⟨y0, y1, y2, y3, y4, y5, y6⟩ := K.cells
            obtain ⟨q0, q1, q2⟩ := QX.c3
            obtain ⟨z0, z1, z2⟩ := BF.c3
            go_wp2_with fail
            clear y0 y1 y2 y3 y4 y5 y6
            clear q0 q1 q2
            clear z0 z1 z2 BF
            obtain ⟨qz, hqz⟩ := Se.exists N Wz T
            refine (Run_uni (W := Wz) (e : Int) (hid hqz) TT hp9 K.n Hs WZ).mono ?_
            rintro e' wa ⟨g2, t2, A2, n2, c2, M2, k2, d2, rfl, hro, hb⟩
            clear hro hqz WZ
            replace K := K.below hb
            replace TT := TT.below hb
            replace QX := QX.step hb
            replace TX := TX.step hb
            replace HB := hid (bthen HB.out hb (Nat.le_refl _))
            clear hb
            have hb := alo (W := wa) (o := .cells #[.int .i64 t2, .slice A2 n2 c2, .slice M2 k2 d2] 30)
            have BS := Bk.of_alloc wa (.cells #[.int .i64 t2, .slice A2 n2 c2, .slice M2 k2 d2] 30) rfl
            replace K := K.below hb
            replace TT := TT.below hb
            replace QX := QX.step hb
            replace TX := TX.step hb
            replace HB := hid (bthen HB.out hb (Nat.le_refl _))
            clear hb
            clear BS
            obtain ⟨y0, y1, y2, y3, y4, y5, y6⟩ := K.cells
            obtain ⟨q0, q1, q2⟩ := QX.c3
            go_wp2_with fail
            clear y0 y1 y2 y3 y4 y5 y6
            clear q0 q1 q2
            have d2e := HKC.out.1
            have hw2 : wrap64 (2 * (e : Int)) = 2 * (e : Int) := IntWalk.wrap64_in _ (by omega)
            rw [hw2]
            refine (Run_uni (2 * (e : Int)) Hse TT hp9 K.n Hs K.a).mono ?_
            rintro e' wb ⟨g3, t3, A3, n3, c3, M3, k3, d3, rfl, hro, hb⟩
            clear hro d2e hw2
            replace K := K.below hb
            replace TT := TT.below hb
            replace QX := QX.step hb
            replace TX := TX.step hb
            replace HB := hid (bthen HB.out hb (Nat.le_refl _))
            clear hb
            have hb := alo (W := wb) (o := .cells #[.int .i64 t3, .slice A3 n3 c3, .slice M3 k3 d3] 30)
            have BB := Bk.of_alloc wb (.cells #[.int .i64 t3, .slice A3 n3 c3, .slice M3 k3 d3] 30) rfl
            replace K := K.below hb
            replace TT := TT.below hb
            replace QX := QX.step hb
            replace TX := TX.step hb
            replace HB := hid (bthen HB.out hb (Nat.le_refl _))
            clear hb
            clear BB
            obtain ⟨y0, y1, y2, y3, y4, y5, y6⟩ := K.cells
            obtain ⟨t0, t1, t2, t3⟩ := Bk.c4 TX
            go_wp2_with fail
            clear y0 y1 y2 y3 y4 y5 y6
            clear t0 t1 t2 t3
            refine (CheckTarget_is Hru T0.out T1.out HL0.out HD0.out K.n Hs.out).mono ?_
            rintro e wt ⟨rfl, hb⟩
            replace K := K.below hb
            replace TT := TT.below hb
            replace QX := QX.step hb
            replace TX := TX.step hb
            replace HB := hid (bthen HB.out hb (Nat.le_refl _))
            clear hb
            rcases HUO.out with ⟨hu0, rfl, rfl⟩ | ⟨rfl, b2, n2, hb2, hix2, rfl, hun⟩
            · have du : (f != 0) = true := by rw [bne_iff_ne]; exact hu0
              have due : (f == f) = true := by rw [beq_iff_eq]
              clear hu0 HUO Hru K TT QX TX
              go_wp2
              go_ret
              exact ⟨rfl, HB.out⟩
            · have HUN := hid hun
              have Hix2 := hid (show Ixn N.n N.bnm s2 b2 from hix2 ▸ ixB_is N s2)
              have HK2 := hid (UeR.min0 Hru.out)
              clear hun hix2 HUO
              obtain ⟨y0, y1, y2, y3, y4, y5, y6⟩ := K.cells
              obtain ⟨t0, t1, t2, t3⟩ := Bk.c4 TX
              go_wp2_with fail
              clear y0 y1 y2 y3 y4 y5 y6
              clear t0 t1 t2 t3
              refine (rUntil_any n2 b2 hb2 Hix2 HF Hs Hte K.n K.a TT HK2.out).mono ?_
              rintro e wu ⟨k2, rfl, hk2, hb⟩
              replace HB := hid (bthen HB.out hb (Nat.le_refl _))
              clear hb K TT QX TX
              rcases HUN.out with ⟨hk0, rfl, hu⟩ | ⟨rfl, rfl, hu⟩
              · obtain rfl := hk2.out.same hu
                have dk : decide (k2 < 0) = false := decide_eq_false (by omega)
                have dke : (k2 == k2) = true := by rw [beq_iff_eq]
                clear hu hk2 hk0 HUN
                go_wp2
                go_ret
                exact ⟨rfl, HB.out⟩
              · obtain rfl := hk2.out.same hu
                clear hu hk2 HUN
                go_wp2
                go_ret
                exact ⟨rfl, HB.out⟩
          · obtain rfl : e = j := by omega
            clear hj hj1
            have WT1 := Wt.of_own (t := W.min + (e : Int)) h4 h5
            have HV := hid hj2
            clear h4 h5 hro hj2
            have hb := alo (W := w9) (o := .cells #[.int .i64 (W.min + (e : Int)), .slice A1 N.n c1, .slice M1 N.k d1] 30)
            have BF := Bk.of_alloc w9 (.cells #[.int .i64 (W.min + (e : Int)), .slice A1 N.n c1, .slice M1 N.k d1] 30) rfl
            replace K := K.below hb
            replace TT := TT.below hb
            replace QX := QX.step hb
            replace TX := TX.step hb
            replace WT1 := WT1.below hb
            replace HB := hid (bthen HB.out hb (Nat.le_refl _))
            clear hb
            obtain ⟨y0, y1, y2, y3, y4, y5, y6⟩ := K.cells
            obtain ⟨q0, q1, q2⟩ := QX.c3
            obtain ⟨z0, z1, z2⟩ := BF.c3
            go_wp2_with fail
            clear y0 y1 y2 y3 y4 y5 y6
            clear q0 q1 q2
            clear z0 z1 z2 BF
            obtain ⟨qz, hqz⟩ := Se.exists N (Wr N (W.min + (e : Int)) A1 c1 M1 d1 (rnS N T W.min W.X W.Y e).1 (rnS N T W.min W.X W.Y e).2) T
            refine (Run_uni (W := (Wr N (W.min + (e : Int)) A1 c1 M1 d1 (rnS N T W.min W.X W.Y e).1 (rnS N T W.min W.X W.Y e).2)) (e : Int) (hid hqz) TT hp9 K.n Hs WT1).mono ?_
            rintro e' wa ⟨g2, t2, A2, n2, c2, M2, k2, d2, rfl, hro, hb⟩
            have HR2 := hid hro.out
            clear hro hqz WT1
            replace K := K.below hb
            replace TT := TT.below hb
            replace QX := QX.step hb
            replace TX := TX.step hb
            replace HB := hid (bthen HB.out hb (Nat.le_refl _))
            clear hb
            have hb := alo (W := wa) (o := .cells #[.int .i64 t2, .slice A2 n2 c2, .slice M2 k2 d2] 30)
            obtain ⟨gs, hgs⟩ : ∃ k, wa.heap.size = k := ⟨_, rfl⟩
            have BS := Bk.of_alloc wa (.cells #[.int .i64 t2, .slice A2 n2 c2, .slice M2 k2 d2] 30) hgs
            replace K := K.below hb
            replace TT := TT.below hb
            replace QX := QX.step hb
            replace TX := TX.step hb
            replace HR2 := hid (HR2.out.below hb)
            replace HB := hid (bthen HB.out hb (Nat.le_refl _))
            clear hb
            obtain ⟨y0, y1, y2, y3, y4, y5, y6⟩ := K.cells
            obtain ⟨q0, q1, q2⟩ := QX.c3
            go_wp2_with fail
            generalize wa.alloc (.cells #[.int .i64 t2, .slice A2 n2 c2, .slice M2 k2 d2] 30) = wax at *
            clear y0 y1 y2 y3 y4 y5 y6
            clear q0 q1 q2
            clear hgs
            have d2e := HKC.out.1
            have hw2 : wrap64 (2 * (e : Int)) = 2 * (e : Int) := IntWalk.wrap64_in _ (by omega)
            rw [hw2]
            refine (Run_uni (2 * (e : Int)) Hse TT hp9 K.n Hs K.a).mono ?_
            rintro e' wb ⟨g3, t3, A3, n3, c3, M3, k3, d3, rfl, hro, hb⟩
            have HR3 := hid hro.out
            clear hro d2e hw2
            replace K := K.below hb
            replace TT := TT.below hb
            replace QX := QX.step hb
            replace TX := TX.step hb
            replace HR2 := hid (HR2.out.below hb)
            replace BS := BS.step hb
            replace HB := hid (bthen HB.out hb (Nat.le_refl _))
            clear hb
            have hb := alo (W := wb) (o := .cells #[.int .i64 t3, .slice A3 n3 c3, .slice M3 k3 d3] 30)
            have BB := Bk.of_alloc wb (.cells #[.int .i64 t3, .slice A3 n3 c3, .slice M3 k3 d3] 30) rfl
            replace K := K.below hb
            replace TT := TT.below hb
            replace QX := QX.step hb
            replace TX := TX.step hb
            replace HR2 := hid (HR2.out.below hb)
            replace HR3 := hid (HR3.out.below hb)
            replace BS := BS.step hb
            replace HB := hid (bthen HB.out hb (Nat.le_refl _))
            clear hb
            rcases HR2.out with ⟨hor, rfl, rfl, rfl, rfl, rfl, rfl, rfl⟩ | ⟨-, rfl, rfl, rfl, j, hj, hj1, hj2, rfl, h4, h5⟩
            · have hg2 : g2 ≠ 0 := by rcases hor with ⟨h, e1⟩ | ⟨-, e1, -⟩ <;> omega
              have dg2 : (g2 == 0) = false := by rw [beq_eq_false_iff_ne]; exact hg2
              clear hor hg2 HR2 HR3 BS BB
              obtain ⟨y0, y1, y2, y3, y4, y5, y6⟩ := K.cells
              obtain ⟨t0, t1, t2, t3⟩ := Bk.c4 TX
              go_wp2_with fail
              clear y0 y1 y2 y3 y4 y5 y6
              clear t0 t1 t2 t3
              refine (CheckTarget_is Hru T0.out T1.out HL0.out HD0.out K.n Hs.out).mono ?_
              rintro e wt ⟨rfl, hb⟩
              replace K := K.below hb
              replace TT := TT.below hb
              replace QX := QX.step hb
              replace TX := TX.step hb
              replace HB := hid (bthen HB.out hb (Nat.le_refl _))
              clear hb
              rcases HUO.out with ⟨hu0, rfl, rfl⟩ | ⟨rfl, b2, n2, hb2, hix2, rfl, hun⟩
              · have du : (f != 0) = true := by rw [bne_iff_ne]; exact hu0
                have due : (f == f) = true := by rw [beq_iff_eq]
                clear hu0 HUO Hru K TT QX TX
                go_wp2
                go_ret
                exact ⟨rfl, HB.out⟩
              · have HUN := hid hun
                have Hix2 := hid (show Ixn N.n N.bnm s2 b2 from hix2 ▸ ixB_is N s2)
                have HK2 := hid (UeR.min0 Hru.out)
                clear hun hix2 HUO
                obtain ⟨y0, y1, y2, y3, y4, y5, y6⟩ := K.cells
                obtain ⟨t0, t1, t2, t3⟩ := Bk.c4 TX
                go_wp2_with fail
                clear y0 y1 y2 y3 y4 y5 y6
                clear t0 t1 t2 t3
                refine (rUntil_any n2 b2 hb2 Hix2 HF Hs Hte K.n K.a TT HK2.out).mono ?_
                rintro e wu ⟨k2, rfl, hk2, hb⟩
                replace HB := hid (bthen HB.out hb (Nat.le_refl _))
                clear hb K TT QX TX
                rcases HUN.out with ⟨hk0, rfl, hu⟩ | ⟨rfl, rfl, hu⟩
                · obtain rfl := hk2.out.same hu
                  have dk : decide (k2 < 0) = false := decide_eq_false (by omega)
                  have dke : (k2 == k2) = true := by rw [beq_iff_eq]
                  clear hu hk2 hk0 HUN
                  go_wp2
                  go_ret
                  exact ⟨rfl, HB.out⟩
                · obtain rfl := hk2.out.same hu
                  clear hu hk2 HUN
                  go_wp2
                  go_ret
                  exact ⟨rfl, HB.out⟩
            · obtain rfl : e = j := by omega
              have hj3 : W.min + (e : Int) + (e : Int) ≤ 1000000 := hj2
              have Y2 := Ys.own h4
              have B2' := Bs.own h5
              clear h4 h5 HR2 hj
              rcases HR3.out with ⟨hor, rfl, rfl, rfl, rfl, rfl, rfl, rfl⟩ | ⟨-, rfl, rfl, rfl, j, hj, hj1, hj2, rfl, h4, h5⟩
              · exfalso
                rcases hor with ⟨h, -⟩ | ⟨-, -, h⟩
                · exact h rfl
                · rw [lstB_iff.2 ⟨⟨by omega, by have := HKC.out.1; omega⟩, by omega⟩] at h; cases h
              · obtain rfl : j = e + e := by omega
                rw [rnS_add] at h4 h5
                have Y3 := Ys.own h4
                have B3' := Bs.own h5
                have hn9 : N.n ≤ 9223372036854775807 := by have := Hs.out.n; omega
                have hk9 : N.k ≤ 9223372036854775807 := by have := Hs.out.k; omega
                clear h4 h5 HR3 hj hj1 hj2
                generalize htq : W.min + ((e + e : Nat) : Int) = tq at *
                generalize htq2 : (Wr N (W.min + (e : Int)) A1 c1 M1 d1 (rnS N T W.min W.X W.Y e).1 (rnS N T W.min W.X W.Y e).2).min + (e : Int) = tq2 at *
                have htt : tq2 = tq := by rw [← htq, ← htq2]; show W.min + (e : Int) + (e : Int) = _; omega
                subst htt
                clear htq htq2
                obtain ⟨z0, z1, z2⟩ := BS.c3
                obtain ⟨v0, v1, v2⟩ := BB.c3
                clear BS BB
                go_wp2_with fail
                clear z0 z1 z2 v0 v1 v2
                refine (SameWater_any tq2 Y2 Y3 B2' B3' hn9 hk9).mono ?_
                rintro e' wd ⟨rfl, hb⟩
                clear Y2 Y3 B2' B3' hn9 hk9
                replace K := K.below hb
                replace TT := TT.below hb
                replace QX := QX.step hb
                replace TX := TX.step hb
                replace HB := hid (bthen HB.out hb (Nat.le_refl _))
                clear hb
                obtain ⟨y0, y1, y2, y3, y4, y5, y6⟩ := K.cells
                obtain ⟨t0, t1, t2, t3⟩ := Bk.c4 TX
                go_wp2_with fail
                clear y0 y1 y2 y3 y4 y5 y6
                clear t0 t1 t2 t3
                refine (CheckTarget_is Hru T0.out T1.out HL0.out HD0.out K.n Hs.out).mono ?_
                rintro e wt ⟨rfl, hb⟩
                replace K := K.below hb
                replace TT := TT.below hb
                replace QX := QX.step hb
                replace TX := TX.step hb
                replace HB := hid (bthen HB.out hb (Nat.le_refl _))
                clear hb
                rcases HUO.out with ⟨hu0, rfl, rfl⟩ | ⟨rfl, b2, n2, hb2, hix2, rfl, hun⟩
                · have du : (f != 0) = true := by rw [bne_iff_ne]; exact hu0
                  have due : (f == f) = true := by rw [beq_iff_eq]
                  clear hu0 HUO Hru K TT QX TX
                  go_wp2
                  go_ret
                  exact ⟨rfl, HB.out⟩
                · have HUN := hid hun
                  have Hix2 := hid (show Ixn N.n N.bnm s2 b2 from hix2 ▸ ixB_is N s2)
                  have HK2 := hid (UeR.min0 Hru.out)
                  clear hun hix2 HUO
                  obtain ⟨y0, y1, y2, y3, y4, y5, y6⟩ := K.cells
                  obtain ⟨t0, t1, t2, t3⟩ := Bk.c4 TX
                  go_wp2_with fail
                  clear y0 y1 y2 y3 y4 y5 y6
                  clear t0 t1 t2 t3
                  refine (rUntil_any n2 b2 hb2 Hix2 HF Hs Hte K.n K.a TT HK2.out).mono ?_
                  rintro e wu ⟨k2, rfl, hk2, hb⟩
                  replace HB := hid (bthen HB.out hb (Nat.le_refl _))
                  clear hb K TT QX TX
                  rcases HUN.out with ⟨hk0, rfl, hu⟩ | ⟨rfl, rfl, hu⟩
                  · obtain rfl := hk2.out.same hu
                    have dk : decide (k2 < 0) = false := decide_eq_false (by omega)
                    have dke : (k2 == k2) = true := by rw [beq_iff_eq]
                    clear hu hk2 hk0 HUN
                    go_wp2
                    go_ret
                    exact ⟨rfl, HB.out⟩
                  · obtain rfl := hk2.out.same hu
                    clear hu hk2 HUN
                    go_wp2
                    go_ret
                    exact ⟨rfl, HB.out⟩

theorem runs_walk {w : World} {B0 B1 B2 : Nat} {N : Nd} {W : Wd} {T : Tn} {P : Option Addr} {u : Nat} {s s2 : ByteArray} {E C L D : Int} {rs : Bool} (h : Nt w B0 N) (hw : Wt w B1 W) (hT : Tl w B2 P T.p T.tm T.tl T.tp) (hp9 : T.p ≤ 9223372036854775807) (hE : I64 E) (hC : I64 C) (hL : I64 L) (hD : I64 D)
    (hszl : ∀ i, i < N.k → (N.l i).nm.size < 9223372036854775808 ∧ (N.l i).fr.size < 9223372036854775808 ∧ (N.l i).tw.size < 9223372036854775808) (hsb : ∀ i, i < N.n → (N.b i).nm.size < 9223372036854775808) (hsz : ∀ i, i < T.p → (T.tl i).size < 9223372036854775808) (hcs : s.size < 9223372036854775808) (hts : s2.size < 9223372036854775808) :
    Calls Try.prog 5 #[.agg #[.slice N.A N.n N.c, .slice N.M N.m N.d, .slice N.K N.k N.e, .int .i64 W.min, .slice W.A W.n W.c, .slice W.M W.m W.d, .slice P T.p u], .agg #[.string s, .int .i64 E, .int .i64 C], .agg #[.string s2, .int .i64 L, .int .i64 D, .bool rs]] w fun e w' => e = .returned (.bool true) ∧ Below w.heap.size w w' := by
  by_cases hb : Big s s2 E C D
  · exact runs_big h hw hT hp9 hE hC hL hD hszl hsb hsz hcs hts hb
  · exact runs_small h hw hT hp9 hE hC hL hD hszl hsb hsz hcs hts hb

end Go.Proofs.Ytockfiobhmohnaa

