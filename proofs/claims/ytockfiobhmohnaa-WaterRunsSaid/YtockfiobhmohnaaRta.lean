/- The walk of WaterSteps. For every case and number of minutes. -/
import Derived.Test.YtockfiobhmohnaaGo
namespace Go.Proofs.Ytockfiobhmohnaa
open Go.RowKit Go.Maps Kb Wb

/-- What Step answers: gq, and the state and what the links did where there is no error. -/
def SO (w : World) (b : Nat) (N : Nd) (W : Wd) (q gq t : Int) (A : Option Addr) (n c : Nat) (M : Option Addr) (k d : Nat) (Q : Option Addr) (nq cq : Nat) : Prop :=
  ((q ≠ 0 ∧ gq = q ∨ q = 0 ∧ gq = 2 ∧ W.min = 1000000) ∧ t = 0 ∧ A = none ∧ n = 0 ∧ c = 0 ∧ M = none ∧ k = 0 ∧ d = 0 ∧ Q = none ∧ nq = 0 ∧ cq = 0) ∨
  (q = 0 ∧ gq = 0 ∧ W.min < 1000000 ∧ t = W.min + 1 ∧ n = N.n ∧ k = N.k ∧ nq = N.k ∧ w.ownsRow b 3 1 (.slice A N.n c) N.n (ints (stX N W.min W.Y W.X N.k) N.n) ∧ w.ownsRow b 4 1 (.slice M N.k d) N.k (bools W.Y N.k) ∧ w.ownsRow b 3 1 (.slice Q N.k cq) N.k (ints (fwX N W.min W.Y W.X) N.k))
theorem lst1 {t : Int} (_ : 0 ≤ t) : lstB t 1 = decide (t + 1 ≤ 1000000) := by unfold lstB; rw [inB_t (by omega), Bool.true_and]
theorem Step_uni {w : World} {B0 B1 : Nat} {N : Nd} {W : Wd} {q : Int} (hq : Hid (We N W q)) (h : Nt w B0 N) (Hs : Hid (Nsm N)) (hw : Wt w B1 W) :
    Calls Try.prog 9 #[.agg #[.slice N.A N.n N.c, .slice N.M N.m N.d, .slice N.K N.k N.e], .agg #[.int .i64 W.min, .slice W.A W.n W.c, .slice W.M W.m W.d]] w fun e w' => ∃ gq t A n c M k d Q nq cq, e = .returned (.tuple #[.agg #[.int .i64 t, .slice A n c, .slice M k d], .slice Q nq cq, .int .i64 gq]) ∧ Hid (SO w' w.heap.size N W q gq t A n c M k d Q nq cq) ∧ Below w.heap.size w w' := by
  by_cases h0 : q = 0
  · subst h0
    have hF := Fit.of hq.out
    have t0 : 0 ≤ W.min := hF.t0
    have t1 : W.min ≤ 1000000 := hF.t1
    by_cases h1 : W.min = 1000000
    · refine (Step_late (hid (Se.of_we hq.out)) (by rw [lst1 t0]; exact decide_eq_false (by omega)) h Hs.out hw).mono ?_
      rintro e w' ⟨rfl, hb⟩
      exact ⟨2, 0, none, 0, 0, none, 0, 0, none, 0, 0, rfl, hid (.inl ⟨.inr ⟨rfl, rfl, h1⟩, rfl, rfl, rfl, rfl, rfl, rfl, rfl, rfl, rfl, rfl⟩), hb⟩
    · refine (Step_ok (hid (Se.of_we hq.out)) (by rw [lst1 t0]; exact decide_eq_true (by omega)) h Hs.out hw).mono ?_
      rintro e w' ⟨v, x, rfl, hv, hx, hb⟩
      obtain ⟨A, c, M, d, rfl, h2, h3⟩ := hv.out
      obtain ⟨Q, cq, rfl⟩ := own_slice hx
      exact ⟨0, _, A, _, c, M, _, d, Q, _, cq, rfl, hid (.inr ⟨rfl, rfl, by omega, rfl, rfl, rfl, rfl, h2, h3, hx⟩), hb⟩
  · refine (Step_err (hid (Se.of_we hq.out)) h0 h Hs.out hw).mono ?_
    rintro e w' ⟨rfl, hb⟩
    exact ⟨q, 0, none, 0, 0, none, 0, 0, none, 0, 0, rfl, hid (.inl ⟨.inl ⟨h0, rfl⟩, rfl, rfl, rfl, rfl, rfl, rfl, rfl, rfl, rfl, rfl⟩), hb⟩
/-- What Run answers. -/
def RO (w : World) (b : Nat) (N : Nd) (W : Wd) (T : Tn) (m : Int) (q gq t : Int) (A : Option Addr) (n c : Nat) (M : Option Addr) (k d : Nat) : Prop :=
  ((q ≠ 0 ∧ gq = q ∨ q = 0 ∧ gq = 2 ∧ lstB W.min m = false) ∧ t = 0 ∧ A = none ∧ n = 0 ∧ c = 0 ∧ M = none ∧ k = 0 ∧ d = 0) ∨
  (q = 0 ∧ gq = 0 ∧ n = N.n ∧ k = N.k ∧ ∃ j : Nat, m = j ∧ j ≤ 10000 ∧ W.min + j ≤ 1000000 ∧ t = W.min + j ∧ w.ownsRow b 3 1 (.slice A N.n c) N.n (ints (rnS N T W.min W.X W.Y j).1 N.n) ∧ w.ownsRow b 4 1 (.slice M N.k d) N.k (bools (rnS N T W.min W.X W.Y j).2 N.k))
theorem lstB_iff {t m : Int} : lstB t m = true ↔ (0 ≤ m ∧ m ≤ 10000) ∧ t + m ≤ 1000000 := by
  unfold lstB
  rw [Bool.and_eq_true, inB_iff, decide_eq_true_iff]
theorem Run_uni {w : World} {B0 B1 B2 u : Nat} {N : Nd} {W : Wd} {T : Tn} {P : Option Addr} {q : Int} (m : Int) (hq : Hid (Se N W T q)) (hT : Tl w B2 P T.p T.tm T.tl T.tp) (hp9 : T.p ≤ 9223372036854775807) (h : Nt w B0 N) (Hs : Hid (Nsm N)) (hw : Wt w B1 W) :
    Calls Try.prog 10 #[.agg #[.slice N.A N.n N.c, .slice N.M N.m N.d, .slice N.K N.k N.e], .agg #[.int .i64 W.min, .slice W.A W.n W.c, .slice W.M W.m W.d], .slice P T.p u, .int .i64 m] w fun e w' => ∃ gq t A n c M k d, e = .returned (.tuple #[.agg #[.int .i64 t, .slice A n c, .slice M k d], .int .i64 gq]) ∧ Hid (RO w' w.heap.size N W T m q gq t A n c M k d) ∧ Below w.heap.size w w' := by
  by_cases h0 : q = 0
  · subst h0
    cases hl : lstB W.min m
    · refine (Run_late m hq hl hT hp9 h Hs.out hw).mono ?_
      rintro e w' ⟨rfl, hb⟩
      exact ⟨2, 0, none, 0, 0, none, 0, 0, rfl, hid (.inl ⟨.inr ⟨rfl, rfl, hl⟩, rfl, rfl, rfl, rfl, rfl, rfl, rfl⟩), hb⟩
    · have h1 := lstB_iff.1 hl
      obtain ⟨j, hj⟩ : ∃ j : Nat, m = j := ⟨m.toNat, by omega⟩
      refine (Run_ok hq j hj hl hT hp9 h Hs.out hw).mono ?_
      rintro e w' ⟨v, rfl, hv, hb⟩
      obtain ⟨A, c, M, d, rfl, h2, h3⟩ := hv.out
      exact ⟨0, _, A, _, c, M, _, d, rfl, hid (.inr ⟨rfl, rfl, rfl, rfl, j, hj, by omega, by omega, rfl, h2, h3⟩), hb⟩
  · refine (Run_err m hq h0 hT hp9 h Hs.out hw).mono ?_
    rintro e w' ⟨rfl, hb⟩
    exact ⟨q, 0, none, 0, 0, none, 0, 0, rfl, hid (.inl ⟨.inl ⟨h0, rfl⟩, rfl, rfl, rfl, rfl, rfl, rfl, rfl⟩), hb⟩

/-- A case, a state in a box, the turns. -/
structure Cwr (w : World) (g B0 B1 B2 gr : Nat) (N : Nd) (W : Wd) (P : Option Addr) (T : Tn) (u : Nat) (t : Int) (A : Option Addr) (c : Nat) (M : Option Addr) (d : Nat) (X : Nat → Int) (Y : Nat → Bool) (Bx By : Nat) : Prop where
  kc : Cw w g B0 B1 N W P T.p u
  r : Bk w gr (.cells #[.int .i64 t, .slice A N.n c, .slice M N.k d] 30 (0, 0))
  tt : Tl w B2 P T.p T.tm T.tl T.tp
  ys : Ys w Bx A N.n X
  bs : Bs w By M N.k Y
section
variable {w w' : World} {g B0 B1 B2 gr : Nat} {N : Nd} {W : Wd} {P : Option Addr} {T : Tn} {u : Nat} {t : Int} {A : Option Addr} {c : Nat} {M : Option Addr} {d : Nat} {X : Nat → Int} {Y : Nat → Bool} {Bx By : Nat}
theorem Cwr.below (h : Cwr w g B0 B1 B2 gr N W P T u t A c M d X Y Bx By) (hb : Below w.heap.size w w') : Cwr w' g B0 B1 B2 gr N W P T u t A c M d X Y Bx By := ⟨h.kc.below hb, h.r.step hb, h.tt.below hb, h.ys.below hb, h.bs.below hb⟩
theorem Cwr.cells (h : Cwr w g B0 B1 B2 gr N W P T u t A c M d X Y Bx By) : w.cell? ⟨g, 0, none⟩ = some (.slice N.A N.n N.c) ∧ w.cell? ⟨g, 1, none⟩ = some (.slice N.M N.m N.d) ∧ w.cell? ⟨g, 2, none⟩ = some (.slice N.K N.k N.e) ∧ w.cell? ⟨g, 3, none⟩ = some (.int .i64 W.min) ∧ w.cell? ⟨g, 4, none⟩ = some (.slice W.A W.n W.c) ∧ w.cell? ⟨g, 5, none⟩ = some (.slice W.M W.m W.d) ∧ w.cell? ⟨g, 6, none⟩ = some (.slice P T.p u) ∧ w.cell? ⟨gr, 0, none⟩ = some (.int .i64 t) ∧ w.cell? ⟨gr, 1, none⟩ = some (.slice A N.n c) ∧ w.cell? ⟨gr, 2, none⟩ = some (.slice M N.k d) := by
  obtain ⟨a0, a1, a2, a3, a4, a5, a6⟩ := h.kc.cells
  exact ⟨a0, a1, a2, a3, a4, a5, a6, h.r.c3⟩
end
theorem SO.below {w w' : World} {b : Nat} {N : Nd} {W : Wd} {q gq t : Int} {A : Option Addr} {n c : Nat} {M : Option Addr} {k d : Nat} {Q : Option Addr} {nq cq : Nat} (h : SO w b N W q gq t A n c M k d Q nq cq) (hb : Below w.heap.size w w') : SO w' b N W q gq t A n c M k d Q nq cq := by
  rcases h with h | ⟨h1, h2, h3, h4, h5, h6, h7, h8, h9, h10⟩
  · exact .inl h
  · exact .inr ⟨h1, h2, h3, h4, h5, h6, h7, own_below h8 hb, own_below h9 hb, own_below h10 hb⟩
theorem RO.below {w w' : World} {b : Nat} {N : Nd} {W : Wd} {T : Tn} {m q gq t : Int} {A : Option Addr} {n c : Nat} {M : Option Addr} {k d : Nat} (h : RO w b N W T m q gq t A n c M k d) (hb : Below w.heap.size w w') : RO w' b N W T m q gq t A n c M k d := by
  rcases h with h | ⟨h1, h2, h3, h4, j, h5, h6, h7, h8, h9, h10⟩
  · exact .inl h
  · exact .inr ⟨h1, h2, h3, h4, j, h5, h6, h7, h8, own_below h9 hb, own_below h10 hb⟩

set_option maxRecDepth 100000 in
set_option maxHeartbeats 16000000 in
theorem steps_walk {w : World} {B0 B1 B2 : Nat} {N : Nd} {W : Wd} {T : Tn} {P : Option Addr} {u : Nat} {m : Int} (h : Nt w B0 N) (hw : Wt w B1 W) (hT : Tl w B2 P T.p T.tm T.tl T.tp) (hp9 : T.p ≤ 9223372036854775807) (hm63 : I64 m)
    (hszl : ∀ i, i < N.k → (N.l i).nm.size < 9223372036854775808 ∧ (N.l i).fr.size < 9223372036854775808 ∧ (N.l i).tw.size < 9223372036854775808) (hsb : ∀ i, i < N.n → (N.b i).nm.size < 9223372036854775808) (hsz : ∀ i, i < T.p → (T.tl i).size < 9223372036854775808) :
    Calls Try.prog 3 #[.agg #[.slice N.A N.n N.c, .slice N.M N.m N.d, .slice N.K N.k N.e, .int .i64 W.min, .slice W.A W.n W.c, .slice W.M W.m W.d, .slice P T.p u], .int .i64 m] w fun e w' => e = .returned (.bool true) ∧ Below w.heap.size w w' := by
  unfold I64 at hm63
  obtain ⟨g, hg⟩ : ∃ g, w.heap.size = g := ⟨_, rfl⟩
  have hb0 := alo (W := w) (o := .cells #[.slice N.A N.n N.c, .slice N.M N.m N.d, .slice N.K N.k N.e, .int .i64 W.min, .slice W.A W.n W.c, .slice W.M W.m W.d, .slice P T.p u] 33)
  have K : Cw _ g B0 B1 N W P T.p u := ⟨Bk.of_alloc w (.cells #[.slice N.A N.n N.c, .slice N.M N.m N.d, .slice N.K N.k N.e, .int .i64 W.min, .slice W.A W.n W.c, .slice W.M W.m W.d, .slice P T.p u] 33) hg, h.below hb0, hw.below hb0⟩
  have TT := hT.below hb0
  have Hsz := hid hsz
  have Hszl := hid hszl
  have Hsb := hid hsb
  clear h hw hT hsz hszl hsb
  go_enter Try.func3, Try.ntmps3
  go_wp2_with fail
  generalize w.alloc (.cells #[.slice N.A N.n N.c, .slice N.M N.m N.d, .slice N.K N.k N.e, .int .i64 W.min, .slice W.A W.n W.c, .slice W.M W.m W.d, .slice P T.p u] 33) = W0 at *
  have HB := hid hb0
  clear hb0 hg
  refine (awake_any _).mono ?_
  rintro e w1 ⟨rfl, hb⟩
  replace K := K.below hb
  replace TT := TT.below hb
  replace HB := hid (bthen HB.out hb (Nat.le_refl _))
  clear hb
  obtain ⟨y0, y1, y2, y3, y4, y5, y6⟩ := K.cells
  go_wp2_with fail
  clear y0 y1 y2 y3 y4 y5 y6
  refine (Short_any K.n K.a TT hp9 Hszl.out Hsb.out Hsz.out).mono ?_
  rintro e w2 ⟨sh, rfl, hsh, hb⟩
  replace K := K.below hb
  replace TT := TT.below hb
  replace HB := hid (bthen HB.out hb (Nat.le_refl _))
  clear hb
  cases sh
  case false =>
    go_wp2
    go_ret
    exact ⟨rfl, HB.out⟩
  case true =>
    have HC := hid (hsh.out rfl)
    clear hsh
    have Hs := hid HC.out.s.sm
    obtain ⟨q, hq0⟩ := We.exists N W
    have Hq := hid hq0
    obtain ⟨s, hs0⟩ := Se.exists N W T
    have Hse := hid hs0
    clear hq0 hs0
    by_cases h40 : 40 < m
    · have d40 : decide (40 < m) = true := decide_eq_true h40
      by_cases h10 : m ≤ 10000
      · have d10 : decide (m ≤ 10000) = true := decide_eq_true h10
        go_wp2
        go_ret
        exact ⟨rfl, HB.out⟩
      · have d10 : decide (m ≤ 10000) = false := decide_eq_false h10
        obtain ⟨y0, y1, y2, y3, y4, y5, y6⟩ := K.cells
        go_wp2_with fail
        clear y0 y1 y2 y3 y4 y5 y6
        refine (Step_uni Hq K.n Hs K.a).mono ?_
        rintro e w3 ⟨gq, t1, A1, n1, c1, M1, k1, d1, Q, nq, cq, rfl, hso, hb⟩
        have HSO := hid (fun (V : World) (hV : Below w3.heap.size w3 V) => hso.out.below hV)
        replace K := K.below hb
        replace TT := TT.below hb
        replace HB := hid (bthen HB.out hb (Nat.le_refl _))
        clear hb hso
        have hba := alo (W := w3) (o := .cells #[.int .i64 t1, .slice A1 n1 c1, .slice M1 k1 d1] 30)
        obtain ⟨gw, hgw⟩ : ∃ k, w3.heap.size = k := ⟨_, rfl⟩
        have BW : Bk _ gw (.cells #[.int .i64 t1, .slice A1 n1 c1, .slice M1 k1 d1] 30 (0, 0)) := Bk.of_alloc w3 (.cells #[.int .i64 t1, .slice A1 n1 c1, .slice M1 k1 d1] 30) hgw
        replace K := K.below hba
        replace TT := TT.below hba
        replace HB := hid (bthen HB.out hba (Nat.le_refl _))
        have H34 := hid hba
        clear hba
        obtain ⟨y0, y1, y2, y3, y4, y5, y6⟩ := K.cells
        go_wp2_with fail
        generalize w3.alloc (.cells #[.int .i64 t1, .slice A1 n1 c1, .slice M1 k1 d1] 30) = w4 at *
        clear y0 y1 y2 y3 y4 y5 y6
        clear hgw
        refine (Run_uni m Hse TT hp9 K.n Hs K.a).mono ?_
        rintro e w5 ⟨fq, t2, A2, n2, c2, M2, k2, d2, rfl, hro, hb⟩
        have HRO := hid (fun (V : World) (hV : Below w5.heap.size w5 V) => hro.out.below hV)
        have H35 := hid (bth H34.out hb H34.out.size)
        replace K := K.below hb
        replace TT := TT.below hb
        replace BW := BW.step hb
        replace HB := hid (bthen HB.out hb (Nat.le_refl _))
        clear hb hro H34
        have hba := alo (W := w5) (o := .cells #[.int .i64 t2, .slice A2 n2 c2, .slice M2 k2 d2] 30)
        obtain ⟨gr, hgr⟩ : ∃ k, w5.heap.size = k := ⟨_, rfl⟩
        have BR : Bk _ gr (.cells #[.int .i64 t2, .slice A2 n2 c2, .slice M2 k2 d2] 30 (0, 0)) := Bk.of_alloc w5 (.cells #[.int .i64 t2, .slice A2 n2 c2, .slice M2 k2 d2] 30) hgr
        have H36 := hid (bth H35.out hba H35.out.size)
        replace K := K.below hba
        replace TT := TT.below hba
        replace BW := BW.step hba
        replace HB := hid (bthen HB.out hba (Nat.le_refl _))
        have H56 := hid hba
        clear hba H35
        obtain ⟨y0, y1, y2, y3, y4, y5, y6⟩ := K.cells
        go_wp2_with fail
        generalize w5.alloc (.cells #[.int .i64 t2, .slice A2 n2 c2, .slice M2 k2 d2] 30) = w6 at *
        clear y0 y1 y2 y3 y4 y5 y6
        clear hgr
        refine (rStarted_nil K.n Hs.out K.a).mono ?_
        rintro e w7 ⟨q', rfl, hq', hb⟩
        obtain rfl := Hq.out.same hq'.out
        have H37 := hid (bth H36.out hb H36.out.size)
        have H57 := hid (bth H56.out hb H56.out.size)
        replace K := K.below hb
        replace TT := TT.below hb
        replace BW := BW.step hb
        replace BR := BR.step hb
        replace HB := hid (bthen HB.out hb (Nat.le_refl _))
        clear hb hq' H36 H56
        obtain ⟨y0, y1, y2, y3, y4, y5, y6⟩ := K.cells
        go_wp2_with fail
        clear y0 y1 y2 y3 y4 y5 y6
        refine (rStarted_any TT hp9 K.n Hs.out K.a).mono ?_
        rintro e w8 ⟨s', rfl, hs', hb⟩
        obtain rfl := Hse.out.same hs'.out
        have H38 := hid (bth H37.out hb H37.out.size)
        have H58 := hid (bth H57.out hb H57.out.size)
        replace K := K.below hb
        replace TT := TT.below hb
        replace BW := BW.step hb
        replace BR := BR.step hb
        replace HB := hid (bthen HB.out hb (Nat.le_refl _))
        clear hb hs' H37 H57
        have HSO1 := hid (HSO.out _ H38.out)
        have HRO1 := hid (HRO.out _ H58.out)
        have H3z := hid H38.out.size
        have H5z := hid H58.out.size
        clear HSO HRO H38 H58
        rcases HSO1.out with ⟨⟨hq0, rfl⟩ | ⟨rfl, rfl, hmin⟩, rfl, rfl, rfl, rfl, rfl, rfl, rfl, rfl, rfl, rfl⟩ | ⟨rfl, rfl, hmin, rfl, rfl, rfl, rfl, h1, h2, h3⟩
        · have dq : (gq == 0) = false := by rw [beq_eq_false_iff_ne]; exact hq0
          have dq2 : (gq != 0) = true := by rw [bne_iff_ne]; exact hq0
          have dqq : (gq != gq) = false := by rw [bne_eq_false_iff_eq]
          have dqe : (gq == gq) = true := by rw [beq_iff_eq]
          obtain rfl : gq = s := (Se.we Hq.out hq0).same Hse.out
          rcases HRO1.out with ⟨⟨-, rfl⟩ | ⟨h0, -, -⟩, rfl, rfl, rfl, rfl, rfl, rfl, rfl⟩ | ⟨h0, -⟩
          · clear hq0
            obtain ⟨y0, y1, y2, y3, y4, y5, y6⟩ := K.cells
            obtain ⟨z0, z1, z2⟩ := BW.c3
            go_wp2_with fail
            clear z0 z1 z2
            refine (none_true _).mono ?_
            rintro e w9 ⟨rfl, hb⟩
            replace K := K.below hb
            replace TT := TT.below hb
            replace BR := BR.step hb
            replace HB := hid (bthen HB.out hb (Nat.le_refl _))
            clear hb BW
            clear HSO1 HRO1
            obtain ⟨z0, z1, z2⟩ := BR.c3
            go_wp2_with fail
            clear z0 z1 z2
            refine (none_true _).mono ?_
            rintro e wa ⟨rfl, hb⟩
            have HBz := hid (bthen HB.out hb (Nat.le_refl _))
            clear hb
            go_wp2
            go_ret
            exact ⟨rfl, HBz.out⟩
          · exact absurd h0 hq0
          · exact absurd h0 hq0
        · have dmin : (W.min == 1000000) = true := by rw [beq_iff_eq]; exact hmin
          clear hmin
          rcases HRO1.out with ⟨⟨hs0, rfl⟩ | ⟨rfl, rfl, hls⟩, rfl, rfl, rfl, rfl, rfl, rfl, rfl⟩ | ⟨rfl, rfl, rfl, rfl, j, rfl, hj1, hj2, rfl, h4, h5⟩
          · have ds : (fq == 0) = false := by rw [beq_eq_false_iff_ne]; exact hs0
            have ds2 : (fq != 0) = true := by rw [bne_iff_ne]; exact hs0
            have dse : (fq == fq) = true := by rw [beq_iff_eq]
            clear hs0
            obtain ⟨y0, y1, y2, y3, y4, y5, y6⟩ := K.cells
            obtain ⟨z0, z1, z2⟩ := BW.c3
            go_wp2_with fail
            clear z0 z1 z2
            refine (none_true _).mono ?_
            rintro e w9 ⟨rfl, hb⟩
            replace K := K.below hb
            replace TT := TT.below hb
            replace BR := BR.step hb
            replace HB := hid (bthen HB.out hb (Nat.le_refl _))
            clear hb BW
            clear HSO1 HRO1
            obtain ⟨z0, z1, z2⟩ := BR.c3
            go_wp2_with fail
            clear z0 z1 z2
            refine (none_true _).mono ?_
            rintro e wa ⟨rfl, hb⟩
            have HBz := hid (bthen HB.out hb (Nat.le_refl _))
            clear hb
            go_wp2
            go_ret
            exact ⟨rfl, HBz.out⟩
          · have dneg : decide (m < 0) = false := decide_eq_false (by omega)
            have dbig : decide (10000 < m) = true := decide_eq_true (by omega)
            obtain ⟨y0, y1, y2, y3, y4, y5, y6⟩ := K.cells
            obtain ⟨z0, z1, z2⟩ := BW.c3
            go_wp2_with fail
            clear z0 z1 z2
            refine (none_true _).mono ?_
            rintro e w9 ⟨rfl, hb⟩
            replace K := K.below hb
            replace TT := TT.below hb
            replace BR := BR.step hb
            replace HB := hid (bthen HB.out hb (Nat.le_refl _))
            clear hb BW
            clear HSO1 HRO1
            obtain ⟨z0, z1, z2⟩ := BR.c3
            go_wp2_with fail
            clear z0 z1 z2
            refine (none_true _).mono ?_
            rintro e wa ⟨rfl, hb⟩
            have HBz := hid (bthen HB.out hb (Nat.le_refl _))
            clear hb
            go_wp2
            go_ret
            exact ⟨rfl, HBz.out⟩
          · exfalso; omega
        · have dmin : (W.min == 1000000) = false := by rw [beq_eq_false_iff_ne]; omega
          rcases HRO1.out with ⟨⟨hs0, rfl⟩ | ⟨rfl, rfl, hls⟩, rfl, rfl, rfl, rfl, rfl, rfl, rfl⟩ | ⟨rfl, rfl, rfl, rfl, j, rfl, hj1, hj2, rfl, h4, h5⟩
          · have ds : (fq == 0) = false := by rw [beq_eq_false_iff_ne]; exact hs0
            have ds2 : (fq != 0) = true := by rw [bne_iff_ne]; exact hs0
            have dse : (fq == fq) = true := by rw [beq_iff_eq]
            clear hs0
            obtain ⟨y0, y1, y2, y3, y4, y5, y6⟩ := K.cells
            have Y1 := Ys.own h1
            have B1' := Bs.own h2
            have Y3 := Ys.own h3
            have HFq := hid (Fit.of Hq.out)
            have hn9 := Hs.out.n
            have hk9 := Hs.out.k
            clear h1 h2 h3 HSO1
            go_wp2_with fail
            clear y0 y1 y2 y3 y4 y5 y6
            refine (rStep_any HFq Hs K.n K.a).mono ?_
            rintro e w9 ⟨v, x, rfl, hv, hx, hb⟩
            obtain ⟨A5, c5, M5, d5, rfl, hx5, hy5⟩ := hv.out
            obtain ⟨Ax, cx, rfl⟩ := own_slice hx
            replace Y1 := Y1.below hb
            replace B1' := B1'.below hb
            replace Y3 := Y3.below hb
            replace K := K.below hb
            replace TT := TT.below hb
            replace BW := BW.step hb
            replace BR := BR.step hb
            replace HB := hid (bthen HB.out hb (Nat.le_refl _))
            have Y5 := Ys.own hx5
            have B5 := Bs.own hy5
            have Yx := Ys.own hx
            have hzw9 := hid hb.size
            clear hb hv hx hx5 hy5
            have hba := alo (W := w9) (o := .cells #[.int .i64 (W.min + 1), .slice A5 N.n c5, .slice M5 N.k d5] 30)
            have BX := Bk.of_alloc w9 (.cells #[.int .i64 (W.min + 1), .slice A5 N.n c5, .slice M5 N.k d5] 30) rfl
            replace Y1 := Y1.below hba
            replace B1' := B1'.below hba
            replace Y3 := Y3.below hba
            replace Y5 := Y5.below hba
            replace B5 := B5.below hba
            replace Yx := Yx.below hba
            replace K := K.below hba
            replace TT := TT.below hba
            replace BW := BW.step hba
            replace BR := BR.step hba
            replace HB := hid (bthen HB.out hba (Nat.le_refl _))
            obtain ⟨y0, y1, y2, y3, y4, y5, y6⟩ := K.cells
            obtain ⟨z0, z1, z2⟩ := BW.c3
            obtain ⟨v0, v1, v2⟩ := BX.c3
            clear hba
            go_wp2_with fail
            generalize w9.alloc (.cells #[.int .i64 (W.min + 1), .slice A5 N.n c5, .slice M5 N.k d5] 30) = wx at *
            clear y0 y1 y2 y3 y4 y5 y6
            clear z0 z1 z2 v0 v1 v2
            refine (SameWater_any (W.min + 1) Y1 Y5 B1' B5 (by omega) (by omega)).mono ?_
            rintro e wb ⟨rfl, hb⟩
            replace Y3 := Y3.below hb
            replace Yx := Yx.below hb
            replace K := K.below hb
            replace TT := TT.below hb
            replace BR := BR.step hb
            replace HB := hid (bthen HB.out hb (Nat.le_refl _))
            clear hb Y1 Y5 B1' B5 BW BX
            go_wp2_with fail
            refine (Ints_true Y3 Yx (by omega)).mono ?_
            rintro e wc ⟨rfl, hb⟩
            replace K := K.below hb
            replace TT := TT.below hb
            replace BR := BR.step hb
            replace HB := hid (bthen HB.out hb (Nat.le_refl _))
            clear hb Y3 Yx
            clear HRO1
            obtain ⟨z0, z1, z2⟩ := BR.c3
            go_wp2_with fail
            clear z0 z1 z2
            refine (none_true _).mono ?_
            rintro e wa ⟨rfl, hb⟩
            have HBz := hid (bthen HB.out hb (Nat.le_refl _))
            clear hb
            go_wp2
            go_ret
            exact ⟨rfl, HBz.out⟩
          · have dneg : decide (m < 0) = false := decide_eq_false (by omega)
            have dbig : decide (10000 < m) = true := decide_eq_true (by omega)
            obtain ⟨y0, y1, y2, y3, y4, y5, y6⟩ := K.cells
            have Y1 := Ys.own h1
            have B1' := Bs.own h2
            have Y3 := Ys.own h3
            have HFq := hid (Fit.of Hq.out)
            have hn9 := Hs.out.n
            have hk9 := Hs.out.k
            clear h1 h2 h3 HSO1
            go_wp2_with fail
            clear y0 y1 y2 y3 y4 y5 y6
            refine (rStep_any HFq Hs K.n K.a).mono ?_
            rintro e w9 ⟨v, x, rfl, hv, hx, hb⟩
            obtain ⟨A5, c5, M5, d5, rfl, hx5, hy5⟩ := hv.out
            obtain ⟨Ax, cx, rfl⟩ := own_slice hx
            replace Y1 := Y1.below hb
            replace B1' := B1'.below hb
            replace Y3 := Y3.below hb
            replace K := K.below hb
            replace TT := TT.below hb
            replace BW := BW.step hb
            replace BR := BR.step hb
            replace HB := hid (bthen HB.out hb (Nat.le_refl _))
            have Y5 := Ys.own hx5
            have B5 := Bs.own hy5
            have Yx := Ys.own hx
            have hzw9 := hid hb.size
            clear hb hv hx hx5 hy5
            have hba := alo (W := w9) (o := .cells #[.int .i64 (W.min + 1), .slice A5 N.n c5, .slice M5 N.k d5] 30)
            have BX := Bk.of_alloc w9 (.cells #[.int .i64 (W.min + 1), .slice A5 N.n c5, .slice M5 N.k d5] 30) rfl
            replace Y1 := Y1.below hba
            replace B1' := B1'.below hba
            replace Y3 := Y3.below hba
            replace Y5 := Y5.below hba
            replace B5 := B5.below hba
            replace Yx := Yx.below hba
            replace K := K.below hba
            replace TT := TT.below hba
            replace BW := BW.step hba
            replace BR := BR.step hba
            replace HB := hid (bthen HB.out hba (Nat.le_refl _))
            obtain ⟨y0, y1, y2, y3, y4, y5, y6⟩ := K.cells
            obtain ⟨z0, z1, z2⟩ := BW.c3
            obtain ⟨v0, v1, v2⟩ := BX.c3
            clear hba
            go_wp2_with fail
            generalize w9.alloc (.cells #[.int .i64 (W.min + 1), .slice A5 N.n c5, .slice M5 N.k d5] 30) = wx at *
            clear y0 y1 y2 y3 y4 y5 y6
            clear z0 z1 z2 v0 v1 v2
            refine (SameWater_any (W.min + 1) Y1 Y5 B1' B5 (by omega) (by omega)).mono ?_
            rintro e wb ⟨rfl, hb⟩
            replace Y3 := Y3.below hb
            replace Yx := Yx.below hb
            replace K := K.below hb
            replace TT := TT.below hb
            replace BR := BR.step hb
            replace HB := hid (bthen HB.out hb (Nat.le_refl _))
            clear hb Y1 Y5 B1' B5 BW BX
            go_wp2_with fail
            refine (Ints_true Y3 Yx (by omega)).mono ?_
            rintro e wc ⟨rfl, hb⟩
            replace K := K.below hb
            replace TT := TT.below hb
            replace BR := BR.step hb
            replace HB := hid (bthen HB.out hb (Nat.le_refl _))
            clear hb Y3 Yx
            clear HRO1
            obtain ⟨z0, z1, z2⟩ := BR.c3
            go_wp2_with fail
            clear z0 z1 z2
            refine (none_true _).mono ?_
            rintro e wa ⟨rfl, hb⟩
            have HBz := hid (bthen HB.out hb (Nat.le_refl _))
            clear hb
            go_wp2
            go_ret
            exact ⟨rfl, HBz.out⟩
          · exfalso; omega
    · have d40 : decide (40 < m) = false := decide_eq_false h40
      obtain ⟨y0, y1, y2, y3, y4, y5, y6⟩ := K.cells
      go_wp2_with fail
      clear y0 y1 y2 y3 y4 y5 y6
      refine (Step_uni Hq K.n Hs K.a).mono ?_
      rintro e w3 ⟨gq, t1, A1, n1, c1, M1, k1, d1, Q, nq, cq, rfl, hso, hb⟩
      have HSO := hid (fun (V : World) (hV : Below w3.heap.size w3 V) => hso.out.below hV)
      replace K := K.below hb
      replace TT := TT.below hb
      replace HB := hid (bthen HB.out hb (Nat.le_refl _))
      clear hb hso
      have hba := alo (W := w3) (o := .cells #[.int .i64 t1, .slice A1 n1 c1, .slice M1 k1 d1] 30)
      obtain ⟨gw, hgw⟩ : ∃ k, w3.heap.size = k := ⟨_, rfl⟩
      have BW : Bk _ gw (.cells #[.int .i64 t1, .slice A1 n1 c1, .slice M1 k1 d1] 30 (0, 0)) := Bk.of_alloc w3 (.cells #[.int .i64 t1, .slice A1 n1 c1, .slice M1 k1 d1] 30) hgw
      replace K := K.below hba
      replace TT := TT.below hba
      replace HB := hid (bthen HB.out hba (Nat.le_refl _))
      have H34 := hid hba
      clear hba
      obtain ⟨y0, y1, y2, y3, y4, y5, y6⟩ := K.cells
      go_wp2_with fail
      generalize w3.alloc (.cells #[.int .i64 t1, .slice A1 n1 c1, .slice M1 k1 d1] 30) = w4 at *
      clear y0 y1 y2 y3 y4 y5 y6
      clear hgw
      refine (Run_uni m Hse TT hp9 K.n Hs K.a).mono ?_
      rintro e w5 ⟨fq, t2, A2, n2, c2, M2, k2, d2, rfl, hro, hb⟩
      have HRO := hid (fun (V : World) (hV : Below w5.heap.size w5 V) => hro.out.below hV)
      have H35 := hid (bth H34.out hb H34.out.size)
      replace K := K.below hb
      replace TT := TT.below hb
      replace BW := BW.step hb
      replace HB := hid (bthen HB.out hb (Nat.le_refl _))
      clear hb hro H34
      have hba := alo (W := w5) (o := .cells #[.int .i64 t2, .slice A2 n2 c2, .slice M2 k2 d2] 30)
      obtain ⟨gr, hgr⟩ : ∃ k, w5.heap.size = k := ⟨_, rfl⟩
      have BR : Bk _ gr (.cells #[.int .i64 t2, .slice A2 n2 c2, .slice M2 k2 d2] 30 (0, 0)) := Bk.of_alloc w5 (.cells #[.int .i64 t2, .slice A2 n2 c2, .slice M2 k2 d2] 30) hgr
      have H36 := hid (bth H35.out hba H35.out.size)
      replace K := K.below hba
      replace TT := TT.below hba
      replace BW := BW.step hba
      replace HB := hid (bthen HB.out hba (Nat.le_refl _))
      have H56 := hid hba
      clear hba H35
      obtain ⟨y0, y1, y2, y3, y4, y5, y6⟩ := K.cells
      go_wp2_with fail
      generalize w5.alloc (.cells #[.int .i64 t2, .slice A2 n2 c2, .slice M2 k2 d2] 30) = w6 at *
      clear y0 y1 y2 y3 y4 y5 y6
      clear hgr
      refine (rStarted_nil K.n Hs.out K.a).mono ?_
      rintro e w7 ⟨q', rfl, hq', hb⟩
      obtain rfl := Hq.out.same hq'.out
      have H37 := hid (bth H36.out hb H36.out.size)
      have H57 := hid (bth H56.out hb H56.out.size)
      replace K := K.below hb
      replace TT := TT.below hb
      replace BW := BW.step hb
      replace BR := BR.step hb
      replace HB := hid (bthen HB.out hb (Nat.le_refl _))
      clear hb hq' H36 H56
      obtain ⟨y0, y1, y2, y3, y4, y5, y6⟩ := K.cells
      go_wp2_with fail
      clear y0 y1 y2 y3 y4 y5 y6
      refine (rStarted_any TT hp9 K.n Hs.out K.a).mono ?_
      rintro e w8 ⟨s', rfl, hs', hb⟩
      obtain rfl := Hse.out.same hs'.out
      have H38 := hid (bth H37.out hb H37.out.size)
      have H58 := hid (bth H57.out hb H57.out.size)
      replace K := K.below hb
      replace TT := TT.below hb
      replace BW := BW.step hb
      replace BR := BR.step hb
      replace HB := hid (bthen HB.out hb (Nat.le_refl _))
      clear hb hs' H37 H57
      have HSO1 := hid (HSO.out _ H38.out)
      have HRO1 := hid (HRO.out _ H58.out)
      have H3z := hid H38.out.size
      have H5z := hid H58.out.size
      clear HSO HRO H38 H58
      rcases HSO1.out with ⟨⟨hq0, rfl⟩ | ⟨rfl, rfl, hmin⟩, rfl, rfl, rfl, rfl, rfl, rfl, rfl, rfl, rfl, rfl⟩ | ⟨rfl, rfl, hmin, rfl, rfl, rfl, rfl, h1, h2, h3⟩
      · have dq : (gq == 0) = false := by rw [beq_eq_false_iff_ne]; exact hq0
        have dq2 : (gq != 0) = true := by rw [bne_iff_ne]; exact hq0
        have dqq : (gq != gq) = false := by rw [bne_eq_false_iff_eq]
        have dqe : (gq == gq) = true := by rw [beq_iff_eq]
        obtain rfl : gq = s := (Se.we Hq.out hq0).same Hse.out
        rcases HRO1.out with ⟨⟨-, rfl⟩ | ⟨h0, -, -⟩, rfl, rfl, rfl, rfl, rfl, rfl, rfl⟩ | ⟨h0, -⟩
        · clear hq0
          obtain ⟨y0, y1, y2, y3, y4, y5, y6⟩ := K.cells
          obtain ⟨z0, z1, z2⟩ := BW.c3
          go_wp2_with fail
          clear z0 z1 z2
          refine (none_true _).mono ?_
          rintro e w9 ⟨rfl, hb⟩
          replace K := K.below hb
          replace TT := TT.below hb
          replace BR := BR.step hb
          replace HB := hid (bthen HB.out hb (Nat.le_refl _))
          clear hb BW
          clear HSO1 HRO1
          obtain ⟨z0, z1, z2⟩ := BR.c3
          go_wp2_with fail
          clear z0 z1 z2
          refine (none_true _).mono ?_
          rintro e wa ⟨rfl, hb⟩
          have HBz := hid (bthen HB.out hb (Nat.le_refl _))
          clear hb
          go_wp2
          go_ret
          exact ⟨rfl, HBz.out⟩
        · exact absurd h0 hq0
        · exact absurd h0 hq0
      · have dmin : (W.min == 1000000) = true := by rw [beq_iff_eq]; exact hmin
        clear hmin
        rcases HRO1.out with ⟨⟨hs0, rfl⟩ | ⟨rfl, rfl, hls⟩, rfl, rfl, rfl, rfl, rfl, rfl, rfl⟩ | ⟨rfl, rfl, rfl, rfl, j, rfl, hj1, hj2, rfl, h4, h5⟩
        · have ds : (fq == 0) = false := by rw [beq_eq_false_iff_ne]; exact hs0
          have ds2 : (fq != 0) = true := by rw [bne_iff_ne]; exact hs0
          have dse : (fq == fq) = true := by rw [beq_iff_eq]
          clear hs0
          obtain ⟨y0, y1, y2, y3, y4, y5, y6⟩ := K.cells
          obtain ⟨z0, z1, z2⟩ := BW.c3
          go_wp2_with fail
          clear z0 z1 z2
          refine (none_true _).mono ?_
          rintro e w9 ⟨rfl, hb⟩
          replace K := K.below hb
          replace TT := TT.below hb
          replace BR := BR.step hb
          replace HB := hid (bthen HB.out hb (Nat.le_refl _))
          clear hb BW
          clear HSO1 HRO1
          obtain ⟨z0, z1, z2⟩ := BR.c3
          go_wp2_with fail
          clear z0 z1 z2
          refine (none_true _).mono ?_
          rintro e wa ⟨rfl, hb⟩
          have HBz := hid (bthen HB.out hb (Nat.le_refl _))
          clear hb
          go_wp2
          go_ret
          exact ⟨rfl, HBz.out⟩
        · have dbig : decide (10000 < m) = false := decide_eq_false (by omega)
          by_cases hneg : m < 0
          · have dneg : decide (m < 0) = true := decide_eq_true hneg
            obtain ⟨y0, y1, y2, y3, y4, y5, y6⟩ := K.cells
            obtain ⟨z0, z1, z2⟩ := BW.c3
            go_wp2_with fail
            clear z0 z1 z2
            refine (none_true _).mono ?_
            rintro e w9 ⟨rfl, hb⟩
            replace K := K.below hb
            replace TT := TT.below hb
            replace BR := BR.step hb
            replace HB := hid (bthen HB.out hb (Nat.le_refl _))
            clear hb BW
            clear HSO1 HRO1
            obtain ⟨z0, z1, z2⟩ := BR.c3
            go_wp2_with fail
            clear z0 z1 z2
            refine (none_true _).mono ?_
            rintro e wa ⟨rfl, hb⟩
            have HBz := hid (bthen HB.out hb (Nat.le_refl _))
            clear hb
            go_wp2
            go_ret
            exact ⟨rfl, HBz.out⟩
          · have dneg : decide (m < 0) = false := decide_eq_false hneg
            have hov : 1000000 < W.min + m := by
              rcases Int.lt_or_le 1000000 (W.min + m) with h | h
              · exact h
              · rw [lstB_iff.2 ⟨⟨by omega, by omega⟩, h⟩] at hls; cases hls
            have hwm : IntKind.i64.wrap (W.min + m) = W.min + m := IntWalk.i64_in _ (by have := (Fit.of Hq.out).t1; omega)
            have dov : decide (1000000 < W.min + m) = true := decide_eq_true hov
            obtain ⟨y0, y1, y2, y3, y4, y5, y6⟩ := K.cells
            obtain ⟨z0, z1, z2⟩ := BW.c3
            go_wp2_with fail
            clear z0 z1 z2
            refine (none_true _).mono ?_
            rintro e w9 ⟨rfl, hb⟩
            replace K := K.below hb
            replace TT := TT.below hb
            replace BR := BR.step hb
            replace HB := hid (bthen HB.out hb (Nat.le_refl _))
            clear hb BW
            clear HSO1 HRO1
            obtain ⟨z0, z1, z2⟩ := BR.c3
            go_wp2_with fail
            clear z0 z1 z2
            refine (none_true _).mono ?_
            rintro e wa ⟨rfl, hb⟩
            have HBz := hid (bthen HB.out hb (Nat.le_refl _))
            clear hb
            go_wp2
            go_ret
            exact ⟨rfl, HBz.out⟩
        · have dbig : decide ((10000 : Int) < (j : Int)) = false := decide_eq_false (by omega)
          have dneg : decide ((j : Int) < 0) = false := decide_eq_false (by omega)
          have hwm : IntKind.i64.wrap (W.min + (j : Int)) = W.min + (j : Int) := IntWalk.i64_in _ (by have := (Fit.of Hq.out).t0; omega)
          have dov : decide (1000000 < W.min + (j : Int)) = false := decide_eq_false (by omega)
          have Y2 := Ys.own h4
          have B2' := Bs.own h5
          clear h4 h5 HRO1
          obtain ⟨y0, y1, y2, y3, y4, y5, y6⟩ := K.cells
          obtain ⟨z0, z1, z2⟩ := BW.c3
          go_wp2_with fail
          clear z0 z1 z2
          refine (none_true _).mono ?_
          rintro e w9 ⟨rfl, hb⟩
          replace K := K.below hb
          replace TT := TT.below hb
          replace BR := BR.step hb
          replace Y2 := Y2.below hb
          replace B2' := B2'.below hb
          replace HB := hid (bthen HB.out hb (Nat.le_refl _))
          clear hb BW
          have HFq2 := hid (Fit.of Hq.out)
          have Hte := hid Hse.out.zero.2
          have hn92 : N.n ≤ 9223372036854775807 := by have := Hs.out.n; omega
          have hk92 : N.k ≤ 9223372036854775807 := by have := Hs.out.k; omega
          have HRR := hid (fun (V : World) (B0 B1 B2 : Nat) (h1 : Nt V B0 N) (h2 : Wt V B1 W) (h3 : Tl V B2 P T.p T.tm T.tl T.tp) => (show Calls Try.prog 16 #[.agg #[.slice N.A N.n N.c, .slice N.M N.m N.d, .slice N.K N.k N.e], .agg #[.int .i64 W.min, .slice W.A W.n W.c, .slice W.M W.m W.d], .slice P T.p u, .int .i64 (j : Int)] V fun e w' => ∃ A5 c5 M5 d5, e = .returned (.agg #[.int .i64 (W.min + (j : Int)), .slice A5 N.n c5, .slice M5 N.k d5]) ∧ Ys w' w'.heap.size A5 N.n (rnS N T W.min W.X W.Y j).1 ∧ Bs w' w'.heap.size M5 N.k (rnS N T W.min W.X W.Y j).2 ∧ Below V.heap.size V w' from by
            refine (rRun_any (u := u) j HFq2 Hs Hte h1 h2 h3 (by omega)).mono ?_
            rintro e w' ⟨v, rfl, hv, hb⟩
            obtain ⟨A5, c5, M5, d5, rfl, h6, h7⟩ := hv.out
            exact ⟨A5, c5, M5, d5, rfl, Ys.own h6, Bs.own h7, hb⟩))
          obtain ⟨z0, z1, z2⟩ := BR.c3
          obtain ⟨y0, y1, y2, y3, y4, y5, y6⟩ := K.cells
          go_wp2_with fail
          clear y0 y1 y2 y3 y4 y5 y6
          clear z0 z1 z2
          have HD0 := hid ((Cwr.mk K BR TT Y2 B2').below dr0)
          clear K TT BR Y2 B2'
          go_region_held3 (fun w' => w'.cell? ⟨g, 0, none⟩ = some (.slice N.A N.n N.c) ∧ w'.cell? ⟨g, 1, none⟩ = some (.slice N.M N.m N.d) ∧ w'.cell? ⟨g, 2, none⟩ = some (.slice N.K N.k N.e) ∧ w'.cell? ⟨g, 3, none⟩ = some (.int .i64 W.min) ∧ w'.cell? ⟨g, 4, none⟩ = some (.slice W.A W.n W.c) ∧ w'.cell? ⟨g, 5, none⟩ = some (.slice W.M W.m W.d) ∧ w'.cell? ⟨g, 6, none⟩ = some (.slice P T.p u) ∧ w'.cell? ⟨gr, 0, none⟩ = some (.int .i64 (W.min + (j : Int))) ∧ w'.cell? ⟨gr, 1, none⟩ = some (.slice A2 N.n c2) ∧ w'.cell? ⟨gr, 2, none⟩ = some (.slice M2 N.k d2)) (first | with_reducible exact Cwr.cells HD0.out | with_reducible exact Cwr.cells D1 | with_reducible exact Cwr.cells D2) (first
            | (go_at_call 16; (with_reducible refine (HRR.out _ _ _ _ HD0.out.kc.n HD0.out.kc.a HD0.out.tt).mono ?_); rintro e wd ⟨A5, c5, M5, d5, rfl, Y5, B5, hbd⟩; have D1 := HD0.out.below hbd)
            | (go_at_call 14; (with_reducible refine (SameWater_any (W.min + (j : Int)) D1.ys Y5 D1.bs B5 hn92 hk92).mono ?_); rintro e we ⟨rfl, hbe⟩; have D2 := D1.below hbe))
          all_goals
            have HBz := hid (bthen (bthen HB.out.drew hbd (Nat.le_refl _)) hbe (Nat.le_refl _))
            clear hbd hbe
            go_wp2
            go_ret
            exact ⟨rfl, HBz.out⟩
      · have dmin : (W.min == 1000000) = false := by rw [beq_eq_false_iff_ne]; omega
        rcases HRO1.out with ⟨⟨hs0, rfl⟩ | ⟨rfl, rfl, hls⟩, rfl, rfl, rfl, rfl, rfl, rfl, rfl⟩ | ⟨rfl, rfl, rfl, rfl, j, rfl, hj1, hj2, rfl, h4, h5⟩
        · have ds : (fq == 0) = false := by rw [beq_eq_false_iff_ne]; exact hs0
          have ds2 : (fq != 0) = true := by rw [bne_iff_ne]; exact hs0
          have dse : (fq == fq) = true := by rw [beq_iff_eq]
          clear hs0
          obtain ⟨y0, y1, y2, y3, y4, y5, y6⟩ := K.cells
          have Y1 := Ys.own h1
          have B1' := Bs.own h2
          have Y3 := Ys.own h3
          have HFq := hid (Fit.of Hq.out)
          have hn9 := Hs.out.n
          have hk9 := Hs.out.k
          clear h1 h2 h3 HSO1
          go_wp2_with fail
          clear y0 y1 y2 y3 y4 y5 y6
          refine (rStep_any HFq Hs K.n K.a).mono ?_
          rintro e w9 ⟨v, x, rfl, hv, hx, hb⟩
          obtain ⟨A5, c5, M5, d5, rfl, hx5, hy5⟩ := hv.out
          obtain ⟨Ax, cx, rfl⟩ := own_slice hx
          replace Y1 := Y1.below hb
          replace B1' := B1'.below hb
          replace Y3 := Y3.below hb
          replace K := K.below hb
          replace TT := TT.below hb
          replace BW := BW.step hb
          replace BR := BR.step hb
          replace HB := hid (bthen HB.out hb (Nat.le_refl _))
          have Y5 := Ys.own hx5
          have B5 := Bs.own hy5
          have Yx := Ys.own hx
          have hzw9 := hid hb.size
          clear hb hv hx hx5 hy5
          have hba := alo (W := w9) (o := .cells #[.int .i64 (W.min + 1), .slice A5 N.n c5, .slice M5 N.k d5] 30)
          have BX := Bk.of_alloc w9 (.cells #[.int .i64 (W.min + 1), .slice A5 N.n c5, .slice M5 N.k d5] 30) rfl
          replace Y1 := Y1.below hba
          replace B1' := B1'.below hba
          replace Y3 := Y3.below hba
          replace Y5 := Y5.below hba
          replace B5 := B5.below hba
          replace Yx := Yx.below hba
          replace K := K.below hba
          replace TT := TT.below hba
          replace BW := BW.step hba
          replace BR := BR.step hba
          replace HB := hid (bthen HB.out hba (Nat.le_refl _))
          obtain ⟨y0, y1, y2, y3, y4, y5, y6⟩ := K.cells
          obtain ⟨z0, z1, z2⟩ := BW.c3
          obtain ⟨v0, v1, v2⟩ := BX.c3
          clear hba
          go_wp2_with fail
          generalize w9.alloc (.cells #[.int .i64 (W.min + 1), .slice A5 N.n c5, .slice M5 N.k d5] 30) = wx at *
          clear y0 y1 y2 y3 y4 y5 y6
          clear z0 z1 z2 v0 v1 v2
          refine (SameWater_any (W.min + 1) Y1 Y5 B1' B5 (by omega) (by omega)).mono ?_
          rintro e wb ⟨rfl, hb⟩
          replace Y3 := Y3.below hb
          replace Yx := Yx.below hb
          replace K := K.below hb
          replace TT := TT.below hb
          replace BR := BR.step hb
          replace HB := hid (bthen HB.out hb (Nat.le_refl _))
          clear hb Y1 Y5 B1' B5 BW BX
          go_wp2_with fail
          refine (Ints_true Y3 Yx (by omega)).mono ?_
          rintro e wc ⟨rfl, hb⟩
          replace K := K.below hb
          replace TT := TT.below hb
          replace BR := BR.step hb
          replace HB := hid (bthen HB.out hb (Nat.le_refl _))
          clear hb Y3 Yx
          clear HRO1
          obtain ⟨z0, z1, z2⟩ := BR.c3
          go_wp2_with fail
          clear z0 z1 z2
          refine (none_true _).mono ?_
          rintro e wa ⟨rfl, hb⟩
          have HBz := hid (bthen HB.out hb (Nat.le_refl _))
          clear hb
          go_wp2
          go_ret
          exact ⟨rfl, HBz.out⟩
        · have dbig : decide (10000 < m) = false := decide_eq_false (by omega)
          by_cases hneg : m < 0
          · have dneg : decide (m < 0) = true := decide_eq_true hneg
            obtain ⟨y0, y1, y2, y3, y4, y5, y6⟩ := K.cells
            have Y1 := Ys.own h1
            have B1' := Bs.own h2
            have Y3 := Ys.own h3
            have HFq := hid (Fit.of Hq.out)
            have hn9 := Hs.out.n
            have hk9 := Hs.out.k
            clear h1 h2 h3 HSO1
            go_wp2_with fail
            clear y0 y1 y2 y3 y4 y5 y6
            refine (rStep_any HFq Hs K.n K.a).mono ?_
            rintro e w9 ⟨v, x, rfl, hv, hx, hb⟩
            obtain ⟨A5, c5, M5, d5, rfl, hx5, hy5⟩ := hv.out
            obtain ⟨Ax, cx, rfl⟩ := own_slice hx
            replace Y1 := Y1.below hb
            replace B1' := B1'.below hb
            replace Y3 := Y3.below hb
            replace K := K.below hb
            replace TT := TT.below hb
            replace BW := BW.step hb
            replace BR := BR.step hb
            replace HB := hid (bthen HB.out hb (Nat.le_refl _))
            have Y5 := Ys.own hx5
            have B5 := Bs.own hy5
            have Yx := Ys.own hx
            have hzw9 := hid hb.size
            clear hb hv hx hx5 hy5
            have hba := alo (W := w9) (o := .cells #[.int .i64 (W.min + 1), .slice A5 N.n c5, .slice M5 N.k d5] 30)
            have BX := Bk.of_alloc w9 (.cells #[.int .i64 (W.min + 1), .slice A5 N.n c5, .slice M5 N.k d5] 30) rfl
            replace Y1 := Y1.below hba
            replace B1' := B1'.below hba
            replace Y3 := Y3.below hba
            replace Y5 := Y5.below hba
            replace B5 := B5.below hba
            replace Yx := Yx.below hba
            replace K := K.below hba
            replace TT := TT.below hba
            replace BW := BW.step hba
            replace BR := BR.step hba
            replace HB := hid (bthen HB.out hba (Nat.le_refl _))
            obtain ⟨y0, y1, y2, y3, y4, y5, y6⟩ := K.cells
            obtain ⟨z0, z1, z2⟩ := BW.c3
            obtain ⟨v0, v1, v2⟩ := BX.c3
            clear hba
            go_wp2_with fail
            generalize w9.alloc (.cells #[.int .i64 (W.min + 1), .slice A5 N.n c5, .slice M5 N.k d5] 30) = wx at *
            clear y0 y1 y2 y3 y4 y5 y6
            clear z0 z1 z2 v0 v1 v2
            refine (SameWater_any (W.min + 1) Y1 Y5 B1' B5 (by omega) (by omega)).mono ?_
            rintro e wb ⟨rfl, hb⟩
            replace Y3 := Y3.below hb
            replace Yx := Yx.below hb
            replace K := K.below hb
            replace TT := TT.below hb
            replace BR := BR.step hb
            replace HB := hid (bthen HB.out hb (Nat.le_refl _))
            clear hb Y1 Y5 B1' B5 BW BX
            go_wp2_with fail
            refine (Ints_true Y3 Yx (by omega)).mono ?_
            rintro e wc ⟨rfl, hb⟩
            replace K := K.below hb
            replace TT := TT.below hb
            replace BR := BR.step hb
            replace HB := hid (bthen HB.out hb (Nat.le_refl _))
            clear hb Y3 Yx
            clear HRO1
            obtain ⟨z0, z1, z2⟩ := BR.c3
            go_wp2_with fail
            clear z0 z1 z2
            refine (none_true _).mono ?_
            rintro e wa ⟨rfl, hb⟩
            have HBz := hid (bthen HB.out hb (Nat.le_refl _))
            clear hb
            go_wp2
            go_ret
            exact ⟨rfl, HBz.out⟩
          · have dneg : decide (m < 0) = false := decide_eq_false hneg
            have hov : 1000000 < W.min + m := by
              rcases Int.lt_or_le 1000000 (W.min + m) with h | h
              · exact h
              · rw [lstB_iff.2 ⟨⟨by omega, by omega⟩, h⟩] at hls; cases hls
            have hwm : IntKind.i64.wrap (W.min + m) = W.min + m := IntWalk.i64_in _ (by have := (Fit.of Hq.out).t1; omega)
            have dov : decide (1000000 < W.min + m) = true := decide_eq_true hov
            obtain ⟨y0, y1, y2, y3, y4, y5, y6⟩ := K.cells
            have Y1 := Ys.own h1
            have B1' := Bs.own h2
            have Y3 := Ys.own h3
            have HFq := hid (Fit.of Hq.out)
            have hn9 := Hs.out.n
            have hk9 := Hs.out.k
            clear h1 h2 h3 HSO1
            go_wp2_with fail
            clear y0 y1 y2 y3 y4 y5 y6
            refine (rStep_any HFq Hs K.n K.a).mono ?_
            rintro e w9 ⟨v, x, rfl, hv, hx, hb⟩
            obtain ⟨A5, c5, M5, d5, rfl, hx5, hy5⟩ := hv.out
            obtain ⟨Ax, cx, rfl⟩ := own_slice hx
            replace Y1 := Y1.below hb
            replace B1' := B1'.below hb
            replace Y3 := Y3.below hb
            replace K := K.below hb
            replace TT := TT.below hb
            replace BW := BW.step hb
            replace BR := BR.step hb
            replace HB := hid (bthen HB.out hb (Nat.le_refl _))
            have Y5 := Ys.own hx5
            have B5 := Bs.own hy5
            have Yx := Ys.own hx
            have hzw9 := hid hb.size
            clear hb hv hx hx5 hy5
            have hba := alo (W := w9) (o := .cells #[.int .i64 (W.min + 1), .slice A5 N.n c5, .slice M5 N.k d5] 30)
            have BX := Bk.of_alloc w9 (.cells #[.int .i64 (W.min + 1), .slice A5 N.n c5, .slice M5 N.k d5] 30) rfl
            replace Y1 := Y1.below hba
            replace B1' := B1'.below hba
            replace Y3 := Y3.below hba
            replace Y5 := Y5.below hba
            replace B5 := B5.below hba
            replace Yx := Yx.below hba
            replace K := K.below hba
            replace TT := TT.below hba
            replace BW := BW.step hba
            replace BR := BR.step hba
            replace HB := hid (bthen HB.out hba (Nat.le_refl _))
            obtain ⟨y0, y1, y2, y3, y4, y5, y6⟩ := K.cells
            obtain ⟨z0, z1, z2⟩ := BW.c3
            obtain ⟨v0, v1, v2⟩ := BX.c3
            clear hba
            go_wp2_with fail
            generalize w9.alloc (.cells #[.int .i64 (W.min + 1), .slice A5 N.n c5, .slice M5 N.k d5] 30) = wx at *
            clear y0 y1 y2 y3 y4 y5 y6
            clear z0 z1 z2 v0 v1 v2
            refine (SameWater_any (W.min + 1) Y1 Y5 B1' B5 (by omega) (by omega)).mono ?_
            rintro e wb ⟨rfl, hb⟩
            replace Y3 := Y3.below hb
            replace Yx := Yx.below hb
            replace K := K.below hb
            replace TT := TT.below hb
            replace BR := BR.step hb
            replace HB := hid (bthen HB.out hb (Nat.le_refl _))
            clear hb Y1 Y5 B1' B5 BW BX
            go_wp2_with fail
            refine (Ints_true Y3 Yx (by omega)).mono ?_
            rintro e wc ⟨rfl, hb⟩
            replace K := K.below hb
            replace TT := TT.below hb
            replace BR := BR.step hb
            replace HB := hid (bthen HB.out hb (Nat.le_refl _))
            clear hb Y3 Yx
            clear HRO1
            obtain ⟨z0, z1, z2⟩ := BR.c3
            go_wp2_with fail
            clear z0 z1 z2
            refine (none_true _).mono ?_
            rintro e wa ⟨rfl, hb⟩
            have HBz := hid (bthen HB.out hb (Nat.le_refl _))
            clear hb
            go_wp2
            go_ret
            exact ⟨rfl, HBz.out⟩
        · have dbig : decide ((10000 : Int) < (j : Int)) = false := decide_eq_false (by omega)
          have dneg : decide ((j : Int) < 0) = false := decide_eq_false (by omega)
          have hwm : IntKind.i64.wrap (W.min + (j : Int)) = W.min + (j : Int) := IntWalk.i64_in _ (by have := (Fit.of Hq.out).t0; omega)
          have dov : decide (1000000 < W.min + (j : Int)) = false := decide_eq_false (by omega)
          have Y2 := Ys.own h4
          have B2' := Bs.own h5
          clear h4 h5 HRO1
          obtain ⟨y0, y1, y2, y3, y4, y5, y6⟩ := K.cells
          have Y1 := Ys.own h1
          have B1' := Bs.own h2
          have Y3 := Ys.own h3
          have HFq := hid (Fit.of Hq.out)
          have hn9 := Hs.out.n
          have hk9 := Hs.out.k
          clear h1 h2 h3 HSO1
          go_wp2_with fail
          clear y0 y1 y2 y3 y4 y5 y6
          refine (rStep_any HFq Hs K.n K.a).mono ?_
          rintro e w9 ⟨v, x, rfl, hv, hx, hb⟩
          obtain ⟨A5, c5, M5, d5, rfl, hx5, hy5⟩ := hv.out
          obtain ⟨Ax, cx, rfl⟩ := own_slice hx
          replace Y1 := Y1.below hb
          replace B1' := B1'.below hb
          replace Y3 := Y3.below hb
          replace K := K.below hb
          replace TT := TT.below hb
          replace BW := BW.step hb
          replace BR := BR.step hb
          replace Y2 := Y2.below hb
          replace B2' := B2'.below hb
          replace HB := hid (bthen HB.out hb (Nat.le_refl _))
          have Y5 := Ys.own hx5
          have B5 := Bs.own hy5
          have Yx := Ys.own hx
          have hzw9 := hid hb.size
          clear hb hv hx hx5 hy5
          have hba := alo (W := w9) (o := .cells #[.int .i64 (W.min + 1), .slice A5 N.n c5, .slice M5 N.k d5] 30)
          have BX := Bk.of_alloc w9 (.cells #[.int .i64 (W.min + 1), .slice A5 N.n c5, .slice M5 N.k d5] 30) rfl
          replace Y1 := Y1.below hba
          replace B1' := B1'.below hba
          replace Y3 := Y3.below hba
          replace Y5 := Y5.below hba
          replace B5 := B5.below hba
          replace Yx := Yx.below hba
          replace K := K.below hba
          replace TT := TT.below hba
          replace BW := BW.step hba
          replace BR := BR.step hba
          replace Y2 := Y2.below hba
          replace B2' := B2'.below hba
          replace HB := hid (bthen HB.out hba (Nat.le_refl _))
          obtain ⟨y0, y1, y2, y3, y4, y5, y6⟩ := K.cells
          obtain ⟨z0, z1, z2⟩ := BW.c3
          obtain ⟨v0, v1, v2⟩ := BX.c3
          clear hba
          go_wp2_with fail
          generalize w9.alloc (.cells #[.int .i64 (W.min + 1), .slice A5 N.n c5, .slice M5 N.k d5] 30) = wx at *
          clear y0 y1 y2 y3 y4 y5 y6
          clear z0 z1 z2 v0 v1 v2
          refine (SameWater_any (W.min + 1) Y1 Y5 B1' B5 (by omega) (by omega)).mono ?_
          rintro e wb ⟨rfl, hb⟩
          replace Y3 := Y3.below hb
          replace Yx := Yx.below hb
          replace K := K.below hb
          replace TT := TT.below hb
          replace BR := BR.step hb
          replace Y2 := Y2.below hb
          replace B2' := B2'.below hb
          replace HB := hid (bthen HB.out hb (Nat.le_refl _))
          clear hb Y1 Y5 B1' B5 BW BX
          go_wp2_with fail
          refine (Ints_true Y3 Yx (by omega)).mono ?_
          rintro e wc ⟨rfl, hb⟩
          replace K := K.below hb
          replace TT := TT.below hb
          replace BR := BR.step hb
          replace Y2 := Y2.below hb
          replace B2' := B2'.below hb
          replace HB := hid (bthen HB.out hb (Nat.le_refl _))
          clear hb Y3 Yx
          have HFq2 := hid (Fit.of Hq.out)
          have Hte := hid Hse.out.zero.2
          have hn92 : N.n ≤ 9223372036854775807 := by have := Hs.out.n; omega
          have hk92 : N.k ≤ 9223372036854775807 := by have := Hs.out.k; omega
          have HRR := hid (fun (V : World) (B0 B1 B2 : Nat) (h1 : Nt V B0 N) (h2 : Wt V B1 W) (h3 : Tl V B2 P T.p T.tm T.tl T.tp) => (show Calls Try.prog 16 #[.agg #[.slice N.A N.n N.c, .slice N.M N.m N.d, .slice N.K N.k N.e], .agg #[.int .i64 W.min, .slice W.A W.n W.c, .slice W.M W.m W.d], .slice P T.p u, .int .i64 (j : Int)] V fun e w' => ∃ A5 c5 M5 d5, e = .returned (.agg #[.int .i64 (W.min + (j : Int)), .slice A5 N.n c5, .slice M5 N.k d5]) ∧ Ys w' w'.heap.size A5 N.n (rnS N T W.min W.X W.Y j).1 ∧ Bs w' w'.heap.size M5 N.k (rnS N T W.min W.X W.Y j).2 ∧ Below V.heap.size V w' from by
            refine (rRun_any (u := u) j HFq2 Hs Hte h1 h2 h3 (by omega)).mono ?_
            rintro e w' ⟨v, rfl, hv, hb⟩
            obtain ⟨A5, c5, M5, d5, rfl, h6, h7⟩ := hv.out
            exact ⟨A5, c5, M5, d5, rfl, Ys.own h6, Bs.own h7, hb⟩))
          obtain ⟨z0, z1, z2⟩ := BR.c3
          obtain ⟨y0, y1, y2, y3, y4, y5, y6⟩ := K.cells
          go_wp2_with fail
          clear y0 y1 y2 y3 y4 y5 y6
          clear z0 z1 z2
          have HD0 := hid ((Cwr.mk K BR TT Y2 B2').below dr0)
          clear K TT BR Y2 B2'
          go_region_held3 (fun w' => w'.cell? ⟨g, 0, none⟩ = some (.slice N.A N.n N.c) ∧ w'.cell? ⟨g, 1, none⟩ = some (.slice N.M N.m N.d) ∧ w'.cell? ⟨g, 2, none⟩ = some (.slice N.K N.k N.e) ∧ w'.cell? ⟨g, 3, none⟩ = some (.int .i64 W.min) ∧ w'.cell? ⟨g, 4, none⟩ = some (.slice W.A W.n W.c) ∧ w'.cell? ⟨g, 5, none⟩ = some (.slice W.M W.m W.d) ∧ w'.cell? ⟨g, 6, none⟩ = some (.slice P T.p u) ∧ w'.cell? ⟨gr, 0, none⟩ = some (.int .i64 (W.min + (j : Int))) ∧ w'.cell? ⟨gr, 1, none⟩ = some (.slice A2 N.n c2) ∧ w'.cell? ⟨gr, 2, none⟩ = some (.slice M2 N.k d2)) (first | with_reducible exact Cwr.cells HD0.out | with_reducible exact Cwr.cells D1 | with_reducible exact Cwr.cells D2) (first
            | (go_at_call 16; (with_reducible refine (HRR.out _ _ _ _ HD0.out.kc.n HD0.out.kc.a HD0.out.tt).mono ?_); rintro e wd ⟨A5, c5, M5, d5, rfl, Y5, B5, hbd⟩; have D1 := HD0.out.below hbd)
            | (go_at_call 14; (with_reducible refine (SameWater_any (W.min + (j : Int)) D1.ys Y5 D1.bs B5 hn92 hk92).mono ?_); rintro e we ⟨rfl, hbe⟩; have D2 := D1.below hbe))
          all_goals
            have HBz := hid (bthen (bthen HB.out.drew hbd (Nat.le_refl _)) hbe (Nat.le_refl _))
            clear hbd hbe
            go_wp2
            go_ret
            exact ⟨rfl, HBz.out⟩

end Go.Proofs.Ytockfiobhmohnaa

