/- The walk of WaterFlows. For every case and name. -/
import Derived.Test.YtndcopljjnbkbaaNt31
namespace Go.Proofs.Ytndcopljjnbkbaa
open Go.RowKit Go.Maps Kb Wb

/-- A case in a box. -/
structure Cw (w : World) (g B0 B1 : Nat) (N : Nd) (W : Wd) (P : Option Addr) (p u : Nat) : Prop where
  b : Bk w g (.cells #[.slice N.A N.n N.c, .slice N.M N.m N.d, .slice N.K N.k N.e, .int .i64 W.min, .slice W.A W.n W.c, .slice W.M W.m W.d, .slice P p u] 51 (0, 0))
  n : Nt w B0 N
  a : Wt w B1 W
section
variable {w w' : World} {g B0 B1 : Nat} {N : Nd} {W : Wd} {P : Option Addr} {p u : Nat}
theorem Cw.below (h : Cw w g B0 B1 N W P p u) (hb : Below w.heap.size w w') : Cw w' g B0 B1 N W P p u := ⟨h.b.step hb, h.n.below hb, h.a.below hb⟩
theorem Cw.cells (h : Cw w g B0 B1 N W P p u) : w.cell? ⟨g, 0, none⟩ = some (.slice N.A N.n N.c) ∧ w.cell? ⟨g, 1, none⟩ = some (.slice N.M N.m N.d) ∧ w.cell? ⟨g, 2, none⟩ = some (.slice N.K N.k N.e) ∧ w.cell? ⟨g, 3, none⟩ = some (.int .i64 W.min) ∧ w.cell? ⟨g, 4, none⟩ = some (.slice W.A W.n W.c) ∧ w.cell? ⟨g, 5, none⟩ = some (.slice W.M W.m W.d) ∧ w.cell? ⟨g, 6, none⟩ = some (.slice P p u) := by
  have hh := fun i => cell_of_row w g i _ _ _ h.b
  exact ⟨hh 0, hh 1, hh 2, hh 3, hh 4, hh 5, hh 6⟩
/-- A case and a link of it. -/
structure Cl (w : World) (g B0 B1 : Nat) (N : Nd) (W : Wd) (P : Option Addr) (p u : Nat) (al : Addr) (i : Nat) : Prop where
  c : Cw w g B0 B1 N W P p u
  k : N.K = some al
  i : i < N.k
theorem Cl.below {al : Addr} {i : Nat} (h : Cl w g B0 B1 N W P p u al i) (hb : Below w.heap.size w w') : Cl w' g B0 B1 N W P p u al i := ⟨h.c.below hb, h.k, h.i⟩
theorem Cl.cells {al : Addr} {i : Nat} (h : Cl w g B0 B1 N W P p u al i) : w.cell? ⟨g, 0, none⟩ = some (.slice N.A N.n N.c) ∧ w.cell? ⟨g, 1, none⟩ = some (.slice N.M N.m N.d) ∧ w.cell? ⟨g, 2, none⟩ = some (.slice (some al) N.k N.e) ∧ w.cell? ⟨g, 3, none⟩ = some (.int .i64 W.min) ∧ w.cell? ⟨g, 4, none⟩ = some (.slice W.A W.n W.c) ∧ w.cell? ⟨g, 5, none⟩ = some (.slice W.M W.m W.d) ∧ w.cell? ⟨g, 6, none⟩ = some (.slice P p u) ∧ w.cell? (al.add (i * 8)) = some (.string (N.l i).nm) ∧ w.cell? ⟨(al.add (i * 8)).block, (al.add (i * 8)).off + 1, none⟩ = some (.int .i64 (N.l i).kind) ∧ w.cell? ⟨(al.add (i * 8)).block, (al.add (i * 8)).off + 2, none⟩ = some (.string (N.l i).fr) ∧ w.cell? ⟨(al.add (i * 8)).block, (al.add (i * 8)).off + 3, none⟩ = some (.string (N.l i).tw) ∧ w.cell? ⟨(al.add (i * 8)).block, (al.add (i * 8)).off + 4, none⟩ = some (.int .i64 (N.l i).sill) ∧ w.cell? ⟨(al.add (i * 8)).block, (al.add (i * 8)).off + 5, none⟩ = some (.int .i64 (N.l i).rate) ∧ w.cell? ⟨(al.add (i * 8)).block, (al.add (i * 8)).off + 6, none⟩ = some (.int .i64 (N.l i).fac) ∧ w.cell? ⟨(al.add (i * 8)).block, (al.add (i * 8)).off + 7, none⟩ = some (.int .i64 (N.l i).lift) := by
  obtain ⟨a0, a1, a2, a3, a4, a5, a6⟩ := h.c.cells
  obtain ⟨al', e, _, c0, c1, c2, c3, c4, c5, c6, c7⟩ := h.c.n.l.at_ i h.i
  rw [h.k] at a2 e
  injection e with e
  subst e
  exact ⟨a0, a1, a2, a3, a4, a5, a6, c0, c1, c2, c3, c4, c5, c6, c7⟩
end
theorem Act_isA {w : World} {B0 B1 : Nat} {N : Nd} {W : Wd} {i : Nat} {q : Bool} {z x : Int} {b : Bd} {q2 : Bool} {z2 x2 : Int} {b2 : Bd} {K' : Option Addr} (hK : N.K = K') (HS1 : Hid (Sds N W (N.l i).fr q z b x)) (HS2 : Hid (Sds N W (N.l i).tw q2 z2 b2 x2)) (HF : Hid (Fit N W)) (Hs : Hid (Nsm N)) (h : Nt w B0 N) (hw : Wt w B1 W) (hi : i < N.k) :
    Calls Try.prog 23 #[.agg #[.slice N.A N.n N.c, .slice N.M N.m N.d, .slice K' N.k N.e], .agg #[.int .i64 W.min, .slice W.A W.n W.c, .slice W.M W.m W.d], .agg #[.string (N.l i).nm, .int .i64 (N.l i).kind, .string (N.l i).fr, .string (N.l i).tw, .int .i64 (N.l i).sill, .int .i64 (N.l i).rate, .int .i64 (N.l i).fac, .int .i64 (N.l i).lift]] w fun e w' => ∃ r : Int, e = .returned (.int .i64 r) ∧ Hid (Flw (N.l i) true q z b x q2 z2 b2 x2 r) ∧ Below w.heap.size w w' := by
  subst hK; exact Act_is HS1 HS2 HF Hs h hw hi
set_option maxRecDepth 100000 in
set_option maxHeartbeats 16000000 in
theorem flows_walk {w : World} {B0 B1 B2 : Nat} {N : Nd} {W : Wd} {P : Option Addr} {p u : Nat} {tm : Nat → Int} {tl : Nat → ByteArray} {tp : Nat → Bool} {s : ByteArray} (h : Nt w B0 N) (hw : Wt w B1 W) (hT : Tl w B2 P p tm tl tp) (hp9 : p ≤ 9223372036854775807)
    (hszl : ∀ i, i < N.k → (N.l i).nm.size < 9223372036854775808 ∧ (N.l i).fr.size < 9223372036854775808 ∧ (N.l i).tw.size < 9223372036854775808) (hsb : ∀ i, i < N.n → (N.b i).nm.size < 9223372036854775808) (hsz : ∀ i, i < p → (tl i).size < 9223372036854775808) (hss : s.size < 9223372036854775808) :
    Calls Try.prog 4 #[.agg #[.slice N.A N.n N.c, .slice N.M N.m N.d, .slice N.K N.k N.e, .int .i64 W.min, .slice W.A W.n W.c, .slice W.M W.m W.d, .slice P p u], .string s] w fun e w' => e = .returned (.bool true) ∧ Below w.heap.size w w' := by
  obtain ⟨g, hg⟩ : ∃ g, w.heap.size = g := ⟨_, rfl⟩
  have hb0 := alo (W := w) (o := .cells #[.slice N.A N.n N.c, .slice N.M N.m N.d, .slice N.K N.k N.e, .int .i64 W.min, .slice W.A W.n W.c, .slice W.M W.m W.d, .slice P p u] 51)
  have K : Cw _ g B0 B1 N W P p u := ⟨Bk.of_alloc w (.cells #[.slice N.A N.n N.c, .slice N.M N.m N.d, .slice N.K N.k N.e, .int .i64 W.min, .slice W.A W.n W.c, .slice W.M W.m W.d, .slice P p u] 51) hg, h.below hb0, hw.below hb0⟩
  have T := hT.below hb0
  have Hsz := hid hsz
  have Hszl := hid hszl
  have Hsb := hid hsb
  clear h hw hT hsz hszl hsb
  go_enter Try.func4, Try.ntmps4
  go_wp2_with fail
  generalize w.alloc (.cells #[.slice N.A N.n N.c, .slice N.M N.m N.d, .slice N.K N.k N.e, .int .i64 W.min, .slice W.A W.n W.c, .slice W.M W.m W.d, .slice P p u] 51) = W0 at *
  have HB0 := hid hb0
  have Hg := hid hg
  clear hb0 hg
  refine (awake_any _).mono ?_
  rintro e w1 ⟨rfl, hb⟩
  have K1 := K.below hb
  have T1 := T.below hb
  have HB1 := hid (bthen HB0.out hb (Nat.le_refl _))
  clear hb K T
  obtain ⟨y0, y1, y2, y3, y4, y5, y6⟩ := K1.cells
  go_wp2_with fail
  clear y0 y1 y2 y3 y4 y5 y6
  refine (Short_any K1.n K1.a T1 hp9 Hszl.out Hsb.out Hsz.out).mono ?_
  rintro e w2 ⟨sh, rfl, hsh, hb⟩
  have K2 := K1.below hb
  have HB2 := hid (bthen HB1.out hb (Nat.le_refl _))
  clear hb K1 T1
  cases sh
  case false =>
    go_wp2
    go_ret
    exact ⟨rfl, HB2.out⟩
  case true =>
    have HC := hid (hsh.out rfl)
    clear hsh
    have Hs := hid HC.out.s.sm
    have hn10 := HC.out.s.n
    have hk14 := HC.out.s.k
    by_cases s40 : s.size ≤ 40
    · have d40 : decide ((40 : Int) < (s.size : Int)) = false := decide_eq_false (by omega)
      obtain ⟨q, hq0⟩ := We.exists N W
      have Hq := hid hq0
      obtain ⟨k, hk0⟩ := Ixn.exists N.k N.lnm s
      have Hk := hid hk0
      clear hq0 hk0
      obtain ⟨y0, y1, y2, y3, y4, y5, y6⟩ := K2.cells
      by_cases q0 : q = 0
      · subst q0
        have HF := hid (Fit.of Hq.out)
        go_wp2_with fail
        clear y0 y1 y2 y3 y4 y5 y6
        refine (Levels_ok Hq K2.n Hs.out K2.a).mono ?_
        rintro e w3 ⟨v, rfl, hown, hb⟩
        obtain ⟨A, c, rfl, hY, -, -⟩ := Ys.of_own hown.out
        have K3 := K2.below hb
        have HB3 := hid (bthen HB2.out hb (Nat.le_refl _))
        clear hb K2 hown
        obtain ⟨y0, y1, y2, y3, y4, y5, y6⟩ := K3.cells
        go_wp2_with fail
        clear y0 y1 y2 y3 y4 y5 y6
        refine (Flow_any Hq Hk K3.n Hs.out K3.a).mono ?_
        rintro e w4 ⟨r, f, rfl, hf, hb⟩
        have K4 := K3.below hb
        have Y4 := hY.below hb
        have HB4 := hid (bthen HB3.out hb (Nat.le_refl _))
        clear hb K3 hY
        obtain ⟨y0, y1, y2, y3, y4, y5, y6⟩ := K4.cells
        go_wp2_with fail
        clear y0 y1 y2 y3 y4 y5 y6
        refine (rStarted_nil K4.n Hs.out K4.a).mono ?_
        rintro e w5 ⟨t, rfl, ht, hb⟩
        obtain rfl : (0 : Int) = t := Hq.out.same ht.out
        have K5 := K4.below hb
        have Y5 := Y4.below hb
        have HB5 := hid (bthen HB4.out hb (Nat.le_refl _))
        clear hb K4 Y4 ht
        obtain ⟨y0, y1, y2, y3, y4, y5, y6⟩ := K5.cells
        go_wp2_with fail
        clear y0 y1 y2 y3 y4 y5 y6
        refine (rLink_is Hk K5.n Hs.out).mono ?_
        rintro e w6 ⟨rfl, hb⟩
        have K6 := K5.below hb
        have Y6 := Y5.below hb
        have HB6 := hid (bthen HB5.out hb (Nat.le_refl _))
        clear hb K5 Y5
        obtain ⟨y0, y1, y2, y3, y4, y5, y6⟩ := K6.cells
        go_wp2_with fail
        clear y0 y1 y2 y3 y4 y5 y6
        refine (rLevels_ok HF Hs.out K6.n K6.a).mono ?_
        rintro e w7 ⟨v, rfl, hown, hb⟩
        obtain ⟨A', c', rfl, hY', -, -⟩ := Ys.of_own hown.out
        have K7 := K6.below hb
        have Y7 := Y6.below hb
        have HB7 := hid (bthen HB6.out hb (Nat.le_refl _))
        clear hb K6 Y6 hown
        go_wp2_with fail
        refine (Ints_true Y7 hY' (by omega)).mono ?_
        rintro e w8 ⟨rfl, hb⟩
        have K8 := K7.below hb
        have HB8 := hid (bthen HB7.out hb (Nat.le_refl _))
        clear hb K7 Y7 hY'
        rcases hf.out with ⟨h0, _⟩ | ⟨_, rfl, rfl, rfl⟩ | ⟨_, rfl, i, rfl, hi, sq, z, b, x, sq2, z2, b2, xx, hS1, hS2, hFl⟩
        · exact absurd rfl h0
        · clear hf
          go_wp2
          go_ret
          exact ⟨rfl, HB8.out⟩
        · have hiN : (i : Int) < (N.k : Int) := by omega
          have him : i < W.m := by rw [HF.out.m]; exact hi
          have hiM : (i : Int) < (W.m : Int) := by omega
          obtain ⟨ay, hay, -, hy⟩ := K8.a.y i him
          obtain ⟨al, hal, -⟩ := K8.n.l.at_ i hi
          have HS1 := hid hS1
          have HS2 := hid hS2
          obtain ⟨y0, y1, y2, y3, y4, y5, y6⟩ := K8.cells
          rw [hay] at y5
          have Hay := hid hay
          have Hal := hid hal
          clear hf hS1 hS2 hay hal
          cases ho : W.Y i
          case false =>
            rw [ho] at hy
            obtain rfl : r = 0 := by
              rcases hFl with ⟨_, h⟩ | ⟨h, _⟩
              · exact h
              · rw [ho] at h; cases h
            clear hFl
            go_wp2
            go_ret
            exact ⟨rfl, HB8.out⟩
          case true =>
            rw [ho] at hy
            have HFl := hid hFl
            have Ho := hid ho
            clear hFl ho
            go_wp2_with fail
            have E0 : Cl w8.drew g B0 B1 N W P p u al i := (⟨K8, Hal.out, hi⟩ : Cl w8 g B0 B1 N W P p u al i).below dr0
            clear y0 y1 y2 y3 y4 y5 y6 hy K8
            go_region_held3 (fun w' => w'.cell? ⟨g, 0, none⟩ = some (.slice N.A N.n N.c) ∧ w'.cell? ⟨g, 1, none⟩ = some (.slice N.M N.m N.d) ∧ w'.cell? ⟨g, 2, none⟩ = some (.slice (some al) N.k N.e) ∧ w'.cell? ⟨g, 3, none⟩ = some (.int .i64 W.min) ∧ w'.cell? ⟨g, 4, none⟩ = some (.slice W.A W.n W.c) ∧ w'.cell? ⟨g, 5, none⟩ = some (.slice W.M W.m W.d) ∧ w'.cell? ⟨g, 6, none⟩ = some (.slice P p u) ∧ w'.cell? (al.add (i * 8)) = some (.string (N.l i).nm) ∧ w'.cell? ⟨(al.add (i * 8)).block, (al.add (i * 8)).off + 1, none⟩ = some (.int .i64 (N.l i).kind) ∧ w'.cell? ⟨(al.add (i * 8)).block, (al.add (i * 8)).off + 2, none⟩ = some (.string (N.l i).fr) ∧ w'.cell? ⟨(al.add (i * 8)).block, (al.add (i * 8)).off + 3, none⟩ = some (.string (N.l i).tw) ∧ w'.cell? ⟨(al.add (i * 8)).block, (al.add (i * 8)).off + 4, none⟩ = some (.int .i64 (N.l i).sill) ∧ w'.cell? ⟨(al.add (i * 8)).block, (al.add (i * 8)).off + 5, none⟩ = some (.int .i64 (N.l i).rate) ∧ w'.cell? ⟨(al.add (i * 8)).block, (al.add (i * 8)).off + 6, none⟩ = some (.int .i64 (N.l i).fac) ∧ w'.cell? ⟨(al.add (i * 8)).block, (al.add (i * 8)).off + 7, none⟩ = some (.int .i64 (N.l i).lift)) (first | with_reducible exact Cl.cells E0 | with_reducible exact Cl.cells E1) (first
              | (go_at_call 23; (with_reducible refine (Act_isA E0.k HS1 HS2 HF Hs E0.c.n E0.c.a hi).mono ?_); rintro e w9 ⟨r2, rfl, hr2, hb9⟩; have E1 := E0.below hb9))
            have HB9 := hid (bthen HB8.out.drew hb9 (Nat.le_refl _))
            obtain rfl : r = r2 := by
              have h1 := HFl.out
              rw [Ho.out] at h1
              exact h1.same hr2.out
            clear hb9 E0 E1 hr2
            have drr : (r == r) = true := by rw [beq_iff_eq]
            go_wp2
            go_ret
            exact ⟨rfl, HB9.out⟩
      · have hqn : (q != 0) = true := by rw [bne_iff_ne]; exact q0
        have hqq : (q == q) = true := by rw [beq_iff_eq]
        go_wp2_with fail
        clear y0 y1 y2 y3 y4 y5 y6
        refine (Levels_err Hq q0 K2.n Hs.out K2.a).mono ?_
        rintro e w3 ⟨rfl, hb⟩
        have K3 := K2.below hb
        have HB3 := hid (bthen HB2.out hb (Nat.le_refl _))
        clear hb K2
        obtain ⟨y0, y1, y2, y3, y4, y5, y6⟩ := K3.cells
        go_wp2_with fail
        clear y0 y1 y2 y3 y4 y5 y6
        refine (Flow_any Hq Hk K3.n Hs.out K3.a).mono ?_
        rintro e w4 ⟨r, f, rfl, hf, hb⟩
        obtain ⟨rfl, rfl⟩ : r = 0 ∧ f = q := by
          rcases hf.out with ⟨_, h1, h2⟩ | ⟨h, _⟩ | ⟨h, _⟩
          · exact ⟨h1, h2⟩
          · exact absurd h q0
          · exact absurd h q0
        have K4 := K3.below hb
        have HB4 := hid (bthen HB3.out hb (Nat.le_refl _))
        clear hb K3 hf
        obtain ⟨y0, y1, y2, y3, y4, y5, y6⟩ := K4.cells
        go_wp2_with fail
        clear y0 y1 y2 y3 y4 y5 y6
        refine (rStarted_nil K4.n Hs.out K4.a).mono ?_
        rintro e w5 ⟨t, rfl, ht, hb⟩
        obtain rfl := Hq.out.same ht.out
        have HB5 := hid (bthen HB4.out hb (Nat.le_refl _))
        clear hb K4 ht q0
        go_wp2
        go_ret
        exact ⟨rfl, HB5.out⟩
    · have d40 : decide ((40 : Int) < (s.size : Int)) = true := decide_eq_true (by omega)
      go_wp2
      go_ret
      exact ⟨rfl, HB2.out⟩

end Go.Proofs.Ytndcopljjnbkbaa
