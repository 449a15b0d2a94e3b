/- The walk of WaterNetworks. For all networks, minutes and lists of levels. -/
import Derived.Test.YtndcopljjnbkbaaNt10
namespace Go.Proofs.Ytndcopljjnbkbaa
open Go.RowKit Go.Maps Kb Wb

theorem Fo.same {N : Nd} {t : Int} {nl : Nat} {Z : Nat → Int} {r s : Int} (h : Fo N t nl Z r) (k : Fo N t nl Z s) : r = s := by
  obtain ⟨q, hq, h⟩ := h
  obtain ⟨p, hp, k⟩ := k
  have := hq.same hp
  subst this
  rcases h with ⟨h0, rfl⟩ | ⟨h0, ⟨h1, rfl⟩ | ⟨h1, ⟨h2, rfl⟩ | ⟨h2, ⟨h3, rfl⟩ | ⟨h3, rfl⟩⟩⟩⟩ <;> rcases k with ⟨k0, rfl⟩ | ⟨k0, ⟨k1, rfl⟩ | ⟨k1, ⟨k2, rfl⟩ | ⟨k2, ⟨k3, rfl⟩ | ⟨k3, rfl⟩⟩⟩⟩ <;> first | rfl | exact absurd k0 h0 | exact absurd h0 k0 | exact absurd k1 h1 | exact absurd h1 k1 | exact absurd k2 h2 | exact absurd h2 k2 | exact absurd k3 h3 | exact absurd h3 k3
theorem Cn.cb {N : Nd} (h : Cn N 0) {i : Nat} (hi : i < N.n) : Cb (nameB (N.b i).nm) (N.b i).n (N.b i).F (N.b i).S (N.b i).rim 0 := by
  rcases h.zero.1 with ⟨_, h⟩ | ⟨_, ⟨j, hj, _, h1⟩ | ⟨h1, _⟩⟩
  · cases h
  · rcases h1 with ⟨_, h⟩ | ⟨_, _, h⟩ | ⟨_, _, _, h⟩
    · cases h
    · cases h
    · exact absurd rfl h
  · exact .inr ⟨(h1 i hi).1, (h1 i hi).2.2⟩
theorem vo_ex {N : Nd} (h : Cn N 0) {i : Nat} (hi : i < N.n) (z : Int) : ∃ r x : Int, Vo (nameB (N.b i).nm) (N.b i).n (N.b i).F (N.b i).S (N.b i).rim z r x ∧ ((InL (N.b i) z ∧ r = volB (N.b i) z ∧ x = 0) ∨ (¬ InL (N.b i) z ∧ r = 0 ∧ x = 2)) := by
  by_cases hin : InL (N.b i) z
  · exact ⟨volB (N.b i) z, 0, ⟨0, h.cb hi, .inr ⟨rfl, .inr ⟨hin, rfl, rfl⟩⟩⟩, .inl ⟨hin, rfl, rfl⟩⟩
  · exact ⟨0, 2, ⟨0, h.cb hi, .inr ⟨rfl, .inl ⟨hin, rfl, rfl⟩⟩⟩, .inr ⟨hin, rfl, rfl⟩⟩
theorem rVolume_is {w : World} {B0 n c : Nat} {A : Option Addr} {F S : Nat → Int} {rim lv r x : Int} {s : ByteArray} (hq : Hid (Vo (nameB s) n F S rim lv r x)) (h : Pa w B0 A n F S) (hn : n ≤ maxLen) (hs : s.size ≤ 1000000000) :
    Calls Try.prog 13 #[.agg #[.string s, .slice A n c, .int .i64 rim], .int .i64 lv] w fun e w' => e = .returned (.tuple #[.int .i64 r, .int .i64 x]) ∧ Below w.heap.size w w' :=
  (rVolume_any lv h hn hs).mono fun _ _ ⟨r', x', he, hr, hb⟩ => by
    obtain ⟨rfl, rfl⟩ := hr.out.same hq.out
    exact ⟨he, hb⟩
/-- The state that Fill returned. -/
def Xf (w : World) (B1 : Nat) (N : Nd) (t : Int) (Z : Nat → Int) (r t1 : Int) (xa : Option Addr) (xn xc : Nat) (ya : Option Addr) (yn yc : Nat) : Prop :=
  (r ≠ 0 ∧ t1 = 0 ∧ xa = none ∧ xn = 0 ∧ xc = 0 ∧ ya = none ∧ yn = 0 ∧ yc = 0) ∨ (r = 0 ∧ t1 = t ∧ xn = N.n ∧ yn = N.k ∧ Ys w B1 xa N.n (fun i => volB (N.b i) (Z i)) ∧ Fs w B1 ya N.k ∧ N.n ≤ xc ∧ xc ≤ maxLen ∧ yc = N.k)
theorem Xf.below {w w' : World} {B1 : Nat} {N : Nd} {t : Int} {Z : Nat → Int} {r t1 : Int} {xa : Option Addr} {xn xc : Nat} {ya : Option Addr} {yn yc : Nat} (h : Xf w B1 N t Z r t1 xa xn xc ya yn yc) (hb : Below w.heap.size w w') : Xf w' B1 N t Z r t1 xa xn xc ya yn yc :=
  h.imp id fun ⟨h0, h1, h2, h3, h4, h5, h6⟩ => ⟨h0, h1, h2, h3, h4.below hb, h5.below hb, h6⟩
theorem Fr.form {w0 w : World} {N : Nd} {t : Int} {Z : Nat → Int} {r : Int} {x : Value} (h : Fr w0 w N t Z r x) : ∃ (t1 : Int) (xa : Option Addr) (xn xc : Nat) (ya : Option Addr) (yn yc : Nat), x = .agg #[.int .i64 t1, .slice xa xn xc, .slice ya yn yc] ∧ Xf w w.heap.size N t Z r t1 xa xn xc ya yn yc := by
  rcases h with ⟨h0, rfl⟩ | ⟨h0, v, gm, rfl, hown, T, hg⟩
  · exact ⟨0, none, 0, 0, none, 0, 0, rfl, .inl ⟨h0, rfl, rfl, rfl, rfl, rfl, rfl, rfl⟩⟩
  · obtain ⟨A, c, rfl, hY, h1, h2⟩ := Ys.of_own hown
    exact ⟨t, A, N.n, c, _, _, _, rfl, .inr ⟨h0, rfl, rfl, rfl, hY, Fs.of_bk hg, h1, h2, rfl⟩⟩
/-- How the law's error stands after i levels. -/
def Lc (N : Nd) (t : Int) (nl : Nat) (Z : Nat → Int) (i : Nat) (c : Int) : Prop := (c ≠ 0 ∧ Fo N t nl Z c) ∨ (c = 0 ∧ Cn N 0 ∧ (0 ≤ t ∧ t ≤ 1000000) ∧ nl = N.n ∧ ∀ j, j < i → InL (N.b j) (Z j))
theorem Lc.next {N : Nd} {t : Int} {nl i : Nat} {Z : Nat → Int} {r x : Int} (h : Lc N t nl Z i 0) (hi : i < N.n) (hc : (InL (N.b i) (Z i) ∧ r = volB (N.b i) (Z i) ∧ x = 0) ∨ (¬ InL (N.b i) (Z i) ∧ r = 0 ∧ x = 2)) : Lc N t nl Z (i + 1) x := by
  rcases h with ⟨h, _⟩ | ⟨_, h1, h2, h3, h4⟩
  · exact absurd rfl h
  · rcases hc with ⟨c1, _, rfl⟩ | ⟨c1, _, rfl⟩
    · refine .inr ⟨rfl, h1, h2, h3, fun j hj => ?_⟩
      rcases Nat.lt_or_ge j i with h | h
      · exact h4 j h
      · have : j = i := by omega
        subst this; exact c1
    · exact .inl ⟨by decide, 0, h1, .inr ⟨rfl, .inr ⟨h2, .inr ⟨h3, .inl ⟨fun h => c1 (h i hi), rfl⟩⟩⟩⟩⟩
/-- The network's box, basin i, and level i. -/
structure Ni (w : World) (g B0 B1 : Nat) (N : Nd) (A : Option Addr) (nl : Nat) (Z : Nat → Int) (al ab : Addr) (i : Nat) : Prop where
  n : Nb w g B0 N
  y : Ys w B1 A nl Z
  ha : A = some al
  hi : i < nl
  hb : N.A = some ab
  hj : i < N.n
section
variable {w w' : World} {g B0 B1 : Nat} {N : Nd} {A : Option Addr} {nl : Nat} {Z : Nat → Int} {al ab : Addr} {i : Nat}
theorem Ni.below (h : Ni w g B0 B1 N A nl Z al ab i) (hb : Below w.heap.size w w') : Ni w' g B0 B1 N A nl Z al ab i := ⟨h.n.below hb, h.y.below hb, h.ha, h.hi, h.hb, h.hj⟩
theorem Ni.cells (h : Ni w g B0 B1 N A nl Z al ab i) : w.cell? ⟨g, 0, none⟩ = some (.slice (some ab) N.n N.c) ∧ w.cell? (ab.add (i * 3)) = some (.string (N.b i).nm) ∧ w.cell? ⟨(ab.add (i * 3)).block, (ab.add (i * 3)).off + 1, none⟩ = some (.slice (N.b i).A (N.b i).n (N.b i).c) ∧ w.cell? ⟨(ab.add (i * 3)).block, (ab.add (i * 3)).off + 2, none⟩ = some (.int .i64 (N.b i).rim) ∧ w.cell? (al.add i) = some (.int .i64 (Z i)) := by
  obtain ⟨b0, b1, b2⟩ := h.n.cells
  obtain ⟨ad', hA, _, q0⟩ := h.y.at_ i h.hi
  rw [h.ha] at hA
  injection hA with hA
  subst hA
  obtain ⟨ad', hA, _, q1, q2, q3, _⟩ := h.n.a.b.at_ i h.hj
  rw [h.hb] at hA b0
  injection hA with hA
  subst hA
  exact ⟨b0, q1, q2, q3, q0⟩
theorem Ni.pa (h : Ni w g B0 B1 N A nl Z al ab i) : Pa w B0 (N.b i).A (N.b i).n (N.b i).F (N.b i).S ∧ (N.b i).n ≤ maxLen := by
  obtain ⟨ad', hA, _, q1, q2, q3, h1, h2, h3⟩ := h.n.a.b.at_ i h.hj
  exact ⟨h1, Nat.le_trans h2 h3⟩
end
theorem lvB_volB {b : Bd} (B : Bas b.F b.S b.n b.rim) {z : Int} (h : InL b z) : lvB b (volB b z) = z := by
  have h1 := below_mono B h.2
  have h0 := below_mono B h.1
  rw [below_floor B (Int.le_refl _)] at h0
  exact (lvB_lev B h0 h1).same B (Lev.of_below B h.1 h.2)
theorem We.of_fill {N : Nd} {W : Wd} {Z : Nat → Int} (h : Cn N 0) (hm : 0 ≤ W.min ∧ W.min ≤ 1000000) (hn : W.n = N.n ∧ W.m = N.k) (hX : W.X = fun i => volB (N.b i) (Z i)) (hZ : ∀ i, i < N.n → InL (N.b i) (Z i)) : We N W 0 := by
  refine ⟨0, h, .inr ⟨rfl, .inr ⟨hm, .inr ⟨hn, .inr ⟨fun i hi => ?_, rfl⟩⟩⟩⟩⟩
  have B := h.bas hi
  have h1 := below_mono B (hZ i hi).2
  have h0 := below_mono B (hZ i hi).1
  rw [below_floor B (Int.le_refl _)] at h0
  unfold LitOk
  rw [hX]
  exact ⟨h0, h1⟩
theorem ints_congr {X Y : Nat → Int} {n : Nat} (h : ∀ i, i < n → X i = Y i) : ints X n = ints Y n := by
  unfold ints
  refine List.map_congr_left fun i hi => ?_
  rw [h i (List.mem_range.1 hi)]

set_option maxRecDepth 100000 in
set_option maxHeartbeats 16000000 in
theorem networks_walk {w : World} {B0 B1 nl cl : Nat} {A : Option Addr} {Z : Nat → Int} {N : Nd} (t : Int) (h : Nt w B0 N) (hy : Ys w B1 A nl Z) (hl9 : nl ≤ maxLen) (hsz : ∀ i, i < N.k → (N.l i).nm.size < 9223372036854775808 ∧ (N.l i).fr.size < 9223372036854775808 ∧ (N.l i).tw.size < 9223372036854775808) (hsb : ∀ i, i < N.n → (N.b i).nm.size < 9223372036854775808) :
    Calls Try.prog 3 #[.agg #[.slice N.A N.n N.c, .slice N.M N.m N.d, .slice N.K N.k N.e], .int .i64 t, .slice A nl cl] w fun e w' => e = .returned (.bool true) ∧ Below w.heap.size w w' := by
  have hl63 : nl ≤ 9223372036854775807 := by unfold maxLen at hl9; omega
  clear hl9
  obtain ⟨i0, hi0, hz0, hz1, hz2⟩ := info_parts info_int
  obtain ⟨g, hg⟩ : ∃ g, w.heap.size = g := ⟨_, rfl⟩
  have hb0 := alo (W := w) (o := .cells #[.slice N.A N.n N.c, .slice N.M N.m N.d, .slice N.K N.k N.e] 26)
  have K1 := Nb.new h hg
  have Y1 := hy.below hb0
  go_enter Try.func3, Try.ntmps3
  go_wp2_with fail
  generalize w.alloc (.cells #[.slice N.A N.n N.c, .slice N.M N.m N.d, .slice N.K N.k N.e] 26) = W0 at *
  have HB0 := hid hb0
  have Hg := hid hg
  clear hb0 hg h hy
  refine (awake_any _).mono ?_
  rintro e w1 ⟨rfl, hb⟩
  have K2 := K1.below hb
  have Y2 := Y1.below hb
  have HB1 := hid (bthen HB0.out hb (Nat.le_refl _))
  clear hb K1 Y1
  obtain ⟨x0, x1, x2⟩ := K2.cells
  go_wp2_with fail
  refine (short_any K2.a hsz hsb).mono ?_
  rintro e w2 ⟨p, rfl, hp, hb⟩
  have K3 := K2.below hb
  have Y3 := Y2.below hb
  have HB2 := hid (bthen HB1.out hb (Nat.le_refl _))
  clear hb K2 Y2 x0 x1 x2
  cases p with
  | false =>
    go_wp2
    go_ret
    exact ⟨rfl, HB2.out⟩
  | true =>
    have hss := hp.out rfl
    have hs := hss.sm
    have hnn := hss.n
    have hkk := hss.k
    have Hss := hid hss
    clear hss hp
    by_cases h20 : 20 < nl
    · have d0 : decide ((20 : Int) < (nl : Int)) = true := decide_eq_true (by omega)
      go_wp2
      go_ret
      exact ⟨rfl, HB2.out⟩
    · have d0 : decide ((20 : Int) < (nl : Int)) = false := decide_eq_false (by omega)
      obtain ⟨x0, x1, x2⟩ := K3.cells
      go_wp2_with fail
      refine (rCheckNetwork_any K3.a hs).mono ?_
      rintro e w3 ⟨q, rfl, hq, hb⟩
      have K4 := K3.below hb
      have Y4 := Y3.below hb
      have HB3 := hid (bthen HB2.out hb (Nat.le_refl _))
      clear hb K3 Y3 x0 x1 x2
      obtain ⟨x0, x1, x2⟩ := K4.cells
      go_wp2_with fail
      refine (Fill_any t K4.a hs Y4 hl63).mono ?_
      rintro e w4 ⟨x, r, rfl, HFo, hFr, hb⟩
      obtain ⟨t1, xa, xn, xc, ya, yn, yc, rfl, hX⟩ := hFr.out.form
      have K5 := (K4.below hb).below (alo (o := .cells #[.int .i64 t1, .slice xa xn xc, .slice ya yn yc] 33))
      have Y5 := (Y4.below hb).below (alo (o := .cells #[.int .i64 t1, .slice xa xn xc, .slice ya yn yc] 33))
      have X5 := hX.below (alo (o := .cells #[.int .i64 t1, .slice xa xn xc, .slice ya yn yc] 33))
      obtain ⟨gx, hgx⟩ : ∃ gx, w4.heap.size = gx := ⟨_, rfl⟩
      have R5 := Bk.of_alloc w4 (.cells #[.int .i64 t1, .slice xa xn xc, .slice ya yn yc] 33) hgx
      have HB4 := hid (bthen HB3.out hb (Nat.le_refl _))
      have HB5 := hid (HB4.out.alloc HB4.out.size (.cells #[.int .i64 t1, .slice xa xn xc, .slice ya yn yc] 33))
      clear hb K4 Y4 x0 x1 x2 hX hFr
      obtain ⟨x0, x1, x2⟩ := K5.cells
      go_wp2_with fail
      generalize w4.alloc (.cells #[.int .i64 t1, .slice xa xn xc, .slice ya yn yc] 33) = W5 at *
      rw [hgx] at X5
      have Hgx := hid hgx
      clear hgx
      refine (CheckNetwork_any K5.a hs).mono ?_
      rintro e w6 ⟨q', rfl, hq', hb⟩
      obtain rfl := hq'.out.same hq.out
      have K6 := K5.below hb
      have Y6 := Y5.below hb
      have HX := hid (X5.below hb)
      have R6 := R5.step hb
      have HB6 := hid (bthen HB5.out hb (Nat.le_refl _))
      clear hb K5 Y5 X5 R5 hq' x0 x1 x2
      obtain ⟨x0, x1, x2⟩ := K6.cells
      have hmk := run_make_bools N.k (by omega)
      have HQ := hq
      clear hq
      by_cases hq0 : q' = 0
      · subst hq0
        by_cases ht0 : t < 0
        · have dt : decide (t < 0) = true := decide_eq_true ht0
          have HE := hid (show Fo N t nl Z 2 from ⟨0, HQ.out, .inr ⟨rfl, .inl ⟨by omega, rfl⟩⟩⟩)
          clear ht0
          have SX0 := (R6.alloc (.cells (Array.replicate N.k (.bool false)) 4)).alloc (.cells #[.int .i64 t, .slice none 0 0, .slice (some ⟨w6.heap.size, 0, none⟩) N.k N.k] 33)
          have HBW := hid ((HB6.out.alloc HB6.out.size (.cells (Array.replicate N.k (.bool false)) 4)).alloc (by have := HB6.out.size; simp; omega) (.cells #[.int .i64 t, .slice none 0 0, .slice (some ⟨w6.heap.size, 0, none⟩) N.k N.k] 33))
          obtain ⟨c, hcC⟩ : ∃ c : Int, c = 2 := ⟨_, rfl⟩
          have hfc := HE
          rw [← hcC] at hfc
          go_wp2_with fail
          generalize (w6.alloc (.cells (Array.replicate N.k (.bool false)) 4)).alloc (.cells #[.int .i64 t, .slice none 0 0, .slice (some ⟨w6.heap.size, 0, none⟩) N.k N.k] 33) = W7 at *
          clear x0 x1 x2
          have hcz : c ≠ 0 := by rw [hcC]; first | decide | exact HQ0.out
          go_loopw [7, 11] (fun cv iv wr => cv = .int .i64 c ∧ iv = .int .i64 0 ∧ wr = W7) (fun _ _ _ => 0)
          case atStart => exact ⟨by rw [hcC], rfl, rfl⟩
          case round =>
            obtain ⟨rfl, rfl, rfl⟩ := hrel
            have SX := SX0
            have Hc := hid hcC
            clear hcC
            by_cases hlt : 0 < nl
            · have dlt : decide ((0 : Int) < (nl : Int)) = true := decide_eq_true (by omega)
              obtain rfl : c = r := hfc.out.same HFo.out
              have h0r := hcz
              rcases HX.out with ⟨-, e1, e2, e3, e4, e5, e6, e7⟩ | ⟨h0, -⟩
              · subst e1; subst e2; subst e3; subst e4; subst e5; subst e6; subst e7
                obtain ⟨r0, r1, r2⟩ := SX.c3
                have zc1 : (c == 0) = false := by rw [beq_eq_false_iff_ne]; exact hcz
                have zc2 : (c != 0) = true := by rw [bne_iff_ne]; exact hcz
                clear hcz h0r
                go_wp2_with fail
                refine (none_true _).mono ?_
                rintro e w9 ⟨rfl, hb9⟩
                have HB9 := hid (bthen HBW.out hb9 (Nat.le_refl _))
                clear hb9
                go_wp2
                go_ret
                exact ⟨rfl, HB9.out⟩
              · exact absurd h0 h0r
            · have dlt : decide ((0 : Int) < (nl : Int)) = false := decide_eq_false (by omega)
              obtain rfl : c = r := hfc.out.same HFo.out
              have h0r := hcz
              rcases HX.out with ⟨-, e1, e2, e3, e4, e5, e6, e7⟩ | ⟨h0, -⟩
              · subst e1; subst e2; subst e3; subst e4; subst e5; subst e6; subst e7
                obtain ⟨r0, r1, r2⟩ := SX.c3
                have zc1 : (c == 0) = false := by rw [beq_eq_false_iff_ne]; exact hcz
                have zc2 : (c != 0) = true := by rw [bne_iff_ne]; exact hcz
                clear hcz h0r
                go_wp2_with fail
                refine (none_true _).mono ?_
                rintro e w9 ⟨rfl, hb9⟩
                have HB9 := hid (bthen HBW.out hb9 (Nat.le_refl _))
                clear hb9
                go_wp2
                go_ret
                exact ⟨rfl, HB9.out⟩
              · exact absurd h0 h0r
        · have dt : decide (t < 0) = false := decide_eq_false ht0
          by_cases ht1 : 1000000 < t
          · have dt2 : decide (1000000 < t) = true := decide_eq_true ht1
            have HE := hid (show Fo N t nl Z 2 from ⟨0, HQ.out, .inr ⟨rfl, .inl ⟨by omega, rfl⟩⟩⟩)
            clear ht0 ht1
            have SX0 := (R6.alloc (.cells (Array.replicate N.k (.bool false)) 4)).alloc (.cells #[.int .i64 t, .slice none 0 0, .slice (some ⟨w6.heap.size, 0, none⟩) N.k N.k] 33)
            have HBW := hid ((HB6.out.alloc HB6.out.size (.cells (Array.replicate N.k (.bool false)) 4)).alloc (by have := HB6.out.size; simp; omega) (.cells #[.int .i64 t, .slice none 0 0, .slice (some ⟨w6.heap.size, 0, none⟩) N.k N.k] 33))
            obtain ⟨c, hcC⟩ : ∃ c : Int, c = 2 := ⟨_, rfl⟩
            have hfc := HE
            rw [← hcC] at hfc
            go_wp2_with fail
            generalize (w6.alloc (.cells (Array.replicate N.k (.bool false)) 4)).alloc (.cells #[.int .i64 t, .slice none 0 0, .slice (some ⟨w6.heap.size, 0, none⟩) N.k N.k] 33) = W7 at *
            clear x0 x1 x2
            have hcz : c ≠ 0 := by rw [hcC]; first | decide | exact HQ0.out
            go_loopw [7, 11] (fun cv iv wr => cv = .int .i64 c ∧ iv = .int .i64 0 ∧ wr = W7) (fun _ _ _ => 0)
            case atStart => exact ⟨by rw [hcC], rfl, rfl⟩
            case round =>
              obtain ⟨rfl, rfl, rfl⟩ := hrel
              have SX := SX0
              have Hc := hid hcC
              clear hcC
              by_cases hlt : 0 < nl
              · have dlt : decide ((0 : Int) < (nl : Int)) = true := decide_eq_true (by omega)
                obtain rfl : c = r := hfc.out.same HFo.out
                have h0r := hcz
                rcases HX.out with ⟨-, e1, e2, e3, e4, e5, e6, e7⟩ | ⟨h0, -⟩
                · subst e1; subst e2; subst e3; subst e4; subst e5; subst e6; subst e7
                  obtain ⟨r0, r1, r2⟩ := SX.c3
                  have zc1 : (c == 0) = false := by rw [beq_eq_false_iff_ne]; exact hcz
                  have zc2 : (c != 0) = true := by rw [bne_iff_ne]; exact hcz
                  clear hcz h0r
                  go_wp2_with fail
                  refine (none_true _).mono ?_
                  rintro e w9 ⟨rfl, hb9⟩
                  have HB9 := hid (bthen HBW.out hb9 (Nat.le_refl _))
                  clear hb9
                  go_wp2
                  go_ret
                  exact ⟨rfl, HB9.out⟩
                · exact absurd h0 h0r
              · have dlt : decide ((0 : Int) < (nl : Int)) = false := decide_eq_false (by omega)
                obtain rfl : c = r := hfc.out.same HFo.out
                have h0r := hcz
                rcases HX.out with ⟨-, e1, e2, e3, e4, e5, e6, e7⟩ | ⟨h0, -⟩
                · subst e1; subst e2; subst e3; subst e4; subst e5; subst e6; subst e7
                  obtain ⟨r0, r1, r2⟩ := SX.c3
                  have zc1 : (c == 0) = false := by rw [beq_eq_false_iff_ne]; exact hcz
                  have zc2 : (c != 0) = true := by rw [bne_iff_ne]; exact hcz
                  clear hcz h0r
                  go_wp2_with fail
                  refine (none_true _).mono ?_
                  rintro e w9 ⟨rfl, hb9⟩
                  have HB9 := hid (bthen HBW.out hb9 (Nat.le_refl _))
                  clear hb9
                  go_wp2
                  go_ret
                  exact ⟨rfl, HB9.out⟩
                · exact absurd h0 h0r
          · have dt2 : decide (1000000 < t) = false := decide_eq_false ht1
            have htt : 0 ≤ t ∧ t ≤ 1000000 := ⟨by omega, by omega⟩
            have HT := hid htt
            clear ht0 ht1
            by_cases hln : nl = N.n
            · subst hln
              clear htt
              obtain ⟨z, hz⟩ : ∃ z, w6.heap.size = z := ⟨_, rfl⟩
              have hgz : gx < z := by have := R6.lt; omega
              have hb3 := ((Below.refl w6.heap.size w6).alloc (Nat.le_refl _) (.cells (Array.replicate N.k (.bool false)) 4)).alloc (by simp) (.cells #[.int .i64 t, .slice none 0 0, .slice (some ⟨z, 0, none⟩) N.k N.k] 33)
              have M3 := (Bk.of_alloc w6 (.cells (Array.replicate N.k (.bool false)) 4) hz).alloc (.cells #[.int .i64 t, .slice none 0 0, .slice (some ⟨z, 0, none⟩) N.k N.k] 33)
              have T3 : Bk _ (z + 1) _ := Bk.of_alloc (w6.alloc (.cells (Array.replicate N.k (.bool false)) 4)) (.cells #[.int .i64 t, .slice none 0 0, .slice (some ⟨z, 0, none⟩) N.k N.k] 33) (by simp [hz])
              go_wp2_with fail
              generalize (w6.alloc (.cells (Array.replicate N.k (.bool false)) 4)).alloc (.cells #[.int .i64 t, .slice none 0 0, .slice (some ⟨z, 0, none⟩) N.k N.k] 33) = W7 at *
              rw [hz] at hb3
              have HB7 := hid hb3
              have Hz := hid hz
              clear hb3 hz hmk x0 x1 x2
              go_loopw [7, 11] (fun cv iv wr => ∃ (i : Nat) (c : Int) (v : Value) (xs : List Value), i ≤ N.n ∧ cv = .int .i64 c ∧ iv = .int .i64 i ∧ Hid (Lc N t N.n Z i c) ∧ Hid (c = 0 → xs = ints (fun i => volB (N.b i) (Z i)) i) ∧ Bk wr z (.cells (Array.replicate N.k (.bool false)) 4 (0, 0)) ∧ Bk wr (z + 1) (.cells #[.int .i64 t, v, .slice (some ⟨z, 0, none⟩) N.k N.k] 33 (0, 0)) ∧ wr.ownsRow (z + 2) 3 1 v i xs ∧ Below z w6 wr) (fun _ iv _ => N.n - (intOf iv).toNat)
              case atStart => exact ⟨0, 0, _, [], Nat.zero_le _, rfl, rfl, hid (.inr ⟨rfl, HQ.out, HT.out, rfl, fun j hj => absurd hj (Nat.not_lt_zero _)⟩), hid (fun _ => rfl), M3, T3, World.ownsRow_nil _ _ _ _, HB7.out⟩
              case round =>
                obtain ⟨i, c, v, xs, hi, rfl, rfl, HL, Hxs, M4, T4, hown, hbel⟩ := hrel
                obtain ⟨av, cv, rfl⟩ := own_any hown
                have SX := Bk.below R6 hbel hgz
                have K7 := K6.below (hbel.mono (by have := Hz.out; omega))
                have Y7 := Y6.below (hbel.mono (by have := Hz.out; omega))
                have HX7 := hid (HX.out.below (hbel.mono (by have := Hz.out; omega)))
                have HBW := hid (HB6.out.trans (hbel.mono (by have := HB6.out.size; have := Hz.out; omega)))
                have szr : z ≤ wr.heap.size := by have := hbel.size; have := Hz.out; omega
                have Own4 := hid hown
                have Hbel := hid hbel
                clear hown hbel M3 T3
                by_cases hlt : i < N.n
                · have dlt : decide ((i : Int) < (N.n : Int)) = true := decide_eq_true (by omega)
                  by_cases hc0 : c = 0
                  · subst hc0
                    obtain ⟨al, hAl, -, -⟩ := Y7.at_ i hlt
                    obtain ⟨ab, hAb, -, -⟩ := K7.a.b.at_ i hlt
                    obtain ⟨r1, x1, hvo, hcase⟩ := vo_ex HQ.out hlt (Z i)
                    have HVo := hid hvo
                    have HL2 := hid (HL.out.next hlt hcase)
                    have HX2 := hid (show x1 = 0 → xs ++ [.int .i64 r1] = ints (fun i => volB (N.b i) (Z i)) (i + 1) from fun e => by
                      rcases hcase with ⟨_, rfl, _⟩ | ⟨_, _, e2⟩
                      · rw [Hxs.out rfl, ints_snoc (fun i => volB (N.b i) (Z i)) i]
                      · omega)
                    have D0 : Ni wr.drew g B0 B1 N A N.n Z al ab i := (Ni.mk K7 Y7 hAl hlt hAb hlt).below dr0
                    have hsn : (N.b i).nm.size ≤ 1000000000 := Nat.le_trans (Hss.out.b i hlt).2 (by decide)
                    clear hvo hcase hAb K7 Y7 SX
                    subst hAl
                    go_wp2_with fail
                    go_region_held3 (fun w' => w'.cell? ⟨g, 0, none⟩ = some (.slice (some ab) N.n N.c) ∧ w'.cell? (ab.add (i * 3)) = some (.string (N.b i).nm) ∧ w'.cell? ⟨(ab.add (i * 3)).block, (ab.add (i * 3)).off + 1, none⟩ = some (.slice (N.b i).A (N.b i).n (N.b i).c) ∧ w'.cell? ⟨(ab.add (i * 3)).block, (ab.add (i * 3)).off + 2, none⟩ = some (.int .i64 (N.b i).rim) ∧ w'.cell? (al.add i) = some (.int .i64 (Z i))) (first | with_reducible exact Ni.cells D0 | with_reducible exact Ni.cells D1) (first
                      | (go_at_call 13; with_reducible refine (rVolume_is HVo D0.pa.1 D0.pa.2 hsn).mono ?_; rintro e w8 ⟨rfl, hb8⟩; have D1 := D0.below hb8))
                    have T5 := Bk.step (W := wr.drew) T4 hb8
                    have M5 := Bk.step (W := wr.drew) M4 hb8
                    have Own5 := hid (own_below Own4.out.drew hb8)
                    have HB8 := hid (Hbel.out.drew.trans (hb8.mono (by show z ≤ wr.heap.size; omega)))
                    have sz8 : z + 2 ≤ w8.heap.size := by have := T5.lt; omega
                    clear hb8 D0 D1 T4 M4
                    have T6 := T5.alloc (.cells #[.int .i64 r1] 3)
                    have M6 := M5.alloc (.cells #[.int .i64 r1] 3)
                    have hown' := Own5.out.alloc (.cells #[.int .i64 r1] 3)
                    obtain ⟨k0, k1, k2⟩ := T5.c3
                    obtain ⟨k3, k4, k5⟩ := T6.c3
                    go_wp2_with (at_builtin; (refine wpList_append_own _ rfl (.tmp 90) (.tmp 92) 27 rfl (z + 2) 3 i0 (.int .i64 0) 1 8 Try.underlying27 hi0 hz0 hz1 hz2 rfl (by decide) (.slice av i cv) i _ rfl hown' ⟨w8.heap.size, 0, none⟩ 1 1 [.int .i64 r1] rfl rfl (cell_one_new _ _ _) (one_cell (.int .i64 r1) rfl) (by unfold maxLen; omega) (by omega) (by simp; omega) ?_))
                    intro v' w9 hown9 hgrow9 _
                    have e1 : Bk w9 (z + 1) _ := (hgrow9.block (z + 1) T6.lt (fun e => by have := (Own5.out.lt _ e.symm).1; omega)).trans T6
                    have e0 : Bk w9 z _ := (hgrow9.block z M6.lt (fun e => by have := (Own5.out.lt _ e.symm).1; omega)).trans M6
                    obtain ⟨a9, c9, rfl⟩ := own_any hown9
                    obtain ⟨l0, l1, l2⟩ := Bk.c3 (g := z + 1) e1
                    have fu := Bk.fz (g := z + 1) e1 1
                    have hbx := ((HB8.out.alloc (by omega) (.cells #[.int .i64 r1] 3)).grown hgrow9 (by simp; omega) (fun k hk => by have := (Own5.out.lt k hk).1; omega)).setCell (p := ⟨z + 1, 1, none⟩) (by show z ≤ z + 1; omega) (.slice a9 (i + 1) c9)
                    have HO := hid (hown9.kept (gb_set (World.grownBy.refl w9 (some (z + 1))) 1 (.slice a9 (i + 1) c9)) (.inr (fun e => by have := (hown9.lt (z + 1) e).1; omega)))
                    have HM := hid (Bk.set (g := z) e0 (p := ⟨z + 1, 1, none⟩) (show z ≠ z + 1 by omega) (.slice a9 (i + 1) c9))
                    have HT9 := hid (Bk.put3 (g := z + 1) e1 (.slice a9 (i + 1) c9))
                    have HX9 := hid hbx
                    clear hbx hown9 hgrow9 e0 e1 hown' T5 T6 M5 M6 k0 k1 k2 k3 k4 k5 sz8
                    go_wp2
                    go_roundw
                    case rel => exact ⟨i + 1, x1, _, _, by omega, rfl, by go_num, HL2, HX2, HM.out, HT9.out, HO.out, HX9.out⟩
                    case measure => simp [intOf]; omega
                  · have hcz := hc0
                    have zc1 : (c == 0) = false := by rw [beq_eq_false_iff_ne]; exact hc0
                    have hfc : Hid (Fo N t N.n Z c) := hid (HL.out.elim (fun h => h.2) (fun h => absurd h.1 hc0))
                    clear hc0
                    obtain rfl : c = r := hfc.out.same HFo.out
                    have h0r := hcz
                    rcases HX.out with ⟨-, e1, e2, e3, e4, e5, e6, e7⟩ | ⟨h0, -⟩
                    · subst e1; subst e2; subst e3; subst e4; subst e5; subst e6; subst e7
                      obtain ⟨r0, r1, r2⟩ := SX.c3
                      have zc1 : (c == 0) = false := by rw [beq_eq_false_iff_ne]; exact hcz
                      have zc2 : (c != 0) = true := by rw [bne_iff_ne]; exact hcz
                      clear hcz h0r
                      go_wp2_with fail
                      refine (none_true _).mono ?_
                      rintro e w9 ⟨rfl, hb9⟩
                      have HB9 := hid (bthen HBW.out hb9 (Nat.le_refl _))
                      clear hb9
                      go_wp2
                      go_ret
                      exact ⟨rfl, HB9.out⟩
                    · exact absurd h0 h0r
                · have e : i = N.n := by omega
                  have dlt : decide ((i : Int) < (N.n : Int)) = false := decide_eq_false (by omega)
                  subst e
                  by_cases hc0 : c = 0
                  · subst hc0
                    rcases HL.out with ⟨hh, _⟩ | ⟨_, _, _, _, hin⟩
                    · exact absurd rfl hh
                    have HIN := hid hin
                    have hf0 : Fo N t N.n Z 0 := ⟨0, HQ.out, .inr ⟨rfl, .inr ⟨HT.out, .inr ⟨rfl, .inr ⟨hin, rfl⟩⟩⟩⟩⟩
                    obtain rfl := HFo.out.same hf0
                    rcases HX7.out with ⟨hh, _⟩ | ⟨_, e1, e2, e3, hYx, hFx, hx1, hx2, e4⟩
                    · exact absurd rfl hh
                    subst e1; subst e2; subst e3; subst e4
                    have hYx' := hid hYx
                    have hFx' := hid hFx
                    have HW := hid (We.of_fill (W := ⟨t1, xa, N.n, xc, fun i => volB (N.b i) (Z i), ya, N.k, N.k, fun _ => false⟩) HQ.out HT.out ⟨rfl, rfl⟩ rfl hin)
                    have hWt : Wt wr z ⟨t1, xa, N.n, xc, fun i => volB (N.b i) (Z i), ya, N.k, N.k, fun _ => false⟩ := ⟨fun i hi => by
                      obtain ⟨ad, e, h1, h2⟩ := hYx.at_ i hi
                      exact ⟨ad, e, by omega, h2⟩, fun i hi => by
                      obtain ⟨ad, e, h1, h2⟩ := hFx.at_ i hi
                      exact ⟨ad, e, by omega, h2⟩, szr, hx1, hx2, Nat.le_refl _, by show N.k ≤ maxLen; unfold maxLen; omega⟩
                    obtain ⟨r0, r1, r2⟩ := SX.c3
                    obtain ⟨x0, x1, x2⟩ := K7.cells
                    have Hxo := hid (Hxs.out rfl)
                    clear hin hf0 hYx hFx Hxs
                    go_wp2_with fail
                    refine (Levels_ok HW K7.a hs hWt).mono ?_
                    rintro e w8 ⟨v8, rfl, hown8, hb8⟩
                    have hown8' := hown8.out
                    rw [ints_congr (X := fun i => lvB (N.b i) (volB (N.b i) (Z i))) (Y := Z) (fun i hi => lvB_volB (HQ.out.bas hi) (HIN.out i hi))] at hown8'
                    obtain ⟨a8, c8, rfl, Y8, -, -⟩ := Ys.of_own hown8'
                    have T8 := T4.step hb8
                    have M8 := Fs.of_bk (M4.step hb8)
                    have SX8 := SX.step hb8
                    have Yx8 := hYx'.out.below hb8
                    have Fx8 := hFx'.out.below hb8
                    have Own8 := own_below Own4.out hb8
                    rw [Hxo.out] at Own8
                    obtain ⟨av', cv', ev, Yv8, -, -⟩ := Ys.of_own Own8
                    injection ev with ev1 ev2 ev3
                    subst ev1
                    subst ev3
                    have Ya8 := Y7.below hb8
                    have HB8 := hid (bthen HBW.out hb8 (Nat.le_refl _))
                    clear hb8 hown8 hown8' Own8 T4 M4 SX K7 Y7 r0 r1 r2 x0 x1 x2 hWt
                    obtain ⟨r0, r1, r2⟩ := SX8.c3
                    obtain ⟨s0, s1, s2⟩ := T8.c3
                    go_wp2_with fail
                    refine (SameWater_true t1 Yx8 Yv8 Fx8 M8 (by omega) (by omega)).mono ?_
                    rintro e w9 ⟨rfl, hb9⟩
                    have Y9 := Y8.below hb9
                    have Ya9 := Ya8.below hb9
                    have HB9 := hid (bthen HB8.out hb9 (Nat.le_refl _))
                    clear hb9 Y8 Ya8 Yx8 Yv8 Fx8 M8 r0 r1 r2 s0 s1 s2
                    go_wp2_with fail
                    refine (Ints_true Y9 Ya9 (by omega)).mono ?_
                    rintro e w10 ⟨rfl, hb10⟩
                    have HB10 := hid (bthen HB9.out hb10 (Nat.le_refl _))
                    clear hb10
                    go_wp2
                    go_ret
                    exact ⟨rfl, HB10.out⟩
                  · have hcz := hc0
                    have zc1 : (c == 0) = false := by rw [beq_eq_false_iff_ne]; exact hc0
                    have hfc : Hid (Fo N t N.n Z c) := hid (HL.out.elim (fun h => h.2) (fun h => absurd h.1 hc0))
                    clear hc0
                    obtain rfl : c = r := hfc.out.same HFo.out
                    have h0r := hcz
                    rcases HX.out with ⟨-, e1, e2, e3, e4, e5, e6, e7⟩ | ⟨h0, -⟩
                    · subst e1; subst e2; subst e3; subst e4; subst e5; subst e6; subst e7
                      obtain ⟨r0, r1, r2⟩ := SX.c3
                      have zc1 : (c == 0) = false := by rw [beq_eq_false_iff_ne]; exact hcz
                      have zc2 : (c != 0) = true := by rw [bne_iff_ne]; exact hcz
                      clear hcz h0r
                      go_wp2_with fail
                      refine (none_true _).mono ?_
                      rintro e w9 ⟨rfl, hb9⟩
                      have HB9 := hid (bthen HBW.out hb9 (Nat.le_refl _))
                      clear hb9
                      go_wp2
                      go_ret
                      exact ⟨rfl, HB9.out⟩
                    · exact absurd h0 h0r
            · have d1 : ((nl : Int) != (N.n : Int)) = true := by rw [bne_iff_ne]; omega
              have HE := hid (show Fo N t nl Z 11 from ⟨0, HQ.out, .inr ⟨rfl, .inr ⟨htt, .inl ⟨hln, rfl⟩⟩⟩⟩)
              clear hln htt
              have SX0 := (R6.alloc (.cells (Array.replicate N.k (.bool false)) 4)).alloc (.cells #[.int .i64 t, .slice none 0 0, .slice (some ⟨w6.heap.size, 0, none⟩) N.k N.k] 33)
              have HBW := hid ((HB6.out.alloc HB6.out.size (.cells (Array.replicate N.k (.bool false)) 4)).alloc (by have := HB6.out.size; simp; omega) (.cells #[.int .i64 t, .slice none 0 0, .slice (some ⟨w6.heap.size, 0, none⟩) N.k N.k] 33))
              obtain ⟨c, hcC⟩ : ∃ c : Int, c = 11 := ⟨_, rfl⟩
              have hfc := HE
              rw [← hcC] at hfc
              go_wp2_with fail
              generalize (w6.alloc (.cells (Array.replicate N.k (.bool false)) 4)).alloc (.cells #[.int .i64 t, .slice none 0 0, .slice (some ⟨w6.heap.size, 0, none⟩) N.k N.k] 33) = W7 at *
              clear x0 x1 x2
              have hcz : c ≠ 0 := by rw [hcC]; first | decide | exact HQ0.out
              go_loopw [7, 11] (fun cv iv wr => cv = .int .i64 c ∧ iv = .int .i64 0 ∧ wr = W7) (fun _ _ _ => 0)
              case atStart => exact ⟨by rw [hcC], rfl, rfl⟩
              case round =>
                obtain ⟨rfl, rfl, rfl⟩ := hrel
                have SX := SX0
                have Hc := hid hcC
                clear hcC
                by_cases hlt : 0 < nl
                · have dlt : decide ((0 : Int) < (nl : Int)) = true := decide_eq_true (by omega)
                  obtain rfl : c = r := hfc.out.same HFo.out
                  have h0r := hcz
                  rcases HX.out with ⟨-, e1, e2, e3, e4, e5, e6, e7⟩ | ⟨h0, -⟩
                  · subst e1; subst e2; subst e3; subst e4; subst e5; subst e6; subst e7
                    obtain ⟨r0, r1, r2⟩ := SX.c3
                    have zc1 : (c == 0) = false := by rw [beq_eq_false_iff_ne]; exact hcz
                    have zc2 : (c != 0) = true := by rw [bne_iff_ne]; exact hcz
                    clear hcz h0r
                    go_wp2_with fail
                    refine (none_true _).mono ?_
                    rintro e w9 ⟨rfl, hb9⟩
                    have HB9 := hid (bthen HBW.out hb9 (Nat.le_refl _))
                    clear hb9
                    go_wp2
                    go_ret
                    exact ⟨rfl, HB9.out⟩
                  · exact absurd h0 h0r
                · have dlt : decide ((0 : Int) < (nl : Int)) = false := decide_eq_false (by omega)
                  obtain rfl : c = r := hfc.out.same HFo.out
                  have h0r := hcz
                  rcases HX.out with ⟨-, e1, e2, e3, e4, e5, e6, e7⟩ | ⟨h0, -⟩
                  · subst e1; subst e2; subst e3; subst e4; subst e5; subst e6; subst e7
                    obtain ⟨r0, r1, r2⟩ := SX.c3
                    have zc1 : (c == 0) = false := by rw [beq_eq_false_iff_ne]; exact hcz
                    have zc2 : (c != 0) = true := by rw [bne_iff_ne]; exact hcz
                    clear hcz h0r
                    go_wp2_with fail
                    refine (none_true _).mono ?_
                    rintro e w9 ⟨rfl, hb9⟩
                    have HB9 := hid (bthen HBW.out hb9 (Nat.le_refl _))
                    clear hb9
                    go_wp2
                    go_ret
                    exact ⟨rfl, HB9.out⟩
                  · exact absurd h0 h0r
      · have HQ0 := hid hq0
        have zq1 : (q' == 0) = false := by rw [beq_eq_false_iff_ne]; exact hq0
        have HE := hid (show Fo N t nl Z q' from ⟨q', HQ.out, .inl ⟨hq0, rfl⟩⟩)
        clear hq0
        have SX0 := (R6.alloc (.cells (Array.replicate N.k (.bool false)) 4)).alloc (.cells #[.int .i64 t, .slice none 0 0, .slice (some ⟨w6.heap.size, 0, none⟩) N.k N.k] 33)
        have HBW := hid ((HB6.out.alloc HB6.out.size (.cells (Array.replicate N.k (.bool false)) 4)).alloc (by have := HB6.out.size; simp; omega) (.cells #[.int .i64 t, .slice none 0 0, .slice (some ⟨w6.heap.size, 0, none⟩) N.k N.k] 33))
        obtain ⟨c, hcC⟩ : ∃ c : Int, c = q' := ⟨_, rfl⟩
        have hfc := HE
        rw [← hcC] at hfc
        go_wp2_with fail
        generalize (w6.alloc (.cells (Array.replicate N.k (.bool false)) 4)).alloc (.cells #[.int .i64 t, .slice none 0 0, .slice (some ⟨w6.heap.size, 0, none⟩) N.k N.k] 33) = W7 at *
        clear x0 x1 x2
        have hcz : c ≠ 0 := by rw [hcC]; first | decide | exact HQ0.out
        go_loopw [7, 11] (fun cv iv wr => cv = .int .i64 c ∧ iv = .int .i64 0 ∧ wr = W7) (fun _ _ _ => 0)
        case atStart => exact ⟨by rw [hcC], rfl, rfl⟩
        case round =>
          obtain ⟨rfl, rfl, rfl⟩ := hrel
          have SX := SX0
          have Hc := hid hcC
          clear hcC
          by_cases hlt : 0 < nl
          · have dlt : decide ((0 : Int) < (nl : Int)) = true := decide_eq_true (by omega)
            obtain rfl : c = r := hfc.out.same HFo.out
            have h0r := hcz
            rcases HX.out with ⟨-, e1, e2, e3, e4, e5, e6, e7⟩ | ⟨h0, -⟩
            · subst e1; subst e2; subst e3; subst e4; subst e5; subst e6; subst e7
              obtain ⟨r0, r1, r2⟩ := SX.c3
              have zc1 : (c == 0) = false := by rw [beq_eq_false_iff_ne]; exact hcz
              have zc2 : (c != 0) = true := by rw [bne_iff_ne]; exact hcz
              clear hcz h0r
              go_wp2_with fail
              refine (none_true _).mono ?_
              rintro e w9 ⟨rfl, hb9⟩
              have HB9 := hid (bthen HBW.out hb9 (Nat.le_refl _))
              clear hb9
              go_wp2
              go_ret
              exact ⟨rfl, HB9.out⟩
            · exact absurd h0 h0r
          · have dlt : decide ((0 : Int) < (nl : Int)) = false := decide_eq_false (by omega)
            obtain rfl : c = r := hfc.out.same HFo.out
            have h0r := hcz
            rcases HX.out with ⟨-, e1, e2, e3, e4, e5, e6, e7⟩ | ⟨h0, -⟩
            · subst e1; subst e2; subst e3; subst e4; subst e5; subst e6; subst e7
              obtain ⟨r0, r1, r2⟩ := SX.c3
              have zc1 : (c == 0) = false := by rw [beq_eq_false_iff_ne]; exact hcz
              have zc2 : (c != 0) = true := by rw [bne_iff_ne]; exact hcz
              clear hcz h0r
              go_wp2_with fail
              refine (none_true _).mono ?_
              rintro e w9 ⟨rfl, hb9⟩
              have HB9 := hid (bthen HBW.out hb9 (Nat.le_refl _))
              clear hb9
              go_wp2
              go_ret
              exact ⟨rfl, HB9.out⟩
            · exact absurd h0 h0r

end Go.Proofs.Ytndcopljjnbkbaa
