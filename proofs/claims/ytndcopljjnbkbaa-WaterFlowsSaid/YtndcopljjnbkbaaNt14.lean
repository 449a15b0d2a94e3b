/- Networks: the side of a name: sideOf as one contract; height of the reference. -/
import Derived.Test.YtndcopljjnbkbaaNt13
namespace Go.Proofs.Ytndcopljjnbkbaa
open Go.RowKit Go.Maps Kb Wb

/-- A network and a state that fit each other. -/
structure Fit (N : Nd) (W : Wd) : Prop where
  c : Cn N 0
  t0 : 0 ≤ W.min
  t1 : W.min ≤ 1000000
  n : W.n = N.n
  m : W.m = N.k
  l : ∀ i, i < N.n → LitOk N W i
theorem Fit.of {N : Nd} {W : Wd} (h : We N W 0) : Fit N W := by
  obtain ⟨h0, h1, h2, h3⟩ := h.zero
  exact ⟨h0, h1.1, h1.2, h2.1, h2.2, h3⟩
theorem tdB_range {N : Nd} (hS : Sea N.m N.F N.L) (hn : 0 < N.m) (t : Int) : -4000000 ≤ tdB N t ∧ tdB N t ≤ 4000000 := by
  unfold tdB
  by_cases hx : ∃ r, Td N.m N.F N.L t r
  · rw [@dif_pos _ (Classical.propDecidable _) hx]
    exact Td.range hS hn (Classical.choose_spec hx)
  · rw [@dif_neg _ (Classical.propDecidable _) hx]
    omega
theorem Sds.exists {N : Nd} {W : Wd} {s : ByteArray} (h : endB N s = true) (hm : s = s0 → 0 < N.m) : ∃ q z b x, Sds N W s q z b x := by
  by_cases h0 : s = s0
  · exact ⟨_, _, _, _, .inl ⟨h0, hm h0, rfl, rfl, rfl, rfl⟩⟩
  · rcases endB_iff.1 h with e | ⟨j, hj, e⟩
    · exact absurd e h0
    · obtain ⟨r, hr⟩ := Ixn.exists N.n N.bnm s
      rcases hr with ⟨_, hr⟩ | ⟨k, hk, h1, h2, rfl⟩
      · exact absurd e (hr j hj)
      · exact ⟨_, _, _, _, .inr ⟨h0, k, hk, .inr ⟨k, hk, h1, h2, rfl⟩, rfl, rfl, rfl, rfl⟩⟩
theorem pa_nil {w : World} {B0 : Nat} {F S : Nat → Int} (h : B0 ≤ w.heap.size) : Pa w B0 none 0 F S := ⟨fun _ hi => absurd hi (Nat.not_lt_zero _), h⟩
theorem Sds.ok {w : World} {B0 : Nat} {N : Nd} {W : Wd} {s : ByteArray} {q : Bool} {z x : Int} {b : Bd} (hS : Sds N W s q z b x) (hF : Fit N W) (h : Nt w B0 N) : Sok w B0 q z b x := by
  rcases hS with ⟨rfl, hm, rfl, rfl, rfl, rfl⟩ | ⟨h0, i, hi, hq, rfl, rfl, rfl, rfl⟩
  · exact ⟨pa_nil h.b.le, Nat.le_refl _, Nat.zero_le _, tdB_range hF.c.sea hm _, fun h => (by cases h), fun h => (by cases h)⟩
  · obtain ⟨ad, _, _, _, _, _, h1, h2, h3⟩ := h.b.at_ i hi
    exact ⟨h1, h2, h3, by omega, fun _ => hF.c.bas hi, fun _ => hF.l i hi⟩

/-- A network and a state in boxes, and what stands of basin i. -/
structure Hi (w : World) (g B0 B1 : Nat) (N : Nd) (W : Wd) (al ab : Addr) (i : Nat) : Prop where
  n : Nb w g B0 N
  v : Wx w (g + 1) B1 W
  hal : W.A = some al
  hab : N.A = some ab
  hi : i < W.n
  hj : i < N.n
section
variable {w w' : World} {g B0 B1 : Nat} {N : Nd} {W : Wd} {al ab : Addr} {i : Nat}
theorem Hi.below (h : Hi w g B0 B1 N W al ab i) (hb : Below w.heap.size w w') : Hi w' g B0 B1 N W al ab i := ⟨h.n.below hb, h.v.below hb, h.hal, h.hab, h.hi, h.hj⟩
theorem Hi.cells (h : Hi w g B0 B1 N W al ab i) : w.cell? ⟨g, 0, none⟩ = some (.slice (some ab) N.n N.c) ∧ w.cell? ⟨g + 1, 1, none⟩ = some (.slice (some al) W.n W.c) ∧ w.cell? (ab.add (i * 3)) = some (.string (N.b i).nm) ∧ w.cell? ⟨(ab.add (i * 3)).block, (ab.add (i * 3)).off + 1, none⟩ = some (.slice (N.b i).A (N.b i).n (N.b i).c) ∧ w.cell? ⟨(ab.add (i * 3)).block, (ab.add (i * 3)).off + 2, none⟩ = some (.int .i64 (N.b i).rim) ∧ w.cell? (al.add i) = some (.int .i64 (W.X i)) := by
  obtain ⟨b0, b1, b2⟩ := h.n.cells
  obtain ⟨c0, c1, c2⟩ := h.v.cells
  obtain ⟨ad', hA, _, q0⟩ := h.v.a.x i h.hi
  rw [h.hal] at hA c1
  injection hA with hA
  subst hA
  obtain ⟨ad', hA, _, q1, q2, q3, _⟩ := h.n.a.b.at_ i h.hj
  rw [h.hab] at hA b0
  injection hA with hA
  subst hA
  exact ⟨b0, c1, q1, q2, q3, q0⟩
theorem Hi.pa (h : Hi w g B0 B1 N W al ab i) : Pa w B0 (N.b i).A (N.b i).n (N.b i).F (N.b i).S := by
  obtain ⟨ad', hA, _, q1, q2, q3, h1, h2, h3⟩ := h.n.a.b.at_ i h.hj
  exact h1
end

section
variable {w : World} {B0 B1 : Nat} {N : Nd} {W : Wd} {s : ByteArray} {q : Bool} {z x : Int} {b : Bd}
theorem sideOf_is (hS : Sds N W s q z b x) (hF : Fit N W) (hs : Nsm N) (h : Nt w B0 N) (hw : Wt w B1 W) :
    Calls Try.prog 87 #[.agg #[.slice N.A N.n N.c, .slice N.M N.m N.d, .slice N.K N.k N.e], .agg #[.int .i64 W.min, .slice W.A W.n W.c, .slice W.M W.m W.d], .string s] w fun e w' => e = .returned (.agg #[.bool q, .int .i64 z, .string b.nm, .slice b.A b.n b.c, .int .i64 b.rim, .int .i64 x]) ∧ Below w.heap.size w w' := by
  rcases hS with ⟨rfl, hm, rfl, rfl, rfl, rfl⟩ | ⟨h0, i, hi, hq, rfl, rfl, rfl, rfl⟩
  · exact sideOf_sea (hid hF.c) hm h hF.t0 hF.t1
  · exact sideOf_bas h0 hs hi (hid hq) hF.n h hw

set_option maxRecDepth 100000 in
set_option maxHeartbeats 4000000 in
theorem height_sea (hC : Hid (Cn N 0)) (hm : 0 < N.m) (h : Nt w B0 N) (t0 : 0 ≤ W.min) (t1 : W.min ≤ 1000000) :
    Calls Try.prog 61 #[.agg #[.slice N.A N.n N.c, .slice N.M N.m N.d, .slice N.K N.k N.e], .agg #[.int .i64 W.min, .slice W.A W.n W.c, .slice W.M W.m W.d], .string s0] w fun e w' => e = .returned (.int .i64 (tdB N W.min)) ∧ Below w.heap.size w w' := by
  obtain ⟨g, hg⟩ : ∃ g, w.heap.size = g := ⟨_, rfl⟩
  have hb0 := ((Below.refl w.heap.size w).alloc (Nat.le_refl _) (.cells #[.slice N.A N.n N.c, .slice N.M N.m N.d, .slice N.K N.k N.e] 26)).alloc (by simp) (.cells #[.int .i64 W.min, .slice W.A W.n W.c, .slice W.M W.m W.d] 33)
  have K1 := (Nb.new h hg).below (alo (o := .cells #[.int .i64 W.min, .slice W.A W.n W.c, .slice W.M W.m W.d] 33))
  have V1 : Bk _ (g + 1) _ := Bk.of_alloc (w.alloc (.cells #[.slice N.A N.n N.c, .slice N.M N.m N.d, .slice N.K N.k N.e] 26)) (.cells #[.int .i64 W.min, .slice W.A W.n W.c, .slice W.M W.m W.d] 33) (by simp [hg])
  go_enter Try.func61, Try.ntmps61
  go_upto_region 1 with fail
  generalize (w.alloc (.cells #[.slice N.A N.n N.c, .slice N.M N.m N.d, .slice N.K N.k N.e] 26)).alloc (.cells #[.int .i64 W.min, .slice W.A W.n W.c, .slice W.M W.m W.d] 33) = W0 at *
  have HB0 := hid hb0
  clear hb0 hg h
  obtain ⟨x0, x1, x2⟩ := K1.cells
  obtain ⟨y0, y1, y2⟩ := V1.c3
  have emp := emp_t (s := s0) rfl
  go_wp2_with fail
  refine (rAt_any K1.a.s hC.out.sea hm t0 t1).mono ?_
  rintro e w2 ⟨r, rfl, hr, hb⟩
  obtain rfl := tdB_is hC.out.sea hm hr.out
  have HB2 := hid (bthen HB0.out hb (Nat.le_refl _))
  clear hb hr
  go_wp2
  go_ret
  exact ⟨rfl, HB2.out⟩

set_option maxRecDepth 100000 in
set_option maxHeartbeats 4000000 in
theorem height_bas {i : Nat} (hs0 : s ≠ s0) (hs : Nsm N) (hi : i < N.n) (hq : Hid (Ixn N.n N.bnm s i)) (hF : Hid (Fit N W)) (h : Nt w B0 N) (hw : Wt w B1 W) :
    Calls Try.prog 61 #[.agg #[.slice N.A N.n N.c, .slice N.M N.m N.d, .slice N.K N.k N.e], .agg #[.int .i64 W.min, .slice W.A W.n W.c, .slice W.M W.m W.d], .string s] w fun e w' => e = .returned (.int .i64 (lvB (N.b i) (W.X i))) ∧ Below w.heap.size w w' := by
  have hnn := hs.n
  obtain ⟨g, hg⟩ : ∃ g, w.heap.size = g := ⟨_, rfl⟩
  have hb0 := ((Below.refl w.heap.size w).alloc (Nat.le_refl _) (.cells #[.slice N.A N.n N.c, .slice N.M N.m N.d, .slice N.K N.k N.e] 26)).alloc (by simp) (.cells #[.int .i64 W.min, .slice W.A W.n W.c, .slice W.M W.m W.d] 33)
  have K1 := (Nb.new h hg).below (alo (o := .cells #[.int .i64 W.min, .slice W.A W.n W.c, .slice W.M W.m W.d] 33))
  have V1 : Wx _ (g + 1) B1 W := ⟨Bk.of_alloc (w.alloc (.cells #[.slice N.A N.n N.c, .slice N.M N.m N.d, .slice N.K N.k N.e] 26)) (.cells #[.int .i64 W.min, .slice W.A W.n W.c, .slice W.M W.m W.d] 33) (by simp [hg]), hw.below hb0⟩
  have emp := emp_f hs0
  have B := hF.out.c.bas hi
  have hx : 0 ≤ W.X i ∧ W.X i ≤ capB (N.b i) := hF.out.l i hi
  have hL := lvB_lev B hx.1 hx.2
  have hiw : i < W.n := by have := hF.out.n; omega
  obtain ⟨r, hr⟩ : ∃ r, lvB (N.b i) (W.X i) = r := ⟨_, rfl⟩
  rw [hr] at hL ⊢
  have HL := hid hL
  have HX := hid hx
  clear hr hL hx
  go_enter Try.func61, Try.ntmps61
  go_upto_region 1 with fail
  generalize (w.alloc (.cells #[.slice N.A N.n N.c, .slice N.M N.m N.d, .slice N.K N.k N.e] 26)).alloc (.cells #[.int .i64 W.min, .slice W.A W.n W.c, .slice W.M W.m W.d] 33) = W0 at *
  have HB0 := hid hb0
  clear hb0 hg h hw
  obtain ⟨x0, x1, x2⟩ := K1.cells
  go_wp2_with fail
  refine (rBasin_is hq K1.a hs).mono ?_
  rintro e w2 ⟨rfl, hb⟩
  have K2 := K1.below hb
  have V2 := V1.below hb
  have HB2 := hid (bthen HB0.out hb (Nat.le_refl _))
  clear hb K1 V1 x0 x1 x2
  have hin : (i : Int) < (N.n : Int) := by omega
  have hiw' : (i : Int) < (W.n : Int) := by omega
  obtain ⟨ab, hab, -⟩ := K2.a.b.at_ i hi
  obtain ⟨al, hal, -, -⟩ := V2.a.x i hiw
  have D0 : Hi w2.drew g B0 B1 N W al ab i := (Hi.mk K2 V2 hal hab hiw hi).below dr0
  clear hal hab K2 V2
  go_wp2_with fail
  go_region_held3 (fun w' => w'.cell? ⟨g, 0, none⟩ = some (.slice (some ab) N.n N.c) ∧ w'.cell? ⟨g + 1, 1, none⟩ = some (.slice (some al) W.n W.c) ∧ w'.cell? (ab.add (i * 3)) = some (.string (N.b i).nm) ∧ w'.cell? ⟨(ab.add (i * 3)).block, (ab.add (i * 3)).off + 1, none⟩ = some (.slice (N.b i).A (N.b i).n (N.b i).c) ∧ w'.cell? ⟨(ab.add (i * 3)).block, (ab.add (i * 3)).off + 2, none⟩ = some (.int .i64 (N.b i).rim) ∧ w'.cell? (al.add i) = some (.int .i64 (W.X i))) (first | with_reducible exact Hi.cells D0 | with_reducible exact Hi.cells D1) (first
    | (go_at_call 60; with_reducible refine (rLevelOf_any (N.b i).nm D0.pa B HX.out.1 HL.out).mono ?_; rintro e w3 ⟨rfl, hb3⟩; have D1 := D0.below hb3))
  all_goals
    have HB3 := hid (bthen HB2.out.drew hb3 (Nat.le_refl _))
    clear hb3
    go_wp2
    go_ret
    exact ⟨rfl, HB3.out⟩
theorem height_is (hS : Sds N W s q z b x) (hF : Fit N W) (hs : Nsm N) (h : Nt w B0 N) (hw : Wt w B1 W) :
    Calls Try.prog 61 #[.agg #[.slice N.A N.n N.c, .slice N.M N.m N.d, .slice N.K N.k N.e], .agg #[.int .i64 W.min, .slice W.A W.n W.c, .slice W.M W.m W.d], .string s] w fun e w' => e = .returned (.int .i64 (slev q z b x 0)) ∧ Below w.heap.size w w' := by
  rcases hS with ⟨rfl, hm, rfl, rfl, rfl, rfl⟩ | ⟨h0, i, hi, hq, rfl, rfl, rfl, rfl⟩
  · exact height_sea (hid hF.c) hm h hF.t0 hF.t1
  · rw [show slev false 0 (N.b i) (W.X i) 0 = lvB (N.b i) (W.X i) by unfold slev; rw [Int.add_zero]]
    exact height_bas h0 hs hi (hid hq) (hid hF) h hw
end

end Go.Proofs.Ytndcopljjnbkbaa
