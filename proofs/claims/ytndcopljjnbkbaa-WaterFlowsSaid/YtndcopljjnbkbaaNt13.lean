/- Networks: sideOf of the program. -/
import Derived.Test.YtndcopljjnbkbaaNt12
namespace Go.Proofs.Ytndcopljjnbkbaa
open Go.RowKit Go.Maps Kb Wb

/-- No basin. -/
abbrev zB : Bd := ⟨s0, none, 0, 0, 0, fun _ => 0, fun _ => 0⟩
/-- The level of the sea. -/
noncomputable def tdB (N : Nd) (t : Int) : Int := @dite _ (∃ r, Td N.m N.F N.L t r) (Classical.propDecidable _) (fun h => Classical.choose h) (fun _ => 0)
theorem tdB_is {N : Nd} {t r : Int} (hS : Sea N.m N.F N.L) (hn : 0 < N.m) (h : Td N.m N.F N.L t r) : r = tdB N t := by
  have hx : ∃ r, Td N.m N.F N.L t r := ⟨r, h⟩
  unfold tdB
  rw [@dif_pos _ (Classical.propDecidable _) hx]
  exact h.same hS hn (Classical.choose_spec hx)
theorem Cn.sea {N : Nd} (h : Cn N 0) : Sea N.m N.F N.L := h.zero.2.1.sea
/-- The side that the name s stands for. -/
def Sds (N : Nd) (W : Wd) (s : ByteArray) (q : Bool) (z : Int) (b : Bd) (x : Int) : Prop :=
  (s = s0 ∧ 0 < N.m ∧ q = true ∧ z = tdB N W.min ∧ b = zB ∧ x = 0) ∨ (s ≠ s0 ∧ ∃ i : Nat, i < N.n ∧ Ixn N.n N.bnm s i ∧ q = false ∧ z = 0 ∧ b = N.b i ∧ x = W.X i)
theorem Bk.put6 {w : World} {g : Nat} {a b c d e f : Value} {T : TypeId} (h : Bk w g (.cells #[a, b, c, d, e, f] T (0, 0))) (p q r s t u : Value) : Bk ((((((w.setCell ⟨g, 0, none⟩ p).setCell ⟨g, 1, none⟩ q).setCell ⟨g, 2, none⟩ r).setCell ⟨g, 3, none⟩ s).setCell ⟨g, 4, none⟩ t).setCell ⟨g, 5, none⟩ u) g (.cells #[p, q, r, s, t, u] T (0, 0)) := by
  unfold Bk at h ⊢
  simp only [World.setCell, Array.getElem?_modify, h]
  simp
theorem Td.range {n : Nat} {F L : Nat → Int} (hS : Sea n F L) (hn : 0 < n) {t r : Int} (h : Td n F L t r) : -4000000 ≤ r ∧ r ≤ 4000000 := by
  rcases h with ⟨_, rfl⟩ | ⟨_, rfl⟩ | ⟨i, hi, h1, h2, rfl⟩
  · have := hS.l 0 hn; omega
  · have := hS.l (n - 1) (by omega); omega
  · have a := hS.l i (by omega)
    have b := (seg_bd hS hi h1 h2).2
    unfold seg
    omega

section
variable {w : World} {B0 B1 : Nat} {N : Nd} {W : Wd}
set_option maxRecDepth 100000 in
set_option maxHeartbeats 4000000 in
theorem sideOf_sea (hC : Hid (Cn N 0)) (hm : 0 < N.m) (h : Nt w B0 N) (t0 : 0 ≤ W.min) (t1 : W.min ≤ 1000000) :
    Calls Try.prog 87 #[.agg #[.slice N.A N.n N.c, .slice N.M N.m N.d, .slice N.K N.k N.e], .agg #[.int .i64 W.min, .slice W.A W.n W.c, .slice W.M W.m W.d], .string s0] w fun e w' => e = .returned (.agg #[.bool true, .int .i64 (tdB N W.min), .string s0, .slice none 0 0, .int .i64 0, .int .i64 0]) ∧ Below w.heap.size w w' := by
  obtain ⟨g, hg⟩ : ∃ g, w.heap.size = g := ⟨_, rfl⟩
  have hb0 := (((Below.refl w.heap.size w).alloc (Nat.le_refl _) (.cells #[.slice N.A N.n N.c, .slice N.M N.m N.d, .slice N.K N.k N.e] 26)).alloc (by simp) (.cells #[.int .i64 W.min, .slice W.A W.n W.c, .slice W.M W.m W.d] 33)).alloc (by simp; omega) (.cells #[.bool false, .int .i64 0, .string s0, .slice none 0 0, .int .i64 0, .int .i64 0] 127)
  have K1 := ((Nb.new h hg).below (alo (o := .cells #[.int .i64 W.min, .slice W.A W.n W.c, .slice W.M W.m W.d] 33))).below (alo (o := .cells #[.bool false, .int .i64 0, .string s0, .slice none 0 0, .int .i64 0, .int .i64 0] 127))
  have V1 := (Bk.of_alloc (w.alloc (.cells #[.slice N.A N.n N.c, .slice N.M N.m N.d, .slice N.K N.k N.e] 26)) (.cells #[.int .i64 W.min, .slice W.A W.n W.c, .slice W.M W.m W.d] 33) (g := g + 1) (by simp [hg])).alloc (.cells #[.bool false, .int .i64 0, .string s0, .slice none 0 0, .int .i64 0, .int .i64 0] 127)
  have R1 : Bk _ (g + 2) _ := Bk.of_alloc ((w.alloc (.cells #[.slice N.A N.n N.c, .slice N.M N.m N.d, .slice N.K N.k N.e] 26)).alloc (.cells #[.int .i64 W.min, .slice W.A W.n W.c, .slice W.M W.m W.d] 33)) (.cells #[.bool false, .int .i64 0, .string s0, .slice none 0 0, .int .i64 0, .int .i64 0] 127) (by simp [hg])
  go_enter Try.func87, Try.ntmps87
  go_upto_region 1 with fail
  generalize ((w.alloc (.cells #[.slice N.A N.n N.c, .slice N.M N.m N.d, .slice N.K N.k N.e] 26)).alloc (.cells #[.int .i64 W.min, .slice W.A W.n W.c, .slice W.M W.m W.d] 33)).alloc (.cells #[.bool false, .int .i64 0, .string s0, .slice none 0 0, .int .i64 0, .int .i64 0] 127) = W0 at *
  have HB0 := hid hb0
  have Hg := hid hg
  clear hb0 hg h
  obtain ⟨x0, x1, x2⟩ := K1.cells
  obtain ⟨y0, y1, y2⟩ := V1.c3
  have emp := emp_t (s := s0) rfl
  go_wp2_with fail
  refine (tide_any K1.a.s hC.out.sea hm t0 t1).mono ?_
  rintro e w2 ⟨r, rfl, hr, hb⟩
  obtain rfl := tdB_is hC.out.sea hm hr.out
  obtain ⟨r, hrr⟩ : ∃ r, tdB N W.min = r := ⟨_, rfl⟩
  have R2 := R1.step hb
  have HB2 := hid (bthen HB0.out hb (Nat.le_refl _))
  clear hb K1 V1 R1 x0 x1 x2 y0 y1 y2 hr
  rw [hrr]
  have HRR := hid hrr
  clear hrr
  obtain ⟨r0, r1, r2, r3, r4, r5⟩ := R2.c6
  have f0 := R2.fz 0
  have f1 := R2.fz 1
  have f2 := R2.fz 2
  have f3 := R2.fz 3
  have f4 := R2.fz 4
  have f5 := R2.fz 5
  go_wp2_with fail
  have RZ := R2.put6 (.bool true) (.int .i64 r) (.string s0) (.slice none 0 0) (.int .i64 0) (.int .i64 0)
  have hbz := hid ((((((HB2.out.setCell (p := ⟨g + 2, 0, none⟩) (by have := Hg.out; show w.heap.size ≤ g + 2; omega) (.bool true)).setCell (p := ⟨g + 2, 1, none⟩) (by have := Hg.out; show w.heap.size ≤ g + 2; omega) (.int .i64 r)).setCell (p := ⟨g + 2, 2, none⟩) (by have := Hg.out; show w.heap.size ≤ g + 2; omega) (.string s0)).setCell (p := ⟨g + 2, 3, none⟩) (by have := Hg.out; show w.heap.size ≤ g + 2; omega) (.slice none 0 0)).setCell (p := ⟨g + 2, 4, none⟩) (by have := Hg.out; show w.heap.size ≤ g + 2; omega) (.int .i64 0)).setCell (p := ⟨g + 2, 5, none⟩) (by have := Hg.out; show w.heap.size ≤ g + 2; omega) (.int .i64 0))
  clear R2
  generalize (((((w2.setCell ⟨g + 2, 0, none⟩ (.bool true)).setCell ⟨g + 2, 1, none⟩ (.int .i64 r)).setCell ⟨g + 2, 2, none⟩ (.string s0)).setCell ⟨g + 2, 3, none⟩ (.slice none 0 0)).setCell ⟨g + 2, 4, none⟩ (.int .i64 0)).setCell ⟨g + 2, 5, none⟩ (.int .i64 0) = WZ at *
  clear r0 r1 r2 r3 r4 r5
  obtain ⟨r0, r1, r2, r3, r4, r5⟩ := RZ.c6
  exact bodyPost_ret (v := .agg #[.bool true, .int .i64 r, .string s0, .slice none 0 0, .int .i64 0, .int .i64 0]) (by simp [results, Try.results87, go_sem, r0, r1, r2, r3, r4, r5]) rfl ⟨by rw [HRR.out], hbz.out⟩

set_option maxRecDepth 100000 in
set_option maxHeartbeats 4000000 in
theorem sideOf_bas {s : ByteArray} {i : Nat} (hs0 : s ≠ s0) (hs : Nsm N) (hi : i < N.n) (hq : Hid (Ixn N.n N.bnm s i)) (hn : W.n = N.n) (h : Nt w B0 N) (hw : Wt w B1 W) :
    Calls Try.prog 87 #[.agg #[.slice N.A N.n N.c, .slice N.M N.m N.d, .slice N.K N.k N.e], .agg #[.int .i64 W.min, .slice W.A W.n W.c, .slice W.M W.m W.d], .string s] w fun e w' => e = .returned (.agg #[.bool false, .int .i64 0, .string (N.b i).nm, .slice (N.b i).A (N.b i).n (N.b i).c, .int .i64 (N.b i).rim, .int .i64 (W.X i)]) ∧ Below w.heap.size w w' := by
  have hnn := hs.n
  obtain ⟨g, hg⟩ : ∃ g, w.heap.size = g := ⟨_, rfl⟩
  have hb0 := (((Below.refl w.heap.size w).alloc (Nat.le_refl _) (.cells #[.slice N.A N.n N.c, .slice N.M N.m N.d, .slice N.K N.k N.e] 26)).alloc (by simp) (.cells #[.int .i64 W.min, .slice W.A W.n W.c, .slice W.M W.m W.d] 33)).alloc (by simp; omega) (.cells #[.bool false, .int .i64 0, .string s0, .slice none 0 0, .int .i64 0, .int .i64 0] 127)
  have K1 := ((Nb.new h hg).below (alo (o := .cells #[.int .i64 W.min, .slice W.A W.n W.c, .slice W.M W.m W.d] 33))).below (alo (o := .cells #[.bool false, .int .i64 0, .string s0, .slice none 0 0, .int .i64 0, .int .i64 0] 127))
  have V1 : Wx _ (g + 1) B1 W := ⟨(Bk.of_alloc (w.alloc (.cells #[.slice N.A N.n N.c, .slice N.M N.m N.d, .slice N.K N.k N.e] 26)) (.cells #[.int .i64 W.min, .slice W.A W.n W.c, .slice W.M W.m W.d] 33) (g := g + 1) (by simp [hg])).alloc (.cells #[.bool false, .int .i64 0, .string s0, .slice none 0 0, .int .i64 0, .int .i64 0] 127), hw.below hb0⟩
  have R1 : Bk _ (g + 2) _ := Bk.of_alloc ((w.alloc (.cells #[.slice N.A N.n N.c, .slice N.M N.m N.d, .slice N.K N.k N.e] 26)).alloc (.cells #[.int .i64 W.min, .slice W.A W.n W.c, .slice W.M W.m W.d] 33)) (.cells #[.bool false, .int .i64 0, .string s0, .slice none 0 0, .int .i64 0, .int .i64 0] 127) (by simp [hg])
  have emp := emp_f hs0
  have Hn := hid hn
  clear hn
  go_enter Try.func87, Try.ntmps87
  go_upto_region 1 with fail
  generalize ((w.alloc (.cells #[.slice N.A N.n N.c, .slice N.M N.m N.d, .slice N.K N.k N.e] 26)).alloc (.cells #[.int .i64 W.min, .slice W.A W.n W.c, .slice W.M W.m W.d] 33)).alloc (.cells #[.bool false, .int .i64 0, .string s0, .slice none 0 0, .int .i64 0, .int .i64 0] 127) = W0 at *
  have HB0 := hid hb0
  have Hg := hid hg
  clear hb0 hg h hw
  obtain ⟨x0, x1, x2⟩ := K1.cells
  go_wp2_with fail
  refine (findBasin_is hq K1.a hs).mono ?_
  rintro e w2 ⟨rfl, hb⟩
  have K2 := K1.below hb
  have V2 := V1.below hb
  have R2 := R1.step hb
  have HB2 := hid (bthen HB0.out hb (Nat.le_refl _))
  clear hb K1 V1 R1 x0 x1 x2
  have hin : (i : Int) < (N.n : Int) := by omega
  have hiw : (i : Int) < (W.n : Int) := by have := Hn.out; omega
  have K3 := K2.below dr0
  have V3 := V2.below dr0
  have R3 : Bk w2.drew _ _ := R2
  obtain ⟨r0, r1, r2, r3, r4, r5⟩ := R3.c6
  have f0 := R3.fz 0
  have f1 := R3.fz 1
  have f2 := R3.fz 2
  have f3 := R3.fz 3
  have f4 := R3.fz 4
  have f5 := R3.fz 5
  obtain ⟨k0, k1, k2, k3, k4, k5⟩ := R2.c6
  have e0 := R2.fz 0
  have e1 := R2.fz 1
  have e2 := R2.fz 2
  have e3 := R2.fz 3
  have e4 := R2.fz 4
  have e5 := R2.fz 5
  obtain ⟨ab, hA, -, q0, q1, q2, -⟩ := K3.a.b.at_ i hi
  obtain ⟨al, hAl, -, p0⟩ := V3.a.x i (by have := Hn.out; omega)
  obtain ⟨x0, x1, x2⟩ := K3.cells
  obtain ⟨y0, y1, y2⟩ := V3.cells
  rw [hA] at x0
  rw [hAl] at y1
  clear hA hAl
  go_wp2_with fail
  go_region
  all_goals go_wp2_with fail
  have RZ := R2.put6 (.bool false) (.int .i64 0) (.string (N.b i).nm) (.slice (N.b i).A (N.b i).n (N.b i).c) (.int .i64 (N.b i).rim) (.int .i64 (W.X i))
  have hbz := hid (((((((HB2.out.setCell (p := ⟨g + 2, 0, none⟩) (by have := Hg.out; show w.heap.size ≤ g + 2; omega) (.bool false)).setCell (p := ⟨g + 2, 1, none⟩) (by have := Hg.out; show w.heap.size ≤ g + 2; omega) (.int .i64 0)).setCell (p := ⟨g + 2, 2, none⟩) (by have := Hg.out; show w.heap.size ≤ g + 2; omega) (.string (N.b i).nm)).setCell (p := ⟨g + 2, 3, none⟩) (by have := Hg.out; show w.heap.size ≤ g + 2; omega) (.slice (N.b i).A (N.b i).n (N.b i).c)).setCell (p := ⟨g + 2, 4, none⟩) (by have := Hg.out; show w.heap.size ≤ g + 2; omega) (.int .i64 (N.b i).rim)).setCell (p := ⟨g + 2, 5, none⟩) (by have := Hg.out; show w.heap.size ≤ g + 2; omega) (.int .i64 (W.X i)))).drew
  clear R2 R3
  generalize (((((w2.setCell ⟨g + 2, 0, none⟩ (.bool false)).setCell ⟨g + 2, 1, none⟩ (.int .i64 0)).setCell ⟨g + 2, 2, none⟩ (.string (N.b i).nm)).setCell ⟨g + 2, 3, none⟩ (.slice (N.b i).A (N.b i).n (N.b i).c)).setCell ⟨g + 2, 4, none⟩ (.int .i64 (N.b i).rim)).setCell ⟨g + 2, 5, none⟩ (.int .i64 (W.X i)) = WZ at *
  clear r0 r1 r2 r3 r4 r5 k0 k1 k2 k3 k4 k5
  obtain ⟨r0, r1, r2, r3, r4, r5⟩ := RZ.c6
  exact bodyPost_ret (v := .agg #[.bool false, .int .i64 0, .string (N.b i).nm, .slice (N.b i).A (N.b i).n (N.b i).c, .int .i64 (N.b i).rim, .int .i64 (W.X i)]) (by simp [results, Try.results87, go_sem, r0, r1, r2, r3, r4, r5]) rfl ⟨rfl, hbz.out⟩
end

end Go.Proofs.Ytndcopljjnbkbaa
