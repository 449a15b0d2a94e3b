/- Networks: the sides of a link: level, above, room of the program. For all sides whose basin is good. Networks: sideOf of the program. Networks: the side of a name: sideOf as one contract; height of the reference. Networks: Case.Short of the laws. A case that comes in is opened: network, state and turns. Networks: turns, in numbers: what is open behind them, their error. No program in it. -/
import Derived.Test.YtockfiobhmohnaaGf
import Derived.Test.YtockfiobhmohnaaGe
namespace Go.Proofs.Ytockfiobhmohnaa
open Go.RowKit Go.Maps Kb Wb

/-- A side of a link (the sea at the level z, or x litres in the basin b) stands in memory and is good. -/
structure Sok (w : World) (B0 : Nat) (q : Bool) (z : Int) (b : Bd) (x : Int) : Prop where
  p : Pa w B0 b.A b.n b.F b.S
  c : b.n ≤ b.c
  m : b.c ≤ maxLen
  z : -4000000 ≤ z ∧ z ≤ 4000000
  bas : q = false → Bas b.F b.S b.n b.rim
  x0 : q = false → 0 ≤ x ∧ x ≤ capB b
/-- Its level after v more litres. -/
noncomputable def slev (q : Bool) (z : Int) (b : Bd) (x v : Int) : Int := match q with | true => z | false => lvB b (x + v)
/-- The litres above a level. -/
def sabo (q : Bool) (b : Bd) (x l : Int) : Int := match q with | true => 9223372036854775807 | false => x - volB b l
/-- The litres that may still come. -/
def sroom (q : Bool) (b : Bd) (x : Int) : Int := match q with | true => 9223372036854775807 | false => capB b - x
/-- A side in a box. -/
structure Sx (w : World) (g B0 : Nat) (q : Bool) (z : Int) (b : Bd) (x : Int) : Prop where
  k : Bk w g (.cells #[.bool q, .int .i64 z, .string b.nm, .slice b.A b.n b.c, .int .i64 b.rim, .int .i64 x] 118)
  a : Sok w B0 q z b x
section
variable {w w' : World} {g B0 : Nat} {q : Bool} {z : Int} {b : Bd} {x : Int}
theorem Sok.below (h : Sok w B0 q z b x) (hb : Below w.heap.size w w') : Sok w' B0 q z b x := ⟨h.p.below hb, h.c, h.m, h.z, h.bas, h.x0⟩
theorem Sx.below (h : Sx w g B0 q z b x) (hb : Below w.heap.size w w') : Sx w' g B0 q z b x := ⟨h.k.step hb, h.a.below hb⟩
theorem Sx.new (h : Sok w B0 q z b x) (hg : w.heap.size = g) : Sx (w.alloc (.cells #[.bool q, .int .i64 z, .string b.nm, .slice b.A b.n b.c, .int .i64 b.rim, .int .i64 x] 118)) g B0 q z b x := ⟨Bk.of_alloc w _ hg, h.below alo⟩
theorem Bk.c6 {W : World} {g : Nat} {a b c d e f : Value} {T : TypeId} (h : Bk W g (.cells #[a, b, c, d, e, f] T (0, 0))) :
    W.cell? ⟨g, 0, none⟩ = some a ∧ W.cell? ⟨g, 1, none⟩ = some b ∧ W.cell? ⟨g, 2, none⟩ = some c ∧ W.cell? ⟨g, 3, none⟩ = some d ∧ W.cell? ⟨g, 4, none⟩ = some e ∧ W.cell? ⟨g, 5, none⟩ = some f := by
  have hh := fun i => cell_of_row W _ i _ _ _ h
  exact ⟨hh 0, hh 1, hh 2, hh 3, hh 4, hh 5⟩
theorem Sx.cells (h : Sx w g B0 q z b x) : w.cell? ⟨g, 0, none⟩ = some (.bool q) ∧ w.cell? ⟨g, 1, none⟩ = some (.int .i64 z) ∧ w.cell? ⟨g, 2, none⟩ = some (.string b.nm) ∧ w.cell? ⟨g, 3, none⟩ = some (.slice b.A b.n b.c) ∧ w.cell? ⟨g, 4, none⟩ = some (.int .i64 b.rim) ∧ w.cell? ⟨g, 5, none⟩ = some (.int .i64 x)   := h.k.c6
end
theorem capB_range {b : Bd} (B : Bas b.F b.S b.n b.rim) : 0 ≤ capB b ∧ capB b ≤ 40000000000000 := below_nonneg B B.rm
theorem volB_range {b : Bd} (B : Bas b.F b.S b.n b.rim) {l : Int} (h : l ≤ 1000000) : 0 ≤ volB b l ∧ volB b l ≤ 40000000000000 := below_nonneg B h
theorem lvB_range {b : Bd} (B : Bas b.F b.S b.n b.rim) {v : Int} (h0 : 0 ≤ v) (h1 : v ≤ capB b) : -1000000 ≤ lvB b v ∧ lvB b v ≤ 1000000 := by
  have h := lvB_lev B h0 h1
  have f := (B.f 0 B.pos).1
  have r := B.rm
  have k0 := h.lo
  have k1 := h.hi
  omega

section
variable {w : World} {B0 : Nat} {q : Bool} {z : Int} {b : Bd} {x : Int}
set_option maxRecDepth 100000 in
set_option maxHeartbeats 4000000 in
theorem slevel_any (h : Sok w B0 q z b x) (v : Int) (hv : q = false → 0 ≤ x + v ∧ x + v ≤ capB b) :
    Calls Try.prog 83 #[.agg #[.bool q, .int .i64 z, .string b.nm, .slice b.A b.n b.c, .int .i64 b.rim, .int .i64 x], .int .i64 v] w fun e w' => e = .returned (.int .i64 (slev q z b x v)) ∧ Below w.heap.size w w' := by
  obtain ⟨g, hg⟩ : ∃ g, w.heap.size = g := ⟨_, rfl⟩
  have hb0 := alo (W := w) (o := .cells #[.bool q, .int .i64 z, .string b.nm, .slice b.A b.n b.c, .int .i64 b.rim, .int .i64 x] 118)
  have S1 := Sx.new h hg
  obtain ⟨r, hr⟩ : ∃ r, slev q z b x v = r := ⟨_, rfl⟩
  rw [hr]
  go_enter Try.func83, Try.ntmps83
  go_upto_region 1 with fail
  generalize w.alloc (.cells #[.bool q, .int .i64 z, .string b.nm, .slice b.A b.n b.c, .int .i64 b.rim, .int .i64 x] 118) = W0 at *
  have HB0 := hid hb0
  clear hb0 hg h
  cases q with
  | true =>
    have hr' : z = r := hr
    subst hr'
    obtain ⟨y0, y1, y2, y3, y4, y5⟩ := S1.cells
    go_wp2
    go_ret
    exact ⟨rfl, HB0.out⟩
  | false =>
    have B := S1.a.bas rfl
    have hx := S1.a.x0 rfl
    have hv' := hv rfl
    have hcap := capB_range B
    have hL := lvB_lev B hv'.1 hv'.2
    have hr' : lvB b (x + v) = r := hr
    rw [hr'] at hL
    have HL := hid hL
    have hw1 : IntKind.i64.wrap (x + v) = x + v := IntWalk.i64_in _ (by omega)
    clear hL hr hr' hv
    obtain ⟨y0, y1, y2, y3, y4, y5⟩ := S1.cells
    go_wp2_with fail
    refine (levelOf_any b.nm S1.a.p B S1.a.c S1.a.m hv'.1 hv'.2 HL.out).mono ?_
    rintro e w2 ⟨rfl, hb⟩
    have HB2 := hid (bthen HB0.out hb (Nat.le_refl _))
    clear hb
    go_wp2
    go_ret
    exact ⟨rfl, HB2.out⟩

set_option maxRecDepth 100000 in
set_option maxHeartbeats 4000000 in
theorem sroom_any (h : Sok w B0 q z b x) :
    Calls Try.prog 96 #[.agg #[.bool q, .int .i64 z, .string b.nm, .slice b.A b.n b.c, .int .i64 b.rim, .int .i64 x]] w fun e w' => e = .returned (.int .i64 (sroom q b x)) ∧ Below w.heap.size w w' := by
  obtain ⟨g, hg⟩ : ∃ g, w.heap.size = g := ⟨_, rfl⟩
  have hb0 := alo (W := w) (o := .cells #[.bool q, .int .i64 z, .string b.nm, .slice b.A b.n b.c, .int .i64 b.rim, .int .i64 x] 118)
  have S1 := Sx.new h hg
  obtain ⟨r, hr⟩ : ∃ r, sroom q b x = r := ⟨_, rfl⟩
  rw [hr]
  go_enter Try.func96, Try.ntmps96
  go_upto_region 1 with fail
  generalize w.alloc (.cells #[.bool q, .int .i64 z, .string b.nm, .slice b.A b.n b.c, .int .i64 b.rim, .int .i64 x] 118) = W0 at *
  have HB0 := hid hb0
  clear hb0 hg h
  cases q with
  | true =>
    have hr' : 9223372036854775807 = r := hr
    subst hr'
    obtain ⟨y0, y1, y2, y3, y4, y5⟩ := S1.cells
    go_wp2
    go_ret
    exact ⟨rfl, HB0.out⟩
  | false =>
    have B := S1.a.bas rfl
    have hx := S1.a.x0 rfl
    have hcap := capB_range B
    have hr' : capB b - x = r := hr
    obtain ⟨c, hc⟩ : ∃ c, capB b = c := ⟨_, rfl⟩
    rw [hc] at hx hcap hr'
    subst hr'
    have hw1 : IntKind.i64.wrap (c - x) = c - x := IntWalk.i64_in _ (by omega)
    have hcp : ∀ (W : World), Pa W B0 b.A b.n b.F b.S → Calls Try.prog 58 #[.agg #[.string b.nm, .slice b.A b.n b.c, .int .i64 b.rim]] W fun e w' => e = .returned (.int .i64 c) ∧ Below W.heap.size W w' := fun W hP => by
      rw [← hc]
      exact capacity_any b.nm hP B
    have Hcp := hid hcp
    clear hr hc hcp
    obtain ⟨y0, y1, y2, y3, y4, y5⟩ := S1.cells
    go_wp2_with fail
    clear y0 y1 y2 y3 y4 y5
    have D0 : Sx W0.drew g B0 false z b x := S1.below dr0
    go_region_held3 (fun w' => w'.cell? ⟨g, 0, none⟩ = some (.bool false) ∧ w'.cell? ⟨g, 1, none⟩ = some (.int .i64 z) ∧ w'.cell? ⟨g, 2, none⟩ = some (.string b.nm) ∧ w'.cell? ⟨g, 3, none⟩ = some (.slice b.A b.n b.c) ∧ w'.cell? ⟨g, 4, none⟩ = some (.int .i64 b.rim) ∧ w'.cell? ⟨g, 5, none⟩ = some (.int .i64 x)) (first | with_reducible exact Sx.cells D0 | with_reducible exact Sx.cells D1) (first
      | (go_at_call 58; with_reducible refine (Hcp.out _ D0.a.p).mono ?_; rintro e w2 ⟨rfl, hb⟩; have D1 := D0.below hb))
    all_goals
      have HB2 := hid (bthen HB0.out.drew hb (Nat.le_refl _))
      clear hb
      go_wp2
      go_ret
      exact ⟨rfl, HB2.out⟩

set_option maxRecDepth 100000 in
set_option maxHeartbeats 4000000 in
theorem sabo_any (h : Sok w B0 q z b x) (l : Int) (h1 : -1000000 ≤ l) (h2 : l ≤ 1000000) :
    Calls Try.prog 95 #[.agg #[.bool q, .int .i64 z, .string b.nm, .slice b.A b.n b.c, .int .i64 b.rim, .int .i64 x], .int .i64 l] w fun e w' => e = .returned (.int .i64 (sabo q b x l)) ∧ Below w.heap.size w w' := by
  obtain ⟨g, hg⟩ : ∃ g, w.heap.size = g := ⟨_, rfl⟩
  have hb0 := alo (W := w) (o := .cells #[.bool q, .int .i64 z, .string b.nm, .slice b.A b.n b.c, .int .i64 b.rim, .int .i64 x] 118)
  have S1 := Sx.new h hg
  obtain ⟨r, hr⟩ : ∃ r, sabo q b x l = r := ⟨_, rfl⟩
  rw [hr]
  go_enter Try.func95, Try.ntmps95
  go_upto_region 1 with fail
  generalize w.alloc (.cells #[.bool q, .int .i64 z, .string b.nm, .slice b.A b.n b.c, .int .i64 b.rim, .int .i64 x] 118) = W0 at *
  have HB0 := hid hb0
  clear hb0 hg h
  cases q with
  | true =>
    have hr' : 9223372036854775807 = r := hr
    subst hr'
    obtain ⟨y0, y1, y2, y3, y4, y5⟩ := S1.cells
    go_wp2
    go_ret
    exact ⟨rfl, HB0.out⟩
  | false =>
    have B := S1.a.bas rfl
    have hx := S1.a.x0 rfl
    have hcap := capB_range B
    have hvr := volB_range B h2
    have hr' : x - volB b l = r := hr
    obtain ⟨c, hc⟩ : ∃ c, volB b l = c := ⟨_, rfl⟩
    rw [hc] at hvr hr'
    subst hr'
    have hw1 : IntKind.i64.wrap (x - c) = x - c := IntWalk.i64_in _ (by omega)
    have hcp : ∀ (W : World), Pa W B0 b.A b.n b.F b.S → Calls Try.prog 57 #[.agg #[.string b.nm, .slice b.A b.n b.c, .int .i64 b.rim], .int .i64 l] W fun e w' => e = .returned (.int .i64 c) ∧ Below W.heap.size W w' := fun W hP => by
      rw [← hc]
      exact volume_any b.nm hP B h1 h2
    have Hcp := hid hcp
    clear hr hc hcp
    obtain ⟨y0, y1, y2, y3, y4, y5⟩ := S1.cells
    go_wp2_with fail
    clear y0 y1 y2 y3 y4 y5
    have D0 : Sx W0.drew g B0 false z b x := S1.below dr0
    go_region_held3 (fun w' => w'.cell? ⟨g, 0, none⟩ = some (.bool false) ∧ w'.cell? ⟨g, 1, none⟩ = some (.int .i64 z) ∧ w'.cell? ⟨g, 2, none⟩ = some (.string b.nm) ∧ w'.cell? ⟨g, 3, none⟩ = some (.slice b.A b.n b.c) ∧ w'.cell? ⟨g, 4, none⟩ = some (.int .i64 b.rim) ∧ w'.cell? ⟨g, 5, none⟩ = some (.int .i64 x)) (first | with_reducible exact Sx.cells D0 | with_reducible exact Sx.cells D1) (first
      | (go_at_call 57; with_reducible refine (Hcp.out _ D0.a.p).mono ?_; rintro e w2 ⟨rfl, hb⟩; have D1 := D0.below hb))
    all_goals
      have HB2 := hid (bthen HB0.out.drew hb (Nat.le_refl _))
      clear hb
      go_wp2
      go_ret
      exact ⟨rfl, HB2.out⟩
end

end Go.Proofs.Ytockfiobhmohnaa

namespace Go.Proofs.Ytockfiobhmohnaa
open Go.RowKit Go.Maps Kb Wb

/-- No basin. -/
abbrev zB : Bd := ⟨s0, none, 0, 0, 0, fun _ => 0, fun _ => 0⟩
/-- The level of the sea. -/
noncomputable def tdB (N : Nd) (t : Int) : Int := @dite _ (∃ r, Td N.m N.F N.L t r) (Classical.propDecidable _) (fun h => Classical.choose h) (fun _ => 0)
theorem tdB_is {N : Nd} {t r : Int} (hS : Sea N.m N.F N.L) (hn : 0 < N.m) (h : Td N.m N.F N.L t r) : r = tdB N t := by
  have hx : ∃ r, Td N.m N.F N.L t r := ⟨r, h⟩
  unfold tdB
  rw [@dif_pos _ (Classical.propDecidable _) hx]
  exact h.same hS hn (Classical.choose_spec hx)
theorem Cn.sea {N : Nd} (h : Cn N 0) : Sea N.m N.F N.L := h.zero.2.1.sea
/-- The side that the name s stands for. -/
def Sds (N : Nd) (W : Wd) (s : ByteArray) (q : Bool) (z : Int) (b : Bd) (x : Int) : Prop :=
  (s = s0 ∧ 0 < N.m ∧ q = true ∧ z = tdB N W.min ∧ b = zB ∧ x = 0) ∨ (s ≠ s0 ∧ ∃ i : Nat, i < N.n ∧ Ixn N.n N.bnm s i ∧ q = false ∧ z = 0 ∧ b = N.b i ∧ x = W.X i)
theorem Bk.put6 {w : World} {g : Nat} {a b c d e f : Value} {T : TypeId} (h : Bk w g (.cells #[a, b, c, d, e, f] T (0, 0))) (p q r s t u : Value) : Bk ((((((w.setCell ⟨g, 0, none⟩ p).setCell ⟨g, 1, none⟩ q).setCell ⟨g, 2, none⟩ r).setCell ⟨g, 3, none⟩ s).setCell ⟨g, 4, none⟩ t).setCell ⟨g, 5, none⟩ u) g (.cells #[p, q, r, s, t, u] T (0, 0)) := by
  unfold Bk at h ⊢
  simp only [World.setCell, Array.getElem?_modify, h]
  simp
theorem Td.range {n : Nat} {F L : Nat → Int} (hS : Sea n F L) (hn : 0 < n) {t r : Int} (h : Td n F L t r) : -4000000 ≤ r ∧ r ≤ 4000000 := by
  rcases h with ⟨_, rfl⟩ | ⟨_, rfl⟩ | ⟨i, hi, h1, h2, rfl⟩
  · have := hS.l 0 hn; omega
  · have := hS.l (n - 1) (by omega); omega
  · have a := hS.l i (by omega)
    have b := (seg_bd hS hi h1 h2).2
    unfold seg
    omega

section
variable {w : World} {B0 B1 : Nat} {N : Nd} {W : Wd}
set_option maxRecDepth 100000 in
set_option maxHeartbeats 4000000 in
theorem sideOf_sea (hC : Hid (Cn N 0)) (hm : 0 < N.m) (h : Nt w B0 N) (t0 : 0 ≤ W.min) (t1 : W.min ≤ 1000000) :
    Calls Try.prog 81 #[.agg #[.slice N.A N.n N.c, .slice N.M N.m N.d, .slice N.K N.k N.e], .agg #[.int .i64 W.min, .slice W.A W.n W.c, .slice W.M W.m W.d], .string s0] w fun e w' => e = .returned (.agg #[.bool true, .int .i64 (tdB N W.min), .string s0, .slice none 0 0, .int .i64 0, .int .i64 0]) ∧ Below w.heap.size w w' := by
  obtain ⟨g, hg⟩ : ∃ g, w.heap.size = g := ⟨_, rfl⟩
  have hb0 := (((Below.refl w.heap.size w).alloc (Nat.le_refl _) (.cells #[.slice N.A N.n N.c, .slice N.M N.m N.d, .slice N.K N.k N.e] 26)).alloc (by simp) (.cells #[.int .i64 W.min, .slice W.A W.n W.c, .slice W.M W.m W.d] 30)).alloc (by simp; omega) (.cells #[.bool false, .int .i64 0, .string s0, .slice none 0 0, .int .i64 0, .int .i64 0] 118)
  have K1 := ((Nb.new h hg).below (alo (o := .cells #[.int .i64 W.min, .slice W.A W.n W.c, .slice W.M W.m W.d] 30))).below (alo (o := .cells #[.bool false, .int .i64 0, .string s0, .slice none 0 0, .int .i64 0, .int .i64 0] 118))
  have V1 := (Bk.of_alloc (w.alloc (.cells #[.slice N.A N.n N.c, .slice N.M N.m N.d, .slice N.K N.k N.e] 26)) (.cells #[.int .i64 W.min, .slice W.A W.n W.c, .slice W.M W.m W.d] 30) (g := g + 1) (by simp [hg])).alloc (.cells #[.bool false, .int .i64 0, .string s0, .slice none 0 0, .int .i64 0, .int .i64 0] 118)
  have R1 : Bk _ (g + 2) _ := Bk.of_alloc ((w.alloc (.cells #[.slice N.A N.n N.c, .slice N.M N.m N.d, .slice N.K N.k N.e] 26)).alloc (.cells #[.int .i64 W.min, .slice W.A W.n W.c, .slice W.M W.m W.d] 30)) (.cells #[.bool false, .int .i64 0, .string s0, .slice none 0 0, .int .i64 0, .int .i64 0] 118) (by simp [hg])
  go_enter Try.func81, Try.ntmps81
  go_upto_region 1 with fail
  generalize ((w.alloc (.cells #[.slice N.A N.n N.c, .slice N.M N.m N.d, .slice N.K N.k N.e] 26)).alloc (.cells #[.int .i64 W.min, .slice W.A W.n W.c, .slice W.M W.m W.d] 30)).alloc (.cells #[.bool false, .int .i64 0, .string s0, .slice none 0 0, .int .i64 0, .int .i64 0] 118) = W0 at *
  have HB0 := hid hb0
  have Hg := hid hg
  clear hb0 hg h
  obtain ⟨x0, x1, x2⟩ := K1.cells
  obtain ⟨y0, y1, y2⟩ := V1.c3
  have emp := emp_t (s := s0) rfl
  go_wp2_with fail
  refine (tide_any K1.a.s hC.out.sea hm t0 t1).mono ?_
  rintro e w2 ⟨r, rfl, hr, hb⟩
  obtain rfl := tdB_is hC.out.sea hm hr.out
  obtain ⟨r, hrr⟩ : ∃ r, tdB N W.min = r := ⟨_, rfl⟩
  have R2 := R1.step hb
  have HB2 := hid (bthen HB0.out hb (Nat.le_refl _))
  clear hb K1 V1 R1 x0 x1 x2 y0 y1 y2 hr
  rw [hrr]
  have HRR := hid hrr
  clear hrr
  obtain ⟨r0, r1, r2, r3, r4, r5⟩ := R2.c6
  have f0 := R2.fz 0
  have f1 := R2.fz 1
  have f2 := R2.fz 2
  have f3 := R2.fz 3
  have f4 := R2.fz 4
  have f5 := R2.fz 5
  go_wp2_with fail
  have RZ := R2.put6 (.bool true) (.int .i64 r) (.string s0) (.slice none 0 0) (.int .i64 0) (.int .i64 0)
  have hbz := hid ((((((HB2.out.setCell (p := ⟨g + 2, 0, none⟩) (by have := Hg.out; show w.heap.size ≤ g + 2; omega) (.bool true)).setCell (p := ⟨g + 2, 1, none⟩) (by have := Hg.out; show w.heap.size ≤ g + 2; omega) (.int .i64 r)).setCell (p := ⟨g + 2, 2, none⟩) (by have := Hg.out; show w.heap.size ≤ g + 2; omega) (.string s0)).setCell (p := ⟨g + 2, 3, none⟩) (by have := Hg.out; show w.heap.size ≤ g + 2; omega) (.slice none 0 0)).setCell (p := ⟨g + 2, 4, none⟩) (by have := Hg.out; show w.heap.size ≤ g + 2; omega) (.int .i64 0)).setCell (p := ⟨g + 2, 5, none⟩) (by have := Hg.out; show w.heap.size ≤ g + 2; omega) (.int .i64 0))
  clear R2
  generalize (((((w2.setCell ⟨g + 2, 0, none⟩ (.bool true)).setCell ⟨g + 2, 1, none⟩ (.int .i64 r)).setCell ⟨g + 2, 2, none⟩ (.string s0)).setCell ⟨g + 2, 3, none⟩ (.slice none 0 0)).setCell ⟨g + 2, 4, none⟩ (.int .i64 0)).setCell ⟨g + 2, 5, none⟩ (.int .i64 0) = WZ at *
  clear r0 r1 r2 r3 r4 r5
  obtain ⟨r0, r1, r2, r3, r4, r5⟩ := RZ.c6
  exact bodyPost_ret (v := .agg #[.bool true, .int .i64 r, .string s0, .slice none 0 0, .int .i64 0, .int .i64 0]) (by simp [results, Try.results81, go_sem, r0, r1, r2, r3, r4, r5]) rfl ⟨by rw [HRR.out], hbz.out⟩

set_option maxRecDepth 100000 in
set_option maxHeartbeats 4000000 in
theorem sideOf_bas {s : ByteArray} {i : Nat} (hs0 : s ≠ s0) (hs : Nsm N) (hi : i < N.n) (hq : Hid (Ixn N.n N.bnm s i)) (hn : W.n = N.n) (h : Nt w B0 N) (hw : Wt w B1 W) :
    Calls Try.prog 81 #[.agg #[.slice N.A N.n N.c, .slice N.M N.m N.d, .slice N.K N.k N.e], .agg #[.int .i64 W.min, .slice W.A W.n W.c, .slice W.M W.m W.d], .string s] w fun e w' => e = .returned (.agg #[.bool false, .int .i64 0, .string (N.b i).nm, .slice (N.b i).A (N.b i).n (N.b i).c, .int .i64 (N.b i).rim, .int .i64 (W.X i)]) ∧ Below w.heap.size w w' := by
  have hnn := hs.n
  obtain ⟨g, hg⟩ : ∃ g, w.heap.size = g := ⟨_, rfl⟩
  have hb0 := (((Below.refl w.heap.size w).alloc (Nat.le_refl _) (.cells #[.slice N.A N.n N.c, .slice N.M N.m N.d, .slice N.K N.k N.e] 26)).alloc (by simp) (.cells #[.int .i64 W.min, .slice W.A W.n W.c, .slice W.M W.m W.d] 30)).alloc (by simp; omega) (.cells #[.bool false, .int .i64 0, .string s0, .slice none 0 0, .int .i64 0, .int .i64 0] 118)
  have K1 := ((Nb.new h hg).below (alo (o := .cells #[.int .i64 W.min, .slice W.A W.n W.c, .slice W.M W.m W.d] 30))).below (alo (o := .cells #[.bool false, .int .i64 0, .string s0, .slice none 0 0, .int .i64 0, .int .i64 0] 118))
  have V1 : Wx _ (g + 1) B1 W := ⟨(Bk.of_alloc (w.alloc (.cells #[.slice N.A N.n N.c, .slice N.M N.m N.d, .slice N.K N.k N.e] 26)) (.cells #[.int .i64 W.min, .slice W.A W.n W.c, .slice W.M W.m W.d] 30) (g := g + 1) (by simp [hg])).alloc (.cells #[.bool false, .int .i64 0, .string s0, .slice none 0 0, .int .i64 0, .int .i64 0] 118), hw.below hb0⟩
  have R1 : Bk _ (g + 2) _ := Bk.of_alloc ((w.alloc (.cells #[.slice N.A N.n N.c, .slice N.M N.m N.d, .slice N.K N.k N.e] 26)).alloc (.cells #[.int .i64 W.min, .slice W.A W.n W.c, .slice W.M W.m W.d] 30)) (.cells #[.bool false, .int .i64 0, .string s0, .slice none 0 0, .int .i64 0, .int .i64 0] 118) (by simp [hg])
  have emp := emp_f hs0
  have Hn := hid hn
  clear hn
  go_enter Try.func81, Try.ntmps81
  go_upto_region 1 with fail
  generalize ((w.alloc (.cells #[.slice N.A N.n N.c, .slice N.M N.m N.d, .slice N.K N.k N.e] 26)).alloc (.cells #[.int .i64 W.min, .slice W.A W.n W.c, .slice W.M W.m W.d] 30)).alloc (.cells #[.bool false, .int .i64 0, .string s0, .slice none 0 0, .int .i64 0, .int .i64 0] 118) = W0 at *
  have HB0 := hid hb0
  have Hg := hid hg
  clear hb0 hg h hw
  obtain ⟨x0, x1, x2⟩ := K1.cells
  go_wp2_with fail
  refine (findBasin_is hq K1.a hs).mono ?_
  rintro e w2 ⟨rfl, hb⟩
  have K2 := K1.below hb
  have V2 := V1.below hb
  have R2 := R1.step hb
  have HB2 := hid (bthen HB0.out hb (Nat.le_refl _))
  clear hb K1 V1 R1 x0 x1 x2
  have hin : (i : Int) < (N.n : Int) := by omega
  have hiw : (i : Int) < (W.n : Int) := by have := Hn.out; omega
  have K3 := K2.below dr0
  have V3 := V2.below dr0
  have R3 : Bk w2.drew _ _ := R2
  obtain ⟨r0, r1, r2, r3, r4, r5⟩ := R3.c6
  have f0 := R3.fz 0
  have f1 := R3.fz 1
  have f2 := R3.fz 2
  have f3 := R3.fz 3
  have f4 := R3.fz 4
  have f5 := R3.fz 5
  obtain ⟨k0, k1, k2, k3, k4, k5⟩ := R2.c6
  have e0 := R2.fz 0
  have e1 := R2.fz 1
  have e2 := R2.fz 2
  have e3 := R2.fz 3
  have e4 := R2.fz 4
  have e5 := R2.fz 5
  obtain ⟨ab, hA, -, q0, q1, q2, -⟩ := K3.a.b.at_ i hi
  obtain ⟨al, hAl, -, p0⟩ := V3.a.x i (by have := Hn.out; omega)
  obtain ⟨x0, x1, x2⟩ := K3.cells
  obtain ⟨y0, y1, y2⟩ := V3.cells
  rw [hA] at x0
  rw [hAl] at y1
  clear hA hAl
  go_wp2_with fail
  go_region
  all_goals go_wp2_with fail
  have RZ := R2.put6 (.bool false) (.int .i64 0) (.string (N.b i).nm) (.slice (N.b i).A (N.b i).n (N.b i).c) (.int .i64 (N.b i).rim) (.int .i64 (W.X i))
  have hbz := hid (((((((HB2.out.setCell (p := ⟨g + 2, 0, none⟩) (by have := Hg.out; show w.heap.size ≤ g + 2; omega) (.bool false)).setCell (p := ⟨g + 2, 1, none⟩) (by have := Hg.out; show w.heap.size ≤ g + 2; omega) (.int .i64 0)).setCell (p := ⟨g + 2, 2, none⟩) (by have := Hg.out; show w.heap.size ≤ g + 2; omega) (.string (N.b i).nm)).setCell (p := ⟨g + 2, 3, none⟩) (by have := Hg.out; show w.heap.size ≤ g + 2; omega) (.slice (N.b i).A (N.b i).n (N.b i).c)).setCell (p := ⟨g + 2, 4, none⟩) (by have := Hg.out; show w.heap.size ≤ g + 2; omega) (.int .i64 (N.b i).rim)).setCell (p := ⟨g + 2, 5, none⟩) (by have := Hg.out; show w.heap.size ≤ g + 2; omega) (.int .i64 (W.X i)))).drew
  clear R2 R3
  generalize (((((w2.setCell ⟨g + 2, 0, none⟩ (.bool false)).setCell ⟨g + 2, 1, none⟩ (.int .i64 0)).setCell ⟨g + 2, 2, none⟩ (.string (N.b i).nm)).setCell ⟨g + 2, 3, none⟩ (.slice (N.b i).A (N.b i).n (N.b i).c)).setCell ⟨g + 2, 4, none⟩ (.int .i64 (N.b i).rim)).setCell ⟨g + 2, 5, none⟩ (.int .i64 (W.X i)) = WZ at *
  clear r0 r1 r2 r3 r4 r5 k0 k1 k2 k3 k4 k5
  obtain ⟨r0, r1, r2, r3, r4, r5⟩ := RZ.c6
  exact bodyPost_ret (v := .agg #[.bool false, .int .i64 0, .string (N.b i).nm, .slice (N.b i).A (N.b i).n (N.b i).c, .int .i64 (N.b i).rim, .int .i64 (W.X i)]) (by simp [results, Try.results81, go_sem, r0, r1, r2, r3, r4, r5]) rfl ⟨rfl, hbz.out⟩
end

end Go.Proofs.Ytockfiobhmohnaa

namespace Go.Proofs.Ytockfiobhmohnaa
open Go.RowKit Go.Maps Kb Wb

/-- A network and a state that fit each other. -/
structure Fit (N : Nd) (W : Wd) : Prop where
  c : Cn N 0
  t0 : 0 ≤ W.min
  t1 : W.min ≤ 1000000
  n : W.n = N.n
  m : W.m = N.k
  l : ∀ i, i < N.n → LitOk N W i
theorem Fit.of {N : Nd} {W : Wd} (h : We N W 0) : Fit N W := by
  obtain ⟨h0, h1, h2, h3⟩ := h.zero
  exact ⟨h0, h1.1, h1.2, h2.1, h2.2, h3⟩
theorem tdB_range {N : Nd} (hS : Sea N.m N.F N.L) (hn : 0 < N.m) (t : Int) : -4000000 ≤ tdB N t ∧ tdB N t ≤ 4000000 := by
  unfold tdB
  by_cases hx : ∃ r, Td N.m N.F N.L t r
  · rw [@dif_pos _ (Classical.propDecidable _) hx]
    exact Td.range hS hn (Classical.choose_spec hx)
  · rw [@dif_neg _ (Classical.propDecidable _) hx]
    omega
theorem Sds.exists {N : Nd} {W : Wd} {s : ByteArray} (h : endB N s = true) (hm : s = s0 → 0 < N.m) : ∃ q z b x, Sds N W s q z b x := by
  by_cases h0 : s = s0
  · exact ⟨_, _, _, _, .inl ⟨h0, hm h0, rfl, rfl, rfl, rfl⟩⟩
  · rcases endB_iff.1 h with e | ⟨j, hj, e⟩
    · exact absurd e h0
    · obtain ⟨r, hr⟩ := Ixn.exists N.n N.bnm s
      rcases hr with ⟨_, hr⟩ | ⟨k, hk, h1, h2, rfl⟩
      · exact absurd e (hr j hj)
      · exact ⟨_, _, _, _, .inr ⟨h0, k, hk, .inr ⟨k, hk, h1, h2, rfl⟩, rfl, rfl, rfl, rfl⟩⟩
theorem pa_nil {w : World} {B0 : Nat} {F S : Nat → Int} (h : B0 ≤ w.heap.size) : Pa w B0 none 0 F S := ⟨fun _ hi => absurd hi (Nat.not_lt_zero _), h⟩
theorem Sds.ok {w : World} {B0 : Nat} {N : Nd} {W : Wd} {s : ByteArray} {q : Bool} {z x : Int} {b : Bd} (hS : Sds N W s q z b x) (hF : Fit N W) (h : Nt w B0 N) : Sok w B0 q z b x := by
  rcases hS with ⟨rfl, hm, rfl, rfl, rfl, rfl⟩ | ⟨h0, i, hi, hq, rfl, rfl, rfl, rfl⟩
  · exact ⟨pa_nil h.b.le, Nat.le_refl _, Nat.zero_le _, tdB_range hF.c.sea hm _, fun h => (by cases h), fun h => (by cases h)⟩
  · obtain ⟨ad, _, _, _, _, _, h1, h2, h3⟩ := h.b.at_ i hi
    exact ⟨h1, h2, h3, by omega, fun _ => hF.c.bas hi, fun _ => hF.l i hi⟩

/-- A network and a state in boxes, and what stands of basin i. -/
structure Hi (w : World) (g B0 B1 : Nat) (N : Nd) (W : Wd) (al ab : Addr) (i : Nat) : Prop where
  n : Nb w g B0 N
  v : Wx w (g + 1) B1 W
  hal : W.A = some al
  hab : N.A = some ab
  hi : i < W.n
  hj : i < N.n
section
variable {w w' : World} {g B0 B1 : Nat} {N : Nd} {W : Wd} {al ab : Addr} {i : Nat}
theorem Hi.below (h : Hi w g B0 B1 N W al ab i) (hb : Below w.heap.size w w') : Hi w' g B0 B1 N W al ab i := ⟨h.n.below hb, h.v.below hb, h.hal, h.hab, h.hi, h.hj⟩
theorem Hi.cells (h : Hi w g B0 B1 N W al ab i) : w.cell? ⟨g, 0, none⟩ = some (.slice (some ab) N.n N.c) ∧ w.cell? ⟨g + 1, 1, none⟩ = some (.slice (some al) W.n W.c) ∧ w.cell? (ab.add (i * 3)) = some (.string (N.b i).nm) ∧ w.cell? ⟨(ab.add (i * 3)).block, (ab.add (i * 3)).off + 1, none⟩ = some (.slice (N.b i).A (N.b i).n (N.b i).c) ∧ w.cell? ⟨(ab.add (i * 3)).block, (ab.add (i * 3)).off + 2, none⟩ = some (.int .i64 (N.b i).rim) ∧ w.cell? (al.add i) = some (.int .i64 (W.X i)) := by
  obtain ⟨b0, b1, b2⟩ := h.n.cells
  obtain ⟨c0, c1, c2⟩ := h.v.cells
  obtain ⟨ad', hA, _, q0⟩ := h.v.a.x i h.hi
  rw [h.hal] at hA c1
  injection hA with hA
  subst hA
  obtain ⟨ad', hA, _, q1, q2, q3, _⟩ := h.n.a.b.at_ i h.hj
  rw [h.hab] at hA b0
  injection hA with hA
  subst hA
  exact ⟨b0, c1, q1, q2, q3, q0⟩
theorem Hi.pa (h : Hi w g B0 B1 N W al ab i) : Pa w B0 (N.b i).A (N.b i).n (N.b i).F (N.b i).S := by
  obtain ⟨ad', hA, _, q1, q2, q3, h1, h2, h3⟩ := h.n.a.b.at_ i h.hj
  exact h1
end

section
variable {w : World} {B0 B1 : Nat} {N : Nd} {W : Wd} {s : ByteArray} {q : Bool} {z x : Int} {b : Bd}
theorem sideOf_is (hS : Sds N W s q z b x) (hF : Fit N W) (hs : Nsm N) (h : Nt w B0 N) (hw : Wt w B1 W) :
    Calls Try.prog 81 #[.agg #[.slice N.A N.n N.c, .slice N.M N.m N.d, .slice N.K N.k N.e], .agg #[.int .i64 W.min, .slice W.A W.n W.c, .slice W.M W.m W.d], .string s] w fun e w' => e = .returned (.agg #[.bool q, .int .i64 z, .string b.nm, .slice b.A b.n b.c, .int .i64 b.rim, .int .i64 x]) ∧ Below w.heap.size w w' := by
  rcases hS with ⟨rfl, hm, rfl, rfl, rfl, rfl⟩ | ⟨h0, i, hi, hq, rfl, rfl, rfl, rfl⟩
  · exact sideOf_sea (hid hF.c) hm h hF.t0 hF.t1
  · exact sideOf_bas h0 hs hi (hid hq) hF.n h hw

set_option maxRecDepth 100000 in
set_option maxHeartbeats 4000000 in
theorem height_sea (hC : Hid (Cn N 0)) (hm : 0 < N.m) (h : Nt w B0 N) (t0 : 0 ≤ W.min) (t1 : W.min ≤ 1000000) :
    Calls Try.prog 69 #[.agg #[.slice N.A N.n N.c, .slice N.M N.m N.d, .slice N.K N.k N.e], .agg #[.int .i64 W.min, .slice W.A W.n W.c, .slice W.M W.m W.d], .string s0] w fun e w' => e = .returned (.int .i64 (tdB N W.min)) ∧ Below w.heap.size w w' := by
  obtain ⟨g, hg⟩ : ∃ g, w.heap.size = g := ⟨_, rfl⟩
  have hb0 := ((Below.refl w.heap.size w).alloc (Nat.le_refl _) (.cells #[.slice N.A N.n N.c, .slice N.M N.m N.d, .slice N.K N.k N.e] 26)).alloc (by simp) (.cells #[.int .i64 W.min, .slice W.A W.n W.c, .slice W.M W.m W.d] 30)
  have K1 := (Nb.new h hg).below (alo (o := .cells #[.int .i64 W.min, .slice W.A W.n W.c, .slice W.M W.m W.d] 30))
  have V1 : Bk _ (g + 1) _ := Bk.of_alloc (w.alloc (.cells #[.slice N.A N.n N.c, .slice N.M N.m N.d, .slice N.K N.k N.e] 26)) (.cells #[.int .i64 W.min, .slice W.A W.n W.c, .slice W.M W.m W.d] 30) (by simp [hg])
  go_enter Try.func69, Try.ntmps69
  go_upto_region 1 with fail
  generalize (w.alloc (.cells #[.slice N.A N.n N.c, .slice N.M N.m N.d, .slice N.K N.k N.e] 26)).alloc (.cells #[.int .i64 W.min, .slice W.A W.n W.c, .slice W.M W.m W.d] 30) = W0 at *
  have HB0 := hid hb0
  clear hb0 hg h
  obtain ⟨x0, x1, x2⟩ := K1.cells
  obtain ⟨y0, y1, y2⟩ := V1.c3
  have emp := emp_t (s := s0) rfl
  go_wp2_with fail
  refine (rAt_any K1.a.s hC.out.sea hm t0 t1).mono ?_
  rintro e w2 ⟨r, rfl, hr, hb⟩
  obtain rfl := tdB_is hC.out.sea hm hr.out
  have HB2 := hid (bthen HB0.out hb (Nat.le_refl _))
  clear hb hr
  go_wp2
  go_ret
  exact ⟨rfl, HB2.out⟩

set_option maxRecDepth 100000 in
set_option maxHeartbeats 4000000 in
theorem height_bas {i : Nat} (hs0 : s ≠ s0) (hs : Nsm N) (hi : i < N.n) (hq : Hid (Ixn N.n N.bnm s i)) (hF : Hid (Fit N W)) (h : Nt w B0 N) (hw : Wt w B1 W) :
    Calls Try.prog 69 #[.agg #[.slice N.A N.n N.c, .slice N.M N.m N.d, .slice N.K N.k N.e], .agg #[.int .i64 W.min, .slice W.A W.n W.c, .slice W.M W.m W.d], .string s] w fun e w' => e = .returned (.int .i64 (lvB (N.b i) (W.X i))) ∧ Below w.heap.size w w' := by
  have hnn := hs.n
  obtain ⟨g, hg⟩ : ∃ g, w.heap.size = g := ⟨_, rfl⟩
  have hb0 := ((Below.refl w.heap.size w).alloc (Nat.le_refl _) (.cells #[.slice N.A N.n N.c, .slice N.M N.m N.d, .slice N.K N.k N.e] 26)).alloc (by simp) (.cells #[.int .i64 W.min, .slice W.A W.n W.c, .slice W.M W.m W.d] 30)
  have K1 := (Nb.new h hg).below (alo (o := .cells #[.int .i64 W.min, .slice W.A W.n W.c, .slice W.M W.m W.d] 30))
  have V1 : Wx _ (g + 1) B1 W := ⟨Bk.of_alloc (w.alloc (.cells #[.slice N.A N.n N.c, .slice N.M N.m N.d, .slice N.K N.k N.e] 26)) (.cells #[.int .i64 W.min, .slice W.A W.n W.c, .slice W.M W.m W.d] 30) (by simp [hg]), hw.below hb0⟩
  have emp := emp_f hs0
  have B := hF.out.c.bas hi
  have hx : 0 ≤ W.X i ∧ W.X i ≤ capB (N.b i) := hF.out.l i hi
  have hL := lvB_lev B hx.1 hx.2
  have hiw : i < W.n := by have := hF.out.n; omega
  obtain ⟨r, hr⟩ : ∃ r, lvB (N.b i) (W.X i) = r := ⟨_, rfl⟩
  rw [hr] at hL ⊢
  have HL := hid hL
  have HX := hid hx
  clear hr hL hx
  go_enter Try.func69, Try.ntmps69
  go_upto_region 1 with fail
  generalize (w.alloc (.cells #[.slice N.A N.n N.c, .slice N.M N.m N.d, .slice N.K N.k N.e] 26)).alloc (.cells #[.int .i64 W.min, .slice W.A W.n W.c, .slice W.M W.m W.d] 30) = W0 at *
  have HB0 := hid hb0
  clear hb0 hg h hw
  obtain ⟨x0, x1, x2⟩ := K1.cells
  go_wp2_with fail
  refine (rBasin_is hq K1.a hs).mono ?_
  rintro e w2 ⟨rfl, hb⟩
  have K2 := K1.below hb
  have V2 := V1.below hb
  have HB2 := hid (bthen HB0.out hb (Nat.le_refl _))
  clear hb K1 V1 x0 x1 x2
  have hin : (i : Int) < (N.n : Int) := by omega
  have hiw' : (i : Int) < (W.n : Int) := by omega
  obtain ⟨ab, hab, -⟩ := K2.a.b.at_ i hi
  obtain ⟨al, hal, -, -⟩ := V2.a.x i hiw
  have D0 : Hi w2.drew g B0 B1 N W al ab i := (Hi.mk K2 V2 hal hab hiw hi).below dr0
  clear hal hab K2 V2
  go_wp2_with fail
  go_region_held3 (fun w' => w'.cell? ⟨g, 0, none⟩ = some (.slice (some ab) N.n N.c) ∧ w'.cell? ⟨g + 1, 1, none⟩ = some (.slice (some al) W.n W.c) ∧ w'.cell? (ab.add (i * 3)) = some (.string (N.b i).nm) ∧ w'.cell? ⟨(ab.add (i * 3)).block, (ab.add (i * 3)).off + 1, none⟩ = some (.slice (N.b i).A (N.b i).n (N.b i).c) ∧ w'.cell? ⟨(ab.add (i * 3)).block, (ab.add (i * 3)).off + 2, none⟩ = some (.int .i64 (N.b i).rim) ∧ w'.cell? (al.add i) = some (.int .i64 (W.X i))) (first | with_reducible exact Hi.cells D0 | with_reducible exact Hi.cells D1) (first
    | (go_at_call 72; with_reducible refine (rLevelOf_any (N.b i).nm D0.pa B HX.out.1 HL.out).mono ?_; rintro e w3 ⟨rfl, hb3⟩; have D1 := D0.below hb3))
  all_goals
    have HB3 := hid (bthen HB2.out.drew hb3 (Nat.le_refl _))
    clear hb3
    go_wp2
    go_ret
    exact ⟨rfl, HB3.out⟩
theorem height_is (hS : Sds N W s q z b x) (hF : Fit N W) (hs : Nsm N) (h : Nt w B0 N) (hw : Wt w B1 W) :
    Calls Try.prog 69 #[.agg #[.slice N.A N.n N.c, .slice N.M N.m N.d, .slice N.K N.k N.e], .agg #[.int .i64 W.min, .slice W.A W.n W.c, .slice W.M W.m W.d], .string s] w fun e w' => e = .returned (.int .i64 (slev q z b x 0)) ∧ Below w.heap.size w w' := by
  rcases hS with ⟨rfl, hm, rfl, rfl, rfl, rfl⟩ | ⟨h0, i, hi, hq, rfl, rfl, rfl, rfl⟩
  · exact height_sea (hid hF.c) hm h hF.t0 hF.t1
  · rw [show slev false 0 (N.b i) (W.X i) 0 = lvB (N.b i) (W.X i) by unfold slev; rw [Int.add_zero]]
    exact height_bas h0 hs hi (hid hq) (hid hF) h hw
end

end Go.Proofs.Ytockfiobhmohnaa

namespace Go.Proofs.Ytockfiobhmohnaa
open Go.RowKit Go.Maps Kb Wb

/-- The slice at A reads as n turns. -/
structure Tl (w : World) (B0 : Nat) (A : Option Addr) (n : Nat) (tm : Nat → Int) (tl : Nat → ByteArray) (tp : Nat → Bool) : Prop where
  at_ : ∀ i, i < n → ∃ ad, A = some ad ∧ ad.block < B0 ∧ w.cell? (ad.add (i * 3)) = some (.int .i64 (tm i)) ∧ w.cell? ⟨(ad.add (i * 3)).block, (ad.add (i * 3)).off + 1, none⟩ = some (.string (tl i)) ∧ w.cell? ⟨(ad.add (i * 3)).block, (ad.add (i * 3)).off + 2, none⟩ = some (.bool (tp i))
  le : B0 ≤ w.heap.size
theorem Tl.below {w w' : World} {B0 n : Nat} {A : Option Addr} {tm : Nat → Int} {tl : Nat → ByteArray} {tp : Nat → Bool} (h : Tl w B0 A n tm tl tp) (hb : Below w.heap.size w w') : Tl w' B0 A n tm tl tp :=
  ⟨fun i hi => by
    obtain ⟨ad, e, h1, h2, h3, h4⟩ := h.at_ i hi
    have l := Nat.lt_of_lt_of_le h1 h.le
    exact ⟨ad, e, h1, (hb.cell (p := ad.add (i * 3)) (in_add l)).trans h2, (hb.cell (p := ⟨(ad.add (i * 3)).block, (ad.add (i * 3)).off + 1, none⟩) (in_add l)).trans h3, (hb.cell (p := ⟨(ad.add (i * 3)).block, (ad.add (i * 3)).off + 2, none⟩) (in_add l)).trans h4⟩, Nat.le_trans h.le hb.size⟩
theorem Bk.c7 {W : World} {g : Nat} {a b c d e f k : Value} {T : TypeId} (h : Bk W g (.cells #[a, b, c, d, e, f, k] T (0, 0))) :
    W.cell? ⟨g, 0, none⟩ = some a ∧ W.cell? ⟨g, 1, none⟩ = some b ∧ W.cell? ⟨g, 2, none⟩ = some c ∧ W.cell? ⟨g, 3, none⟩ = some d ∧ W.cell? ⟨g, 4, none⟩ = some e ∧ W.cell? ⟨g, 5, none⟩ = some f ∧ W.cell? ⟨g, 6, none⟩ = some k := by
  have hh := fun i => cell_of_row W _ i _ _ _ h
  exact ⟨hh 0, hh 1, hh 2, hh 3, hh 4, hh 5, hh 6⟩
/-- A case whose lists are short. -/
structure Css (N : Nd) (W : Wd) (p : Nat) (tl : Nat → ByteArray) : Prop where
  s : Nss N
  n : W.n ≤ 20
  m : W.m ≤ 20
  pp : p ≤ 30 ∨ 200 < p
  t : ∀ j, j < p → (tl j).size ≤ 40
set_option maxRecDepth 100000 in
set_option maxHeartbeats 4000000 in
theorem Short_any {w : World} {B0 B1 B2 : Nat} {N : Nd} {W : Wd} {P : Option Addr} {p u : Nat} {tm : Nat → Int} {tl : Nat → ByteArray} {tp : Nat → Bool} (h : Nt w B0 N) (hw : Wt w B1 W) (hT : Tl w B2 P p tm tl tp) (hp9 : p ≤ 9223372036854775807)
    (hszl : ∀ i, i < N.k → (N.l i).nm.size < 9223372036854775808 ∧ (N.l i).fr.size < 9223372036854775808 ∧ (N.l i).tw.size < 9223372036854775808) (hsb : ∀ i, i < N.n → (N.b i).nm.size < 9223372036854775808) (hsz : ∀ i, i < p → (tl i).size < 9223372036854775808) :
    Calls Try.prog 8 #[.agg #[.slice N.A N.n N.c, .slice N.M N.m N.d, .slice N.K N.k N.e, .int .i64 W.min, .slice W.A W.n W.c, .slice W.M W.m W.d, .slice P p u]] w fun e w' => ∃ r : Bool, e = .returned (.bool r) ∧ Hid (r = true → Css N W p tl) ∧ Below w.heap.size w w' := by
  have hn9 : W.n ≤ 9223372036854775807 := by have := Nat.le_trans hw.nc hw.cm; unfold maxLen at this; omega
  have hm9 : W.m ≤ 9223372036854775807 := by have := Nat.le_trans hw.md hw.dm; unfold maxLen at this; omega
  obtain ⟨g, hg⟩ : ∃ g, w.heap.size = g := ⟨_, rfl⟩
  have hb0 := alo (W := w) (o := .cells #[.slice N.A N.n N.c, .slice N.M N.m N.d, .slice N.K N.k N.e, .int .i64 W.min, .slice W.A W.n W.c, .slice W.M W.m W.d, .slice P p u] 33)
  have R1 := Bk.of_alloc w (.cells #[.slice N.A N.n N.c, .slice N.M N.m N.d, .slice N.K N.k N.e, .int .i64 W.min, .slice W.A W.n W.c, .slice W.M W.m W.d, .slice P p u] 33) hg
  have K1 := h.below hb0
  have T1 := hT.below hb0
  go_enter Try.func8, Try.ntmps8
  go_upto_region 1 with fail
  generalize w.alloc (.cells #[.slice N.A N.n N.c, .slice N.M N.m N.d, .slice N.K N.k N.e, .int .i64 W.min, .slice W.A W.n W.c, .slice W.M W.m W.d, .slice P p u] 33) = W0 at *
  have HB0 := hid hb0
  clear hb0 hg h hw hT
  obtain ⟨x0, x1, x2, x3, x4, x5, x6⟩ := R1.c7
  go_wp2_with fail
  refine (short_any K1 hszl hsb).mono ?_
  rintro e w2 ⟨r, rfl, hr, hb⟩
  have R2 := R1.step hb
  have T2 := T1.below hb
  have HB2 := hid (bthen HB0.out hb (Nat.le_refl _))
  clear hb R1 K1 T1 x0 x1 x2 x3 x4 x5 x6
  obtain ⟨x0, x1, x2, x3, x4, x5, x6⟩ := R2.c7
  cases r with
  | false =>
    go_wp2
    go_ret
    exact ⟨false, rfl, hid (fun h => by cases h), HB2.out⟩
  | true =>
    have Hss := hid (hr.out rfl)
    clear hr
    by_cases h10 : 20 < W.n
    · have d1 : decide ((20 : Int) < (W.n : Int)) = true := decide_eq_true (by omega)
      go_wp2
      go_ret
      exact ⟨false, rfl, hid (fun h => by cases h), HB2.out⟩
    · have d1 : decide ((20 : Int) < (W.n : Int)) = false := decide_eq_false (by omega)
      by_cases h14 : 20 < W.m
      · have d2 : decide ((20 : Int) < (W.m : Int)) = true := decide_eq_true (by omega)
        go_wp2
        go_ret
        exact ⟨false, rfl, hid (fun h => by cases h), HB2.out⟩
      · have d2 : decide ((20 : Int) < (W.m : Int)) = false := decide_eq_false (by omega)
        by_cases h30 : 30 < p
        · have d3 : decide ((30 : Int) < (p : Int)) = true := decide_eq_true (by omega)
          by_cases h400 : p ≤ 200
          · have d4 : decide ((p : Int) ≤ 200) = true := decide_eq_true (by omega)
            go_wp2
            go_ret
            exact ⟨false, rfl, hid (fun h => by cases h), HB2.out⟩
          · have d4 : decide ((p : Int) ≤ 200) = false := decide_eq_false (by omega)
            have HPP := hid (show p ≤ 30 ∨ 200 < p from .inr (by omega))
            go_wp2_with fail
            clear x0 x1 x2 x3 x4 x5 x6 d1 d2 d3
            go_loopw [3] (fun iv wr => ∃ i : Nat, i ≤ p ∧ iv = .int .i64 i ∧ Hid (∀ j, j < i → (tl j).size ≤ 40) ∧ Below w2.heap.size w2 wr) (fun iv _ => p - (intOf iv).toNat)
            case atStart => exact ⟨0, Nat.zero_le _, rfl, hid (fun j hj => absurd hj (Nat.not_lt_zero _)), Below.refl _ _⟩
            case round =>
              obtain ⟨i, hi, rfl, HN, hbel⟩ := hrel
              have T3 := T2.below hbel
              obtain ⟨x0, x1, x2, x3, x4, x5, x6⟩ := (R2.step hbel).c7
              have HB3 := hid (bthen HB2.out hbel (Nat.le_refl _))
              have Hbel := hid hbel
              clear hbel
              by_cases hlt : i < p
              · obtain ⟨ad, hA, hl, q0, q1, q2⟩ := T3.at_ i hlt
                have dlt : decide ((i : Int) < (p : Int)) = true := decide_eq_true (by omega)
                have hsz' := hsz i hlt
                obtain ⟨s, hs⟩ : ∃ s, tl i = s := ⟨_, rfl⟩
                rw [hs] at q1 hsz'
                have Hs := hid hs
                subst hA
                clear hs
                by_cases e1 : 40 < s.size
                · have f1 : decide ((40 : Int) < (s.size : Int)) = true := decide_eq_true (by omega)
                  go_wp2
                  go_ret
                  exact ⟨false, rfl, hid (fun h => by cases h), HB3.out⟩
                · have f1 : decide ((40 : Int) < (s.size : Int)) = false := decide_eq_false (by omega)
                  go_wp2
                  go_roundw
                  case rel => exact ⟨i + 1, by omega, by go_num, hid (fun j hj => by rcases Nat.lt_or_ge j i with h | h; exact HN.out j h; have : j = i := (by omega); subst this; rw [Hs.out]; omega), Hbel.out⟩
                  case measure => simp [intOf]; omega
              · have e : i = p := by omega
                have dlt : decide ((i : Int) < (p : Int)) = false := decide_eq_false (by omega)
                subst e
                go_wp2
                go_ret
                exact ⟨true, rfl, hid (fun _ => ⟨Hss.out, by omega, by omega, HPP.out, HN.out⟩), HB3.out⟩
        · have d3 : decide ((30 : Int) < (p : Int)) = false := decide_eq_false (by omega)
          have HPP := hid (show p ≤ 30 ∨ 200 < p from .inl (by omega))
          go_wp2_with fail
          clear x0 x1 x2 x3 x4 x5 x6 d1 d2 d3
          go_loopw [3] (fun iv wr => ∃ i : Nat, i ≤ p ∧ iv = .int .i64 i ∧ Hid (∀ j, j < i → (tl j).size ≤ 40) ∧ Below w2.heap.size w2 wr) (fun iv _ => p - (intOf iv).toNat)
          case atStart => exact ⟨0, Nat.zero_le _, rfl, hid (fun j hj => absurd hj (Nat.not_lt_zero _)), Below.refl _ _⟩
          case round =>
            obtain ⟨i, hi, rfl, HN, hbel⟩ := hrel
            have T3 := T2.below hbel
            obtain ⟨x0, x1, x2, x3, x4, x5, x6⟩ := (R2.step hbel).c7
            have HB3 := hid (bthen HB2.out hbel (Nat.le_refl _))
            have Hbel := hid hbel
            clear hbel
            by_cases hlt : i < p
            · obtain ⟨ad, hA, hl, q0, q1, q2⟩ := T3.at_ i hlt
              have dlt : decide ((i : Int) < (p : Int)) = true := decide_eq_true (by omega)
              have hsz' := hsz i hlt
              obtain ⟨s, hs⟩ : ∃ s, tl i = s := ⟨_, rfl⟩
              rw [hs] at q1 hsz'
              have Hs := hid hs
              subst hA
              clear hs
              by_cases e1 : 40 < s.size
              · have f1 : decide ((40 : Int) < (s.size : Int)) = true := decide_eq_true (by omega)
                go_wp2
                go_ret
                exact ⟨false, rfl, hid (fun h => by cases h), HB3.out⟩
              · have f1 : decide ((40 : Int) < (s.size : Int)) = false := decide_eq_false (by omega)
                go_wp2
                go_roundw
                case rel => exact ⟨i + 1, by omega, by go_num, hid (fun j hj => by rcases Nat.lt_or_ge j i with h | h; exact HN.out j h; have : j = i := (by omega); subst this; rw [Hs.out]; omega), Hbel.out⟩
                case measure => simp [intOf]; omega
            · have e : i = p := by omega
              have dlt : decide ((i : Int) < (p : Int)) = false := decide_eq_false (by omega)
              subst e
              go_wp2
              go_ret
              exact ⟨true, rfl, hid (fun _ => ⟨Hss.out, by omega, by omega, HPP.out, HN.out⟩), HB3.out⟩

end Go.Proofs.Ytockfiobhmohnaa

namespace Go.Proofs.Ytockfiobhmohnaa
open Go.ChangeShapes Go.WideShapes Go.ChangeAt Go.RowKit Go.Joins Kb Wb

theorem cells_bool : Try.prog.cellsOf 4 = 1 := by kernel_rfl
theorem cells_turn : Try.prog.cellsOf 75 = 3 := by kernel_rfl
theorem cells_net : Try.prog.cellsOf 26 = 3 := by kernel_rfl
theorem cells_water : Try.prog.cellsOf 30 = 3 := by kernel_rfl
theorem cells_turns : Try.prog.cellsOf 31 = 1 := by kernel_rfl
theorem cells_bs : Try.prog.cellsOf 22 = 1 := by kernel_rfl
theorem cells_ms : Try.prog.cellsOf 23 = 1 := by kernel_rfl
theorem cells_ls : Try.prog.cellsOf 24 = 1 := by kernel_rfl
theorem cells_is : Try.prog.cellsOf 27 = 1 := by kernel_rfl
theorem cells_os : Try.prog.cellsOf 28 = 1 := by kernel_rfl
theorem cells_case : Try.prog.cellsOf 33 = 7 := by kernel_rfl

section
variable {H : Type} {enc : TypeId × Value → H} {W : World}
theorem bools_of {fuel : Nat} {cs : List Value} {y : DataW H × List MemPlace} (h : DataW.trod enc Try.prog W 0 (fun _ => true) true fuel 28 cs = some y) :
    ∃ A n c, ∃ Y : Nat → Bool, cs = [.slice A n c] ∧ (∀ i, i < n → ∃ ad, A = some ad ∧ ad.block < W.heap.size ∧ W.cell? (ad.add i) = some (.bool (Y i))) ∧ n ≤ c ∧ c ≤ maxLen := by
  rcases Go.Deep.open_slice1 Try.underlying28 cells_bool h with ⟨rfl, _⟩ | ⟨a, len, cap, m, n, V, D, Pl, rfl, _, hl, hm, hmm, _, hx⟩
  · exact ⟨none, 0, 0, fun _ => false, rfl, fun _ hi => absurd hi (Nat.not_lt_zero _), Nat.le_refl _, Nat.zero_le _⟩
  · have hmc : m = cap := by simpa using hmm
    have key : ∀ i, ∃ b : Bool, i < len → W.cell? (a.add i) = some (.bool b) := fun i => by
      by_cases hil : i < len
      · obtain ⟨h1, h2⟩ := hx i (by omega)
        obtain ⟨b, e0, _⟩ := DataW.trod_bool Try.underlying4 h2
        simp only [List.cons.injEq, and_true] at e0
        exact ⟨b, fun _ => by rw [h1, e0]⟩
      · exact ⟨false, fun hh => absurd hh hil⟩
    refine ⟨some a, len, cap, fun i => Classical.choose (key i), rfl, fun i hil => ?_, hl, hm⟩
    have c0 := Classical.choose_spec (key i) hil
    have hb := World.block_lt_of_cell? W _ c0
    rw [block_of_add] at hb
    exact ⟨a, rfl, hb, c0⟩
theorem turns_of {fuel : Nat} {cs : List Value} {y : DataW H × List MemPlace} (h : DataW.trod enc Try.prog W 0 (fun _ => true) true fuel 31 cs = some y) :
    ∃ A n c tm tl tp, cs = [.slice A n c] ∧ Tl W W.heap.size A n tm tl tp ∧ n ≤ c ∧ c ≤ maxLen ∧ ∀ i, i < n → (tl i).size ≤ maxLen := by
  rcases Go.Deep.open_slice Try.underlying31 h with ⟨rfl, _⟩ | ⟨a, len, cap, m, n, D, Pl, rfl, _, hl, hm, hmm, _, hx⟩
  · exact ⟨none, 0, 0, fun _ => 0, fun _ => s0, fun _ => false, rfl, ⟨fun _ hi => absurd hi (Nat.not_lt_zero _), Nat.le_refl _⟩, Nat.le_refl _, Nat.zero_le _, fun _ hi => absurd hi (Nat.not_lt_zero _)⟩
  · have hmc : m = cap := by simpa using hmm
    have key : ∀ i, ∃ b : Int × ByteArray × Bool, i < len → W.cell? (a.add (i * 3)) = some (.int .i64 b.1) ∧ W.cell? ((a.add (i * 3)).add 1) = some (.string b.2.1) ∧ W.cell? ((a.add (i * 3)).add 2) = some (.bool b.2.2) ∧ b.2.1.size ≤ maxLen := fun i => by
      by_cases hil : i < len
      · obtain ⟨cs', h1, h2⟩ := hx i (by omega)
        rw [cells_turn] at h1
        obtain ⟨_, hlen, hc⟩ := World.cells?_some h1
        match cs', hlen with
        | [v0, v1, v2], _ =>
          obtain ⟨y0, y1, y2, k, _, _, t0, t1, t2⟩ := Go.Deep.trod_struct3 Try.underlying75 h2
          simp only [cells_str, cells_bool, cells_int, List.drop_zero, List.drop_succ_cons, List.take_succ_cons, List.take_zero] at t0 t1 t2
          obtain ⟨r, e0, _, _⟩ := DataW.trod_int Try.underlying3 t0
          obtain ⟨s, e1, _, hs⟩ := DataW.trod_string Try.underlying9 t1
          obtain ⟨o, e2, _⟩ := DataW.trod_bool Try.underlying4 t2
          simp only [List.cons.injEq, and_true] at e0 e1 e2
          subst e0; subst e1; subst e2
          refine ⟨(r, s, o), fun _ => ⟨?_, ?_, ?_, hs⟩⟩
          · have := hc 0 (by decide); rw [add_of_add] at this; simpa using this
          · simpa using hc 1 (by decide)
          · simpa using hc 2 (by decide)
      · exact ⟨(0, s0, false), fun hh => absurd hh hil⟩
    refine ⟨some a, len, cap, fun i => (Classical.choose (key i)).1, fun i => (Classical.choose (key i)).2.1, fun i => (Classical.choose (key i)).2.2, rfl, ⟨fun i hil => ?_, Nat.le_refl _⟩, hl, hm, fun i hil => (Classical.choose_spec (key i) hil).2.2.2⟩
    obtain ⟨c0, c1, c2, _⟩ := Classical.choose_spec (key i) hil
    have hb := World.block_lt_of_cell? W _ c0
    rw [block_of_add] at hb
    exact ⟨a, rfl, hb, c0, by rw [← add_at (a.add (i * 3)) 0]; exact c1, by rw [← add_at (a.add (i * 3)) 1]; exact c2⟩
set_option maxRecDepth 100000 in
theorem open_Case {base : Nat} {v : Value} {d : DataW H} {p : List MemPlace} (hv : Value.okWide Try.prog W .any base 33 v) (h : DataW.Trod enc Try.prog W 0 (fun _ => true) true 33 v d p) :
    ∃ (N : Nd) (V : Wd) (P : Option Addr) (n u : Nat) (tm : Nat → Int) (tl : Nat → ByteArray) (tp : Nat → Bool), v = .agg #[.slice N.A N.n N.c, .slice N.M N.m N.d, .slice N.K N.k N.e, .int .i64 V.min, .slice V.A V.n V.c, .slice V.M V.m V.d, .slice P n u] ∧ Nt W W.heap.size N ∧ Wt W W.heap.size V ∧ Tl W W.heap.size P n tm tl tp ∧ n ≤ u ∧ u ≤ maxLen ∧ I64 V.min ∧ (∀ i, i < N.k → (N.l i).nm.size ≤ maxLen ∧ (N.l i).fr.size ≤ maxLen ∧ (N.l i).tw.size ≤ maxLen) ∧ (∀ i, i < N.n → (N.b i).nm.size ≤ maxLen) ∧ ∀ i, i < n → (tl i).size ≤ maxLen := by
  obtain ⟨cs, rfl, hsz⟩ := okWide_struct Try.underlying33 hv
  rw [cells_case] at hsz
  obtain ⟨l, rfl⟩ : ∃ l : List Value, cs = l.toArray := ⟨cs.toList, by simp⟩
  match l, hsz with
  | [v0, v1, v2, v3, v4, v5, v6], _ =>
    obtain ⟨fuel, hf⟩ := h
    obtain ⟨y0, y1, y2, k, _, _, h0, h1, h2⟩ := Go.Deep.trod_struct3 Try.underlying33 hf
    simp only [Value.cells, cells_net, cells_water, cells_turns, List.drop_zero, List.drop_succ_cons, List.take_succ_cons, List.take_zero] at h0 h1 h2
    obtain ⟨z0, z1, z2, k2, _, _, a0, a1, a2⟩ := Go.Deep.trod_struct3 Try.underlying26 h0
    obtain ⟨u0, u1, u2, k3, _, _, b0, b1, b2⟩ := Go.Deep.trod_struct3 Try.underlying30 h1
    simp only [cells_bs, cells_ms, cells_ls, List.drop_zero, List.drop_succ_cons, List.take_succ_cons, List.take_zero] at a0 a1 a2
    simp only [cells_int, cells_is, cells_os, List.drop_zero, List.drop_succ_cons, List.take_succ_cons, List.take_zero] at b0 b1 b2
    obtain ⟨A, m0, c0, b, e0, hB, hb1, hb2, hb3⟩ := basins_of a0
    obtain ⟨M, m1, c1, F, S, e1, hP, hp1, hp2⟩ := pairs_of Try.underlying23 Try.underlying110 (by kernel_rfl) rfl rfl rfl rfl a1
    obtain ⟨K, m2, c2, ln, e2, hL, hl1, hl2, hl3⟩ := links_of a2
    obtain ⟨r, e3, _, hr⟩ := DataW.trod_int Try.underlying3 b0
    obtain ⟨A4, n4, c4, Z, e4, hZ, hz1, hz2⟩ := nums_of b1
    obtain ⟨A5, n5, c5, Y, e5, hY, hy1, hy2⟩ := bools_of b2
    obtain ⟨P, n, u, tm, tl, tp, e6, hT, ht1, ht2, ht3⟩ := turns_of h2
    simp only [List.cons.injEq, and_true] at e0 e1 e2 e3 e4 e5 e6
    subst e0; subst e1; subst e2; subst e3; subst e4; subst e5; subst e6
    exact ⟨⟨A, m0, c0, b, M, m1, c1, F, S, K, m2, c2, ln⟩, ⟨r, A4, n4, c4, Z, A5, n5, c5, Y⟩, P, n, u, tm, tl, tp, rfl, ⟨hB, hP, hL, hb1, hb2, hp1, hp2, hl1, hl2⟩, ⟨hZ.at_, hY, Nat.le_refl _, hz1, hz2, hy1, hy2⟩, hT, ht1, ht2, bounds_i64 hr, hl3, hb3, ht3⟩
end

end Go.Proofs.Ytockfiobhmohnaa

namespace Go.Proofs.Ytockfiobhmohnaa
open Go.RowKit Go.Maps Kb Wb

/-- The place of a basin, of a link. -/
noncomputable def ixB (N : Nd) (s : ByteArray) : Int := Classical.choose (Ixn.exists N.n N.bnm s)
theorem ixB_is (N : Nd) (s : ByteArray) : Ixn N.n N.bnm s (ixB N s) := Classical.choose_spec (Ixn.exists N.n N.bnm s)
noncomputable def ixL (N : Nd) (s : ByteArray) : Int := Classical.choose (Ixn.exists N.k N.lnm s)
theorem ixL_is (N : Nd) (s : ByteArray) : Ixn N.k N.lnm s (ixL N s) := Classical.choose_spec (Ixn.exists N.k N.lnm s)
/-- Turns: minutes, links, open or shut. -/
structure Tn where
  p : Nat
  tm : Nat → Int
  tl : Nat → ByteArray
  tp : Nat → Bool
def updB (Y : Nat → Bool) (i : Int) (v : Bool) : Nat → Bool := fun k => if (k : Int) = i then v else Y k
/-- Which links are open behind the first j turns of the minute t. -/
noncomputable def tuY (N : Nd) (T : Tn) (t : Int) (Y : Nat → Bool) : Nat → Nat → Bool
  | 0 => Y
  | j + 1 => if T.tm j = t then updB (tuY N T t Y j) (ixL N (T.tl j)) (T.tp j) else tuY N T t Y j
/-- The error of turns. -/
def Bad1 (N : Nd) (T : Tn) (i : Nat) (r : Int) : Prop := (¬ (0 ≤ T.tm i ∧ T.tm i ≤ 1000000) ∧ r = 2) ∨ ((0 ≤ T.tm i ∧ T.tm i ≤ 1000000) ∧ ((0 < i ∧ T.tm i < T.tm (i - 1)) ∧ r = 10 ∨ ¬ (0 < i ∧ T.tm i < T.tm (i - 1)) ∧ ixL N (T.tl i) < 0 ∧ r = 6))
def Good1 (N : Nd) (T : Tn) (i : Nat) : Prop := (0 ≤ T.tm i ∧ T.tm i ≤ 1000000) ∧ ¬ (0 < i ∧ T.tm i < T.tm (i - 1)) ∧ 0 ≤ ixL N (T.tl i)
def Te (N : Nd) (T : Tn) (r : Int) : Prop := (200 < T.p ∧ r = 8) ∨ (T.p ≤ 200 ∧ ((∃ i, i < T.p ∧ (∀ j, j < i → Good1 N T j) ∧ Bad1 N T i r) ∨ ((∀ j, j < T.p → Good1 N T j) ∧ r = 0)))
theorem Bad1.not {N : Nd} {T : Tn} {i : Nat} {r : Int} (h : Bad1 N T i r) : ¬ Good1 N T i := fun g => by
  rcases h with ⟨h, _⟩ | ⟨_, ⟨h, _⟩ | ⟨_, h, _⟩⟩
  · exact h g.1
  · exact g.2.1 h
  · have := g.2.2; omega
theorem Bad1.ne {N : Nd} {T : Tn} {i : Nat} {r : Int} (h : Bad1 N T i r) : r ≠ 0 := by
  rcases h with ⟨_, rfl⟩ | ⟨_, ⟨_, rfl⟩ | ⟨_, _, rfl⟩⟩ <;> decide
theorem Bad1.same {N : Nd} {T : Tn} {i : Nat} {r s : Int} (h : Bad1 N T i r) (k : Bad1 N T i s) : r = s := by
  rcases h with ⟨h, rfl⟩ | ⟨h, ⟨h1, rfl⟩ | ⟨h1, h2, rfl⟩⟩ <;> rcases k with ⟨k, rfl⟩ | ⟨k, ⟨k1, rfl⟩ | ⟨k1, k2, rfl⟩⟩ <;> first | rfl | exact absurd k h | exact absurd h k | exact absurd k1 h1 | exact absurd h1 k1
theorem Te.same {N : Nd} {T : Tn} {r s : Int} (h : Te N T r) (k : Te N T s) : r = s := by
  rcases h with ⟨h, rfl⟩ | ⟨h, ⟨i, hi, h1, h2⟩ | ⟨h1, rfl⟩⟩ <;> rcases k with ⟨k, rfl⟩ | ⟨k, ⟨j, hj, k1, k2⟩ | ⟨k1, rfl⟩⟩
  · rfl
  · omega
  · omega
  · omega
  · rcases Nat.lt_trichotomy i j with e | e | e
    · exact absurd (k1 i e) h2.not
    · subst e; exact h2.same k2
    · exact absurd (h1 j e) k2.not
  · exact absurd (k1 i hi) h2.not
  · omega
  · exact absurd (h1 j hj) k2.not
  · rfl
theorem Te.zero {N : Nd} {T : Tn} (h : Te N T 0) : T.p ≤ 200 ∧ ∀ j, j < T.p → Good1 N T j := by
  rcases h with ⟨_, h⟩ | ⟨h, ⟨i, _, _, h2⟩ | ⟨h1, _⟩⟩
  · cases h
  · exact absurd rfl h2.ne
  · exact ⟨h, h1⟩
/-- The error of a network with a state and turns. -/
def Se (N : Nd) (W : Wd) (T : Tn) (r : Int) : Prop := ∃ q, We N W q ∧ ((q ≠ 0 ∧ r = q) ∨ (q = 0 ∧ Te N T r))
theorem Se.same {N : Nd} {W : Wd} {T : Tn} {r s : Int} (h : Se N W T r) (k : Se N W T s) : r = s := by
  obtain ⟨q, hq, h⟩ := h
  obtain ⟨p, hp, k⟩ := k
  obtain rfl := hq.same hp
  rcases h with ⟨h, rfl⟩ | ⟨h, h2⟩ <;> rcases k with ⟨k, rfl⟩ | ⟨k, k2⟩
  · rfl
  · exact absurd k h
  · exact absurd h k
  · exact h2.same k2
theorem Se.zero {N : Nd} {W : Wd} {T : Tn} (h : Se N W T 0) : Fit N W ∧ Te N T 0 := by
  obtain ⟨q, hq, ⟨h, e⟩ | ⟨rfl, h⟩⟩ := h
  · exact absurd e.symm h
  · exact ⟨Fit.of hq, h⟩

end Go.Proofs.Ytockfiobhmohnaa

