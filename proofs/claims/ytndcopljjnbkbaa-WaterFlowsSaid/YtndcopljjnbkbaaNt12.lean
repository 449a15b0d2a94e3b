/- Networks: the sides of a link: level, above, room of the program. For all sides whose basin is good. -/
import Derived.Test.YtndcopljjnbkbaaNt10
namespace Go.Proofs.Ytndcopljjnbkbaa
open Go.RowKit Go.Maps Kb Wb

/-- A side of a link (the sea at the level z, or x litres in the basin b) stands in memory and is good. -/
structure Sok (w : World) (B0 : Nat) (q : Bool) (z : Int) (b : Bd) (x : Int) : Prop where
  p : Pa w B0 b.A b.n b.F b.S
  c : b.n ≤ b.c
  m : b.c ≤ maxLen
  z : -4000000 ≤ z ∧ z ≤ 4000000
  bas : q = false → Bas b.F b.S b.n b.rim
  x0 : q = false → 0 ≤ x ∧ x ≤ capB b
/-- Its level after v more litres. -/
noncomputable def slev (q : Bool) (z : Int) (b : Bd) (x v : Int) : Int := match q with | true => z | false => lvB b (x + v)
/-- The litres above a level. -/
def sabo (q : Bool) (b : Bd) (x l : Int) : Int := match q with | true => 9223372036854775807 | false => x - volB b l
/-- The litres that may still come. -/
def sroom (q : Bool) (b : Bd) (x : Int) : Int := match q with | true => 9223372036854775807 | false => capB b - x
/-- A side in a box. -/
structure Sx (w : World) (g B0 : Nat) (q : Bool) (z : Int) (b : Bd) (x : Int) : Prop where
  k : Bk w g (.cells #[.bool q, .int .i64 z, .string b.nm, .slice b.A b.n b.c, .int .i64 b.rim, .int .i64 x] 127)
  a : Sok w B0 q z b x
section
variable {w w' : World} {g B0 : Nat} {q : Bool} {z : Int} {b : Bd} {x : Int}
theorem Sok.below (h : Sok w B0 q z b x) (hb : Below w.heap.size w w') : Sok w' B0 q z b x := ⟨h.p.below hb, h.c, h.m, h.z, h.bas, h.x0⟩
theorem Sx.below (h : Sx w g B0 q z b x) (hb : Below w.heap.size w w') : Sx w' g B0 q z b x := ⟨h.k.step hb, h.a.below hb⟩
theorem Sx.new (h : Sok w B0 q z b x) (hg : w.heap.size = g) : Sx (w.alloc (.cells #[.bool q, .int .i64 z, .string b.nm, .slice b.A b.n b.c, .int .i64 b.rim, .int .i64 x] 127)) g B0 q z b x := ⟨Bk.of_alloc w _ hg, h.below alo⟩
theorem Bk.c6 {W : World} {g : Nat} {a b c d e f : Value} {T : TypeId} (h : Bk W g (.cells #[a, b, c, d, e, f] T (0, 0))) :
    W.cell? ⟨g, 0, none⟩ = some a ∧ W.cell? ⟨g, 1, none⟩ = some b ∧ W.cell? ⟨g, 2, none⟩ = some c ∧ W.cell? ⟨g, 3, none⟩ = some d ∧ W.cell? ⟨g, 4, none⟩ = some e ∧ W.cell? ⟨g, 5, none⟩ = some f := by
  have hh := fun i => cell_of_row W _ i _ _ _ h
  exact ⟨hh 0, hh 1, hh 2, hh 3, hh 4, hh 5⟩
theorem Sx.cells (h : Sx w g B0 q z b x) : w.cell? ⟨g, 0, none⟩ = some (.bool q) ∧ w.cell? ⟨g, 1, none⟩ = some (.int .i64 z) ∧ w.cell? ⟨g, 2, none⟩ = some (.string b.nm) ∧ w.cell? ⟨g, 3, none⟩ = some (.slice b.A b.n b.c) ∧ w.cell? ⟨g, 4, none⟩ = some (.int .i64 b.rim) ∧ w.cell? ⟨g, 5, none⟩ = some (.int .i64 x)   := h.k.c6
end
theorem capB_range {b : Bd} (B : Bas b.F b.S b.n b.rim) : 0 ≤ capB b ∧ capB b ≤ 40000000000000 := below_nonneg B B.rm
theorem volB_range {b : Bd} (B : Bas b.F b.S b.n b.rim) {l : Int} (h : l ≤ 1000000) : 0 ≤ volB b l ∧ volB b l ≤ 40000000000000 := below_nonneg B h
theorem lvB_range {b : Bd} (B : Bas b.F b.S b.n b.rim) {v : Int} (h0 : 0 ≤ v) (h1 : v ≤ capB b) : -1000000 ≤ lvB b v ∧ lvB b v ≤ 1000000 := by
  have h := lvB_lev B h0 h1
  have f := (B.f 0 B.pos).1
  have r := B.rm
  have k0 := h.lo
  have k1 := h.hi
  omega

section
variable {w : World} {B0 : Nat} {q : Bool} {z : Int} {b : Bd} {x : Int}
set_option maxRecDepth 100000 in
set_option maxHeartbeats 4000000 in
theorem slevel_any (h : Sok w B0 q z b x) (v : Int) (hv : q = false → 0 ≤ x + v ∧ x + v ≤ capB b) :
    Calls Try.prog 89 #[.agg #[.bool q, .int .i64 z, .string b.nm, .slice b.A b.n b.c, .int .i64 b.rim, .int .i64 x], .int .i64 v] w fun e w' => e = .returned (.int .i64 (slev q z b x v)) ∧ Below w.heap.size w w' := by
  obtain ⟨g, hg⟩ : ∃ g, w.heap.size = g := ⟨_, rfl⟩
  have hb0 := alo (W := w) (o := .cells #[.bool q, .int .i64 z, .string b.nm, .slice b.A b.n b.c, .int .i64 b.rim, .int .i64 x] 127)
  have S1 := Sx.new h hg
  obtain ⟨r, hr⟩ : ∃ r, slev q z b x v = r := ⟨_, rfl⟩
  rw [hr]
  go_enter Try.func89, Try.ntmps89
  go_upto_region 1 with fail
  generalize w.alloc (.cells #[.bool q, .int .i64 z, .string b.nm, .slice b.A b.n b.c, .int .i64 b.rim, .int .i64 x] 127) = W0 at *
  have HB0 := hid hb0
  clear hb0 hg h
  cases q with
  | true =>
    have hr' : z = r := hr
    subst hr'
    obtain ⟨y0, y1, y2, y3, y4, y5⟩ := S1.cells
    go_wp2
    go_ret
    exact ⟨rfl, HB0.out⟩
  | false =>
    have B := S1.a.bas rfl
    have hx := S1.a.x0 rfl
    have hv' := hv rfl
    have hcap := capB_range B
    have hL := lvB_lev B hv'.1 hv'.2
    have hr' : lvB b (x + v) = r := hr
    rw [hr'] at hL
    have HL := hid hL
    have hw1 : IntKind.i64.wrap (x + v) = x + v := IntWalk.i64_in _ (by omega)
    clear hL hr hr' hv
    obtain ⟨y0, y1, y2, y3, y4, y5⟩ := S1.cells
    go_wp2_with fail
    refine (levelOf_any b.nm S1.a.p B S1.a.c S1.a.m hv'.1 hv'.2 HL.out).mono ?_
    rintro e w2 ⟨rfl, hb⟩
    have HB2 := hid (bthen HB0.out hb (Nat.le_refl _))
    clear hb
    go_wp2
    go_ret
    exact ⟨rfl, HB2.out⟩

set_option maxRecDepth 100000 in
set_option maxHeartbeats 4000000 in
theorem sroom_any (h : Sok w B0 q z b x) :
    Calls Try.prog 103 #[.agg #[.bool q, .int .i64 z, .string b.nm, .slice b.A b.n b.c, .int .i64 b.rim, .int .i64 x]] w fun e w' => e = .returned (.int .i64 (sroom q b x)) ∧ Below w.heap.size w w' := by
  obtain ⟨g, hg⟩ : ∃ g, w.heap.size = g := ⟨_, rfl⟩
  have hb0 := alo (W := w) (o := .cells #[.bool q, .int .i64 z, .string b.nm, .slice b.A b.n b.c, .int .i64 b.rim, .int .i64 x] 127)
  have S1 := Sx.new h hg
  obtain ⟨r, hr⟩ : ∃ r, sroom q b x = r := ⟨_, rfl⟩
  rw [hr]
  go_enter Try.func103, Try.ntmps103
  go_upto_region 1 with fail
  generalize w.alloc (.cells #[.bool q, .int .i64 z, .string b.nm, .slice b.A b.n b.c, .int .i64 b.rim, .int .i64 x] 127) = W0 at *
  have HB0 := hid hb0
  clear hb0 hg h
  cases q with
  | true =>
    have hr' : 9223372036854775807 = r := hr
    subst hr'
    obtain ⟨y0, y1, y2, y3, y4, y5⟩ := S1.cells
    go_wp2
    go_ret
    exact ⟨rfl, HB0.out⟩
  | false =>
    have B := S1.a.bas rfl
    have hx := S1.a.x0 rfl
    have hcap := capB_range B
    have hr' : capB b - x = r := hr
    obtain ⟨c, hc⟩ : ∃ c, capB b = c := ⟨_, rfl⟩
    rw [hc] at hx hcap hr'
    subst hr'
    have hw1 : IntKind.i64.wrap (c - x) = c - x := IntWalk.i64_in _ (by omega)
    have hcp : ∀ (W : World), Pa W B0 b.A b.n b.F b.S → Calls Try.prog 75 #[.agg #[.string b.nm, .slice b.A b.n b.c, .int .i64 b.rim]] W fun e w' => e = .returned (.int .i64 c) ∧ Below W.heap.size W w' := fun W hP => by
      rw [← hc]
      exact capacity_any b.nm hP B
    have Hcp := hid hcp
    clear hr hc hcp
    obtain ⟨y0, y1, y2, y3, y4, y5⟩ := S1.cells
    go_wp2_with fail
    clear y0 y1 y2 y3 y4 y5
    have D0 : Sx W0.drew g B0 false z b x := S1.below dr0
    go_region_held3 (fun w' => w'.cell? ⟨g, 0, none⟩ = some (.bool false) ∧ w'.cell? ⟨g, 1, none⟩ = some (.int .i64 z) ∧ w'.cell? ⟨g, 2, none⟩ = some (.string b.nm) ∧ w'.cell? ⟨g, 3, none⟩ = some (.slice b.A b.n b.c) ∧ w'.cell? ⟨g, 4, none⟩ = some (.int .i64 b.rim) ∧ w'.cell? ⟨g, 5, none⟩ = some (.int .i64 x)) (first | with_reducible exact Sx.cells D0 | with_reducible exact Sx.cells D1) (first
      | (go_at_call 75; with_reducible refine (Hcp.out _ D0.a.p).mono ?_; rintro e w2 ⟨rfl, hb⟩; have D1 := D0.below hb))
    all_goals
      have HB2 := hid (bthen HB0.out.drew hb (Nat.le_refl _))
      clear hb
      go_wp2
      go_ret
      exact ⟨rfl, HB2.out⟩

set_option maxRecDepth 100000 in
set_option maxHeartbeats 4000000 in
theorem sabo_any (h : Sok w B0 q z b x) (l : Int) (h1 : -1000000 ≤ l) (h2 : l ≤ 1000000) :
    Calls Try.prog 102 #[.agg #[.bool q, .int .i64 z, .string b.nm, .slice b.A b.n b.c, .int .i64 b.rim, .int .i64 x], .int .i64 l] w fun e w' => e = .returned (.int .i64 (sabo q b x l)) ∧ Below w.heap.size w w' := by
  obtain ⟨g, hg⟩ : ∃ g, w.heap.size = g := ⟨_, rfl⟩
  have hb0 := alo (W := w) (o := .cells #[.bool q, .int .i64 z, .string b.nm, .slice b.A b.n b.c, .int .i64 b.rim, .int .i64 x] 127)
  have S1 := Sx.new h hg
  obtain ⟨r, hr⟩ : ∃ r, sabo q b x l = r := ⟨_, rfl⟩
  rw [hr]
  go_enter Try.func102, Try.ntmps102
  go_upto_region 1 with fail
  generalize w.alloc (.cells #[.bool q, .int .i64 z, .string b.nm, .slice b.A b.n b.c, .int .i64 b.rim, .int .i64 x] 127) = W0 at *
  have HB0 := hid hb0
  clear hb0 hg h
  cases q with
  | true =>
    have hr' : 9223372036854775807 = r := hr
    subst hr'
    obtain ⟨y0, y1, y2, y3, y4, y5⟩ := S1.cells
    go_wp2
    go_ret
    exact ⟨rfl, HB0.out⟩
  | false =>
    have B := S1.a.bas rfl
    have hx := S1.a.x0 rfl
    have hcap := capB_range B
    have hvr := volB_range B h2
    have hr' : x - volB b l = r := hr
    obtain ⟨c, hc⟩ : ∃ c, volB b l = c := ⟨_, rfl⟩
    rw [hc] at hvr hr'
    subst hr'
    have hw1 : IntKind.i64.wrap (x - c) = x - c := IntWalk.i64_in _ (by omega)
    have hcp : ∀ (W : World), Pa W B0 b.A b.n b.F b.S → Calls Try.prog 46 #[.agg #[.string b.nm, .slice b.A b.n b.c, .int .i64 b.rim], .int .i64 l] W fun e w' => e = .returned (.int .i64 c) ∧ Below W.heap.size W w' := fun W hP => by
      rw [← hc]
      exact volume_any b.nm hP B h1 h2
    have Hcp := hid hcp
    clear hr hc hcp
    obtain ⟨y0, y1, y2, y3, y4, y5⟩ := S1.cells
    go_wp2_with fail
    clear y0 y1 y2 y3 y4 y5
    have D0 : Sx W0.drew g B0 false z b x := S1.below dr0
    go_region_held3 (fun w' => w'.cell? ⟨g, 0, none⟩ = some (.bool false) ∧ w'.cell? ⟨g, 1, none⟩ = some (.int .i64 z) ∧ w'.cell? ⟨g, 2, none⟩ = some (.string b.nm) ∧ w'.cell? ⟨g, 3, none⟩ = some (.slice b.A b.n b.c) ∧ w'.cell? ⟨g, 4, none⟩ = some (.int .i64 b.rim) ∧ w'.cell? ⟨g, 5, none⟩ = some (.int .i64 x)) (first | with_reducible exact Sx.cells D0 | with_reducible exact Sx.cells D1) (first
      | (go_at_call 46; with_reducible refine (Hcp.out _ D0.a.p).mono ?_; rintro e w2 ⟨rfl, hb⟩; have D1 := D0.below hb))
    all_goals
      have HB2 := hid (bthen HB0.out.drew hb (Nat.le_refl _))
      clear hb
      go_wp2
      go_ret
      exact ⟨rfl, HB2.out⟩
end

end Go.Proofs.Ytndcopljjnbkbaa
