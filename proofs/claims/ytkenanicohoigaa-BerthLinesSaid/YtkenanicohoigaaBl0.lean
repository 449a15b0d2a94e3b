/- Mooring lines: words, the error of one. For all lines. -/
import Derived.Test.YtkenanicohoigaaBs0
namespace Go.Proofs.Ytkenanicohoigaa
open Go.RowKit Go.Maps Kb Wb

/-- A mooring line that came in. -/
structure Mld where
  nm : ByteArray
  x : Int
  y : Int
  tx : Int
  ty : Int
  most : Int
/-- The slice at A reads as n of them. -/
structure Mll (w : World) (B0 : Nat) (A : Option Addr) (n : Nat) (b : Nat → Mld) : Prop where
  at_ : ∀ i, i < n → ∃ ad, A = some ad ∧ ad.block < B0 ∧ w.cell? (ad.add (i * 6)) = some (.string (b i).nm) ∧ w.cell? ⟨(ad.add (i * 6)).block, (ad.add (i * 6)).off + 1, none⟩ = some (.int .i64 (b i).x) ∧ w.cell? ⟨(ad.add (i * 6)).block, (ad.add (i * 6)).off + 2, none⟩ = some (.int .i64 (b i).y) ∧ w.cell? ⟨(ad.add (i * 6)).block, (ad.add (i * 6)).off + 3, none⟩ = some (.int .i64 (b i).tx) ∧ w.cell? ⟨(ad.add (i * 6)).block, (ad.add (i * 6)).off + 4, none⟩ = some (.int .i64 (b i).ty) ∧ w.cell? ⟨(ad.add (i * 6)).block, (ad.add (i * 6)).off + 5, none⟩ = some (.int .i64 (b i).most)
  le : B0 ≤ w.heap.size
theorem Mll.below {w w' : World} {B0 n : Nat} {A : Option Addr} {b : Nat → Mld} (h : Mll w B0 A n b) (hb : Below w.heap.size w w') : Mll w' B0 A n b :=
  ⟨fun i hi => by
    obtain ⟨ad, e, hl, h0, h1, h2, h3, h4, h5⟩ := h.at_ i hi
    have l := Nat.lt_of_lt_of_le hl h.le
    exact ⟨ad, e, hl, (hb.cell (p := ad.add (i * 6)) (in_add l)).trans h0, (hb.cell (p := ⟨(ad.add (i * 6)).block, (ad.add (i * 6)).off + 1, none⟩) (in_add l)).trans h1, (hb.cell (p := ⟨(ad.add (i * 6)).block, (ad.add (i * 6)).off + 2, none⟩) (in_add l)).trans h2, (hb.cell (p := ⟨(ad.add (i * 6)).block, (ad.add (i * 6)).off + 3, none⟩) (in_add l)).trans h3, (hb.cell (p := ⟨(ad.add (i * 6)).block, (ad.add (i * 6)).off + 4, none⟩) (in_add l)).trans h4, (hb.cell (p := ⟨(ad.add (i * 6)).block, (ad.add (i * 6)).off + 5, none⟩) (in_add l)).trans h5⟩, Nat.le_trans h.le hb.size⟩
/-- One of them in a box. -/
structure Mlb (w : World) (g : Nat) (x : Mld) : Prop where
  b : Bk w g (.cells #[.string x.nm, .int .i64 x.x, .int .i64 x.y, .int .i64 x.tx, .int .i64 x.ty, .int .i64 x.most] 46)
theorem Mlb.below {w w' : World} {g : Nat} {x : Mld} (h : Mlb w g x) (hb : Below w.heap.size w w') : Mlb w' g x := ⟨h.b.step hb⟩
theorem Mlb.new (w : World) (x : Mld) {g : Nat} (hg : w.heap.size = g) : Mlb (w.alloc (.cells #[.string x.nm, .int .i64 x.x, .int .i64 x.y, .int .i64 x.tx, .int .i64 x.ty, .int .i64 x.most] 46)) g x := ⟨Bk.of_alloc w _ hg⟩
theorem Mlb.cells {w : World} {g : Nat} {x : Mld} (h : Mlb w g x) : w.cell? ⟨g, 0, none⟩ = some (.string x.nm) ∧ w.cell? ⟨g, 1, none⟩ = some (.int .i64 x.x) ∧ w.cell? ⟨g, 2, none⟩ = some (.int .i64 x.y) ∧ w.cell? ⟨g, 3, none⟩ = some (.int .i64 x.tx) ∧ w.cell? ⟨g, 4, none⟩ = some (.int .i64 x.ty) ∧ w.cell? ⟨g, 5, none⟩ = some (.int .i64 x.most) := by
  have hh := fun i => cell_of_row w g i _ 46 (0, 0) h.b
  exact ⟨(hh 0).trans rfl, (hh 1).trans rfl, (hh 2).trans rfl, (hh 3).trans rfl, (hh 4).trans rfl, (hh 5).trans rfl⟩

set_option maxRecDepth 100000 in
theorem Mlname_any {w : World} (x : Mld) :
    Calls Try.prog 36 #[.agg #[.string x.nm, .int .i64 x.x, .int .i64 x.y, .int .i64 x.tx, .int .i64 x.ty, .int .i64 x.most]] w fun e w' => e = .returned (.string x.nm) ∧ Below w.heap.size w w' := by
  have hb0 := alo (W := w) (o := (.cells #[.string x.nm, .int .i64 x.x, .int .i64 x.y, .int .i64 x.tx, .int .i64 x.ty, .int .i64 x.most] 46))
  have K := Mlb.new w x rfl
  obtain ⟨y0, y1, y2, y3, y4, y5⟩ := K.cells
  clear K
  go_enter Try.func36, Try.ntmps36
  go_wp2
  go_ret
  exact ⟨rfl, hb0⟩

def btw (x : Mld) : Bool := inB x.x (-1000000) 1000000 && inB x.y (-1000000) 1000000 && inB x.tx (-1000000) 1000000 && inB x.ty (-1000000) 1000000
theorem btw_iff {x : Mld} : btw x = true ↔ (inB x.x (-1000000) 1000000 = true ∧ inB x.y (-1000000) 1000000 = true ∧ inB x.tx (-1000000) 1000000 = true ∧ inB x.ty (-1000000) 1000000 = true) := by
  unfold btw; simp only [Bool.and_eq_true, and_assoc]
theorem btw_t {x : Mld} (h : inB x.x (-1000000) 1000000 = true ∧ inB x.y (-1000000) 1000000 = true ∧ inB x.tx (-1000000) 1000000 = true ∧ inB x.ty (-1000000) 1000000 = true) : btw x = true := btw_iff.2 h
theorem btw_f0 {x : Mld} (k : inB x.x (-1000000) 1000000 = false) : btw x = false := Bool.eq_false_iff.2 fun e => by have h := btw_iff.1 e; rw [h.1] at k; cases k
theorem btw_f1 {x : Mld} (k : inB x.y (-1000000) 1000000 = false) : btw x = false := Bool.eq_false_iff.2 fun e => by have h := btw_iff.1 e; rw [h.2.1] at k; cases k
theorem btw_f2 {x : Mld} (k : inB x.tx (-1000000) 1000000 = false) : btw x = false := Bool.eq_false_iff.2 fun e => by have h := btw_iff.1 e; rw [h.2.2.1] at k; cases k
theorem btw_f3 {x : Mld} (k : inB x.ty (-1000000) 1000000 = false) : btw x = false := Bool.eq_false_iff.2 fun e => by have h := btw_iff.1 e; rw [h.2.2.2] at k; cases k
set_option maxRecDepth 100000 in
set_option maxHeartbeats 4000000 in
theorem btw_any {w : World} (x : Mld) :
    Calls Try.prog 39 #[.agg #[.string x.nm, .int .i64 x.x, .int .i64 x.y, .int .i64 x.tx, .int .i64 x.ty, .int .i64 x.most]] w fun e w' => e = .returned (.bool (btw x)) ∧ Below w.heap.size w w' := by
  have hb0 := alo (W := w) (o := (.cells #[.string x.nm, .int .i64 x.x, .int .i64 x.y, .int .i64 x.tx, .int .i64 x.ty, .int .i64 x.most] 46))
  have K := Mlb.new w x rfl
  obtain ⟨y0, y1, y2, y3, y4, y5⟩ := K.cells
  clear K
  cases k0 : inB x.x (-1000000) 1000000
  case false =>
    rw [show btw x = false from btw_f0 k0]
    go_enter Try.func39, Try.ntmps39
    go_wp2_with ((with_reducible refine (isPlace_any _ _).mono ?_); rintro e w' ⟨rfl, rfl⟩)
    go_ret
    exact ⟨rfl, hb0⟩
  case true =>
    cases k1 : inB x.y (-1000000) 1000000
    case false =>
      rw [show btw x = false from btw_f1 k1]
      go_enter Try.func39, Try.ntmps39
      go_wp2_with ((with_reducible refine (isPlace_any _ _).mono ?_); rintro e w' ⟨rfl, rfl⟩)
      go_ret
      exact ⟨rfl, hb0⟩
    case true =>
      cases k2 : inB x.tx (-1000000) 1000000
      case false =>
        rw [show btw x = false from btw_f2 k2]
        go_enter Try.func39, Try.ntmps39
        go_wp2_with ((with_reducible refine (isPlace_any _ _).mono ?_); rintro e w' ⟨rfl, rfl⟩)
        go_ret
        exact ⟨rfl, hb0⟩
      case true =>
        cases k3 : inB x.ty (-1000000) 1000000
        case false =>
          rw [show btw x = false from btw_f3 k3]
          go_enter Try.func39, Try.ntmps39
          go_wp2_with ((with_reducible refine (isPlace_any _ _).mono ?_); rintro e w' ⟨rfl, rfl⟩)
          go_ret
          exact ⟨rfl, hb0⟩
        case true =>
          rw [show btw x = true from btw_t ⟨k0, k1, k2, k3⟩]
          go_enter Try.func39, Try.ntmps39
          go_wp2_with ((with_reducible refine (isPlace_any _ _).mono ?_); rintro e w' ⟨rfl, rfl⟩)
          go_ret
          exact ⟨rfl, hb0⟩

/-- The error of a line but for its name. -/
def lineE (x : Mld) : Int := if btw x = true ∧ inB x.most 1 1000000000 = true then (if x.x = x.tx ∧ x.y = x.ty then 9 else 0) else 2
set_option maxRecDepth 100000 in
set_option maxHeartbeats 4000000 in
theorem Mlown_any {w : World} (x : Mld) :
    Calls Try.prog 38 #[.agg #[.string x.nm, .int .i64 x.x, .int .i64 x.y, .int .i64 x.tx, .int .i64 x.ty, .int .i64 x.most]] w fun e w' => e = .returned (.int .i64 (lineE x)) ∧ Below w.heap.size w w' := by
  have hb0 := alo (W := w) (o := (.cells #[.string x.nm, .int .i64 x.x, .int .i64 x.y, .int .i64 x.tx, .int .i64 x.ty, .int .i64 x.most] 46))
  have K := Mlb.new w x rfl
  cases k0 : btw x
  case false =>
    rw [show lineE x = 2 from if_neg (fun h => by rw [k0] at h; exact absurd h.1 (by decide))]
    go_enter Try.func38, Try.ntmps38
    obtain ⟨y0, y1, y2, y3, y4, y5⟩ := K.cells
    go_wp2_with fail
    refine (btw_any x).mono ?_
    rintro e w2 ⟨rfl, hb⟩
    have HB := hid (bthen hb0 hb (Nat.le_refl _))
    clear hb y0 y1 y2 y3 y4 y5 K hb0
    go_wp2
    go_ret
    exact ⟨rfl, HB.out⟩
  case true =>
    cases k1 : inB x.most 1 1000000000
    case false =>
      rw [show lineE x = 2 from if_neg (fun h => by rw [k1] at h; exact absurd h.2 (by decide))]
      go_enter Try.func38, Try.ntmps38
      obtain ⟨y0, y1, y2, y3, y4, y5⟩ := K.cells
      go_wp2_with fail
      refine (btw_any x).mono ?_
      rintro e w2 ⟨rfl, hb⟩
      have HB := hid (bthen hb0 hb (Nat.le_refl _))
      have K2 := K.below hb
      clear hb y0 y1 y2 y3 y4 y5 K hb0
      obtain ⟨y0, y1, y2, y3, y4, y5⟩ := K2.cells
      go_wp2_with ((with_reducible refine (Within_any _ _ _ _).mono ?_); rintro e w' ⟨rfl, rfl⟩)
      go_ret
      exact ⟨rfl, HB.out⟩
    case true =>
      have HK := hid K
      have HB0 := hid hb0
      clear K hb0
      have hE : ∀ v : Int, (if x.x = x.tx ∧ x.y = x.ty then 9 else 0) = v → lineE x = v := fun v h => (if_pos ⟨k0, k1⟩).trans h
      obtain ⟨p1, hp1⟩ : ∃ p, (x.x == x.tx) = p := ⟨_, rfl⟩
      obtain ⟨p2, hp2⟩ : ∃ p, (x.y == x.ty) = p := ⟨_, rfl⟩
      have hF := hE (if p1 = true ∧ p2 = true then 9 else 0) (by rw [← hp1, ← hp2]; simp only [beq_iff_eq])
      rw [hF]
      clear hE hF
      cases p1 <;> cases p2
      all_goals
        simp only [Bool.false_eq_true, and_self, and_true, and_false, if_true, if_false]
        go_enter Try.func38, Try.ntmps38
        obtain ⟨y0, y1, y2, y3, y4, y5⟩ := HK.out.cells
        go_wp2_with fail
        refine (btw_any x).mono ?_
        rintro e w2 ⟨rfl, hb⟩
        have HB := hid (bthen HB0.out hb (Nat.le_refl _))
        have K2 := HK.out.below hb
        clear hb y0 y1 y2 y3 y4 y5
        obtain ⟨y0, y1, y2, y3, y4, y5⟩ := K2.cells
        clear K2
        go_wp2_with ((with_reducible refine (Within_any _ _ _ _).mono ?_); rintro e w' ⟨rfl, rfl⟩)
        go_ret
        exact ⟨rfl, HB.out⟩

end Go.Proofs.Ytkenanicohoigaa
