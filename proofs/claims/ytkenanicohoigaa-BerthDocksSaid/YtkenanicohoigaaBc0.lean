/- Ships that call: words, the error of one; CheckCalls. For all ships. -/
import Derived.Test.YtkenanicohoigaaBs0
namespace Go.Proofs.Ytkenanicohoigaa
open Go.RowKit Go.Maps Kb Wb

/-- A ship that came in. -/
structure Cad where
  nm : ByteArray
  len : Int
  beam : Int
  dra : Int
  und : Int
  arr : Int
  wrk : Int
  due : Int
  late : Int
/-- The slice at A reads as n of them. -/
structure Cal (w : World) (B0 : Nat) (A : Option Addr) (n : Nat) (b : Nat → Cad) : Prop where
  at_ : ∀ i, i < n → ∃ ad, A = some ad ∧ ad.block < B0 ∧ w.cell? (ad.add (i * 9)) = some (.string (b i).nm) ∧ w.cell? ⟨(ad.add (i * 9)).block, (ad.add (i * 9)).off + 1, none⟩ = some (.int .i64 (b i).len) ∧ w.cell? ⟨(ad.add (i * 9)).block, (ad.add (i * 9)).off + 2, none⟩ = some (.int .i64 (b i).beam) ∧ w.cell? ⟨(ad.add (i * 9)).block, (ad.add (i * 9)).off + 3, none⟩ = some (.int .i64 (b i).dra) ∧ w.cell? ⟨(ad.add (i * 9)).block, (ad.add (i * 9)).off + 4, none⟩ = some (.int .i64 (b i).und) ∧ w.cell? ⟨(ad.add (i * 9)).block, (ad.add (i * 9)).off + 5, none⟩ = some (.int .i64 (b i).arr) ∧ w.cell? ⟨(ad.add (i * 9)).block, (ad.add (i * 9)).off + 6, none⟩ = some (.int .i64 (b i).wrk) ∧ w.cell? ⟨(ad.add (i * 9)).block, (ad.add (i * 9)).off + 7, none⟩ = some (.int .i64 (b i).due) ∧ w.cell? ⟨(ad.add (i * 9)).block, (ad.add (i * 9)).off + 8, none⟩ = some (.int .i64 (b i).late)
  le : B0 ≤ w.heap.size
theorem Cal.below {w w' : World} {B0 n : Nat} {A : Option Addr} {b : Nat → Cad} (h : Cal w B0 A n b) (hb : Below w.heap.size w w') : Cal w' B0 A n b :=
  ⟨fun i hi => by
    obtain ⟨ad, e, hl, h0, h1, h2, h3, h4, h5, h6, h7, h8⟩ := h.at_ i hi
    have l := Nat.lt_of_lt_of_le hl h.le
    exact ⟨ad, e, hl, (hb.cell (p := ad.add (i * 9)) (in_add l)).trans h0, (hb.cell (p := ⟨(ad.add (i * 9)).block, (ad.add (i * 9)).off + 1, none⟩) (in_add l)).trans h1, (hb.cell (p := ⟨(ad.add (i * 9)).block, (ad.add (i * 9)).off + 2, none⟩) (in_add l)).trans h2, (hb.cell (p := ⟨(ad.add (i * 9)).block, (ad.add (i * 9)).off + 3, none⟩) (in_add l)).trans h3, (hb.cell (p := ⟨(ad.add (i * 9)).block, (ad.add (i * 9)).off + 4, none⟩) (in_add l)).trans h4, (hb.cell (p := ⟨(ad.add (i * 9)).block, (ad.add (i * 9)).off + 5, none⟩) (in_add l)).trans h5, (hb.cell (p := ⟨(ad.add (i * 9)).block, (ad.add (i * 9)).off + 6, none⟩) (in_add l)).trans h6, (hb.cell (p := ⟨(ad.add (i * 9)).block, (ad.add (i * 9)).off + 7, none⟩) (in_add l)).trans h7, (hb.cell (p := ⟨(ad.add (i * 9)).block, (ad.add (i * 9)).off + 8, none⟩) (in_add l)).trans h8⟩, Nat.le_trans h.le hb.size⟩
/-- One of them in a box. -/
structure Cab (w : World) (g : Nat) (x : Cad) : Prop where
  b : Bk w g (.cells #[.string x.nm, .int .i64 x.len, .int .i64 x.beam, .int .i64 x.dra, .int .i64 x.und, .int .i64 x.arr, .int .i64 x.wrk, .int .i64 x.due, .int .i64 x.late] 36)
theorem Cab.below {w w' : World} {g : Nat} {x : Cad} (h : Cab w g x) (hb : Below w.heap.size w w') : Cab w' g x := ⟨h.b.step hb⟩
theorem Cab.new (w : World) (x : Cad) {g : Nat} (hg : w.heap.size = g) : Cab (w.alloc (.cells #[.string x.nm, .int .i64 x.len, .int .i64 x.beam, .int .i64 x.dra, .int .i64 x.und, .int .i64 x.arr, .int .i64 x.wrk, .int .i64 x.due, .int .i64 x.late] 36)) g x := ⟨Bk.of_alloc w _ hg⟩
theorem Cab.cells {w : World} {g : Nat} {x : Cad} (h : Cab w g x) : w.cell? ⟨g, 0, none⟩ = some (.string x.nm) ∧ w.cell? ⟨g, 1, none⟩ = some (.int .i64 x.len) ∧ w.cell? ⟨g, 2, none⟩ = some (.int .i64 x.beam) ∧ w.cell? ⟨g, 3, none⟩ = some (.int .i64 x.dra) ∧ w.cell? ⟨g, 4, none⟩ = some (.int .i64 x.und) ∧ w.cell? ⟨g, 5, none⟩ = some (.int .i64 x.arr) ∧ w.cell? ⟨g, 6, none⟩ = some (.int .i64 x.wrk) ∧ w.cell? ⟨g, 7, none⟩ = some (.int .i64 x.due) ∧ w.cell? ⟨g, 8, none⟩ = some (.int .i64 x.late) := by
  have hh := fun i => cell_of_row w g i _ 36 (0, 0) h.b
  exact ⟨(hh 0).trans rfl, (hh 1).trans rfl, (hh 2).trans rfl, (hh 3).trans rfl, (hh 4).trans rfl, (hh 5).trans rfl, (hh 6).trans rfl, (hh 7).trans rfl, (hh 8).trans rfl⟩

set_option maxRecDepth 100000 in
theorem Caname_any {w : World} (x : Cad) :
    Calls Try.prog 28 #[.agg #[.string x.nm, .int .i64 x.len, .int .i64 x.beam, .int .i64 x.dra, .int .i64 x.und, .int .i64 x.arr, .int .i64 x.wrk, .int .i64 x.due, .int .i64 x.late]] w fun e w' => e = .returned (.string x.nm) ∧ Below w.heap.size w w' := by
  have hb0 := alo (W := w) (o := (.cells #[.string x.nm, .int .i64 x.len, .int .i64 x.beam, .int .i64 x.dra, .int .i64 x.und, .int .i64 x.arr, .int .i64 x.wrk, .int .i64 x.due, .int .i64 x.late] 36))
  have K := Cab.new w x rfl
  obtain ⟨y0, y1, y2, y3, y4, y5, y6, y7, y8⟩ := K.cells
  clear K
  go_enter Try.func28, Try.ntmps28
  go_wp2
  go_ret
  exact ⟨rfl, hb0⟩

def shpB (x : Cad) : Bool := inB x.len (1) 1000000 && inB x.beam (1) 1000000 && inB x.dra (0) 1000000 && inB x.und (0) 1000000
theorem shpB_iff {x : Cad} : shpB x = true ↔ (inB x.len (1) 1000000 = true ∧ inB x.beam (1) 1000000 = true ∧ inB x.dra (0) 1000000 = true ∧ inB x.und (0) 1000000 = true) := by
  unfold shpB; simp only [Bool.and_eq_true, and_assoc]
theorem shpB_t {x : Cad} (h : inB x.len (1) 1000000 = true ∧ inB x.beam (1) 1000000 = true ∧ inB x.dra (0) 1000000 = true ∧ inB x.und (0) 1000000 = true) : shpB x = true := shpB_iff.2 h
theorem shpB_f0 {x : Cad} (k : inB x.len (1) 1000000 = false) : shpB x = false := Bool.eq_false_iff.2 fun e => by have h := shpB_iff.1 e; rw [h.1] at k; cases k
theorem shpB_f1 {x : Cad} (k : inB x.beam (1) 1000000 = false) : shpB x = false := Bool.eq_false_iff.2 fun e => by have h := shpB_iff.1 e; rw [h.2.1] at k; cases k
theorem shpB_f2 {x : Cad} (k : inB x.dra (0) 1000000 = false) : shpB x = false := Bool.eq_false_iff.2 fun e => by have h := shpB_iff.1 e; rw [h.2.2.1] at k; cases k
theorem shpB_f3 {x : Cad} (k : inB x.und (0) 1000000 = false) : shpB x = false := Bool.eq_false_iff.2 fun e => by have h := shpB_iff.1 e; rw [h.2.2.2] at k; cases k
set_option maxRecDepth 100000 in
set_option maxHeartbeats 4000000 in
theorem shpB_any {w : World} (x : Cad) :
    Calls Try.prog 31 #[.agg #[.string x.nm, .int .i64 x.len, .int .i64 x.beam, .int .i64 x.dra, .int .i64 x.und, .int .i64 x.arr, .int .i64 x.wrk, .int .i64 x.due, .int .i64 x.late]] w fun e w' => e = .returned (.bool (shpB x)) ∧ Below w.heap.size w w' := by
  have hb0 := alo (W := w) (o := (.cells #[.string x.nm, .int .i64 x.len, .int .i64 x.beam, .int .i64 x.dra, .int .i64 x.und, .int .i64 x.arr, .int .i64 x.wrk, .int .i64 x.due, .int .i64 x.late] 36))
  have K := Cab.new w x rfl
  obtain ⟨y0, y1, y2, y3, y4, y5, y6, y7, y8⟩ := K.cells
  clear K
  cases k0 : inB x.len (1) 1000000
  case false =>
    rw [show shpB x = false from shpB_f0 k0]
    go_enter Try.func31, Try.ntmps31
    go_wp2_with ((first | ((with_reducible refine (isSize_any _ _).mono ?_); rintro e w' ⟨rfl, rfl⟩) | ((with_reducible refine (isDistance_any _ _).mono ?_); rintro e w' ⟨rfl, rfl⟩)))
    go_ret
    exact ⟨rfl, hb0⟩
  case true =>
    cases k1 : inB x.beam (1) 1000000
    case false =>
      rw [show shpB x = false from shpB_f1 k1]
      go_enter Try.func31, Try.ntmps31
      go_wp2_with ((first | ((with_reducible refine (isSize_any _ _).mono ?_); rintro e w' ⟨rfl, rfl⟩) | ((with_reducible refine (isDistance_any _ _).mono ?_); rintro e w' ⟨rfl, rfl⟩)))
      go_ret
      exact ⟨rfl, hb0⟩
    case true =>
      cases k2 : inB x.dra (0) 1000000
      case false =>
        rw [show shpB x = false from shpB_f2 k2]
        go_enter Try.func31, Try.ntmps31
        go_wp2_with ((first | ((with_reducible refine (isSize_any _ _).mono ?_); rintro e w' ⟨rfl, rfl⟩) | ((with_reducible refine (isDistance_any _ _).mono ?_); rintro e w' ⟨rfl, rfl⟩)))
        go_ret
        exact ⟨rfl, hb0⟩
      case true =>
        cases k3 : inB x.und (0) 1000000
        case false =>
          rw [show shpB x = false from shpB_f3 k3]
          go_enter Try.func31, Try.ntmps31
          go_wp2_with ((first | ((with_reducible refine (isSize_any _ _).mono ?_); rintro e w' ⟨rfl, rfl⟩) | ((with_reducible refine (isDistance_any _ _).mono ?_); rintro e w' ⟨rfl, rfl⟩)))
          go_ret
          exact ⟨rfl, hb0⟩
        case true =>
          rw [show shpB x = true from shpB_t ⟨k0, k1, k2, k3⟩]
          go_enter Try.func31, Try.ntmps31
          go_wp2_with ((first | ((with_reducible refine (isSize_any _ _).mono ?_); rintro e w' ⟨rfl, rfl⟩) | ((with_reducible refine (isDistance_any _ _).mono ?_); rintro e w' ⟨rfl, rfl⟩)))
          go_ret
          exact ⟨rfl, hb0⟩

def tmdB (x : Cad) : Bool := inB x.arr (0) 400 && inB x.due (0) 400 && inB x.wrk (1) 1000 && inB x.late (0) 1000000000
theorem tmdB_iff {x : Cad} : tmdB x = true ↔ (inB x.arr (0) 400 = true ∧ inB x.due (0) 400 = true ∧ inB x.wrk (1) 1000 = true ∧ inB x.late (0) 1000000000 = true) := by
  unfold tmdB; simp only [Bool.and_eq_true, and_assoc]
theorem tmdB_t {x : Cad} (h : inB x.arr (0) 400 = true ∧ inB x.due (0) 400 = true ∧ inB x.wrk (1) 1000 = true ∧ inB x.late (0) 1000000000 = true) : tmdB x = true := tmdB_iff.2 h
theorem tmdB_f0 {x : Cad} (k : inB x.arr (0) 400 = false) : tmdB x = false := Bool.eq_false_iff.2 fun e => by have h := tmdB_iff.1 e; rw [h.1] at k; cases k
theorem tmdB_f1 {x : Cad} (k : inB x.due (0) 400 = false) : tmdB x = false := Bool.eq_false_iff.2 fun e => by have h := tmdB_iff.1 e; rw [h.2.1] at k; cases k
theorem tmdB_f2 {x : Cad} (k : inB x.wrk (1) 1000 = false) : tmdB x = false := Bool.eq_false_iff.2 fun e => by have h := tmdB_iff.1 e; rw [h.2.2.1] at k; cases k
theorem tmdB_f3 {x : Cad} (k : inB x.late (0) 1000000000 = false) : tmdB x = false := Bool.eq_false_iff.2 fun e => by have h := tmdB_iff.1 e; rw [h.2.2.2] at k; cases k
set_option maxRecDepth 100000 in
set_option maxHeartbeats 4000000 in
theorem tmdB_any {w : World} (x : Cad) :
    Calls Try.prog 32 #[.agg #[.string x.nm, .int .i64 x.len, .int .i64 x.beam, .int .i64 x.dra, .int .i64 x.und, .int .i64 x.arr, .int .i64 x.wrk, .int .i64 x.due, .int .i64 x.late]] w fun e w' => e = .returned (.bool (tmdB x)) ∧ Below w.heap.size w w' := by
  have hb0 := alo (W := w) (o := (.cells #[.string x.nm, .int .i64 x.len, .int .i64 x.beam, .int .i64 x.dra, .int .i64 x.und, .int .i64 x.arr, .int .i64 x.wrk, .int .i64 x.due, .int .i64 x.late] 36))
  have K := Cab.new w x rfl
  obtain ⟨y0, y1, y2, y3, y4, y5, y6, y7, y8⟩ := K.cells
  clear K
  cases k0 : inB x.arr (0) 400
  case false =>
    rw [show tmdB x = false from tmdB_f0 k0]
    go_enter Try.func32, Try.ntmps32
    go_wp2_with ((with_reducible refine (Within_any _ _ _ _).mono ?_); rintro e w' ⟨rfl, rfl⟩)
    go_ret
    exact ⟨rfl, hb0⟩
  case true =>
    cases k1 : inB x.due (0) 400
    case false =>
      rw [show tmdB x = false from tmdB_f1 k1]
      go_enter Try.func32, Try.ntmps32
      go_wp2_with ((with_reducible refine (Within_any _ _ _ _).mono ?_); rintro e w' ⟨rfl, rfl⟩)
      go_ret
      exact ⟨rfl, hb0⟩
    case true =>
      cases k2 : inB x.wrk (1) 1000
      case false =>
        rw [show tmdB x = false from tmdB_f2 k2]
        go_enter Try.func32, Try.ntmps32
        go_wp2_with ((with_reducible refine (Within_any _ _ _ _).mono ?_); rintro e w' ⟨rfl, rfl⟩)
        go_ret
        exact ⟨rfl, hb0⟩
      case true =>
        cases k3 : inB x.late (0) 1000000000
        case false =>
          rw [show tmdB x = false from tmdB_f3 k3]
          go_enter Try.func32, Try.ntmps32
          go_wp2_with ((with_reducible refine (Within_any _ _ _ _).mono ?_); rintro e w' ⟨rfl, rfl⟩)
          go_ret
          exact ⟨rfl, hb0⟩
        case true =>
          rw [show tmdB x = true from tmdB_t ⟨k0, k1, k2, k3⟩]
          go_enter Try.func32, Try.ntmps32
          go_wp2_with ((with_reducible refine (Within_any _ _ _ _).mono ?_); rintro e w' ⟨rfl, rfl⟩)
          go_ret
          exact ⟨rfl, hb0⟩

def caB (x : Cad) : Bool := inB x.len (1) 1000000 && inB x.beam (1) 1000000 && inB x.dra (0) 1000000 && inB x.und (0) 1000000 && inB x.arr (0) 400 && inB x.due (0) 400 && inB x.wrk (1) 1000 && inB x.late (0) 1000000000
theorem caB_iff {x : Cad} : caB x = true ↔ (inB x.len (1) 1000000 = true ∧ inB x.beam (1) 1000000 = true ∧ inB x.dra (0) 1000000 = true ∧ inB x.und (0) 1000000 = true ∧ inB x.arr (0) 400 = true ∧ inB x.due (0) 400 = true ∧ inB x.wrk (1) 1000 = true ∧ inB x.late (0) 1000000000 = true) := by
  unfold caB; simp only [Bool.and_eq_true, and_assoc]
theorem caB_t {x : Cad} (h : inB x.len (1) 1000000 = true ∧ inB x.beam (1) 1000000 = true ∧ inB x.dra (0) 1000000 = true ∧ inB x.und (0) 1000000 = true ∧ inB x.arr (0) 400 = true ∧ inB x.due (0) 400 = true ∧ inB x.wrk (1) 1000 = true ∧ inB x.late (0) 1000000000 = true) : caB x = true := caB_iff.2 h
theorem caB_f0 {x : Cad} (k : inB x.len (1) 1000000 = false) : caB x = false := Bool.eq_false_iff.2 fun e => by have h := caB_iff.1 e; rw [h.1] at k; cases k
theorem caB_f1 {x : Cad} (k : inB x.beam (1) 1000000 = false) : caB x = false := Bool.eq_false_iff.2 fun e => by have h := caB_iff.1 e; rw [h.2.1] at k; cases k
theorem caB_f2 {x : Cad} (k : inB x.dra (0) 1000000 = false) : caB x = false := Bool.eq_false_iff.2 fun e => by have h := caB_iff.1 e; rw [h.2.2.1] at k; cases k
theorem caB_f3 {x : Cad} (k : inB x.und (0) 1000000 = false) : caB x = false := Bool.eq_false_iff.2 fun e => by have h := caB_iff.1 e; rw [h.2.2.2.1] at k; cases k
theorem caB_f4 {x : Cad} (k : inB x.arr (0) 400 = false) : caB x = false := Bool.eq_false_iff.2 fun e => by have h := caB_iff.1 e; rw [h.2.2.2.2.1] at k; cases k
theorem caB_f5 {x : Cad} (k : inB x.due (0) 400 = false) : caB x = false := Bool.eq_false_iff.2 fun e => by have h := caB_iff.1 e; rw [h.2.2.2.2.2.1] at k; cases k
theorem caB_f6 {x : Cad} (k : inB x.wrk (1) 1000 = false) : caB x = false := Bool.eq_false_iff.2 fun e => by have h := caB_iff.1 e; rw [h.2.2.2.2.2.2.1] at k; cases k
theorem caB_f7 {x : Cad} (k : inB x.late (0) 1000000000 = false) : caB x = false := Bool.eq_false_iff.2 fun e => by have h := caB_iff.1 e; rw [h.2.2.2.2.2.2.2] at k; cases k
def callE (x : Cad) : Int := if caB x = true then 0 else 2
theorem caB_and (x : Cad) : caB x = (shpB x && tmdB x) := by unfold caB shpB tmdB; simp only [Bool.and_assoc]
set_option maxRecDepth 100000 in
set_option maxHeartbeats 8000000 in
theorem Caown_any {w : World} (x : Cad) :
    Calls Try.prog 30 #[.agg #[.string x.nm, .int .i64 x.len, .int .i64 x.beam, .int .i64 x.dra, .int .i64 x.und, .int .i64 x.arr, .int .i64 x.wrk, .int .i64 x.due, .int .i64 x.late]] w fun e w' => e = .returned (.int .i64 (callE x)) ∧ Below w.heap.size w w' := by
  have HB0 := hid (alo (W := w) (o := (.cells #[.string x.nm, .int .i64 x.len, .int .i64 x.beam, .int .i64 x.dra, .int .i64 x.und, .int .i64 x.arr, .int .i64 x.wrk, .int .i64 x.due, .int .i64 x.late] 36)))
  have HK := hid (Cab.new w x rfl)
  have hE : callE x = if (shpB x && tmdB x) = true then 0 else 2 := by rw [← caB_and]; rfl
  cases k0 : shpB x
  case false =>
    rw [hE, k0]
    rw [Bool.false_and, if_neg (by decide)]
    clear hE
    go_enter Try.func30, Try.ntmps30
    obtain ⟨y0, y1, y2, y3, y4, y5, y6, y7, y8⟩ := HK.out.cells
    go_wp2_with fail
    refine (shpB_any x).mono ?_
    rintro e w2 ⟨rfl, hb⟩
    rw [k0]
    have HB := hid (bthen HB0.out hb (Nat.le_refl _))
    clear hb y0 y1 y2 y3 y4 y5 y6 y7 y8
    go_wp2
    go_ret
    exact ⟨rfl, HB.out⟩
  case true =>
    rw [hE, k0]
    rw [Bool.true_and]
    clear hE
    cases k1 : tmdB x
    all_goals
      first | rw [if_pos rfl] | rw [if_neg (by decide)]
      go_enter Try.func30, Try.ntmps30
      obtain ⟨y0, y1, y2, y3, y4, y5, y6, y7, y8⟩ := HK.out.cells
      go_wp2_with fail
      refine (shpB_any x).mono ?_
      rintro e w2 ⟨rfl, hb⟩
      rw [k0]
      have HB := hid (bthen HB0.out hb (Nat.le_refl _))
      have K2 := HK.out.below hb
      clear hb y0 y1 y2 y3 y4 y5 y6 y7 y8
      obtain ⟨y0, y1, y2, y3, y4, y5, y6, y7, y8⟩ := K2.cells
      clear K2
      go_wp2_with fail
      refine (tmdB_any x).mono ?_
      rintro e w3 ⟨rfl, hb⟩
      rw [k1]
      have HB3 := hid (bthen HB.out hb (Nat.le_refl _))
      clear hb y0 y1 y2 y3 y4 y5 y6 y7 y8
      go_wp2
      go_ret
      exact ⟨rfl, HB3.out⟩

set_option maxRecDepth 100000 in
set_option maxHeartbeats 16000000 in
theorem Calist_any {w : World} {B0 n c : Nat} {A : Option Addr} {b : Nat → Cad} (h : Cal w B0 A n b) (hn : n ≤ 1000) (hs : ∀ i, i < n → (b i).nm.size ≤ 1000000000) :
    Calls Try.prog 29 #[.slice A n c, .int .i64 8, .func (.func 28) #[] #[], .func (.func 30) #[] #[]] w fun e w' => ∃ r : Int, e = .returned (.int .i64 r) ∧ Hid (Lsg 8 n (fun i => (b i).nm) (fun i r => r = callE (b i)) r) ∧ Below w.heap.size w w' := by
  by_cases hbig : 8 < n
  · have hd : decide ((8 : Int) < (n : Int)) = true := decide_eq_true (by omega)
    have HE := hid (show Lsg 8 n (fun i => (b i).nm) (fun i r => r = callE (b i)) 8 from .inl ⟨hbig, rfl⟩)
    go_enter Try.func29, Try.ntmps29
    go_wp2
    go_ret
    exact ⟨8, rfl, HE, Below.refl _ _⟩
  · have hd : decide ((8 : Int) < (n : Int)) = false := decide_eq_false (by omega)
    have hmm := @run_makeMap Try.prog
    obtain ⟨mb, hmb⟩ : ∃ mb, w.heap.size = mb := ⟨_, rfl⟩
    have hz0 := Nz.new w (fun i => (b i).nm)
    rw [hmb] at hz0
    have hb0 := alo (W := w) (o := .map #[] 0)
    go_enter Try.func29, Try.ntmps29
    go_wp2_with fail
    clear hd hmm
    generalize w.alloc (.map #[] 0) = W0 at *
    have Hh := hid h
    have Hmb := hid hmb
    have Hs := hid hs
    have HZ0 := hid hz0
    have HB0 := hid hb0
    clear h hmb hs hz0 hb0
    go_loopw [21] (fun iv wr => ∃ (i : Nat), i ≤ n ∧ iv = .int .i64 i ∧ Hid (∀ j, j < i → LGood (fun i => (b i).nm) (fun i r => r = callE (b i)) j) ∧ Hid (Nz wr mb (fun i => (b i).nm) i) ∧ Below w.heap.size w wr) (fun iv _ => n - (intOf iv).toNat)
    case atStart => exact ⟨0, Nat.zero_le _, rfl, hid (fun j hj => absurd hj (Nat.not_lt_zero _)), HZ0, HB0.out⟩
    case round =>
      obtain ⟨i, hi, rfl, HN, HZ, hbel⟩ := hrel
      have hw := Hh.out.below (hbel.mono (Nat.le_refl _))
      have Hbel := hid hbel
      clear hbel
      by_cases hlt : i < n
      · obtain ⟨ad, hA, hl, q0, q1, q2, q3, q4, q5, q6, q7, q8⟩ := hw.at_ i hlt
        subst hA
        have hs9 := Hs.out i hlt
        have ha := alo (W := wr) (o := (.cells #[.string (b i).nm, .int .i64 (b i).len, .int .i64 (b i).beam, .int .i64 (b i).dra, .int .i64 (b i).und, .int .i64 (b i).arr, .int .i64 (b i).wrk, .int .i64 (b i).due, .int .i64 (b i).late] 36))
        obtain ⟨gb, hgb⟩ : ∃ gb, wr.heap.size = gb := ⟨_, rfl⟩
        have jb := Bk.of_alloc wr (.cells #[.string (b i).nm, .int .i64 (b i).len, .int .i64 (b i).beam, .int .i64 (b i).dra, .int .i64 (b i).und, .int .i64 (b i).arr, .int .i64 (b i).wrk, .int .i64 (b i).due, .int .i64 (b i).late] 36) hgb
        have Hba := hid (Hbel.out.trans (ha.mono Hbel.out.size))
        have HZa := hid (HZ.out.below ha)
        clear ha hw
        go_wp2_with fail
        generalize wr.alloc (.cells #[.string (b i).nm, .int .i64 (b i).len, .int .i64 (b i).beam, .int .i64 (b i).dra, .int .i64 (b i).und, .int .i64 (b i).arr, .int .i64 (b i).wrk, .int .i64 (b i).due, .int .i64 (b i).late] 36) = wa at *
        have Hgb := hid hgb
        clear hgb q0 q1 q2 q3 q4 q5 q6 q7 q8
        refine (Caname_any (b i)).mono ?_
        rintro e w2 ⟨rfl, hb⟩
        have jb2 := jb.step hb
        have HB2 := hid (Hba.out.trans (hb.mono Hba.out.size))
        have HZ2 := hid (HZa.out.below hb)
        clear hb jb
        obtain ⟨y0, y1, y2, y3, y4, y5, y6, y7, y8⟩ := (show Cab w2 gb (b i) from ⟨jb2⟩).cells
        have wbad := fun (r : Int) (hx : LBad (fun i => (b i).nm) (fun i r => r = callE (b i)) i r) => hid (show Lsg 8 n (fun i => (b i).nm) (fun i r => r = callE (b i)) r from .inr ⟨by omega, .inl ⟨i, hlt, HN.out, hx⟩⟩)
        have Wbad := hid wbad
        clear wbad
        by_cases hnm : nameB (b i).nm = true
        · have HNM := hid hnm
          have hlk := HZ2.out.look (b i).nm (by unfold maxLen; omega)
          by_cases hsn : seenB (fun i => (b i).nm) i (b i).nm = true
          · have HE := Wbad.out 5 (.inr (.inl ⟨hnm, seen_iff.1 hsn, rfl⟩))
            rw [hsn] at hlk
            clear hsn
            go_wp2_with (((with_reducible refine (IsName_any _ _ hs9).mono ?_); rintro e w' ⟨rfl, rfl⟩))
            go_ret
            exact ⟨5, rfl, HE, HB2.out⟩
          · have hno : ∀ k, k < i → (b k).nm ≠ (b i).nm := fun k hk e => hsn (seenB_t ⟨k, hk, e⟩)
            rw [Bool.eq_false_iff.2 hsn] at hlk
            have Hno := hid hno
            clear hsn hno
            go_wp2_with (((with_reducible refine (IsName_any _ _ hs9).mono ?_); rintro e w' ⟨rfl, rfl⟩))
            refine (Caown_any (b i)).mono ?_
            rintro e w4 ⟨rfl, hb⟩
            generalize hr0 : callE (b i) = r
            have Hr0 := hid hr0
            clear hr0
            have hz : (fun i r => r = callE (b i)) i r := Hr0.out.symm
            have jb4 := jb2.step hb
            have HB4 := hid (HB2.out.trans (hb.mono HB2.out.size))
            have HZ4 := hid (HZ2.out.below hb)
            clear hb jb2 y0 y1 y2 y3 y4 y5 y6 y7 y8 hnm hlk
            by_cases hr : r = 0
            · subst hr
              have HG := hid (show LGood (fun i => (b i).nm) (fun i r => r = callE (b i)) i from ⟨HNM.out, Hno.out, hz⟩)
              obtain ⟨f, ⟨D, hown, hD, hat⟩, hseen⟩ := HZ4.out
              obtain ⟨f', hat', hseen'⟩ := seen_put hD hat hseen
              have Hat := hid hat'
              have Hseen := hid hseen'
              have HD := hid hD
              clear hat hseen hat' hseen' hD hz
              have hil : i < maxLen := by unfold maxLen; omega
              go_wp2_with (at_mapUpdate; (refine wpList_mapUpdate_own _ rfl _ _ _ 65 rfl 9 4 law Try.underlying65 _ mb i _ rfl hown hil _ _ (.string (bl (b i).nm)) rfl rfl (Go.WideMaps.keyOf_string_mk Try.underlying9 (by unfold maxLen; omega)) (.lit (.bool true)) [] (plainElem_bool Try.underlying4 true) ?_))
              intro w5 hown5 hgrow
              have hb5 := HB4.out.grown hgrow HB4.out.size (fun k hk => by injection hk with hk; rw [← hk, ← Hmb.out]; exact Nat.le_refl _)
              have HZ5 := hid (show Nz w5 mb (fun i => (b i).nm) (i + 1) from ⟨f', ⟨_, hown5, HD.out.put _ _, Hat.out⟩, Hseen.out⟩)
              have HB5 := hid hb5
              clear hb5 hown hown5 hgrow hil
              go_wp2
              go_roundw
              case rel => exact ⟨i + 1, by omega, by go_num, hid (fun j hj => by rcases Nat.lt_or_ge j i with h | h; exact HN.out j h; have : j = i := (by omega); subst this; exact HG.out), HZ5, HB5.out⟩
              case measure => simp [intOf]; omega
            · have hq : (r != 0) = true := by rw [bne_iff_ne]; exact hr
              have HE := Wbad.out r (.inr (.inr ⟨HNM.out, Hno.out, hz, hr⟩))
              clear hr hz
              go_wp2
              go_ret
              exact ⟨r, rfl, HE, HB4.out⟩
        · have hnm' := Bool.eq_false_iff.2 hnm
          have HE := Wbad.out 4 (.inl ⟨hnm', rfl⟩)
          clear hnm
          go_wp2_with (((with_reducible refine (IsName_any _ _ hs9).mono ?_); rintro e w' ⟨rfl, rfl⟩))
          go_ret
          exact ⟨4, rfl, HE, HB2.out⟩
      · obtain rfl : i = n := by omega
        have HE := hid (show Lsg 8 i (fun i => (b i).nm) (fun i r => r = callE (b i)) 0 from .inr ⟨by omega, .inr ⟨HN.out, rfl⟩⟩)
        go_wp2
        go_ret
        exact ⟨0, rfl, HE, Hbel.out⟩

/-- r is the error of a list of them. -/
abbrev Caq (n : Nat) (b : Nat → Cad) (r : Int) : Prop := Lsg 8 n (fun i => (b i).nm) (fun i r => r = callE (b i)) r
theorem Caq.same {n : Nat} {b : Nat → Cad} {p q : Int} (h : Caq n b p) (k : Caq n b q) : p = q := Lsg.same (fun _ _ _ a b => a.trans b.symm) h k
theorem Caq.exists (n : Nat) (b : Nat → Cad) : ∃ r, Caq n b r := Lsg.exists _ _ _ _ fun _ => ⟨_, rfl⟩
set_option maxRecDepth 100000 in
theorem Cacheck_is {w : World} {B0 n c : Nat} {A : Option Addr} {b : Nat → Cad} {q : Int} (hq : Hid (Caq n b q)) (h : Cal w B0 A n b) (hn : n ≤ 1000) (hs : ∀ i, i < n → (b i).nm.size ≤ 1000000000) :
    Calls Try.prog 9 #[.slice A n c] w fun e w' => e = .returned (.int .i64 q) ∧ Below w.heap.size w w' := by
  have Hh := hid h
  have Hs := hid hs
  clear h hs
  go_enter Try.func9, Try.ntmps9
  go_wp2_with fail
  refine (Calist_any Hh.out hn Hs.out).mono ?_
  rintro e w2 ⟨r, rfl, hr, hb⟩
  obtain rfl := Caq.same hr.out hq.out
  have HB := hid hb
  clear hb hr
  go_wp2
  go_ret
  exact ⟨rfl, HB.out⟩

end Go.Proofs.Ytkenanicohoigaa
