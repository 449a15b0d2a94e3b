/- Networks: what an open gate lets through: levels rise with litres; the search in steps finds the same number. -/
import Derived.Test.YtndcopljjnbkbaaNt16
namespace Go.Proofs.Ytndcopljjnbkbaa
open Go.RowKit Go.Maps Kb Wb

theorem lvB_mono {b : Bd} (B : Bas b.F b.S b.n b.rim) {u v : Int} (h0 : 0 ≤ u) (h : u ≤ v) (h1 : v ≤ capB b) : lvB b u ≤ lvB b v := by
  have a := lvB_lev B h0 (by omega)
  have c := lvB_lev B (v := v) (by omega) h1
  rcases Int.lt_or_le (lvB b v) (lvB b u) with e | e
  · have hr := a.hi
    have n1 := c.next (by omega)
    have n2 := below_mono B (show lvB b v + 1 ≤ lvB b u by omega)
    have n3 := a.at_
    omega
  · exact e
/-- The litres v may be moved to or from a side. -/
def Fits (q : Bool) (b : Bd) (x v : Int) : Prop := q = false → 0 ≤ x + v ∧ x + v ≤ capB b
theorem slev_mono {w : World} {B0 : Nat} {q : Bool} {z : Int} {b : Bd} {x : Int} (h : Sok w B0 q z b x) {u v : Int} (hu : Fits q b x u) (hv : Fits q b x v) (huv : u ≤ v) : slev q z b x u ≤ slev q z b x v := by
  cases q with
  | true => exact Int.le_refl _
  | false => exact lvB_mono (h.bas rfl) (hu rfl).1 (by omega) (hv rfl).2
section
variable {w w2 : World} {B0 B1 : Nat} {l : Ld} {hd sp rm : Int} {q : Bool} {z : Int} {b : Bd} {x : Int} {q2 : Bool} {z2 : Int} {b2 : Bd} {x2 : Int}
theorem Okp.fits (h : Sok w B0 q z b x) (k : Sok w2 B1 q2 z2 b2 x2) (hsp : q = false → sp ≤ x) (hrm : q2 = false → rm = capB b2 - x2) {i : Int} (i0 : 0 ≤ i) (h1 : i ≤ sp) (h2 : i ≤ rm) : Fits q b x (-i) ∧ Fits q2 b2 x2 i := by
  refine ⟨fun e => ?_, fun e => ?_⟩
  · have := hsp e
    have := h.x0 e
    omega
  · have := hrm e
    have := k.x0 e
    omega
theorem Okp.mono (h : Sok w B0 q z b x) (k : Sok w2 B1 q2 z2 b2 x2) (hsp : q = false → sp ≤ x) (hrm : q2 = false → rm = capB b2 - x2) {i j : Int} (i0 : 0 ≤ i) (ij : i ≤ j) (hj : Okp l hd sp rm q z b x q2 z2 b2 x2 j) : Okp l hd sp rm q z b x q2 z2 b2 x2 i := by
  obtain ⟨h1, h2, h3, h4⟩ := hj
  obtain ⟨a1, a2⟩ := Okp.fits h k hsp hrm i0 (show i ≤ sp by omega) (show i ≤ rm by omega)
  obtain ⟨c1, c2⟩ := Okp.fits h k hsp hrm (show 0 ≤ j by omega) h2 h3
  have m1 := slev_mono h c1 a1 (show -j ≤ -i by omega)
  have m2 := slev_mono k a2 c2 ij
  exact ⟨by omega, by omega, by omega, by omega⟩
theorem Okp.zero (h : Sok w B0 q z b x) (k : Sok w2 B1 q2 z2 b2 x2) (hf : 0 ≤ l.fac) (hhd : 0 < slev q z b x 0 - max l.sill (slev q2 z2 b2 x2 0)) : Okp l (slev q z b x 0 - max l.sill (slev q2 z2 b2 x2 0)) (sabo q b x l.sill) (sroom q2 b2 x2) q z b x q2 z2 b2 x2 0 := by
  refine ⟨Int.mul_nonneg hf (by omega), ?_, ?_, ?_⟩
  · cases q with
    | true => show (0 : Int) ≤ 9223372036854775807; omega
    | false =>
      show 0 ≤ x - volB b l.sill
      have B := h.bas rfl
      have hx := h.x0 rfl
      have e : slev false z b x 0 = lvB b x := by show lvB b (x + 0) = lvB b x; rw [Int.add_zero]
      rw [e] at hhd
      have a := (lvB_lev B hx.1 hx.2).at_
      have m := below_mono B (show l.sill ≤ lvB b x by omega)
      have : volB b l.sill = wbelow b.F b.S b.n l.sill := rfl
      omega
  · cases q2 with
    | true => show (0 : Int) ≤ 9223372036854775807; omega
    | false =>
      show 0 ≤ capB b2 - x2
      have := k.x0 rfl
      omega
  · rw [Int.neg_zero]
    omega
theorem sabo_le (h : Sok w B0 q z b x) {s : Int} (hs : s ≤ 1000000) : q = false → sabo q b x s ≤ x := fun e => by
  subst e
  have := volB_range (h.bas rfl) hs
  show x - volB b s ≤ x
  omega
theorem sroom_is : q2 = false → sroom q2 b2 x2 = capB b2 - x2 := fun e => by subst e; rfl
end

/-- What a link may carry: the test of the reference. -/
def Mayp (P : Int → Prop) (rate k : Int) : Prop := k ≤ rate ∧ P k
/-- Where the search in steps stands. -/
def Bst (P : Int → Prop) (q step : Int) : Prop := 0 ≤ q ∧ P q ∧ ((∃ j : Nat, j ≤ 30 ∧ step = 2 ^ j ∧ ∀ k, q + 2 * step ≤ k → ¬ P k) ∨ (step = 0 ∧ ∀ k, q + 1 ≤ k → ¬ P k))
theorem Bst.start {P : Int → Prop} {rate : Int} (h0 : P 0) (hr : rate ≤ 2000000000) (h : ∀ k, P k → k ≤ rate) : Bst P 0 1073741824 :=
  ⟨Int.le_refl _, h0, .inl ⟨30, Nat.le_refl _, by decide, fun k hk hp => by have := h k hp; omega⟩⟩
theorem pow_half (j : Nat) : ((2 : Int) ^ (j + 1)) / 2 = 2 ^ j := by
  rw [Int.pow_succ]
  omega
theorem pow_ge (j : Nat) : (1 : Int) ≤ 2 ^ j := by
  have := Int.pow_pos (n := (2 : Int)) (m := j) (by decide)
  omega
theorem Bst.next {P : Int → Prop} {q step : Int} (h : Bst P q step) (hs : 0 < step) (hm : ∀ i k, 0 ≤ i → i ≤ k → P k → P i) : (P (q + step) → Bst P (q + step) (step / 2)) ∧ (¬ P (q + step) → Bst P q (step / 2)) := by
  obtain ⟨h0, hq, ⟨j, hj, he, hn⟩ | ⟨e, _⟩⟩ := h
  · match j, hj, he with
    | 0, _, he =>
      have e1 : step = 1 := by rw [he]; rfl
      subst e1
      exact ⟨fun hp => ⟨by omega, hp, .inr ⟨by decide, fun k hk => hn k (by omega)⟩⟩, fun hp => ⟨h0, hq, .inr ⟨by decide, fun k hk hh => hp (hm (q + 1) k (by omega) hk hh)⟩⟩⟩
    | j + 1, hj, he =>
      have e2 : step / 2 = 2 ^ j := by rw [he]; exact pow_half j
      have e3 : 2 * (step / 2) = step := by rw [e2, he, Int.pow_succ]; omega
      exact ⟨fun hp => ⟨by omega, hp, .inl ⟨j, by omega, e2, fun k hk => hn k (by omega)⟩⟩, fun hp => ⟨h0, hq, .inl ⟨j, by omega, e2, fun k hk hh => hp (hm (q + step) k (by omega) (by omega) hh)⟩⟩⟩
  · omega
theorem Bst.done {P : Int → Prop} {rate q : Int} (h : Bst (Mayp P rate) q 0) : Gre P rate q := by
  obtain ⟨h0, hq, ⟨j, hj, he, hn⟩ | ⟨_, hn⟩⟩ := h
  · have := pow_ge j; omega
  · exact ⟨h0, hq.1, hq.2, fun k h1 h2 hp => hn k (by omega) ⟨h2, hp⟩⟩

end Go.Proofs.Ytndcopljjnbkbaa
