/- Mooring lines: spanOf. For all lines that are right. -/
import Derived.Test.YtkenanicohoigaaBl2
namespace Go.Proofs.Ytkenanicohoigaa
open Go.RowKit Go.Maps Kb Wb

/-- The part of the least number behind i bits. -/
def pw (i : Nat) : Int := (2 : Int) ^ (22 - i)
theorem pw_succ {i : Nat} (h : i < 22) : pw i = 2 * pw (i + 1) := by
  unfold pw
  rw [show 22 - i = (22 - (i + 1)) + 1 by omega, Int.pow_succ]; omega
theorem pw_pos (i : Nat) : 0 < pw i := by unfold pw; exact Int.pow_pos (by decide)
theorem pw_shl : ∀ i : Nat, i < 22 → (2 : Int) ^ (21 - (i : Int)).toNat = pw (i + 1) := by
  intro i hi
  unfold pw
  rw [show (21 - (i : Int)).toNat = 22 - (i + 1) by omega]
/-- Behind i bits: m is less than the distance, which is no more than pw i above it. -/
structure Sqr (S m : Int) (i : Nat) : Prop where
  lo : 0 ≤ m
  hi : m + pw i ≤ 4194304
  a : m * m < S
  b : S ≤ (m + pw i) * (m + pw i)
theorem Sqr.start {S : Int} (h1 : 0 < S) (h2 : S ≤ 17592186044416) : Sqr S 0 0 := ⟨by decide, by decide, by simpa using h1, by
  have : (0 + pw 0) * (0 + pw 0) = 17592186044416 := by decide
  rw [this]; exact h2⟩
theorem Sqr.up {S m : Int} {i : Nat} (h : Sqr S m i) (hi : i < 22) (k : (m + pw (i + 1)) * (m + pw (i + 1)) < S) : Sqr S (m + pw (i + 1)) (i + 1) := by
  have e := pw_succ hi
  have p := pw_pos (i + 1)
  have h1 := h.lo
  have h2 := h.hi
  exact ⟨by omega, by omega, k, by have := h.b; rw [show m + pw (i + 1) + pw (i + 1) = m + pw i by omega]; exact this⟩
theorem Sqr.stay {S m : Int} {i : Nat} (h : Sqr S m i) (hi : i < 22) (k : ¬ (m + pw (i + 1)) * (m + pw (i + 1)) < S) : Sqr S m (i + 1) := by
  have e := pw_succ hi
  have p := pw_pos (i + 1)
  have h1 := h.lo
  have h2 := h.hi
  exact ⟨h1, by omega, h.a, by omega⟩
/-- r is the span of a square. -/
structure Spn (S r : Int) : Prop where
  lo : 1 ≤ r
  hi : r ≤ 4194304
  a : (r - 1) * (r - 1) < S
  b : S ≤ r * r
theorem Sqr.fin {S m : Int} (h : Sqr S m 22) : Spn S (m + 1) := by
  have e : pw 22 = 1 := by decide
  have h1 := h.lo
  have h2 := h.hi
  have h3 := h.b
  rw [e] at h2 h3
  exact ⟨by omega, by omega, by rw [show m + 1 - 1 = m by omega]; exact h.a, h3⟩
theorem sq_lt {a b : Int} (ha : 0 ≤ a) (hab : a ≤ b) : a * a ≤ b * b := Int.mul_le_mul hab hab ha (Int.le_trans ha hab)
theorem Spn.most {S r : Int} (h : Spn S r) (hS : S ≤ 8000000000000) : r ≤ 3000000 := by
  refine Classical.byContradiction fun hn => ?_
  have := sq_lt (a := 3000000) (b := r - 1) (by decide) (by omega)
  have := h.a
  omega
theorem Spn.same {S r q : Int} (h : Spn S r) (k : Spn S q) : r = q := by
  have h1 := h.lo
  have k1 := k.lo
  rcases Int.lt_trichotomy r q with l | l | l
  · have := sq_lt (a := r) (b := q - 1) (by omega) (by omega)
    have := h.b
    have := k.a
    omega
  · exact l
  · have := sq_lt (a := q) (b := r - 1) (by omega) (by omega)
    have := k.b
    have := h.a
    omega
theorem sq_bd {a : Int} (h1 : -2000000 ≤ a) (h2 : a ≤ 2000000) : 0 ≤ a * a ∧ a * a ≤ 4000000000000 := by
  rcases Int.le_total 0 a with h | h
  · exact ⟨Int.mul_nonneg h h, by have := sq_lt h h2; omega⟩
  · have e : a * a = (-a) * (-a) := by rw [Int.neg_mul_neg]
    rw [e]
    exact ⟨Int.mul_nonneg (by omega) (by omega), by have := sq_lt (a := -a) (b := 2000000) (by omega) (by omega); omega⟩
theorem sq_pos {a : Int} (h : a ≠ 0) : 0 < a * a := by
  rcases Int.lt_trichotomy a 0 with l | l | l
  · have e : a * a = (-a) * (-a) := by rw [Int.neg_mul_neg]
    rw [e]; exact Int.mul_pos (by omega) (by omega)
  · exact absurd l h
  · exact Int.mul_pos l l
theorem bmul' {a b : Int} (ha : 0 ≤ a ∧ a ≤ 4194304) (hb : 0 ≤ b ∧ b ≤ 4194304) : 0 ≤ a * b ∧ a * b ≤ 17592186044416 := by
  refine ⟨Int.mul_nonneg ha.1 hb.1, ?_⟩
  have := Int.mul_le_mul ha.2 hb.2 hb.1 (by decide)
  simpa using this
/-- The square of the distance of fairlead and bollard. -/
def dist2 (x : Mld) : Int := (x.tx - x.x) * (x.tx - x.x) + (x.ty - x.y) * (x.ty - x.y)
theorem dist2_bd {x : Mld} (h : lineE x = 0) : 0 < dist2 x ∧ dist2 x ≤ 8000000000000 ∧ (-2000000 ≤ x.tx - x.x ∧ x.tx - x.x ≤ 2000000) ∧ (-2000000 ≤ x.ty - x.y ∧ x.ty - x.y ≤ 2000000) := by
  unfold lineE at h
  by_cases h1 : btw x = true ∧ inB x.most 1 1000000000 = true
  · rw [if_pos h1] at h
    obtain ⟨a, b, c, d⟩ := btw_iff.1 h1.1
    obtain ⟨a, a'⟩ := inB_iff.1 a
    obtain ⟨b, b'⟩ := inB_iff.1 b
    obtain ⟨c, c'⟩ := inB_iff.1 c
    obtain ⟨d, d'⟩ := inB_iff.1 d
    by_cases h2 : x.x = x.tx ∧ x.y = x.ty
    · rw [if_pos h2] at h; exact absurd h (by decide)
    · have k1 := sq_bd (a := x.tx - x.x) (by omega) (by omega)
      have k2 := sq_bd (a := x.ty - x.y) (by omega) (by omega)
      refine ⟨?_, by unfold dist2; omega, by omega, by omega⟩
      unfold dist2
      by_cases h3 : x.tx - x.x = 0
      · have := sq_pos (a := x.ty - x.y) (fun e => h2 ⟨by omega, by omega⟩)
        omega
      · have := sq_pos h3
        omega
  · rw [if_neg h1] at h; exact absurd h (by decide)
set_option maxRecDepth 100000 in
set_option maxHeartbeats 8000000 in
theorem spanOf_any {w : World} (x : Mld) (h : lineE x = 0) :
    Calls Try.prog 42 #[.agg #[.string x.nm, .int .i64 x.x, .int .i64 x.y, .int .i64 x.tx, .int .i64 x.ty, .int .i64 x.most]] w fun e w' => ∃ r : Int, e = .returned (.int .i64 r) ∧ Hid (Spn (dist2 x) r) ∧ Below w.heap.size w w' := by
  obtain ⟨b1, b2, ⟨b3, b4⟩, ⟨b5, b6⟩⟩ := dist2_bd h
  have hb0 := alo (W := w) (o := (.cells #[.string x.nm, .int .i64 x.x, .int .i64 x.y, .int .i64 x.tx, .int .i64 x.ty, .int .i64 x.most] 46))
  have K := Mlb.new w x rfl
  obtain ⟨y0, y1, y2, y3, y4, y5⟩ := K.cells
  have k1 := sq_bd b3 b4
  have k2 := sq_bd b5 b6
  have HT := hid (Sqr.start b1 (by omega))
  have hl : lineE x = 0 := h
  clear b1 b2 h K
  go_enter Try.func42, Try.ntmps42
  go_wp2_with fail
  go_quiet (fail)
  clear y0 y1 y2 y3 y4 y5
  have HB0 := hid (hb0.trans ((Below.refl _ _).drewN' nq))
  go_wp2_with fail
  generalize (w.alloc (.cells #[.string x.nm, .int .i64 x.x, .int .i64 x.y, .int .i64 x.tx, .int .i64 x.ty, .int .i64 x.most] 46)).drewN nq = W0 at *
  obtain ⟨S, hS⟩ : ∃ S, dist2 x = S := ⟨_, rfl⟩
  rw [hS] at HT
  have HS := hid hS
  unfold dist2 at hS
  clear hb0 hl
  go_loopw [6, 27, 7, 8, 9] (fun mv iv _ _ _ wr => ∃ (i : Nat) (m : Int), i ≤ 22 ∧ iv = .int .i64 i ∧ mv = .int .i64 m ∧ Hid (Sqr S m i) ∧ wr = W0) (fun _ iv _ _ _ _ => 22 - (intOf iv).toNat)
  case atStart => exact ⟨0, 0, by decide, rfl, rfl, HT, rfl⟩
  case round =>
    obtain ⟨i, m, hi, rfl, rfl, HQ, rfl⟩ := hrel
    by_cases hlt : i < 22
    · obtain ⟨B, hB⟩ : ∃ B : Int, (2 : Int) ^ (21 - i) = B := ⟨_, rfl⟩
      have hpB : pw (i + 1) = B := by rw [← hB]; unfold pw; rw [show 22 - (i + 1) = 21 - i by omega]
      have hp := pw_pos (i + 1)
      have hp2 := pw_succ hlt
      have h1 := HQ.out.lo
      have h2 := HQ.out.hi
      have hu := hid (HQ.out.up hlt)
      have hst := hid (HQ.out.stay hlt)
      rw [hpB] at hp hp2 hu hst
      rw [hp2] at h2
      clear hp2 hpB
      have h3 := bmul' (a := m + B) (b := m + B) (by omega) (by omega)
      by_cases hc : (m + B) * (m + B) < S
      · have dc : decide ((m + B) * (m + B) < S) = true := decide_eq_true hc
        have HQ2 := hid (hu.out hc)
        clear hc hst hu
        go_wp2
        go_roundw
        case rel => exact ⟨i + 1, _, by omega, by go_num, rfl, HQ2, trivial⟩
        case measure => simp [intOf]; omega
      · have dc : decide ((m + B) * (m + B) < S) = false := decide_eq_false hc
        have HQ2 := hid (hst.out hc)
        clear hc hst hu
        go_wp2
        go_roundw
        case rel => exact ⟨i + 1, _, by omega, by go_num, rfl, HQ2, trivial⟩
        case measure => simp [intOf]; omega
    · obtain rfl : i = 22 := by omega
      have HE := hid (HQ.out.fin)
      have h1 := HQ.out.lo
      have h2 := HQ.out.hi
      have e22 : pw 22 = 1 := by decide
      rw [e22] at h2
      rw [← HS.out] at HE
      go_wp2
      go_ret
      exact ⟨_, rfl, HE, HB0.out⟩

end Go.Proofs.Ytkenanicohoigaa
