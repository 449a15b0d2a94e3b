/- Networks: Case.Short of the laws. -/
import Derived.Test.YtndcopljjnbkbaaNt14
namespace Go.Proofs.Ytndcopljjnbkbaa
open Go.RowKit Go.Maps Kb Wb

/-- The slice at A reads as n turns. -/
structure Tl (w : World) (B0 : Nat) (A : Option Addr) (n : Nat) (tm : Nat → Int) (tl : Nat → ByteArray) (tp : Nat → Bool) : Prop where
  at_ : ∀ i, i < n → ∃ ad, A = some ad ∧ ad.block < B0 ∧ w.cell? (ad.add (i * 3)) = some (.int .i64 (tm i)) ∧ w.cell? ⟨(ad.add (i * 3)).block, (ad.add (i * 3)).off + 1, none⟩ = some (.string (tl i)) ∧ w.cell? ⟨(ad.add (i * 3)).block, (ad.add (i * 3)).off + 2, none⟩ = some (.bool (tp i))
  le : B0 ≤ w.heap.size
theorem Tl.below {w w' : World} {B0 n : Nat} {A : Option Addr} {tm : Nat → Int} {tl : Nat → ByteArray} {tp : Nat → Bool} (h : Tl w B0 A n tm tl tp) (hb : Below w.heap.size w w') : Tl w' B0 A n tm tl tp :=
  ⟨fun i hi => by
    obtain ⟨ad, e, h1, h2, h3, h4⟩ := h.at_ i hi
    have l := Nat.lt_of_lt_of_le h1 h.le
    exact ⟨ad, e, h1, (hb.cell (p := ad.add (i * 3)) (in_add l)).trans h2, (hb.cell (p := ⟨(ad.add (i * 3)).block, (ad.add (i * 3)).off + 1, none⟩) (in_add l)).trans h3, (hb.cell (p := ⟨(ad.add (i * 3)).block, (ad.add (i * 3)).off + 2, none⟩) (in_add l)).trans h4⟩, Nat.le_trans h.le hb.size⟩
theorem Bk.c7 {W : World} {g : Nat} {a b c d e f k : Value} {T : TypeId} (h : Bk W g (.cells #[a, b, c, d, e, f, k] T (0, 0))) :
    W.cell? ⟨g, 0, none⟩ = some a ∧ W.cell? ⟨g, 1, none⟩ = some b ∧ W.cell? ⟨g, 2, none⟩ = some c ∧ W.cell? ⟨g, 3, none⟩ = some d ∧ W.cell? ⟨g, 4, none⟩ = some e ∧ W.cell? ⟨g, 5, none⟩ = some f ∧ W.cell? ⟨g, 6, none⟩ = some k := by
  have hh := fun i => cell_of_row W _ i _ _ _ h
  exact ⟨hh 0, hh 1, hh 2, hh 3, hh 4, hh 5, hh 6⟩
/-- A case whose lists are short. -/
structure Css (N : Nd) (W : Wd) (p : Nat) (tl : Nat → ByteArray) : Prop where
  s : Nss N
  n : W.n ≤ 20
  m : W.m ≤ 20
  pp : p ≤ 30 ∨ 200 < p
  t : ∀ j, j < p → (tl j).size ≤ 40
set_option maxRecDepth 100000 in
set_option maxHeartbeats 4000000 in
theorem Short_any {w : World} {B0 B1 B2 : Nat} {N : Nd} {W : Wd} {P : Option Addr} {p u : Nat} {tm : Nat → Int} {tl : Nat → ByteArray} {tp : Nat → Bool} (h : Nt w B0 N) (hw : Wt w B1 W) (hT : Tl w B2 P p tm tl tp) (hp9 : p ≤ 9223372036854775807)
    (hszl : ∀ i, i < N.k → (N.l i).nm.size < 9223372036854775808 ∧ (N.l i).fr.size < 9223372036854775808 ∧ (N.l i).tw.size < 9223372036854775808) (hsb : ∀ i, i < N.n → (N.b i).nm.size < 9223372036854775808) (hsz : ∀ i, i < p → (tl i).size < 9223372036854775808) :
    Calls Try.prog 18 #[.agg #[.slice N.A N.n N.c, .slice N.M N.m N.d, .slice N.K N.k N.e, .int .i64 W.min, .slice W.A W.n W.c, .slice W.M W.m W.d, .slice P p u]] w fun e w' => ∃ r : Bool, e = .returned (.bool r) ∧ Hid (r = true → Css N W p tl) ∧ Below w.heap.size w w' := by
  have hn9 : W.n ≤ 9223372036854775807 := by have := Nat.le_trans hw.nc hw.cm; unfold maxLen at this; omega
  have hm9 : W.m ≤ 9223372036854775807 := by have := Nat.le_trans hw.md hw.dm; unfold maxLen at this; omega
  obtain ⟨g, hg⟩ : ∃ g, w.heap.size = g := ⟨_, rfl⟩
  have hb0 := alo (W := w) (o := .cells #[.slice N.A N.n N.c, .slice N.M N.m N.d, .slice N.K N.k N.e, .int .i64 W.min, .slice W.A W.n W.c, .slice W.M W.m W.d, .slice P p u] 51)
  have R1 := Bk.of_alloc w (.cells #[.slice N.A N.n N.c, .slice N.M N.m N.d, .slice N.K N.k N.e, .int .i64 W.min, .slice W.A W.n W.c, .slice W.M W.m W.d, .slice P p u] 51) hg
  have K1 := h.below hb0
  have T1 := hT.below hb0
  go_enter Try.func18, Try.ntmps18
  go_upto_region 1 with fail
  generalize w.alloc (.cells #[.slice N.A N.n N.c, .slice N.M N.m N.d, .slice N.K N.k N.e, .int .i64 W.min, .slice W.A W.n W.c, .slice W.M W.m W.d, .slice P p u] 51) = W0 at *
  have HB0 := hid hb0
  clear hb0 hg h hw hT
  obtain ⟨x0, x1, x2, x3, x4, x5, x6⟩ := R1.c7
  go_wp2_with fail
  refine (short_any K1 hszl hsb).mono ?_
  rintro e w2 ⟨r, rfl, hr, hb⟩
  have R2 := R1.step hb
  have T2 := T1.below hb
  have HB2 := hid (bthen HB0.out hb (Nat.le_refl _))
  clear hb R1 K1 T1 x0 x1 x2 x3 x4 x5 x6
  obtain ⟨x0, x1, x2, x3, x4, x5, x6⟩ := R2.c7
  cases r with
  | false =>
    go_wp2
    go_ret
    exact ⟨false, rfl, hid (fun h => by cases h), HB2.out⟩
  | true =>
    have Hss := hid (hr.out rfl)
    clear hr
    by_cases h10 : 20 < W.n
    · have d1 : decide ((20 : Int) < (W.n : Int)) = true := decide_eq_true (by omega)
      go_wp2
      go_ret
      exact ⟨false, rfl, hid (fun h => by cases h), HB2.out⟩
    · have d1 : decide ((20 : Int) < (W.n : Int)) = false := decide_eq_false (by omega)
      by_cases h14 : 20 < W.m
      · have d2 : decide ((20 : Int) < (W.m : Int)) = true := decide_eq_true (by omega)
        go_wp2
        go_ret
        exact ⟨false, rfl, hid (fun h => by cases h), HB2.out⟩
      · have d2 : decide ((20 : Int) < (W.m : Int)) = false := decide_eq_false (by omega)
        by_cases h30 : 30 < p
        · have d3 : decide ((30 : Int) < (p : Int)) = true := decide_eq_true (by omega)
          by_cases h400 : p ≤ 200
          · have d4 : decide ((p : Int) ≤ 200) = true := decide_eq_true (by omega)
            go_wp2
            go_ret
            exact ⟨false, rfl, hid (fun h => by cases h), HB2.out⟩
          · have d4 : decide ((p : Int) ≤ 200) = false := decide_eq_false (by omega)
            have HPP := hid (show p ≤ 30 ∨ 200 < p from .inr (by omega))
            go_wp2_with fail
            clear x0 x1 x2 x3 x4 x5 x6 d1 d2 d3
            go_loopw [3] (fun iv wr => ∃ i : Nat, i ≤ p ∧ iv = .int .i64 i ∧ Hid (∀ j, j < i → (tl j).size ≤ 40) ∧ Below w2.heap.size w2 wr) (fun iv _ => p - (intOf iv).toNat)
            case atStart => exact ⟨0, Nat.zero_le _, rfl, hid (fun j hj => absurd hj (Nat.not_lt_zero _)), Below.refl _ _⟩
            case round =>
              obtain ⟨i, hi, rfl, HN, hbel⟩ := hrel
              have T3 := T2.below hbel
              obtain ⟨x0, x1, x2, x3, x4, x5, x6⟩ := (R2.step hbel).c7
              have HB3 := hid (bthen HB2.out hbel (Nat.le_refl _))
              have Hbel := hid hbel
              clear hbel
              by_cases hlt : i < p
              · obtain ⟨ad, hA, hl, q0, q1, q2⟩ := T3.at_ i hlt
                have dlt : decide ((i : Int) < (p : Int)) = true := decide_eq_true (by omega)
                have hsz' := hsz i hlt
                obtain ⟨s, hs⟩ : ∃ s, tl i = s := ⟨_, rfl⟩
                rw [hs] at q1 hsz'
                have Hs := hid hs
                subst hA
                clear hs
                by_cases e1 : 40 < s.size
                · have f1 : decide ((40 : Int) < (s.size : Int)) = true := decide_eq_true (by omega)
                  go_wp2
                  go_ret
                  exact ⟨false, rfl, hid (fun h => by cases h), HB3.out⟩
                · have f1 : decide ((40 : Int) < (s.size : Int)) = false := decide_eq_false (by omega)
                  go_wp2
                  go_roundw
                  case rel => exact ⟨i + 1, by omega, by go_num, hid (fun j hj => by rcases Nat.lt_or_ge j i with h | h; exact HN.out j h; have : j = i := (by omega); subst this; rw [Hs.out]; omega), Hbel.out⟩
                  case measure => simp [intOf]; omega
              · have e : i = p := by omega
                have dlt : decide ((i : Int) < (p : Int)) = false := decide_eq_false (by omega)
                subst e
                go_wp2
                go_ret
                exact ⟨true, rfl, hid (fun _ => ⟨Hss.out, by omega, by omega, HPP.out, HN.out⟩), HB3.out⟩
        · have d3 : decide ((30 : Int) < (p : Int)) = false := decide_eq_false (by omega)
          have HPP := hid (show p ≤ 30 ∨ 200 < p from .inl (by omega))
          go_wp2_with fail
          clear x0 x1 x2 x3 x4 x5 x6 d1 d2 d3
          go_loopw [3] (fun iv wr => ∃ i : Nat, i ≤ p ∧ iv = .int .i64 i ∧ Hid (∀ j, j < i → (tl j).size ≤ 40) ∧ Below w2.heap.size w2 wr) (fun iv _ => p - (intOf iv).toNat)
          case atStart => exact ⟨0, Nat.zero_le _, rfl, hid (fun j hj => absurd hj (Nat.not_lt_zero _)), Below.refl _ _⟩
          case round =>
            obtain ⟨i, hi, rfl, HN, hbel⟩ := hrel
            have T3 := T2.below hbel
            obtain ⟨x0, x1, x2, x3, x4, x5, x6⟩ := (R2.step hbel).c7
            have HB3 := hid (bthen HB2.out hbel (Nat.le_refl _))
            have Hbel := hid hbel
            clear hbel
            by_cases hlt : i < p
            · obtain ⟨ad, hA, hl, q0, q1, q2⟩ := T3.at_ i hlt
              have dlt : decide ((i : Int) < (p : Int)) = true := decide_eq_true (by omega)
              have hsz' := hsz i hlt
              obtain ⟨s, hs⟩ : ∃ s, tl i = s := ⟨_, rfl⟩
              rw [hs] at q1 hsz'
              have Hs := hid hs
              subst hA
              clear hs
              by_cases e1 : 40 < s.size
              · have f1 : decide ((40 : Int) < (s.size : Int)) = true := decide_eq_true (by omega)
                go_wp2
                go_ret
                exact ⟨false, rfl, hid (fun h => by cases h), HB3.out⟩
              · have f1 : decide ((40 : Int) < (s.size : Int)) = false := decide_eq_false (by omega)
                go_wp2
                go_roundw
                case rel => exact ⟨i + 1, by omega, by go_num, hid (fun j hj => by rcases Nat.lt_or_ge j i with h | h; exact HN.out j h; have : j = i := (by omega); subst this; rw [Hs.out]; omega), Hbel.out⟩
                case measure => simp [intOf]; omega
            · have e : i = p := by omega
              have dlt : decide ((i : Int) < (p : Int)) = false := decide_eq_false (by omega)
              subst e
              go_wp2
              go_ret
              exact ⟨true, rfl, hid (fun _ => ⟨Hss.out, by omega, by omega, HPP.out, HN.out⟩), HB3.out⟩

end Go.Proofs.Ytndcopljjnbkbaa
