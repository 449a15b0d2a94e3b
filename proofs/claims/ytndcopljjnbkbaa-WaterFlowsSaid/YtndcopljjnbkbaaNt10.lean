/- Networks: short, none, SameWater, Ints of the laws. -/
import Derived.Test.YtndcopljjnbkbaaNt9
namespace Go.Proofs.Ytndcopljjnbkbaa
open Go.RowKit Go.Maps Kb Wb

/-- No gate of the slice at A is open. -/
structure Fs (w : World) (B0 : Nat) (A : Option Addr) (n : Nat) : Prop where
  at_ : ∀ i, i < n → ∃ ad, A = some ad ∧ ad.block < B0 ∧ w.cell? (ad.add i) = some (.bool false)
  le : B0 ≤ w.heap.size
theorem Fs.below {w w' : World} {B0 n : Nat} {A : Option Addr} (h : Fs w B0 A n) (hb : Below w.heap.size w w') : Fs w' B0 A n :=
  ⟨fun i hi => by
    obtain ⟨ad, e, h1, h2⟩ := h.at_ i hi
    exact ⟨ad, e, h1, (hb.cell (p := ad.add i) (in_add (Nat.lt_of_lt_of_le h1 h.le))).trans h2⟩, Nat.le_trans h.le hb.size⟩
theorem add0 (g i : Nat) : (⟨g, 0, none⟩ : Addr).add i = ⟨g, i, none⟩ := by
  unfold Addr.add
  split <;> simp_all
theorem Fs.of_bk {w : World} {g n : Nat} {T : TypeId} (h : Bk w g (.cells (Array.replicate n (.bool false)) T (0, 0))) : Fs w w.heap.size (some ⟨g, 0, none⟩) n :=
  ⟨fun i hi => ⟨_, rfl, h.lt, by
    rw [add0]
    exact (cell_of_row _ _ i _ _ _ h).trans (by simp [hi])⟩, Nat.le_refl _⟩
theorem Ys.of_own {w : World} {base n : Nat} {T : TypeId} {v : Value} {Z : Nat → Int} (h : w.ownsRow base T 1 v n (ints Z n)) : ∃ A c, v = .slice A n c ∧ Ys w w.heap.size A n Z ∧ n ≤ c ∧ c ≤ maxLen := by
  rcases h.2 with ⟨hv, hn⟩ | ⟨g, cap, cur, hv, hb, hg, h1, h2, h3, h4⟩
  · exact ⟨none, 0, by rw [hv, hn], ⟨fun i hi => by omega, Nat.le_refl _⟩, by omega, by unfold maxLen; omega⟩
  · have hgl := (Array.getElem?_eq_some_iff.1 hg).1
    refine ⟨some ⟨g, 0, none⟩, cap, hv, ⟨fun i hi => ⟨⟨g, 0, none⟩, rfl, hgl, h.cells (g := g) (by rw [hv]; rfl) _ _ (ints_get Z hi)⟩, Nat.le_refl _⟩, h1, h2⟩
theorem Ys.nil (w : World) (Z : Nat → Int) : Ys w w.heap.size none 0 Z := ⟨fun _ hi => absurd hi (Nat.not_lt_zero _), Nat.le_refl _⟩
theorem Fs.nil (w : World) : Fs w w.heap.size none 0 := ⟨fun _ hi => absurd hi (Nat.not_lt_zero _), Nat.le_refl _⟩

section
variable {w : World} {B0 B1 n c c' : Nat} {A A' : Option Addr} {Z : Nat → Int}
set_option maxRecDepth 100000 in
theorem Ints_true (h : Ys w B0 A n Z) (k : Ys w B1 A' n Z) (hn : n ≤ 9223372036854775807) :
    Calls Try.prog 17 #[.slice A n c, .slice A' n c'] w fun e w' => e = .returned (.bool true) ∧ Below w.heap.size w w' := by
  go_enter Try.func17, Try.ntmps17
  go_wp2_with fail
  go_loopw [5] (fun iv wr => ∃ i : Nat, i ≤ n ∧ iv = .int .i64 i ∧ Below w.heap.size w wr) (fun iv _ => n - (intOf iv).toNat)
  case atStart => exact ⟨0, Nat.zero_le _, rfl, Below.refl _ _⟩
  case round =>
    obtain ⟨i, hi, rfl, hbel⟩ := hrel
    have P := h.below hbel
    have Q := k.below hbel
    have Hbel := hid hbel
    clear hbel
    by_cases hlt : i < n
    · obtain ⟨a1, hA1, -, q0⟩ := P.at_ i hlt
      obtain ⟨a2, hA2, -, r0⟩ := Q.at_ i hlt
      subst hA1
      subst hA2
      go_wp2
      go_quiet (fail)
      go_wp2
      go_roundw
      case rel => exact ⟨i + 1, by omega, by go_num, Hbel.out.drewN' _⟩
      case measure => simp [intOf]; omega
    · obtain rfl : i = n := by omega
      go_wp2
      go_ret
      exact ⟨rfl, Hbel.out⟩

set_option maxRecDepth 100000 in
theorem SameWater_true {m d d' : Nat} {M M' : Option Addr} (t : Int) (h : Ys w B0 A n Z) (k : Ys w B1 A' n Z) (f : Fs w B0 M m) (f' : Fs w B1 M' m) (hn : n ≤ 9223372036854775807) (hm : m ≤ 9223372036854775807) :
    Calls Try.prog 16 #[.agg #[.int .i64 t, .slice A n c, .slice M m d], .agg #[.int .i64 t, .slice A' n c', .slice M' m d']] w fun e w' => e = .returned (.bool true) ∧ Below w.heap.size w w' := by
  obtain ⟨g, hg⟩ : ∃ g, w.heap.size = g := ⟨_, rfl⟩
  have hb0 := ((Below.refl w.heap.size w).alloc (Nat.le_refl _) (.cells #[.int .i64 t, .slice A n c, .slice M m d] 33)).alloc (by simp) (.cells #[.int .i64 t, .slice A' n c', .slice M' m d'] 33)
  have R1 := (Bk.of_alloc w (.cells #[.int .i64 t, .slice A n c, .slice M m d] 33) hg).alloc (.cells #[.int .i64 t, .slice A' n c', .slice M' m d'] 33)
  have S1 : Bk _ (g + 1) _ := Bk.of_alloc (w.alloc (.cells #[.int .i64 t, .slice A n c, .slice M m d] 33)) (.cells #[.int .i64 t, .slice A' n c', .slice M' m d'] 33) (by simp [hg])
  have h1 := h.below hb0
  have k1 := k.below hb0
  have f1 := f.below hb0
  have g1 := f'.below hb0
  go_enter Try.func16, Try.ntmps16
  go_upto_region 1 with fail
  generalize (w.alloc (.cells #[.int .i64 t, .slice A n c, .slice M m d] 33)).alloc (.cells #[.int .i64 t, .slice A' n c', .slice M' m d'] 33) = W0 at *
  have HB0 := hid hb0
  have Hg := hid hg
  clear hb0 hg h k f f'
  obtain ⟨r0, r1, r2⟩ := R1.c3
  obtain ⟨s0, s1, s2⟩ := S1.c3
  go_wp2_with fail
  refine (Ints_true h1 k1 hn).mono ?_
  rintro e w2 ⟨rfl, hb⟩
  have F2 := f1.below hb
  have G2 := g1.below hb
  have R2 := R1.step hb
  have S2 := S1.step hb
  have HB2 := hid (bthen HB0.out hb (Nat.le_refl _))
  clear hb h1 k1 f1 g1 R1 S1 r0 r1 r2 s0 s1 s2
  obtain ⟨r0, r1, r2⟩ := R2.c3
  obtain ⟨s0, s1, s2⟩ := S2.c3
  go_wp2_with fail
  clear r0 r1 r2 s0 s1 s2
  go_loopw [5] (fun iv wr => ∃ i : Nat, i ≤ m ∧ iv = .int .i64 i ∧ Below w2.heap.size w2 wr) (fun iv _ => m - (intOf iv).toNat)
  case atStart => exact ⟨0, Nat.zero_le _, rfl, Below.refl _ _⟩
  case round =>
    obtain ⟨i, hi, rfl, hbel⟩ := hrel
    have P := F2.below hbel
    have Q := G2.below hbel
    obtain ⟨r0, r1, r2⟩ := (R2.step hbel).c3
    obtain ⟨s0, s1, s2⟩ := (S2.step hbel).c3
    have Hbel := hid hbel
    clear hbel
    by_cases hlt : i < m
    · obtain ⟨a1, hA1, -, q0⟩ := P.at_ i hlt
      obtain ⟨a2, hA2, -, p0⟩ := Q.at_ i hlt
      subst hA1
      subst hA2
      go_wp2
      go_quiet (fail)
      go_wp2
      go_roundw
      case rel => exact ⟨i + 1, by omega, by go_num, Hbel.out.drewN' _⟩
      case measure => simp [intOf]; omega
    · obtain rfl : i = m := by omega
      go_wp2
      go_ret
      exact ⟨rfl, bthen HB2.out Hbel.out (Nat.le_refl _)⟩

set_option maxRecDepth 100000 in
theorem none_true (w : World) :
    Calls Try.prog 14 #[.agg #[.int .i64 0, .slice none 0 0, .slice none 0 0]] w fun e w' => e = .returned (.bool true) ∧ Below w.heap.size w w' := by
  obtain ⟨g, hg⟩ : ∃ g, w.heap.size = g := ⟨_, rfl⟩
  have hb0 := alo (W := w) (o := .cells #[.int .i64 0, .slice none 0 0, .slice none 0 0] 33)
  have R1 := Bk.of_alloc w (.cells #[.int .i64 0, .slice none 0 0, .slice none 0 0] 33) hg
  go_enter Try.func14, Try.ntmps14
  go_upto_region 1 with fail
  generalize w.alloc (.cells #[.int .i64 0, .slice none 0 0, .slice none 0 0] 33) = W0 at *
  have HB0 := hid hb0
  clear hb0
  obtain ⟨r0, r1, r2⟩ := R1.c3
  go_wp2_with fail
  refine (SameWater_true (A := none) (A' := none) (n := 0) (M := none) (M' := none) (m := 0) 0 (Ys.nil _ fun _ => 0) (Ys.nil _ fun _ => 0) (Fs.nil _) (Fs.nil _) (by decide) (by decide)).mono ?_
  rintro e w2 ⟨rfl, hb⟩
  have HB2 := hid (bthen HB0.out hb (Nat.le_refl _))
  clear hb
  go_wp2
  go_ret
  exact ⟨rfl, HB2.out⟩
end

/-- A network whose lists are short. -/
structure Nss (N : Nd) : Prop where
  n : N.n ≤ 10
  k : N.k ≤ 14
  m : N.m ≤ 30 ∨ 400 < N.m
  b : ∀ i, i < N.n → (N.b i).n ≤ 30 ∧ (N.b i).nm.size ≤ 40
  l : ∀ i, i < N.k → (N.l i).nm.size ≤ 40 ∧ (N.l i).fr.size ≤ 40 ∧ (N.l i).tw.size ≤ 40
theorem Nss.sm {N : Nd} (h : Nss N) : Nsm N := ⟨Nat.le_trans h.n (by decide), Nat.le_trans h.k (by decide), fun i hi => Nat.le_trans (h.b i hi).2 (by decide), fun i hi => Nat.le_trans (h.l i hi).1 (by decide)⟩
set_option maxRecDepth 100000 in
set_option maxHeartbeats 4000000 in
theorem short_any {w : World} {B0 : Nat} {N : Nd} (h : Nt w B0 N) (hsz : ∀ i, i < N.k → (N.l i).nm.size < 9223372036854775808 ∧ (N.l i).fr.size < 9223372036854775808 ∧ (N.l i).tw.size < 9223372036854775808) (hsb : ∀ i, i < N.n → (N.b i).nm.size < 9223372036854775808) :
    Calls Try.prog 9 #[.agg #[.slice N.A N.n N.c, .slice N.M N.m N.d, .slice N.K N.k N.e]] w fun e w' => ∃ p : Bool, e = .returned (.bool p) ∧ Hid (p = true → Nss N) ∧ Below w.heap.size w w' := by
  have HA := hid (Nat.le_trans h.nc h.cm)
  have HM := hid (Nat.le_trans h.md h.dm)
  have HK := hid (Nat.le_trans h.ke h.em)
  have hn9 : N.n ≤ 9223372036854775807 := by have := HA.out; unfold maxLen at this; omega
  have hm9 : N.m ≤ 9223372036854775807 := by have := HM.out; unfold maxLen at this; omega
  have hk9 : N.k ≤ 9223372036854775807 := by have := HK.out; unfold maxLen at this; omega
  obtain ⟨g, hg⟩ : ∃ g, w.heap.size = g := ⟨_, rfl⟩
  have hb0 := alo (W := w) (o := .cells #[.slice N.A N.n N.c, .slice N.M N.m N.d, .slice N.K N.k N.e] 26)
  have K1 := Nb.new h hg
  go_enter Try.func9, Try.ntmps9
  go_upto_region 1 with fail
  generalize w.alloc (.cells #[.slice N.A N.n N.c, .slice N.M N.m N.d, .slice N.K N.k N.e] 26) = W0 at *
  have HB0 := hid hb0
  clear hb0 hg
  obtain ⟨x0, x1, x2⟩ := K1.cells
  by_cases h10 : 10 < N.n
  · have d1 : decide ((10 : Int) < (N.n : Int)) = true := decide_eq_true (by omega)
    go_wp2
    go_ret
    exact ⟨false, rfl, hid (fun h => by cases h), HB0.out⟩
  · have d1 : decide ((10 : Int) < (N.n : Int)) = false := decide_eq_false (by omega)
    by_cases h14 : 14 < N.k
    · have d2 : decide ((14 : Int) < (N.k : Int)) = true := decide_eq_true (by omega)
      go_wp2
      go_ret
      exact ⟨false, rfl, hid (fun h => by cases h), HB0.out⟩
    · have d2 : decide ((14 : Int) < (N.k : Int)) = false := decide_eq_false (by omega)
      by_cases h30 : 30 < N.m
      · have d3 : decide ((30 : Int) < (N.m : Int)) = true := decide_eq_true (by omega)
        by_cases h400 : N.m ≤ 400
        · have d4 : decide ((N.m : Int) ≤ 400) = true := decide_eq_true (by omega)
          go_wp2
          go_ret
          exact ⟨false, rfl, hid (fun h => by cases h), HB0.out⟩
        · have d4 : decide ((N.m : Int) ≤ 400) = false := decide_eq_false (by omega)
          have HMM := hid (show N.m ≤ 30 ∨ 400 < N.m from .inr (by omega))
          go_wp2_with fail
          clear x0 x1 x2 d1 d2 d3
          go_loopw [3] (fun iv wr => ∃ i : Nat, i ≤ N.n ∧ iv = .int .i64 i ∧ Hid (∀ j, j < i → (N.b j).n ≤ 30 ∧ (N.b j).nm.size ≤ 40) ∧ Below W0.heap.size W0 wr) (fun iv _ => N.n - (intOf iv).toNat)
          case atStart => exact ⟨0, Nat.zero_le _, rfl, hid (fun j hj => absurd hj (Nat.not_lt_zero _)), Below.refl _ _⟩
          case round =>
            obtain ⟨i, hi, rfl, HN, hbel⟩ := hrel
            have K2 := K1.below hbel
            obtain ⟨x0, x1, x2⟩ := K2.cells
            have HB2 := hid (bthen HB0.out hbel (Nat.le_refl _))
            have Hbel := hid hbel
            clear hbel
            by_cases hlt : i < N.n
            · obtain ⟨ad, hA, hl, q0, q1, q2, hP, hP1, hP2⟩ := K2.a.b.at_ i hlt
              have dlt : decide ((i : Int) < (N.n : Int)) = true := decide_eq_true (by omega)
              have hbn : (N.b i).n ≤ 9223372036854775807 := by unfold maxLen at hP2; omega
              have hbs := hsb i hlt
              obtain ⟨B, hB⟩ : ∃ B, N.b i = B := ⟨_, rfl⟩
              rw [hB] at q0 q1 q2 hbn hbs
              clear hP hP1 hP2
              by_cases e1 : 30 < B.n
              · have f1 : decide ((30 : Int) < (B.n : Int)) = true := decide_eq_true (by omega)
                go_wp2
                go_ret
                exact ⟨false, rfl, hid (fun h => by cases h), HB2.out⟩
              · have f1 : decide ((30 : Int) < (B.n : Int)) = false := decide_eq_false (by omega)
                by_cases e2 : 40 < B.nm.size
                · have f2 : decide ((40 : Int) < (B.nm.size : Int)) = true := decide_eq_true (by omega)
                  go_wp2
                  go_ret
                  exact ⟨false, rfl, hid (fun h => by cases h), HB2.out⟩
                · have f2 : decide ((40 : Int) < (B.nm.size : Int)) = false := decide_eq_false (by omega)
                  go_wp2
                  go_roundw
                  case rel => exact ⟨i + 1, by omega, by go_num, hid (fun j hj => by rcases Nat.lt_or_ge j i with h | h; exact HN.out j h; have : j = i := (by omega); subst this; rw [hB]; exact ⟨by omega, by omega⟩), Hbel.out⟩
                  case measure => simp [intOf]; omega
            · have e : i = N.n := by omega
              have dlt : decide ((i : Int) < (N.n : Int)) = false := decide_eq_false (by omega)
              subst e
              go_wp2_with fail
              clear x0 x1 x2 dlt
              go_loopw [4] (fun iv wr2 => ∃ i : Nat, i ≤ N.k ∧ iv = .int .i64 i ∧ Hid (∀ j, j < i → (N.l j).nm.size ≤ 40 ∧ (N.l j).fr.size ≤ 40 ∧ (N.l j).tw.size ≤ 40) ∧ Below wr.heap.size wr wr2) (fun iv _ => N.k - (intOf iv).toNat)
              case atStart => exact ⟨0, Nat.zero_le _, rfl, hid (fun j hj => absurd hj (Nat.not_lt_zero _)), Below.refl _ _⟩
              case round =>
                obtain ⟨i, hi, rfl, HL, hbel⟩ := hrel
                have K3 := K2.below hbel
                obtain ⟨x0, x1, x2⟩ := K3.cells
                have HB3 := hid (bthen HB2.out hbel (Nat.le_refl _))
                have Hbel3 := hid hbel
                clear hbel
                by_cases hlt : i < N.k
                · obtain ⟨ad, hA, hl, q0, q1, q2, q3, q4, q5, q6, q7⟩ := K3.a.l.at_ i hlt
                  have dlt : decide ((i : Int) < (N.k : Int)) = true := decide_eq_true (by omega)
                  obtain ⟨z1, z2, z3⟩ := hsz i hlt
                  obtain ⟨B, hB⟩ : ∃ B, N.l i = B := ⟨_, rfl⟩
                  rw [hB] at q0 q1 q2 q3 q4 q5 q6 q7 z1 z2 z3
                  by_cases e1 : 40 < B.nm.size
                  · have f1 : decide ((40 : Int) < (B.nm.size : Int)) = true := decide_eq_true (by omega)
                    go_wp2
                    go_ret
                    exact ⟨false, rfl, hid (fun h => by cases h), HB3.out⟩
                  · have f1 : decide ((40 : Int) < (B.nm.size : Int)) = false := decide_eq_false (by omega)
                    by_cases e2 : 40 < B.fr.size
                    · have f2 : decide ((40 : Int) < (B.fr.size : Int)) = true := decide_eq_true (by omega)
                      go_wp2
                      go_ret
                      exact ⟨false, rfl, hid (fun h => by cases h), HB3.out⟩
                    · have f2 : decide ((40 : Int) < (B.fr.size : Int)) = false := decide_eq_false (by omega)
                      by_cases e3 : 40 < B.tw.size
                      · have f3 : decide ((40 : Int) < (B.tw.size : Int)) = true := decide_eq_true (by omega)
                        go_wp2
                        go_ret
                        exact ⟨false, rfl, hid (fun h => by cases h), HB3.out⟩
                      · have f3 : decide ((40 : Int) < (B.tw.size : Int)) = false := decide_eq_false (by omega)
                        go_wp2
                        go_roundw
                        case rel => exact ⟨i + 1, by omega, by go_num, hid (fun j hj => by rcases Nat.lt_or_ge j i with h | h; exact HL.out j h; have : j = i := (by omega); subst this; rw [hB]; exact ⟨by omega, by omega, by omega⟩), Hbel3.out⟩
                        case measure => simp [intOf]; omega
                · have e : i = N.k := by omega
                  have dlt : decide ((i : Int) < (N.k : Int)) = false := decide_eq_false (by omega)
                  subst e
                  go_wp2
                  go_ret
                  exact ⟨true, rfl, hid (fun _ => ⟨by omega, by omega, HMM.out, HN.out, HL.out⟩), HB3.out⟩
      · have d3 : decide ((30 : Int) < (N.m : Int)) = false := decide_eq_false (by omega)
        have HMM := hid (show N.m ≤ 30 ∨ 400 < N.m from .inl (by omega))
        go_wp2_with fail
        clear x0 x1 x2 d1 d2 d3
        go_loopw [3] (fun iv wr => ∃ i : Nat, i ≤ N.n ∧ iv = .int .i64 i ∧ Hid (∀ j, j < i → (N.b j).n ≤ 30 ∧ (N.b j).nm.size ≤ 40) ∧ Below W0.heap.size W0 wr) (fun iv _ => N.n - (intOf iv).toNat)
        case atStart => exact ⟨0, Nat.zero_le _, rfl, hid (fun j hj => absurd hj (Nat.not_lt_zero _)), Below.refl _ _⟩
        case round =>
          obtain ⟨i, hi, rfl, HN, hbel⟩ := hrel
          have K2 := K1.below hbel
          obtain ⟨x0, x1, x2⟩ := K2.cells
          have HB2 := hid (bthen HB0.out hbel (Nat.le_refl _))
          have Hbel := hid hbel
          clear hbel
          by_cases hlt : i < N.n
          · obtain ⟨ad, hA, hl, q0, q1, q2, hP, hP1, hP2⟩ := K2.a.b.at_ i hlt
            have dlt : decide ((i : Int) < (N.n : Int)) = true := decide_eq_true (by omega)
            have hbn : (N.b i).n ≤ 9223372036854775807 := by unfold maxLen at hP2; omega
            have hbs := hsb i hlt
            obtain ⟨B, hB⟩ : ∃ B, N.b i = B := ⟨_, rfl⟩
            rw [hB] at q0 q1 q2 hbn hbs
            clear hP hP1 hP2
            by_cases e1 : 30 < B.n
            · have f1 : decide ((30 : Int) < (B.n : Int)) = true := decide_eq_true (by omega)
              go_wp2
              go_ret
              exact ⟨false, rfl, hid (fun h => by cases h), HB2.out⟩
            · have f1 : decide ((30 : Int) < (B.n : Int)) = false := decide_eq_false (by omega)
              by_cases e2 : 40 < B.nm.size
              · have f2 : decide ((40 : Int) < (B.nm.size : Int)) = true := decide_eq_true (by omega)
                go_wp2
                go_ret
                exact ⟨false, rfl, hid (fun h => by cases h), HB2.out⟩
              · have f2 : decide ((40 : Int) < (B.nm.size : Int)) = false := decide_eq_false (by omega)
                go_wp2
                go_roundw
                case rel => exact ⟨i + 1, by omega, by go_num, hid (fun j hj => by rcases Nat.lt_or_ge j i with h | h; exact HN.out j h; have : j = i := (by omega); subst this; rw [hB]; exact ⟨by omega, by omega⟩), Hbel.out⟩
                case measure => simp [intOf]; omega
          · have e : i = N.n := by omega
            have dlt : decide ((i : Int) < (N.n : Int)) = false := decide_eq_false (by omega)
            subst e
            go_wp2_with fail
            clear x0 x1 x2 dlt
            go_loopw [4] (fun iv wr2 => ∃ i : Nat, i ≤ N.k ∧ iv = .int .i64 i ∧ Hid (∀ j, j < i → (N.l j).nm.size ≤ 40 ∧ (N.l j).fr.size ≤ 40 ∧ (N.l j).tw.size ≤ 40) ∧ Below wr.heap.size wr wr2) (fun iv _ => N.k - (intOf iv).toNat)
            case atStart => exact ⟨0, Nat.zero_le _, rfl, hid (fun j hj => absurd hj (Nat.not_lt_zero _)), Below.refl _ _⟩
            case round =>
              obtain ⟨i, hi, rfl, HL, hbel⟩ := hrel
              have K3 := K2.below hbel
              obtain ⟨x0, x1, x2⟩ := K3.cells
              have HB3 := hid (bthen HB2.out hbel (Nat.le_refl _))
              have Hbel3 := hid hbel
              clear hbel
              by_cases hlt : i < N.k
              · obtain ⟨ad, hA, hl, q0, q1, q2, q3, q4, q5, q6, q7⟩ := K3.a.l.at_ i hlt
                have dlt : decide ((i : Int) < (N.k : Int)) = true := decide_eq_true (by omega)
                obtain ⟨z1, z2, z3⟩ := hsz i hlt
                obtain ⟨B, hB⟩ : ∃ B, N.l i = B := ⟨_, rfl⟩
                rw [hB] at q0 q1 q2 q3 q4 q5 q6 q7 z1 z2 z3
                by_cases e1 : 40 < B.nm.size
                · have f1 : decide ((40 : Int) < (B.nm.size : Int)) = true := decide_eq_true (by omega)
                  go_wp2
                  go_ret
                  exact ⟨false, rfl, hid (fun h => by cases h), HB3.out⟩
                · have f1 : decide ((40 : Int) < (B.nm.size : Int)) = false := decide_eq_false (by omega)
                  by_cases e2 : 40 < B.fr.size
                  · have f2 : decide ((40 : Int) < (B.fr.size : Int)) = true := decide_eq_true (by omega)
                    go_wp2
                    go_ret
                    exact ⟨false, rfl, hid (fun h => by cases h), HB3.out⟩
                  · have f2 : decide ((40 : Int) < (B.fr.size : Int)) = false := decide_eq_false (by omega)
                    by_cases e3 : 40 < B.tw.size
                    · have f3 : decide ((40 : Int) < (B.tw.size : Int)) = true := decide_eq_true (by omega)
                      go_wp2
                      go_ret
                      exact ⟨false, rfl, hid (fun h => by cases h), HB3.out⟩
                    · have f3 : decide ((40 : Int) < (B.tw.size : Int)) = false := decide_eq_false (by omega)
                      go_wp2
                      go_roundw
                      case rel => exact ⟨i + 1, by omega, by go_num, hid (fun j hj => by rcases Nat.lt_or_ge j i with h | h; exact HL.out j h; have : j = i := (by omega); subst this; rw [hB]; exact ⟨by omega, by omega, by omega⟩), Hbel3.out⟩
                      case measure => simp [intOf]; omega
              · have e : i = N.k := by omega
                have dlt : decide ((i : Int) < (N.k : Int)) = false := decide_eq_false (by omega)
                subst e
                go_wp2
                go_ret
                exact ⟨true, rfl, hid (fun _ => ⟨by omega, by omega, HMM.out, HN.out, HL.out⟩), HB3.out⟩

end Go.Proofs.Ytndcopljjnbkbaa
