/- The error of a basin: sizeError, CheckBasin, of the program and of the reference. For all basins. -/
import Derived.Test.YtndcopljjnbkbaaWbn
import Derived.IntWalk
namespace Go.Proofs.Ytndcopljjnbkbaa
open Go.RowKit Kb Wb

/-- Area i is within the limits. -/
def Rg (F S : Nat → Int) (i : Nat) : Prop := (-1000000 ≤ F i ∧ F i ≤ 1000000) ∧ (1 ≤ S i ∧ S i ≤ 1000000)
/-- Area i is right behind the one before it. -/
def Ga (F S : Nat → Int) (i : Nat) : Prop := Rg F S i ∧ (0 < i → F (i - 1) < F i)
/-- r is the error of a basin but for its name. -/
def Sz (n : Nat) (F S : Nat → Int) (rim r : Int) : Prop :=
  (¬ (1 ≤ n ∧ n ≤ 20) ∧ r = 2) ∨ ((1 ≤ n ∧ n ≤ 20) ∧
    ((∃ i, i < n ∧ (∀ j, j < i → Ga F S j) ∧ ((¬ Rg F S i ∧ r = 2) ∨ (Rg F S i ∧ 0 < i ∧ F i ≤ F (i - 1) ∧ r = 10))) ∨
     ((∀ j, j < n → Ga F S j) ∧ ((¬ (F (n - 1) < rim ∧ rim ≤ 1000000) ∧ r = 2) ∨ ((F (n - 1) < rim ∧ rim ≤ 1000000) ∧ r = 0)))))
theorem Sz.same {n : Nat} {F S : Nat → Int} {rim r q : Int} (h : Sz n F S rim r) (k : Sz n F S rim q) : r = q := by
  rcases h with ⟨a, rfl⟩ | ⟨a, h⟩ <;> rcases k with ⟨b, rfl⟩ | ⟨b, k⟩
  · rfl
  · exact absurd b a
  · exact absurd a b
  · rcases h with ⟨i, hi, hg, h⟩ | ⟨hg, h⟩ <;> rcases k with ⟨j, hj, kg, k⟩ | ⟨kg, k⟩
    · have hni : ¬ Ga F S i := fun g => by
        rcases h with ⟨h, _⟩ | ⟨_, h0, h, _⟩
        · exact h g.1
        · have := g.2 h0; omega
      have hnj : ¬ Ga F S j := fun g => by
        rcases k with ⟨h, _⟩ | ⟨_, h0, h, _⟩
        · exact h g.1
        · have := g.2 h0; omega
      have e : i = j := by
        rcases Nat.lt_trichotomy i j with l | l | l
        · exact absurd (kg i l) hni
        · exact l
        · exact absurd (hg j l) hnj
      subst e
      rcases h with ⟨h, rfl⟩ | ⟨h, _, _, rfl⟩ <;> rcases k with ⟨k, rfl⟩ | ⟨k, _, _, rfl⟩
      · rfl
      · exact absurd k h
      · exact absurd h k
      · rfl
    · exfalso
      have g := kg i hi
      rcases h with ⟨h, _⟩ | ⟨_, h0, h, _⟩
      · exact h g.1
      · have := g.2 h0; omega
    · exfalso
      have g := hg j hj
      rcases k with ⟨h, _⟩ | ⟨_, h0, h, _⟩
      · exact h g.1
      · have := g.2 h0; omega
    · rcases h with ⟨h, rfl⟩ | ⟨h, rfl⟩ <;> rcases k with ⟨k, rfl⟩ | ⟨k, rfl⟩
      · rfl
      · exact absurd k h
      · exact absurd h k
      · rfl
theorem Sz.bas {n : Nat} {F S : Nat → Int} {rim : Int} (h : Sz n F S rim 0) : Bas F S n rim := by
  rcases h with ⟨_, h⟩ | ⟨a, h⟩
  · cases h
  · rcases h with ⟨i, hi, hg, ⟨_, h⟩ | ⟨_, _, _, h⟩⟩ | ⟨hg, ⟨_, h⟩ | ⟨h, _⟩⟩
    · cases h
    · cases h
    · cases h
    · exact ⟨by omega, by omega, fun i hi => (hg i hi).1.1, fun i hi => (hg i hi).1.2, fun i hi => (hg (i + 1) hi).2 (Nat.succ_pos _), h.1, h.2⟩
theorem Sz.of_bas {n : Nat} {F S : Nat → Int} {rim r : Int} (h : Sz n F S rim r) (B : Bas F S n rim) : r = 0 := by
  refine h.same (.inr ⟨⟨B.pos, B.most⟩, .inr ⟨fun j hj => ⟨⟨B.f j hj, B.s j hj⟩, fun h0 => ?_⟩, .inr ⟨⟨B.rl, B.rm⟩, rfl⟩⟩⟩)
  have := B.up (j - 1) (by omega)
  rwa [Nat.sub_add_cancel h0] at this

set_option maxRecDepth 100000 in
set_option maxHeartbeats 8000000 in
theorem sizeError_any {w : World} {B0 n c : Nat} {A : Option Addr} {F S : Nat → Int} {rim : Int} (s : ByteArray) (h : Pa w B0 A n F S) (hn : n ≤ maxLen) :
    Calls Try.prog 79 #[.agg #[.string s, .slice A n c, .int .i64 rim]] w fun e w' => ∃ r : Int, e = .returned (.int .i64 r) ∧ Hid (Sz n F S rim r) ∧ Below w.heap.size w w' := by
  unfold maxLen at hn
  have hb0 := alo (W := w) (o := (.cells #[.string s, .slice A n c, .int .i64 rim] 42))
  have j1 := Bk.of_alloc w (.cells #[.string s, .slice A n c, .int .i64 rim] 42) rfl
  have h0 := h.below hb0
  obtain ⟨g, hg⟩ : ∃ g, w.heap.size = g := ⟨_, rfl⟩
  clear h
  by_cases h20 : inB (n : Int) 1 20 = true
  · have h20' := inB_iff.1 h20
    go_enter Try.func79, Try.ntmps79
    go_wp2_with (((with_reducible refine (Within_any _ _ _ _).mono ?_); rintro e w' ⟨rfl, rfl⟩))
    rw [hg] at j1
    generalize w.alloc (.cells #[.string s, .slice A n c, .int .i64 rim] 42) = W0 at *
    have HB0 := hid hb0
    have Hg := hid hg
    clear hb0 hg h20
    go_loopw [14] (fun iv wr => ∃ (i : Nat), i ≤ n ∧ iv = .int .i64 i ∧ Hid (∀ j, j < i → Ga F S j) ∧ Below W0.heap.size W0 wr) (fun iv _ => n - (intOf iv).toNat)
    case atStart => exact ⟨0, Nat.zero_le _, rfl, hid (fun j hj => absurd hj (Nat.not_lt_zero _)), Below.refl _ _⟩
    case round =>
      obtain ⟨i, hi, rfl, HN, hbel⟩ := hrel
      have hw := h0.below hbel
      have j2 := j1.step hbel
      have Hbel := hid hbel
      have hBE := hid (bthen HB0.out hbel (Nat.le_refl _))
      clear hbel
      obtain ⟨x0, x1, x2⟩ := j2.c3
      by_cases hlt : i < n
      · obtain ⟨ad, hA, hl, q0, q1, qf, qs⟩ := hw.at_ i hlt
        subst hA
        have hl2 := Nat.lt_of_lt_of_le hl hw.le
        have j3 := j2.alloc (.cells #[.int .i64 (F i), .int .i64 (S i)] 113)
        obtain ⟨gb, hgb⟩ : ∃ gb, wr.heap.size = gb := ⟨_, rfl⟩
        have jb := Bk.of_alloc wr (.cells #[.int .i64 (F i), .int .i64 (S i)] 113) hgb
        have ha := alo (W := wr) (o := (.cells #[.int .i64 (F i), .int .i64 (S i)] 113))
        have hwa := hw.below ha
        have Hba := hid (Hbel.out.trans (ha.mono Hbel.out.size))
        have HBa := hid (bthen hBE.out ha (Nat.le_refl _))
        clear hw ha j2
        by_cases hF : inB (F i) (-1000000) 1000000 = true
        · have hF' := inB_iff.1 hF
          by_cases hS : inB (S i) 1 1000000 = true
          · have hS' := inB_iff.1 hS
            have HR := hid (show Rg F S i from ⟨hF', hS'⟩)
            go_wp2_with fail
            generalize wr.alloc (.cells #[.int .i64 (F i), .int .i64 (S i)] 113) = wa at *
            clear x0 x1 x2 q0 q1
            obtain ⟨x0, x1, x2⟩ := j3.c3
            obtain ⟨b0, b1⟩ := jb.c2
            refine (isLevel_any _ _).mono ?_
            rintro e w' ⟨rfl, rfl⟩
            by_cases hp : 0 < i
            · obtain ⟨ad', hA', hl', p0, p1, pf, ps⟩ := hwa.at_ (i - 1) (by omega)
              injection hA' with hA'
              subst hA'
              have hip : (decide ((0 : Int) < (i : Int))) = true := decide_eq_true (by omega)
              have hip2 : (decide (0 < i)) = true := decide_eq_true hp
              have hi1 : (1 : Int) ≤ (i : Int) := by omega
              by_cases ho : F (i - 1) < F i
              · have hod : decide (F i ≤ F (i - 1)) = false := decide_eq_false (by omega)
                have HG := hid (show Ga F S i from ⟨HR.out, fun _ => ho⟩)
                go_wp2_with (((with_reducible refine (Within_any _ _ _ _).mono ?_); rintro e w' ⟨rfl, rfl⟩))
                have w1 : IntKind.i64.wrap ((i : Int) - 1) = (i : Int) - 1 := IntWalk.i64_in _ (by omega)
                have w2 : ((i : Int) - 1).toNat = i - 1 := by omega
                have w3 : (0 : Int) ≤ (i : Int) - 1 := by omega
                have w4 : (i : Int) - 1 < (n : Int) := by omega
                go_quiet (fail)
                clear w1 w2 w3 w4
                go_wp2
                go_roundw
                case rel => exact ⟨i + 1, by omega, by go_num, hid (fun j hj => by rcases Nat.lt_or_ge j i with h | h; exact HN.out j h; have : j = i := (by omega); subst this; exact HG.out), Hba.out.drewN' _⟩
                case measure => simp [intOf]; omega
              · have hod : decide (F i ≤ F (i - 1)) = true := decide_eq_true (by omega)
                have HE := hid (show Sz n F S rim 10 from .inr ⟨by omega, .inl ⟨i, hlt, HN.out, .inr ⟨HR.out, hp, by omega, rfl⟩⟩⟩)
                go_wp2_with (((with_reducible refine (Within_any _ _ _ _).mono ?_); rintro e w' ⟨rfl, rfl⟩))
                have w1 : IntKind.i64.wrap ((i : Int) - 1) = (i : Int) - 1 := IntWalk.i64_in _ (by omega)
                have w2 : ((i : Int) - 1).toNat = i - 1 := by omega
                have w3 : (0 : Int) ≤ (i : Int) - 1 := by omega
                have w4 : (i : Int) - 1 < (n : Int) := by omega
                go_quiet (fail)
                clear w1 w2 w3 w4
                go_wp2
                go_ret
                exact ⟨10, rfl, HE, HBa.out.drewN' _⟩
            · have hip : (decide ((0 : Int) < (i : Int))) = false := decide_eq_false (by omega)
              have hip2 : (decide (0 < i)) = false := decide_eq_false hp
              have HG := hid (show Ga F S i from ⟨HR.out, fun h => absurd h hp⟩)
              go_wp2_with (((with_reducible refine (Within_any _ _ _ _).mono ?_); rintro e w' ⟨rfl, rfl⟩))
              go_quiet (fail)
              go_wp2
              go_roundw
              case rel => exact ⟨i + 1, by omega, by go_num, hid (fun j hj => by rcases Nat.lt_or_ge j i with h | h; exact HN.out j h; have : j = i := (by omega); subst this; exact HG.out), Hba.out.drewN' _⟩
              case measure => simp [intOf]; omega
          · have hS0 := Bool.eq_false_iff.2 hS
            have HE := hid (show Sz n F S rim 2 from .inr ⟨by omega, .inl ⟨i, hlt, HN.out, .inl ⟨fun hg => hS (inB_t hg.2), rfl⟩⟩⟩)
            clear hS
            go_wp2_with (first | ((with_reducible refine (Within_any _ _ _ _).mono ?_); rintro e w' ⟨rfl, rfl⟩) | ((with_reducible refine (isLevel_any _ _).mono ?_); rintro e w' ⟨rfl, rfl⟩))
            go_ret
            exact ⟨2, rfl, HE, HBa.out⟩
        · have hF0 := Bool.eq_false_iff.2 hF
          have HE := hid (show Sz n F S rim 2 from .inr ⟨by omega, .inl ⟨i, hlt, HN.out, .inl ⟨fun hg => hF (inB_t hg.1), rfl⟩⟩⟩)
          clear hF
          go_wp2_with (first | ((with_reducible refine (Within_any _ _ _ _).mono ?_); rintro e w' ⟨rfl, rfl⟩) | ((with_reducible refine (isLevel_any _ _).mono ?_); rintro e w' ⟨rfl, rfl⟩))
          go_ret
          exact ⟨2, rfl, HE, HBa.out⟩
      · obtain rfl : i = n := by omega
        obtain ⟨ad, hA, hl, q0, q1, qf, qs⟩ := hw.at_ (i - 1) (by omega)
        subst hA
        have hb := (HN.out (i - 1) (by omega)).1.1
        by_cases hm : inB rim (F (i - 1) + 1) 1000000 = true
        · have hm' := inB_iff.1 hm
          have HE := hid (show Sz i F S rim 0 from .inr ⟨by omega, .inr ⟨HN.out, .inr ⟨⟨by omega, by omega⟩, rfl⟩⟩⟩)
          go_wp2_with (((with_reducible refine (Within_any _ _ _ _).mono ?_); rintro e w' ⟨rfl, rfl⟩))
          go_ret
          exact ⟨0, rfl, HE, hBE.out⟩
        · have HE := hid (show Sz i F S rim 2 from .inr ⟨by omega, .inr ⟨HN.out, .inl ⟨fun hx => hm (inB_t ⟨by omega, by omega⟩), rfl⟩⟩⟩)
          have hm0 := Bool.eq_false_iff.2 hm
          clear hm
          go_wp2_with (((with_reducible refine (Within_any _ _ _ _).mono ?_); rintro e w' ⟨rfl, rfl⟩))
          go_ret
          exact ⟨2, rfl, HE, hBE.out⟩
  · have h20' := Bool.eq_false_iff.2 h20
    have HE := hid (show Sz n F S rim 2 from .inl ⟨fun hx => h20 (inB_t ⟨by omega, by omega⟩), rfl⟩)
    clear h20
    go_enter Try.func79, Try.ntmps79
    go_wp2_with (((with_reducible refine (Within_any _ _ _ _).mono ?_); rintro e w' ⟨rfl, rfl⟩))
    go_ret
    exact ⟨2, rfl, HE, hb0⟩

/-- r is the error of a basin whose name is right or not. -/
def Cb (nm : Bool) (n : Nat) (F S : Nat → Int) (rim r : Int) : Prop := (nm = false ∧ r = 4) ∨ (nm = true ∧ Sz n F S rim r)
theorem Cb.same {nm : Bool} {n : Nat} {F S : Nat → Int} {rim r q : Int} (h : Cb nm n F S rim r) (k : Cb nm n F S rim q) : r = q := by
  rcases h with ⟨a, h⟩ | ⟨a, h⟩ <;> rcases k with ⟨b, k⟩ | ⟨b, k⟩
  · omega
  · rw [a] at b; cases b
  · rw [a] at b; cases b
  · exact h.same k
theorem Cb.bas {nm : Bool} {n : Nat} {F S : Nat → Int} {rim : Int} (h : Cb nm n F S rim 0) : Bas F S n rim := by
  rcases h with ⟨_, h⟩ | ⟨_, h⟩
  · cases h
  · exact h.bas

set_option maxRecDepth 100000 in
set_option maxHeartbeats 8000000 in
theorem CheckBasin_any {w : World} {B0 n c : Nat} {A : Option Addr} {F S : Nat → Int} {rim : Int} {s : ByteArray} (h : Pa w B0 A n F S) (hn : n ≤ maxLen) (hs : s.size ≤ 1000000000) :
    Calls Try.prog 74 #[.agg #[.string s, .slice A n c, .int .i64 rim]] w fun e w' => ∃ r : Int, e = .returned (.int .i64 r) ∧ Hid (Cb (nameB s) n F S rim r) ∧ Below w.heap.size w w' := by
  have hb0 := alo (W := w) (o := (.cells #[.string s, .slice A n c, .int .i64 rim] 42))
  have j1 := Bk.of_alloc w (.cells #[.string s, .slice A n c, .int .i64 rim] 42) rfl
  have h0 := h.below hb0
  obtain ⟨g, hg⟩ : ∃ g, w.heap.size = g := ⟨_, rfl⟩
  clear h
  have hn' := hid hn
  clear hn
  by_cases hm : nameB s = true
  · go_enter Try.func74, Try.ntmps74
    go_wp2_with (((with_reducible refine (IsName_any _ _ hs).mono ?_); rintro e w' ⟨rfl, rfl⟩))
    have HM := hid hm
    clear hm
    refine (sizeError_any s h0 hn'.out).mono ?_
    rintro e w2 ⟨r, rfl, hz, hb⟩
    have HE := hid (show Cb (nameB s) n F S rim r from .inr ⟨HM.out, hz.out⟩)
    have HB := hid (bthen hb0 hb (Nat.le_refl _))
    clear hb hb0 h0 j1 hz
    go_wp2
    go_ret
    exact ⟨r, rfl, HE, HB.out⟩
  · have hm' := Bool.eq_false_iff.2 hm
    have HE := hid (show Cb (nameB s) n F S rim 4 from .inl ⟨hm', rfl⟩)
    clear hm
    go_enter Try.func74, Try.ntmps74
    go_wp2_with (((with_reducible refine (IsName_any _ _ hs).mono ?_); rintro e w' ⟨rfl, rfl⟩))
    go_ret
    exact ⟨4, rfl, HE, hb0⟩

set_option maxRecDepth 100000 in
set_option maxHeartbeats 8000000 in
theorem rCheckBasin_any {w : World} {B0 n c : Nat} {A : Option Addr} {F S : Nat → Int} {rim : Int} {s : ByteArray} (h : Pa w B0 A n F S) (hn : n ≤ maxLen) (hs : s.size ≤ 1000000000) :
    Calls Try.prog 41 #[.agg #[.string s, .slice A n c, .int .i64 rim]] w fun e w' => ∃ r : Int, e = .returned (.int .i64 r) ∧ Hid (Cb (nameB s) n F S rim r) ∧ Below w.heap.size w w' := by
  unfold maxLen at hn
  have hb0 := alo (W := w) (o := (.cells #[.string s, .slice A n c, .int .i64 rim] 42))
  have j1 := Bk.of_alloc w (.cells #[.string s, .slice A n c, .int .i64 rim] 42) rfl
  have h0 := h.below hb0
  obtain ⟨g, hg⟩ : ∃ g, w.heap.size = g := ⟨_, rfl⟩
  clear h
  by_cases hm : nameB s = true
  · have hsz : ∀ r, Sz n F S rim r → Hid (Cb (nameB s) n F S rim r) := fun r hz => hid (.inr ⟨hm, hz⟩)
    by_cases hn0 : n = 0
    · have HE := hsz 2 (.inl ⟨by omega, rfl⟩)
      have hq : ((n : Int) == 0) = true := by rw [beq_iff_eq]; omega
      clear hsz
      have hn0' := hid hn0
      clear hn0
      go_enter Try.func41, Try.ntmps41
      go_wp2_with (((with_reducible refine (rIsName_any _ _ hs).mono ?_); rintro e w' ⟨rfl, rfl⟩))
      go_ret
      exact ⟨2, rfl, HE, hb0⟩
    · have hq : ((n : Int) == 0) = false := by rw [beq_eq_false_iff_ne]; omega
      by_cases h20 : 20 < n
      · have HE := hsz 2 (.inl ⟨by omega, rfl⟩)
        have hd : decide ((20 : Int) < (n : Int)) = true := decide_eq_true (by omega)
        clear hsz
        go_enter Try.func41, Try.ntmps41
        go_wp2_with (((with_reducible refine (rIsName_any _ _ hs).mono ?_); rintro e w' ⟨rfl, rfl⟩))
        go_ret
        exact ⟨2, rfl, HE, hb0⟩
      · have hd : decide ((20 : Int) < (n : Int)) = false := decide_eq_false (by omega)
        have Hsz := hid hsz
        clear hsz
        go_enter Try.func41, Try.ntmps41
        go_wp2_with (((with_reducible refine (rIsName_any _ _ hs).mono ?_); rintro e w' ⟨rfl, rfl⟩))
        rw [hg] at j1
        generalize w.alloc (.cells #[.string s, .slice A n c, .int .i64 rim] 42) = W0 at *
        have HB0 := hid hb0
        have Hg := hid hg
        clear hb0 hg hq hd hm
        go_loopw [3, 4] (fun iv _ wr => ∃ (i : Nat), i ≤ n ∧ iv = .int .i64 i ∧ Hid (∀ j, j < i → Ga F S j) ∧ Below W0.heap.size W0 wr) (fun iv _ _ => n - (intOf iv).toNat)
        case atStart => exact ⟨0, Nat.zero_le _, rfl, hid (fun j hj => absurd hj (Nat.not_lt_zero _)), Below.refl _ _⟩
        case round =>
          obtain ⟨i, hi, rfl, HN, hbel⟩ := hrel
          have hw := h0.below hbel
          have j2 := j1.step hbel
          have Hbel := hid hbel
          have hBE := hid (bthen HB0.out hbel (Nat.le_refl _))
          clear hbel
          obtain ⟨x0, x1, x2⟩ := j2.c3
          by_cases hlt : i < n
          · obtain ⟨ad, hA, hl, q0, q1, qf, qs⟩ := hw.at_ i hlt
            subst hA
            have hl2 := Nat.lt_of_lt_of_le hl hw.le
            have j3 := j2.alloc (.cells #[.int .i64 (F i), .int .i64 (S i)] 113)
            obtain ⟨gb, hgb⟩ : ∃ gb, wr.heap.size = gb := ⟨_, rfl⟩
            have jb := Bk.of_alloc wr (.cells #[.int .i64 (F i), .int .i64 (S i)] 113) hgb
            have ha := alo (W := wr) (o := (.cells #[.int .i64 (F i), .int .i64 (S i)] 113))
            have hwa := hw.below ha
            have Hba := hid (Hbel.out.trans (ha.mono Hbel.out.size))
            have HBa := hid (bthen hBE.out ha (Nat.le_refl _))
            clear hw ha j2
            by_cases hF : inB (F i) (-1000000) 1000000 = true
            · have hF' := inB_iff.1 hF
              by_cases hS : inB (S i) 1 1000000 = true
              · have hS' := inB_iff.1 hS
                have HR := hid (show Rg F S i from ⟨hF', hS'⟩)
                go_wp2_with fail
                generalize wr.alloc (.cells #[.int .i64 (F i), .int .i64 (S i)] 113) = wa at *
                clear x0 x1 x2 q0 q1
                obtain ⟨x0, x1, x2⟩ := j3.c3
                obtain ⟨b0, b1⟩ := jb.c2
                refine (inside_any _ _ _ _).mono ?_
                rintro e w' ⟨rfl, rfl⟩
                by_cases hp : 0 < i
                · obtain ⟨ad', hA', hl', p0, p1, pf, ps⟩ := hwa.at_ (i - 1) (by omega)
                  injection hA' with hA'
                  subst hA'
                  have hip : (decide ((0 : Int) < (i : Int))) = true := decide_eq_true (by omega)
                  have hip2 : (decide (0 < i)) = true := decide_eq_true hp
                  have hi1 : (1 : Int) ≤ (i : Int) := by omega
                  by_cases ho : F (i - 1) < F i
                  · have hod : decide (F i ≤ F (i - 1)) = false := decide_eq_false (by omega)
                    have HG := hid (show Ga F S i from ⟨HR.out, fun _ => ho⟩)
                    go_wp2_with (((with_reducible refine (inside_any _ _ _ _).mono ?_); rintro e w' ⟨rfl, rfl⟩))
                    have w1 : IntKind.i64.wrap ((i : Int) - 1) = (i : Int) - 1 := IntWalk.i64_in _ (by omega)
                    have w2 : ((i : Int) - 1).toNat = i - 1 := by omega
                    have w3 : (0 : Int) ≤ (i : Int) - 1 := by omega
                    have w4 : (i : Int) - 1 < (n : Int) := by omega
                    go_quiet (fail)
                    clear w1 w2 w3 w4
                    go_wp2
                    go_roundw
                    case rel => exact ⟨i + 1, by omega, by go_num, hid (fun j hj => by rcases Nat.lt_or_ge j i with h | h; exact HN.out j h; have : j = i := (by omega); subst this; exact HG.out), Hba.out.drewN' _⟩
                    case measure => simp [intOf]; omega
                  · have hod : decide (F i ≤ F (i - 1)) = true := decide_eq_true (by omega)
                    have HE := Hsz.out 10 (.inr ⟨by omega, .inl ⟨i, hlt, HN.out, .inr ⟨HR.out, hp, by omega, rfl⟩⟩⟩)
                    go_wp2_with (((with_reducible refine (inside_any _ _ _ _).mono ?_); rintro e w' ⟨rfl, rfl⟩))
                    have w1 : IntKind.i64.wrap ((i : Int) - 1) = (i : Int) - 1 := IntWalk.i64_in _ (by omega)
                    have w2 : ((i : Int) - 1).toNat = i - 1 := by omega
                    have w3 : (0 : Int) ≤ (i : Int) - 1 := by omega
                    have w4 : (i : Int) - 1 < (n : Int) := by omega
                    go_quiet (fail)
                    clear w1 w2 w3 w4
                    go_wp2
                    go_ret
                    exact ⟨10, rfl, HE, HBa.out.drewN' _⟩
                · have hip : (decide ((0 : Int) < (i : Int))) = false := decide_eq_false (by omega)
                  have hip2 : (decide (0 < i)) = false := decide_eq_false hp
                  have HG := hid (show Ga F S i from ⟨HR.out, fun h => absurd h hp⟩)
                  go_wp2_with (((with_reducible refine (inside_any _ _ _ _).mono ?_); rintro e w' ⟨rfl, rfl⟩))
                  go_quiet (fail)
                  go_wp2
                  go_roundw
                  case rel => exact ⟨i + 1, by omega, by go_num, hid (fun j hj => by rcases Nat.lt_or_ge j i with h | h; exact HN.out j h; have : j = i := (by omega); subst this; exact HG.out), Hba.out.drewN' _⟩
                  case measure => simp [intOf]; omega
              · have hS0 := Bool.eq_false_iff.2 hS
                have HE := Hsz.out 2 (.inr ⟨by omega, .inl ⟨i, hlt, HN.out, .inl ⟨fun hg => hS (inB_t hg.2), rfl⟩⟩⟩)
                clear hS
                go_wp2_with (((with_reducible refine (inside_any _ _ _ _).mono ?_); rintro e w' ⟨rfl, rfl⟩))
                go_ret
                exact ⟨2, rfl, HE, HBa.out⟩
            · have hF0 := Bool.eq_false_iff.2 hF
              have HE := Hsz.out 2 (.inr ⟨by omega, .inl ⟨i, hlt, HN.out, .inl ⟨fun hg => hF (inB_t hg.1), rfl⟩⟩⟩)
              clear hF
              go_wp2_with (((with_reducible refine (inside_any _ _ _ _).mono ?_); rintro e w' ⟨rfl, rfl⟩))
              go_ret
              exact ⟨2, rfl, HE, HBa.out⟩
          · obtain rfl : i = n := by omega
            obtain ⟨ad, hA, hl, q0, q1, qf, qs⟩ := hw.at_ (i - 1) (by omega)
            subst hA
            have hb := (HN.out (i - 1) (by omega)).1.1
            have w1 : IntKind.i64.wrap ((i : Int) - 1) = (i : Int) - 1 := IntWalk.i64_in _ (by omega)
            have w2 : ((i : Int) - 1).toNat = i - 1 := by omega
            have w3 : (0 : Int) ≤ (i : Int) - 1 := by omega
            have w5 : (1 : Int) ≤ (i : Int) := by omega
            have w4 : (i : Int) - 1 < (i : Int) := by omega
            have ok1 := hid (fun (h1 : F (i - 1) < rim) (h2 : rim ≤ 1000000) => Hsz.out 0 (.inr ⟨by omega, .inr ⟨HN.out, .inr ⟨⟨h1, h2⟩, rfl⟩⟩⟩))
            have ok2 := hid (fun (h1 : ¬ (F (i - 1) < rim ∧ rim ≤ 1000000)) => Hsz.out 2 (.inr ⟨by omega, .inr ⟨HN.out, .inl ⟨h1, rfl⟩⟩⟩))
            by_cases hm1 : F (i - 1) < rim
            · have d1 : decide (rim ≤ F (i - 1)) = false := decide_eq_false (by omega)
              by_cases hm2 : rim ≤ 1000000
              · have HE := ok1.out hm1 hm2
                have d2 : decide (1000000 < rim) = false := decide_eq_false (by omega)
                go_wp2
                go_quiet (fail)
                go_wp2
                go_ret
                exact ⟨0, rfl, HE, hBE.out.drewN' _⟩
              · have HE := ok2.out (fun hx => hm2 hx.2)
                have d2 : decide (1000000 < rim) = true := decide_eq_true (by omega)
                go_wp2
                go_quiet (fail)
                go_wp2
                go_ret
                exact ⟨2, rfl, HE, hBE.out.drewN' _⟩
            · have HE := ok2.out (fun hx => hm1 hx.1)
              have d1 : decide (rim ≤ F (i - 1)) = true := decide_eq_true (by omega)
              go_wp2
              go_quiet (fail)
              go_wp2
              go_ret
              exact ⟨2, rfl, HE, hBE.out.drewN' _⟩
  · have hm' := Bool.eq_false_iff.2 hm
    have HE := hid (show Cb (nameB s) n F S rim 4 from .inl ⟨hm', rfl⟩)
    clear hm
    go_enter Try.func41, Try.ntmps41
    go_wp2_with (((with_reducible refine (rIsName_any _ _ hs).mono ?_); rintro e w' ⟨rfl, rfl⟩))
    go_ret
    exact ⟨4, rfl, HE, hb0⟩

end Go.Proofs.Ytndcopljjnbkbaa
