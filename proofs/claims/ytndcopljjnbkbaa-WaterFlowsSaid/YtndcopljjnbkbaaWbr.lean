/- The volume below a level by the reference: Below, Capacity, Floor; capacity and isLevelOf of the program. For all basins that are right. -/
import Derived.Test.YtndcopljjnbkbaaWbv
namespace Go.Proofs.Ytndcopljjnbkbaa
open Go.RowKit Kb Wb

set_option maxRecDepth 100000 in
set_option maxHeartbeats 8000000 in
theorem rBelow_any {w : World} {B0 n c : Nat} {A : Option Addr} {F S : Nat → Int} {rim lv : Int} (s : ByteArray) (h : Pa w B0 A n F S) (B : Bas F S n rim) (h1 : -1000000 ≤ lv) (h2 : lv ≤ 1000000) :
    Calls Try.prog 53 #[.agg #[.string s, .slice A n c, .int .i64 rim], .int .i64 lv] w fun e w' => e = .returned (.int .i64 (wbelow F S n lv)) ∧ Below w.heap.size w w' := by
  have hn := B.most
  have hb0 := alo (W := w) (o := (.cells #[.string s, .slice A n c, .int .i64 rim] 42))
  have j1 := Bk.of_alloc w (.cells #[.string s, .slice A n c, .int .i64 rim] 42) rfl
  have h0 := h.below hb0
  obtain ⟨g, hg⟩ : ∃ g, w.heap.size = g := ⟨_, rfl⟩
  clear h
  go_enter Try.func53, Try.ntmps53
  go_wp2_with fail
  rw [hg] at j1
  generalize w.alloc (.cells #[.string s, .slice A n c, .int .i64 rim] 42) = W0 at *
  have HB0 := hid hb0
  have Hg := hid hg
  clear hb0 hg
  go_loopw [5, 6, 7] (fun sv iv _ wr => ∃ (i : Nat), i ≤ n ∧ iv = .int .i64 i ∧ sv = .int .i64 (wsum F S n lv i) ∧ Below W0.heap.size W0 wr) (fun _ iv _ _ => n - (intOf iv).toNat)
  case atStart => exact ⟨0, Nat.zero_le _, rfl, rfl, Below.refl _ _⟩
  case round =>
    obtain ⟨i, hi, rfl, rfl, hbel⟩ := hrel
    have hw := h0.below hbel
    have j2 := j1.step hbel
    have Hbel := hid hbel
    have hBE := hid (bthen HB0.out hbel (Nat.le_refl _))
    have hsr := wsum_range B h2 i hi
    clear hbel
    obtain ⟨x0, x1, x2⟩ := j2.c3
    obtain ⟨V, hV⟩ : ∃ V, wsum F S n lv i = V := ⟨_, rfl⟩
    rw [hV] at hsr ⊢
    have HV := hid hV
    clear hV
    by_cases hlt : i < n
    · obtain ⟨ad, hA, hl, q0, q1, qf, qs⟩ := hw.at_ i hlt
      subst hA
      have hl2 := Nat.lt_of_lt_of_le hl hw.le
      have hf := B.f i hlt
      have hs := B.s i hlt
      by_cases hx : i + 1 < n
      · obtain ⟨ad', hA', hl', p0, p1, pf, ps⟩ := hw.at_ (i + 1) (by omega)
        injection hA' with hA'
        subst hA'
        have hf2 := B.f (i + 1) hx
        have hup := B.up i hx
        have hd : decide ((i : Int) + 1 < (n : Int)) = true := decide_eq_true (by omega)
        by_cases hm : lv ≤ F (i + 1)
        · have ht : wtop F n lv i = lv := by unfold wtop; rw [if_pos hx]; omega
          by_cases hc : F i < lv
          · have hp := prod_le B hlt (t := lv) (by omega) h2
            have hst := hid (wsum_step (S := S) ht (by omega))
            clear ht
            go_wp2
            have w1 : IntKind.i64.wrap (lv - F i) = lv - F i := IntWalk.i64_in _ (by omega)
            have w2 : IntKind.i64.wrap (S i * (lv - F i)) = S i * (lv - F i) := IntWalk.i64_in _ (by omega)
            have w3 : IntKind.i64.wrap (V + S i * (lv - F i)) = V + S i * (lv - F i) := IntWalk.i64_in _ (by omega)
            go_quiet (fail)
            clear w1 w2 w3
            go_wp2
            go_roundw
            case rel => exact ⟨i + 1, by omega, by go_num, by rw [hst.out, HV.out], Hbel.out.drewN' _⟩
            case measure => simp [intOf]; omega
          · have hst := hid (wsum_stay (S := S) ht hc)
            clear ht
            go_wp2
            go_roundw
            case rel => exact ⟨i + 1, by omega, by go_num, by rw [hst.out, HV.out], Hbel.out⟩
            case measure => simp [intOf]; omega
        · have ht : wtop F n lv i = F (i + 1) := by unfold wtop; rw [if_pos hx]; omega
          have hp := prod_le B hlt (t := F (i + 1)) hup hf2.2
          have hst := hid (wsum_step (S := S) ht hup)
          have hm2 : F (i + 1) < lv := by omega
          clear ht hm
          go_wp2
          have w1 : IntKind.i64.wrap (F (i + 1) - F i) = F (i + 1) - F i := IntWalk.i64_in _ (by omega)
          have w2 : IntKind.i64.wrap (S i * (F (i + 1) - F i)) = S i * (F (i + 1) - F i) := IntWalk.i64_in _ (by omega)
          have w3 : IntKind.i64.wrap (V + S i * (F (i + 1) - F i)) = V + S i * (F (i + 1) - F i) := IntWalk.i64_in _ (by omega)
          go_quiet (fail)
          clear w1 w2 w3
          go_wp2
          go_roundw
          case rel => exact ⟨i + 1, by omega, by go_num, by rw [hst.out, HV.out], Hbel.out.drewN' _⟩
          case measure => simp [intOf]; omega
      · have ht : wtop F n lv i = lv := by unfold wtop; rw [if_neg hx]
        have hd : decide ((i : Int) + 1 < (n : Int)) = false := decide_eq_false (by omega)
        by_cases hc : F i < lv
        · have hp := prod_le B hlt (t := lv) (by omega) h2
          have hst := hid (wsum_step (S := S) ht (by omega))
          clear ht
          go_wp2
          have w1 : IntKind.i64.wrap (lv - F i) = lv - F i := IntWalk.i64_in _ (by omega)
          have w2 : IntKind.i64.wrap (S i * (lv - F i)) = S i * (lv - F i) := IntWalk.i64_in _ (by omega)
          have w3 : IntKind.i64.wrap (V + S i * (lv - F i)) = V + S i * (lv - F i) := IntWalk.i64_in _ (by omega)
          go_quiet (fail)
          clear w1 w2 w3
          go_wp2
          go_roundw
          case rel => exact ⟨i + 1, by omega, by go_num, by rw [hst.out, HV.out], Hbel.out.drewN' _⟩
          case measure => simp [intOf]; omega
        · have hst := hid (wsum_stay (S := S) ht hc)
          clear ht
          go_wp2
          go_roundw
          case rel => exact ⟨i + 1, by omega, by go_num, by rw [hst.out, HV.out], Hbel.out⟩
          case measure => simp [intOf]; omega
    · obtain rfl : i = n := by omega
      go_wp2
      go_ret
      exact ⟨ret_int HV.out.symm, hBE.out⟩

set_option maxRecDepth 100000 in
theorem capacity_any {w : World} {B0 n c : Nat} {A : Option Addr} {F S : Nat → Int} {rim : Int} (s : ByteArray) (h : Pa w B0 A n F S) (B : Bas F S n rim) :
    Calls Try.prog 75 #[.agg #[.string s, .slice A n c, .int .i64 rim]] w fun e w' => e = .returned (.int .i64 (wbelow F S n rim)) ∧ Below w.heap.size w w' := by
  have hr := B.rm
  have hr0 := floor_rim B
  have hf0 := B.f 0 B.pos
  have hb0 := alo (W := w) (o := (.cells #[.string s, .slice A n c, .int .i64 rim] 42))
  have h0 := h.below hb0
  go_enter Try.func75, Try.ntmps75
  go_wp2_with fail
  refine (volume_any s h0 B (by omega) hr).mono ?_
  rintro e w2 ⟨rfl, hb⟩
  have HB := hid (bthen hb0 hb (Nat.le_refl _))
  clear hb hb0 h0
  go_wp2
  go_ret
  exact ⟨rfl, HB.out⟩
set_option maxRecDepth 100000 in
theorem rCapacity_any {w : World} {B0 n c : Nat} {A : Option Addr} {F S : Nat → Int} {rim : Int} (s : ByteArray) (h : Pa w B0 A n F S) (B : Bas F S n rim) :
    Calls Try.prog 28 #[.agg #[.string s, .slice A n c, .int .i64 rim]] w fun e w' => e = .returned (.int .i64 (wbelow F S n rim)) ∧ Below w.heap.size w w' := by
  have hr := B.rm
  have hr0 := floor_rim B
  have hf0 := B.f 0 B.pos
  have hb0 := alo (W := w) (o := (.cells #[.string s, .slice A n c, .int .i64 rim] 42))
  have h0 := h.below hb0
  go_enter Try.func28, Try.ntmps28
  go_wp2_with fail
  refine (rBelow_any s h0 B (by omega) hr).mono ?_
  rintro e w2 ⟨rfl, hb⟩
  have HB := hid (bthen hb0 hb (Nat.le_refl _))
  clear hb hb0 h0
  go_wp2
  go_ret
  exact ⟨rfl, HB.out⟩
set_option maxRecDepth 100000 in
theorem rFloor_any {w : World} {B0 n c : Nat} {A : Option Addr} {F S : Nat → Int} {rim : Int} (s : ByteArray) (h : Pa w B0 A n F S) (hn : 0 < n) :
    Calls Try.prog 52 #[.agg #[.string s, .slice A n c, .int .i64 rim]] w fun e w' => e = .returned (.int .i64 (F 0)) ∧ Below w.heap.size w w' := by
  have hb0 := alo (W := w) (o := (.cells #[.string s, .slice A n c, .int .i64 rim] 42))
  have j1 := Bk.of_alloc w (.cells #[.string s, .slice A n c, .int .i64 rim] 42) rfl
  have h0 := h.below hb0
  obtain ⟨ad, hA, hl, q0, q1, qf, qs⟩ := h0.at_ 0 hn
  subst hA
  rw [Nat.zero_mul, addr_zero] at q0
  go_enter Try.func52, Try.ntmps52
  go_wp2_with fail
  go_ret
  exact ⟨rfl, hb0⟩
set_option maxRecDepth 100000 in
theorem isLevelOf_any {w : World} {B0 n c : Nat} {A : Option Addr} {F S : Nat → Int} {rim : Int} (s : ByteArray) (lv : Int) (h : Pa w B0 A n F S) (hn : 0 < n) :
    Calls Try.prog 45 #[.agg #[.string s, .slice A n c, .int .i64 rim], .int .i64 lv] w fun e w' => e = .returned (.bool (inB lv (F 0) rim)) ∧ Below w.heap.size w w' := by
  have hb0 := alo (W := w) (o := (.cells #[.string s, .slice A n c, .int .i64 rim] 42))
  have j1 := Bk.of_alloc w (.cells #[.string s, .slice A n c, .int .i64 rim] 42) rfl
  have h0 := h.below hb0
  obtain ⟨ad, hA, hl, q0, q1, qf, qs⟩ := h0.at_ 0 hn
  subst hA
  rw [Nat.zero_mul, addr_zero] at q0
  go_enter Try.func45, Try.ntmps45
  go_wp2_with fail
  obtain ⟨x0, x1, x2⟩ := j1.c3
  generalize w.alloc (.cells #[.string s, .slice (some ad) n c, .int .i64 rim] 42) = W0 at *
  have HB := hid hb0
  clear hb0
  go_quiet ((exact Calls.quiet_of_same ((Within_any _ _ _ _).mono fun _ _ ⟨ha, hb⟩ => ⟨ha, hb.symm⟩)))
  go_wp2
  go_ret
  exact ⟨rfl, HB.out.drewN' _⟩

end Go.Proofs.Ytndcopljjnbkbaa
