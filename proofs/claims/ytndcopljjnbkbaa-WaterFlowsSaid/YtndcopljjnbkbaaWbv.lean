/- The volume below a level: volume, capacity, of the program; Below, Capacity, Floor, of the reference. For all basins that are right. -/
import Derived.Test.YtndcopljjnbkbaaWbc
import Derived.Deep.DeepCutAuto
namespace Go.Proofs.Wb
section
variable {F S : Nat → Int} {n : Nat} {rim : Int}
/-- Above the level there is nothing. -/
theorem wterm_above (B : Bas F S n rim) {a : Int} {i j : Nat} (h : a ≤ F i) (hij : i ≤ j) (hj : j < n) : wterm F S n a j = 0 := by
  have h1 := F_mono B j i hij hj
  have h2 : wtop F n a j ≤ a := by unfold wtop; split <;> omega
  unfold wterm
  rw [if_neg (by omega)]
theorem wsum_above (B : Bas F S n rim) {a : Int} {i : Nat} (h : a ≤ F i) : ∀ k, i ≤ k → k ≤ n → wsum F S n a k = wsum F S n a i
  | 0, hi, _ => by have : i = 0 := by omega
                   subst this; rfl
  | k + 1, hi, hk => by
    by_cases e : i = k + 1
    · subst e; rfl
    · have ih := wsum_above B h k (by omega) (by omega)
      have h1 := wterm_above B h (j := k) (by omega) (by omega)
      simp only [wsum]; omega
theorem below_above (B : Bas F S n rim) {a : Int} {i : Nat} (h : a ≤ F i) (hi : i ≤ n) : wbelow F S n a = wsum F S n a i := wsum_above B h n hi (Nat.le_refl _)
theorem wsum_step {a t : Int} {i : Nat} (ht : wtop F n a i = t) (h : F i < t) : wsum F S n a (i + 1) = wsum F S n a i + S i * (t - F i) := by
  simp only [wsum, wterm]; rw [ht, if_pos h]
theorem wsum_stay {a t : Int} {i : Nat} (ht : wtop F n a i = t) (h : ¬ F i < t) : wsum F S n a (i + 1) = wsum F S n a i := by
  simp only [wsum, wterm]; rw [ht, if_neg h]; omega
theorem prod_le (B : Bas F S n rim) {t : Int} {i : Nat} (hi : i < n) (h : F i < t) (ht : t ≤ 1000000) : 0 ≤ S i * (t - F i) ∧ S i * (t - F i) ≤ 2000000000000 := by
  have h1 := B.f i hi
  have h2 := B.s i hi
  refine ⟨Int.mul_nonneg (by omega) (by omega), ?_⟩
  calc S i * (t - F i) ≤ S i * 2000000 := Int.mul_le_mul_of_nonneg_left (by omega) (by omega)
    _ ≤ 1000000 * 2000000 := Int.mul_le_mul_of_nonneg_right h2.2 (by omega)
    _ = 2000000000000 := by decide
theorem prod_le' (B : Bas F S n rim) {t : Int} {i : Nat} (hi : i < n) (h : F i < t) (ht : t ≤ 1000000) : 0 ≤ (t - F i) * S i ∧ (t - F i) * S i ≤ 2000000000000 := by
  rw [Int.mul_comm]; exact prod_le B hi h ht
end
end Go.Proofs.Wb
namespace Go.Proofs.Ytndcopljjnbkbaa
open Go.RowKit Kb Wb

set_option maxRecDepth 100000 in
set_option maxHeartbeats 8000000 in
theorem volume_any {w : World} {B0 n c : Nat} {A : Option Addr} {F S : Nat → Int} {rim lv : Int} (s : ByteArray) (h : Pa w B0 A n F S) (B : Bas F S n rim) (h1 : -1000000 ≤ lv) (h2 : lv ≤ 1000000) :
    Calls Try.prog 46 #[.agg #[.string s, .slice A n c, .int .i64 rim], .int .i64 lv] w fun e w' => e = .returned (.int .i64 (wbelow F S n lv)) ∧ Below w.heap.size w w' := by
  have hn := B.most
  have hb0 := alo (W := w) (o := (.cells #[.string s, .slice A n c, .int .i64 rim] 42))
  have j1 := Bk.of_alloc w (.cells #[.string s, .slice A n c, .int .i64 rim] 42) rfl
  have h0 := h.below hb0
  obtain ⟨g, hg⟩ : ∃ g, w.heap.size = g := ⟨_, rfl⟩
  clear h
  go_enter Try.func46, Try.ntmps46
  go_wp2_with fail
  rw [hg] at j1
  generalize w.alloc (.cells #[.string s, .slice A n c, .int .i64 rim] 42) = W0 at *
  have HB0 := hid hb0
  have Hg := hid hg
  clear hb0 hg
  go_loopw [5, 12] (fun sv iv wr => ∃ (i : Nat), i ≤ n ∧ iv = .int .i64 i ∧ sv = .int .i64 (wsum F S n lv i) ∧ Below W0.heap.size W0 wr) (fun _ iv _ => n - (intOf iv).toNat)
  case atStart => exact ⟨0, Nat.zero_le _, rfl, rfl, Below.refl _ _⟩
  case round =>
    obtain ⟨i, hi, rfl, rfl, hbel⟩ := hrel
    have hw := h0.below hbel
    have j2 := j1.step hbel
    have Hbel := hid hbel
    have hBE := hid (bthen HB0.out hbel (Nat.le_refl _))
    have hsr := wsum_range B h2 i hi
    clear hbel
    obtain ⟨x0, x1, x2⟩ := j2.c3
    obtain ⟨V, hV⟩ : ∃ V, wsum F S n lv i = V := ⟨_, rfl⟩
    rw [hV] at hsr ⊢
    by_cases hlt : i < n
    · obtain ⟨ad, hA, hl, q0, q1, qf, qs⟩ := hw.at_ i hlt
      subst hA
      have hl2 := Nat.lt_of_lt_of_le hl hw.le
      have hf := B.f i hlt
      have hs := B.s i hlt
      have j3 := j2.alloc (.cells #[.int .i64 (F i), .int .i64 (S i)] 113)
      obtain ⟨gb, hgb⟩ : ∃ gb, wr.heap.size = gb := ⟨_, rfl⟩
      have jb := Bk.of_alloc wr (.cells #[.int .i64 (F i), .int .i64 (S i)] 113) hgb
      have ha := alo (W := wr) (o := (.cells #[.int .i64 (F i), .int .i64 (S i)] 113))
      have hwa := hw.below ha
      have Hba := hid (Hbel.out.trans (ha.mono Hbel.out.size))
      have HBa := hid (bthen hBE.out ha (Nat.le_refl _))
      have HV := hid hV
      clear hV hw ha j2
      have brk := hid (fun (hx : lv ≤ F i) => (below_above B hx hi).trans HV.out)
      go_upto_region 5 with (fail)
      generalize wr.alloc (.cells #[.int .i64 (F i), .int .i64 (S i)] 113) = wa at *
      have Hgb := hid hgb
      clear x0 x1 x2 q0 q1 hgb
      obtain ⟨x0, x1, x2⟩ := j3.c3
      obtain ⟨b0, b1⟩ := jb.c2
      by_cases hx : i + 1 < n
      · obtain ⟨ad', hA', hl', p0, p1, pf, ps⟩ := hwa.at_ (i + 1) (by omega)
        injection hA' with hA'
        subst hA'
        have hf2 := B.f (i + 1) hx
        have hup := B.up i hx
        have hd : decide ((i : Int) + 1 < (n : Int)) = true := decide_eq_true (by omega)
        by_cases hm : lv ≤ F (i + 1)
        · have ht : wtop F n lv i = lv := by unfold wtop; rw [if_pos hx]; omega
          by_cases hc : lv ≤ F i
          · have HE := hid (brk.out hc)
            clear ht
            go_wp2
            go_ret
            exact ⟨ret_int HE.out.symm, HBa.out⟩
          · have hp := prod_le' B hlt (t := lv) (by omega) h2
            have hst := hid (wsum_step (S := S) ht (by omega))
            clear ht
            go_wp2
            go_roundw
            case rel => exact ⟨i + 1, by omega, by go_num, by rw [hst.out, HV.out, Int.mul_comm (S i)], Hba.out⟩
            case measure => simp [intOf]; omega
        · have ht : wtop F n lv i = F (i + 1) := by unfold wtop; rw [if_pos hx]; omega
          have hp := prod_le' B hlt (t := F (i + 1)) hup hf2.2
          have hst := hid (wsum_step (S := S) ht hup)
          have hm2 : F (i + 1) < lv := by omega
          clear ht hm
          go_wp2
          go_roundw
          case rel => exact ⟨i + 1, by omega, by go_num, by rw [hst.out, HV.out, Int.mul_comm (S i)], Hba.out⟩
          case measure => simp [intOf]; omega
      · have ht : wtop F n lv i = lv := by unfold wtop; rw [if_neg hx]
        have hd : decide ((i : Int) + 1 < (n : Int)) = false := decide_eq_false (by omega)
        by_cases hc : lv ≤ F i
        · have HE := hid (brk.out hc)
          clear ht
          go_wp2
          go_ret
          exact ⟨ret_int HE.out.symm, HBa.out⟩
        · have hp := prod_le' B hlt (t := lv) (by omega) h2
          have hst := hid (wsum_step (S := S) ht (by omega))
          clear ht
          go_wp2
          go_roundw
          case rel => exact ⟨i + 1, by omega, by go_num, by rw [hst.out, HV.out, Int.mul_comm (S i)], Hba.out⟩
          case measure => simp [intOf]; omega
    · obtain rfl : i = n := by omega
      have HV := hid hV
      clear hV
      go_wp2
      go_ret
      exact ⟨ret_int HV.out.symm, hBE.out⟩

end Go.Proofs.Ytndcopljjnbkbaa
