/- The level of the sea at a minute: roundedDown, tide, Tide; floorDiv, At, Tide of the reference. For all marks that are right. -/
import Derived.Test.YtndcopljjnbkbaaWsc
import Derived.Deep.RegionHeld3
import Derived.Deep.RegionWith
import Derived.Deep.DeepCutAuto
namespace Go.Proofs.Ytndcopljjnbkbaa
open Go.RowKit Kb Wb

set_option maxRecDepth 100000 in
set_option maxHeartbeats 4000000 in
theorem roundedDown_any (a b : Int) (w : World) (hb : 0 < b) (hb2 : b ≤ 1000000) (h1 : -2000000000000 ≤ a) (h2 : a ≤ 2000000000000) :
    Calls Try.prog 110 #[.int .i64 a, .int .i64 b] w fun e w' => e = .returned (.int .i64 (a / b)) ∧ w = w' := by
  have hq1 : -2000000000000 ≤ a / b := Int.le_ediv_of_mul_le hb (by have := Int.mul_le_mul_of_nonneg_left (c := 2000000000000) (show 1 ≤ b by omega) (by decide); rw [Int.neg_mul]; omega)
  have hq2 : a / b ≤ 2000000000000 := Int.ediv_le_of_le_mul hb (by have := Int.mul_le_mul_of_nonneg_left (c := 2000000000000) (show 1 ≤ b by omega) (by decide); omega)
  have hb0 : ¬ b = 0 := by omega
  by_cases ha : a < 0
  · by_cases hm : a.tmod b = 0
    · have hd := hid (down_zero hm)
      have hm2 : (a.tmod b != 0) = false := by rw [bne_eq_false_iff_eq]; exact hm
      have hd2 := hd.out
      clear hm
      go_enter Try.func110, Try.ntmps110
      go_wp2
      go_ret
      exact ⟨rfl, rfl⟩
    · have hd := hid (down_neg hb ha hm)
      have hm2 : (a.tmod b != 0) = true := by rw [bne_iff_ne]; exact hm
      have t1 : -2000000000000 ≤ a.tdiv b := by have := hd.out; omega
      have t2 : a.tdiv b ≤ 2000000000001 := by have := hd.out; omega
      clear hm
      go_enter Try.func110, Try.ntmps110
      go_wp2
      go_ret
      exact ⟨ret_int hd.out, rfl⟩
  · go_enter Try.func110, Try.ntmps110
    go_wp2
    go_ret
    exact ⟨rfl, rfl⟩

set_option maxRecDepth 100000 in
set_option maxHeartbeats 4000000 in
theorem floorDiv_any (a b : Int) (w : World) (hb : 0 < b) (hb2 : b ≤ 1000000) (h1 : -2000000000000 ≤ a) (h2 : a ≤ 2000000000000) :
    Calls Try.prog 96 #[.int .i64 a, .int .i64 b] w fun e w' => e = .returned (.int .i64 (a / b)) ∧ w = w' := by
  have hq1 : -2000000000000 ≤ a / b := Int.le_ediv_of_mul_le hb (by have := Int.mul_le_mul_of_nonneg_left (c := 2000000000000) (show 1 ≤ b by omega) (by decide); rw [Int.neg_mul]; omega)
  have hq2 : a / b ≤ 2000000000000 := Int.ediv_le_of_le_mul hb (by have := Int.mul_le_mul_of_nonneg_left (c := 2000000000000) (show 1 ≤ b by omega) (by decide); omega)
  have hb0 : ¬ b = 0 := by omega
  by_cases ha : a < 0
  · by_cases hm : a.tmod b = 0
    · have hd2 := down_zero hm
      have hm2 : decide (a.tmod b < 0) = false := decide_eq_false (by omega)
      have hm3 : 0 ≤ a.tmod b := by omega
      clear hm
      go_enter Try.func96, Try.ntmps96
      go_wp2
      go_ret
      exact ⟨rfl, rfl⟩
    · have hd := hid (down_neg hb ha hm)
      have hm3 : a.tmod b < 0 := tmod_sign.2 ⟨ha, hm⟩
      have hm2 : decide (a.tmod b < 0) = true := decide_eq_true hm3
      have t1 : -2000000000000 ≤ a.tdiv b := by have := hd.out; omega
      have t2 : a.tdiv b ≤ 2000000000001 := by have := hd.out; omega
      clear hm
      go_enter Try.func96, Try.ntmps96
      go_wp2
      go_ret
      exact ⟨ret_int hd.out, rfl⟩
  · have hm3 := Int.emod_nonneg a hb0
    have hm2 : decide (a % b < 0) = false := decide_eq_false (by omega)
    go_enter Try.func96, Try.ntmps96
    go_wp2
    go_ret
    exact ⟨rfl, rfl⟩

/-- The closure of tide: whether a mark is behind the minute; m and the minute lie in boxes. -/
theorem later_any {w : World} {B0 n c gm gt : Nat} {A : Option Addr} {F L : Nat → Int} {t : Int} (i : Nat) (h : Pa w B0 A n F L) (hi : i < n) (hm : w.cell? ⟨gm, 0, none⟩ = some (.slice A n c)) (ht : w.cell? ⟨gt, 0, none⟩ = some (.int .i64 t)) :
    Calls Try.prog 109 #[.int .i64 i, .pointer (some ⟨gm, 0, none⟩), .pointer (some ⟨gt, 0, none⟩)] w fun e w' => e = .returned (.bool (decide (t < F i))) ∧ ∃ k, w' = w.drewN k := by
  obtain ⟨ad, hA, hl, q0, q1, qf, qs⟩ := h.at_ i hi
  subst hA
  go_enter Try.func109, Try.ntmps109
  go_wp2
  go_quiet (fail)
  go_wp2
  go_ret
  exact ⟨rfl, _, rfl⟩

/-- i is the first mark behind t. -/
structure Fst (n : Nat) (F : Nat → Int) (t : Int) (i : Nat) : Prop where
  le : i ≤ n
  lo : ∀ j, j < i → F j ≤ t
  hi : i < n → t < F i

set_option maxRecDepth 100000 in
set_option maxHeartbeats 8000000 in
theorem Search_any {w : World} {B0 n c gm gt : Nat} {A : Option Addr} {F L : Nat → Int} {t : Int} (h : Pa w B0 A n F L) (hS : Sea n F L) (hm : w.cell? ⟨gm, 0, none⟩ = some (.slice A n c)) (ht : w.cell? ⟨gt, 0, none⟩ = some (.int .i64 t)) :
    Calls Try.prog 108 #[.int .i64 n, .func (.func 109) #[] #[.pointer (some ⟨gm, 0, none⟩), .pointer (some ⟨gt, 0, none⟩)]] w fun e w' => ∃ i : Nat, e = .returned (.int .i64 i) ∧ Hid (Fst n F t i) ∧ ∃ k, w' = w.drewN k := by
  have hn := hS.most
  have hcall : ∀ (i q : Nat), i < n → Calls Try.prog 109 #[.int .i64 i, .pointer (some ⟨gm, 0, none⟩), .pointer (some ⟨gt, 0, none⟩)] (w.drewN q) fun e w' => e = .returned (.bool (decide (t < F i))) ∧ ∃ k, w' = w.drewN k := fun i q hi =>
    (later_any (c := c) i (h.below (below_drewN (Below.refl _ _) q)) hi hm ht).mono fun _ _ ⟨he, k, hk⟩ => ⟨he, q + k, by rw [hk, World.drewN_drewN]⟩
  have Hcall := hid hcall
  have HS := hid hS
  clear hcall h hS hm ht
  go_enter Try.func108, Try.ntmps108
  go_wp2_with fail
  go_loopw [5, 6, 7] (fun lv hv _ wr => ∃ (lo hi q : Nat), lo ≤ hi ∧ hi ≤ n ∧ lv = .int .i64 lo ∧ hv = .int .i64 hi ∧ Hid (∀ j, j < lo → F j ≤ t) ∧ Hid (∀ j, hi ≤ j → j < n → t < F j) ∧ wr = w.drewN q) (fun lv hv _ _ => (intOf hv).toNat - (intOf lv).toNat)
  case atStart => exact ⟨0, n, 0, Nat.zero_le _, Nat.le_refl _, rfl, rfl, hid (fun j hj => absurd hj (Nat.not_lt_zero _)), hid (fun j h1 h2 => by omega), rfl⟩
  case round =>
    obtain ⟨lo, hi, q, h1, h2, rfl, rfl, HL, HH, rfl⟩ := hrel
    by_cases hlt : lo < hi
    · obtain ⟨M, hM⟩ : ∃ M, (lo + hi) / 2 = M := ⟨_, rfl⟩
      have m1 : lo ≤ M := by omega
      have m2 : M < hi := by omega
      have hME : ((lo : Int) + (hi : Int)) / 2 = (M : Int) := by omega
      have HM := hid hM
      clear hM
      by_cases hc : t < F M
      · have hd : decide (t < F M) = true := decide_eq_true hc
        have HH2 := hid (show ∀ j, M ≤ j → j < n → t < F j from fun j a b => by have := HS.out.mono j M a b; omega)
        go_wp2_with fail
        refine (Hcall.out M q (by omega)).mono ?_
        rintro e w2 ⟨rfl, k, hk⟩
        rw [hd]
        have HK := hid hk
        clear hME hd hc hk
        go_wp2
        go_roundw
        case rel => exact ⟨lo, M, k, by omega, by omega, rfl, rfl, HL, HH2, HK.out⟩
        case measure => simp [intOf]; omega
      · have hd : decide (t < F M) = false := decide_eq_false hc
        have HL2 := hid (show ∀ j, j < M + 1 → F j ≤ t from fun j a => by have := HS.out.mono M j (by omega) (by omega); omega)
        go_wp2_with fail
        refine (Hcall.out M q (by omega)).mono ?_
        rintro e w2 ⟨rfl, k, hk⟩
        rw [hd]
        have HK := hid hk
        clear hME hd hc hk
        go_wp2
        go_roundw
        case rel => exact ⟨M + 1, hi, k, by omega, by omega, by go_num, rfl, HL2, HH, HK.out⟩
        case measure => simp [intOf]; omega
    · obtain rfl : lo = hi := by omega
      have HE := hid (show Fst n F t lo from ⟨h2, HL.out, fun hl => HH.out lo (Nat.le_refl _) hl⟩)
      go_wp2
      go_ret
      exact ⟨lo, rfl, HE, q, rfl⟩

theorem Bk.c1 {W : World} {g : Nat} {a : Value} {T : TypeId} (h : Bk W g (.cells #[a] T (0, 0))) : W.cell? ⟨g, 0, none⟩ = some a := by
  have hh := fun i => cell_of_row W g i _ T (0, 0) h
  exact (hh 0).trans rfl

set_option maxRecDepth 100000 in
set_option maxHeartbeats 8000000 in
theorem tide_any {w : World} {B0 n c : Nat} {A : Option Addr} {F L : Nat → Int} {t : Int} (h : Pa w B0 A n F L) (hS : Sea n F L) (hn : 0 < n) (t1 : 0 ≤ t) (t2 : t ≤ 1000000) :
    Calls Try.prog 101 #[.slice A n c, .int .i64 t] w fun e w' => ∃ r : Int, e = .returned (.int .i64 r) ∧ Hid (Td n F L t r) ∧ Below w.heap.size w w' := by
  have hnm := hS.most
  obtain ⟨g, hg⟩ : ∃ g, w.heap.size = g := ⟨_, rfl⟩
  have hb0 := ((Below.refl w.heap.size w).alloc (Nat.le_refl _) (.cells #[.slice A n c] 23)).alloc (by simp) (.cells #[.int .i64 t] 3)
  have j1 := (Bk.of_alloc w (.cells #[.slice A n c] 23) hg).alloc (.cells #[.int .i64 t] 3)
  have j2 : Bk _ (g + 1) _ := Bk.of_alloc (w.alloc (.cells #[.slice A n c] 23)) (.cells #[.int .i64 t] 3) (by simp [hg])
  have hp := h.below (hb0.mono (Nat.le_refl _))
  go_enter Try.func101, Try.ntmps101
  go_wp2_with fail
  generalize (w.alloc (.cells #[.slice A n c] 23)).alloc (.cells #[.int .i64 t] 3) = W0 at *
  have HB0 := hid hb0
  have Hg := hid hg
  clear hb0 hg h
  refine (Search_any hp hS j1.c1 j2.c1).mono ?_
  rintro e w1 ⟨i, rfl, HF, k, rfl⟩
  have hq : Below W0.heap.size W0 (W0.drewN k) := below_drewN (Below.refl _ _) k
  have HB1 := hid (bthen HB0.out hq (Nat.le_refl _))
  have p1 := hp.below hq
  have i1 := j1.step hq
  have i2 := j2.step hq
  clear hp j1 j2 hq
  generalize W0.drewN k = W1 at *
  have x0 := i1.c1
  have x1 := i2.c1
  by_cases hi0 : i = 0
  · have e1 : ((i : Int) == 0) = true := by rw [beq_iff_eq]; omega
    obtain ⟨ad, hA, hl, q0, q1, qf, qs⟩ := p1.at_ 0 hn
    subst hA
    rw [Nat.zero_mul, addr_zero] at q0 q1
    have HE := hid (show Td n F L t (L 0) from .inl ⟨by have := HF.out.hi (by omega); rw [hi0] at this; omega, rfl⟩)
    have HI := hid hi0
    clear hi0
    go_wp2
    go_ret
    exact ⟨_, rfl, HE, HB1.out⟩
  · have e1 : ((i : Int) == 0) = false := by rw [beq_eq_false_iff_ne]; omega
    have hin := HF.out.le
    obtain ⟨ad, hA, hl, q0, q1, qf, qs⟩ := p1.at_ (i - 1) (by omega)
    subst hA
    have hi1 : (1 : Int) ≤ (i : Int) := by omega
    have hl2 := Nat.lt_of_lt_of_le hl p1.le
    obtain ⟨gb, hgb⟩ : ∃ gb, W1.heap.size = gb := ⟨_, rfl⟩
    have jb := Bk.of_alloc W1 (.cells #[.int .i64 (F (i - 1)), .int .i64 (L (i - 1))] 115) hgb
    have ha := alo (W := W1) (o := (.cells #[.int .i64 (F (i - 1)), .int .i64 (L (i - 1))] 115))
    have p2 := p1.below ha
    have k1 := i1.step ha
    have k2 := i2.step ha
    have HB2 := hid (bthen HB1.out ha (Nat.le_refl _))
    have iw2 : ((i : Int) - 1).toNat = i - 1 := by omega
    go_upto_region 5 with (fail)
    generalize W1.alloc (.cells #[.int .i64 (F (i - 1)), .int .i64 (L (i - 1))] 115) = W2 at *
    have Hgb := hid hgb
    clear x0 x1 q0 q1 hgb p1 i1 i2 ha iw2
    have x0 := k1.c1
    have x1 := k2.c1
    obtain ⟨b0, b1⟩ := jb.c2
    have lo := hid (HF.out.lo (i - 1) (by omega))
    by_cases hil : i = n
    · have e2 : ((i : Int) == (n : Int)) = true := by rw [beq_iff_eq]; omega
      have HE := hid (show Td n F L t (L (i - 1)) from .inr (.inl ⟨by rw [← hil]; exact lo.out, by rw [hil]⟩))
      have HI := hid hil
      clear hil
      go_wp2
      go_ret
      exact ⟨_, rfl, HE, HB2.out⟩
    · have e2 : ((i : Int) == (n : Int)) = false := by rw [beq_eq_false_iff_ne]; omega
      have hlt : i < n := by omega
      obtain ⟨ad', hA', hl', r0, r1, rf, rs⟩ := p2.at_ i hlt
      injection hA' with hA'
      subst hA'
      obtain ⟨m, hm⟩ : ∃ m, i = m + 1 := ⟨i - 1, by omega⟩
      have hi' := HF.out.hi hlt
      have lo' := lo.out
      have u := hS.up (i - 1) (by omega)
      rw [Nat.sub_add_cancel (by omega)] at u
      have sb := seg_bd hS (i := i - 1) (by omega) lo' (by rw [Nat.sub_add_cancel (by omega)]; omega)
      rw [Nat.sub_add_cancel (by omega)] at sb
      have fl := hS.f i hlt
      have fl' := hS.f (i - 1) (by omega)
      have ll := hS.l i hlt
      have ll' := hS.l (i - 1) (by omega)
      have HE := hid (show Td n F L t (L (i - 1) + (L i - L (i - 1)) * (t - F (i - 1)) / (F i - F (i - 1))) from .inr (.inr ⟨i - 1, by omega, lo', by rw [Nat.sub_add_cancel (by omega)]; omega, by unfold seg; rw [Nat.sub_add_cancel (by omega)]⟩))
      have Hm := hid hm
      clear hm hil
      go_wp2
      have y1 : IntKind.i64.wrap (L i - L (i - 1)) = L i - L (i - 1) := IntWalk.i64_in _ (by omega)
      have y2 : IntKind.i64.wrap (F i - F (i - 1)) = F i - F (i - 1) := IntWalk.i64_in _ (by omega)
      go_quiet (fail)
      clear y1 y2
      have p3 := p2.below (below_drewN (Below.refl W2.heap.size W2) nq)
      have k3 := k1.step (below_drewN (Below.refl W2.heap.size W2) nq)
      have k4 := k2.step (below_drewN (Below.refl W2.heap.size W2) nq)
      have jb3 := jb.step (below_drewN (Below.refl W2.heap.size W2) nq)
      have HB3 := hid (HB2.out.drewN' nq)
      clear x0 x1 b0 b1 r0 r1
      generalize W2.drewN nq = W3 at *
      have x0 := k3.c1
      have x1 := k4.c1
      obtain ⟨b0, b1⟩ := jb3.c2
      go_wp2
      have y1 : IntKind.i64.wrap (t - F (i - 1)) = t - F (i - 1) := IntWalk.i64_in _ (by omega)
      have y2 : IntKind.i64.wrap ((L i - L (i - 1)) * (t - F (i - 1))) = (L i - L (i - 1)) * (t - F (i - 1)) := IntWalk.i64_in _ (by omega)
      have y3 : IntKind.i64.wrap (L (i - 1) + (L i - L (i - 1)) * (t - F (i - 1)) / (F i - F (i - 1))) = L (i - 1) + (L i - L (i - 1)) * (t - F (i - 1)) / (F i - F (i - 1)) := IntWalk.i64_in _ (by omega)
      have hcall := fun W : World => roundedDown_any ((L i - L (i - 1)) * (t - F (i - 1))) (F i - F (i - 1)) W (by omega) (by omega) (by omega) (by omega)
      have Hcall := hid hcall
      clear hcall
      go_quiet ((go_at_call 110; exact quiet_left (Hcall.out _)))
      clear y1 y2 y3
      go_wp2
      go_ret
      exact ⟨_, rfl, HE, HB3.out.drewN' _⟩

end Go.Proofs.Ytndcopljjnbkbaa
