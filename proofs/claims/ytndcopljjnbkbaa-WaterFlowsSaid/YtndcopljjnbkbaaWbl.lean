/- The level of a volume: LevelOf of the reference, levelOf of the program. For all basins that are right. -/
import Derived.Test.YtndcopljjnbkbaaWbr
import Derived.Deep.RegionHeld3
import Derived.Deep.RegionWith
namespace Go.Proofs.Wb
section
variable {F S : Nat → Int} {n : Nat} {rim : Int}
theorem wsum_low (B : Bas F S n rim) {a b : Int} {i : Nat} (hi : i < n) (ha : F i ≤ a) (hb : F i ≤ b) : ∀ k, k ≤ i → wsum F S n a k = wsum F S n b k
  | 0, _ => rfl
  | k + 1, hk => by
    have ih := wsum_low B hi ha hb k (by omega)
    have h1 := F_mono B i (k + 1) (by omega) hi
    have t1 : wtop F n a k = F (k + 1) := by unfold wtop; rw [if_pos (by omega)]; omega
    have t2 : wtop F n b k = F (k + 1) := by unfold wtop; rw [if_pos (by omega)]; omega
    simp only [wsum, wterm, t1, t2, ih]
/-- The volume within one part. -/
theorem below_in (B : Bas F S n rim) {lv : Int} {i : Nat} (hi : i < n) (h1 : F i ≤ lv) (h2 : i + 1 < n → lv ≤ F (i + 1)) : wbelow F S n lv = wbelow F S n (F i) + S i * (lv - F i) := by
  have e1 : wbelow F S n (F i) = wsum F S n (F i) i := below_above B (Int.le_refl _) (by omega)
  have e2 : wbelow F S n lv = wsum F S n lv (i + 1) := by
    by_cases hx : i + 1 < n
    · exact below_above B (h2 hx) (by omega)
    · have : i + 1 = n := by omega
      unfold wbelow; rw [this]
  have ht : wtop F n lv i = lv := by
    unfold wtop
    split
    · have := h2 (by assumption); omega
    · rfl
  rw [e1, e2, wsum_low B hi (Int.le_refl (F i)) h1 i (Nat.le_refl _)]
  by_cases hc : F i < lv
  · exact wsum_step ht hc
  · rw [wsum_stay ht hc, show lv - F i = 0 by omega, Int.mul_zero]; omega
theorem div_mul_le {r s : Int} (hs : 1 ≤ s) : s * (r / s) ≤ r ∧ r < s * (r / s + 1) := by
  have h1 := Int.mul_ediv_add_emod r s
  have h2 := Int.emod_nonneg r (b := s) (by omega)
  have h3 := Int.emod_lt_of_pos r (b := s) (by omega)
  rw [Int.mul_add]
  omega
/-- The level within one part. -/
theorem Lev.of_part (B : Bas F S n rim) {v r : Int} {i : Nat} (hi : i < n) (hr : v - wbelow F S n (F i) = r) (h0 : 0 ≤ r) (hx : i + 1 < n → r < (F (i + 1) - F i) * S i) (hv : v ≤ wbelow F S n rim) : Lev F S n rim v (F i + r / S i) := by
  have hs := B.s i hi
  have hf := F_mono B i 0 (by omega) hi
  have hq := div_mul_le (r := r) hs.1
  have hq0 : 0 ≤ r / S i := Int.ediv_nonneg h0 (by omega)
  have hrim : F i < rim := by have := F_mono B (n - 1) i (by omega) (by omega); have := B.rl; omega
  obtain ⟨q, hqe⟩ : ∃ q, r / S i = q := ⟨_, rfl⟩
  rw [hqe] at hq hq0 ⊢
  have up : i + 1 < n → F i + q < F (i + 1) := fun h => by
    have h1 := hx h
    have h2 : S i * q < S i * (F (i + 1) - F i) := by rw [Int.mul_comm (S i) (F (i + 1) - F i)]; omega
    have := Int.lt_of_mul_lt_mul_left h2 (by omega)
    omega
  have hir : F i + q ≤ rim := by
    by_cases h : i + 1 < n
    · have h1 := up h
      have h2 := F_mono B (n - 1) (i + 1) (by omega) (by omega)
      have := B.rl
      omega
    · have h1 := below_in B hi (lv := rim) (by omega) (fun hh => absurd hh h)
      have h2 : S i * q ≤ S i * (rim - F i) := by omega
      have := Int.le_of_mul_le_mul_left h2 (by omega)
      omega
  have b1 := below_in B hi (lv := F i + q) (by omega) (fun h => by have := up h; omega)
  have b2 := below_in B hi (lv := F i + q + 1) (by omega) (fun h => by have := up h; omega)
  rw [show F i + q - F i = q by omega] at b1
  rw [show F i + q + 1 - F i = q + 1 by omega] at b2
  exact ⟨by omega, hir, by omega, fun _ => by omega⟩
theorem below_next (B : Bas F S n rim) {i : Nat} (hi : i + 1 < n) : wbelow F S n (F (i + 1)) = wbelow F S n (F i) + S i * (F (i + 1) - F i) :=
  below_in B (by omega) (by have := B.up i hi; omega) (fun _ => Int.le_refl _)
theorem Lev.exists (B : Bas F S n rim) {v : Int} (h0 : 0 ≤ v) (hv : v ≤ wbelow F S n rim) : ∃ l, Lev F S n rim v l := by
  suffices H : ∀ k i, i + k + 1 = n → 0 ≤ v - wbelow F S n (F i) → ∃ l, Lev F S n rim v l from H (n - 1) 0 (by have := B.pos; omega) (by rw [below_floor B (Int.le_refl _)]; omega)
  intro k
  induction k with
  | zero => intro i hi h; exact ⟨_, Lev.of_part B (i := i) (by omega) rfl h (fun hh => by omega) hv⟩
  | succ k ih =>
    intro i hi h
    by_cases hx : v - wbelow F S n (F i) < (F (i + 1) - F i) * S i
    · exact ⟨_, Lev.of_part B (i := i) (by omega) rfl h (fun _ => hx) hv⟩
    · refine ih (i + 1) (by omega) ?_
      rw [below_next B (by omega), Int.mul_comm (S i)]
      omega
end
end Go.Proofs.Wb
namespace Go.Proofs.Ytndcopljjnbkbaa
open Go.RowKit Kb Wb

/-- A basin in a box. -/
structure Bx (w : World) (g : Nat) (s : ByteArray) (A : Option Addr) (n c : Nat) (rim : Int) (B0 : Nat) (F S : Nat → Int) : Prop where
  b : Bk w g (.cells #[.string s, .slice A n c, .int .i64 rim] 42)
  a : Pa w B0 A n F S
section
variable {w w' : World} {g : Nat} {s : ByteArray} {A : Option Addr} {n c : Nat} {rim : Int} {B0 : Nat} {F S : Nat → Int}
theorem Bx.below (h : Bx w g s A n c rim B0 F S) (hb : Below w.heap.size w w') : Bx w' g s A n c rim B0 F S := ⟨h.b.step hb, h.a.below hb⟩
theorem Bx.drewN (h : Bx w g s A n c rim B0 F S) (k : Nat) : Bx (w.drewN k) g s A n c rim B0 F S := h.below (below_drewN (Below.refl _ _) k)
theorem Bx.cells (h : Bx w g s A n c rim B0 F S) : w.cell? ⟨g, 0, none⟩ = some (.string s) ∧ w.cell? ⟨g, 1, none⟩ = some (.slice A n c) ∧ w.cell? ⟨g, 2, none⟩ = some (.int .i64 rim) := h.b.c3
theorem Bx.new (s : ByteArray) (c : Nat) (rim : Int) (h : Pa w B0 A n F S) (hg : w.heap.size = g) : Bx (w.alloc (.cells #[.string s, .slice A n c, .int .i64 rim] 42)) g s A n c rim B0 F S := ⟨Bk.of_alloc w _ hg, h.below alo⟩
end

set_option maxRecDepth 100000 in
set_option maxHeartbeats 8000000 in
theorem rLevelOf_any {w : World} {B0 n c : Nat} {A : Option Addr} {F S : Nat → Int} {rim v l : Int} (s : ByteArray) (h : Pa w B0 A n F S) (B : Bas F S n rim) (h0 : 0 ≤ v) (hL : Lev F S n rim v l) :
    Calls Try.prog 60 #[.agg #[.string s, .slice A n c, .int .i64 rim], .int .i64 v] w fun e w' => e = .returned (.int .i64 l) ∧ Below w.heap.size w w' := by
  have hr := B.rm
  have hr0 := floor_rim B
  have hf0 := B.f 0 B.pos
  have hn := B.pos
  have hb0 := alo (W := w) (o := (.cells #[.string s, .slice A n c, .int .i64 rim] 42))
  obtain ⟨g, hg⟩ : ∃ g, w.heap.size = g := ⟨_, rfl⟩
  have K := Bx.new s c rim h hg
  go_enter Try.func60, Try.ntmps60
  go_wp2_with fail
  generalize w.alloc (.cells #[.string s, .slice A n c, .int .i64 rim] 42) = W0 at *
  have HB0 := hid hb0
  have Hg := hid hg
  have Hh := hid h
  clear hb0 hg h
  have K0 : Bx W0.drew g s A n c rim B0 F S := K.below dr0
  go_region_held3 (fun w' => w'.cell? ⟨g, 0, none⟩ = some (.string s) ∧ w'.cell? ⟨g, 1, none⟩ = some (.slice A n c) ∧ w'.cell? ⟨g, 2, none⟩ = some (.int .i64 rim)) (first | with_reducible exact Bx.cells K0 | with_reducible exact Bx.cells K1) (first
    | (go_at_call 52; with_reducible refine (rFloor_any s K0.a hn).mono ?_; rintro e w1 ⟨rfl, hb1⟩; have K1 := K0.below hb1))
  have HB1 := hid (bthen HB0.out.drew hb1 (Nat.le_refl _))
  clear hb1 K0 K
  go_wp2_with fail
  go_loopw [5, 6, 7] (fun lv hv _ wr => ∃ (lo hi : Int), lv = .int .i64 lo ∧ hv = .int .i64 hi ∧ Hid (F 0 ≤ lo ∧ lo ≤ hi ∧ hi ≤ rim ∧ wbelow F S n lo ≤ v ∧ (hi < rim → v < wbelow F S n (hi + 1))) ∧ Below w1.heap.size w1 wr) (fun lv hv _ _ => (intOf hv - intOf lv).toNat)
  case atStart => exact ⟨F 0, rim, rfl, rfl, hid ⟨by omega, by omega, by omega, by rw [below_floor B (Int.le_refl _)]; exact h0, fun h => by omega⟩, Below.refl _ _⟩
  case round =>
    obtain ⟨lo, hi, rfl, rfl, HI, hbel⟩ := hrel
    have K2 := K1.below hbel
    have Hbel := hid hbel
    have hBE := hid (bthen HB1.out hbel (Nat.le_refl _))
    have i1 := HI.out.1
    have i2 := HI.out.2.1
    have i3 := HI.out.2.2.1
    clear hbel
    obtain ⟨x0, x1, x2⟩ := K2.cells
    by_cases hlt : lo < hi
    · obtain ⟨M, hM⟩ : ∃ M, lo + (hi - lo + 1) / 2 = M := ⟨_, rfl⟩
      have m1 : lo < M := by omega
      have m2 : M ≤ hi := by omega
      have hv1 := hid (below_mono B (a := F 0) (b := M) (by omega))
      have HM := hid hM
      by_cases hle : wbelow F S n M ≤ v
      · have HI2 := hid (show F 0 ≤ M ∧ M ≤ hi ∧ hi ≤ rim ∧ wbelow F S n M ≤ v ∧ (hi < rim → v < wbelow F S n (hi + 1)) from ⟨by omega, by omega, by omega, hle, HI.out.2.2.2.2⟩)
        go_wp2_with fail
        refine (rBelow_any s K2.a B (by omega) (by omega)).mono ?_
        rintro e w2 ⟨rfl, hb2⟩
        have HB2 := hid (Hbel.out.trans (hb2.mono Hbel.out.size))
        clear hb2 hM x0 x1 x2 hv1
        go_wp2
        go_roundw
        case rel => exact ⟨M, hi, rfl, rfl, HI2, HB2.out⟩
        case measure => simp [intOf]; omega
      · have hle2 : v < wbelow F S n M := by omega
        have HI2 := hid (show F 0 ≤ lo ∧ lo ≤ M - 1 ∧ M - 1 ≤ rim ∧ wbelow F S n lo ≤ v ∧ (M - 1 < rim → v < wbelow F S n (M - 1 + 1)) from ⟨by omega, by omega, by omega, HI.out.2.2.2.1, fun _ => by rw [Int.sub_add_cancel]; exact hle2⟩)
        clear hle
        go_wp2_with fail
        refine (rBelow_any s K2.a B (by omega) (by omega)).mono ?_
        rintro e w2 ⟨rfl, hb2⟩
        have HB2 := hid (Hbel.out.trans (hb2.mono Hbel.out.size))
        clear hb2 hM x0 x1 x2 hv1
        go_wp2
        go_roundw
        case rel => exact ⟨lo, M - 1, rfl, rfl, HI2, HB2.out⟩
        case measure => simp [intOf]; omega
    · have e : lo = hi := by omega
      have HE := hid (show lo = l from (Lev.step HI.out.1 HI.out.2.2.1 HI.out.2.2.2.1 HI.out.2.2.2.2 e).same B hL)
      clear e
      go_wp2
      go_ret
      exact ⟨ret_int HE.out, hBE.out⟩

set_option maxRecDepth 100000 in
set_option maxHeartbeats 8000000 in
theorem levelOf_any {w : World} {B0 n c : Nat} {A : Option Addr} {F S : Nat → Int} {rim v l : Int} (s : ByteArray) (h : Pa w B0 A n F S) (B : Bas F S n rim) (hc : n ≤ c) (hcm : c ≤ maxLen) (h0 : 0 ≤ v) (hv : v ≤ wbelow F S n rim) (hL : Lev F S n rim v l) :
    Calls Try.prog 55 #[.agg #[.string s, .slice A n c, .int .i64 rim], .int .i64 v] w fun e w' => e = .returned (.int .i64 l) ∧ Below w.heap.size w w' := by
  have hcm2 : c ≤ 9223372036854775807 := by unfold maxLen at hcm; omega
  have hr := B.rm
  have hr0 := floor_rim B
  have hn := B.pos
  have hm := B.most
  have hvb := (below_nonneg B hr).2
  have hb0 := alo (W := w) (o := (.cells #[.string s, .slice A n c, .int .i64 rim] 42))
  obtain ⟨g, hg⟩ : ∃ g, w.heap.size = g := ⟨_, rfl⟩
  have K := Bx.new s c rim h hg
  obtain ⟨ad, hA, -, -, -, -, -⟩ := h.at_ 0 hn
  subst hA
  have n1 : (1 : Int) ≤ (n : Int) := by omega
  have n2 : ((n : Int) - 1).toNat = n - 1 := by omega
  go_enter Try.func55, Try.ntmps55
  go_wp2_with fail
  generalize w.alloc (.cells #[.string s, .slice (some ad) n c, .int .i64 rim] 42) = W0 at *
  have HB0 := hid hb0
  have Hg := hid hg
  have Hh := hid h
  clear hb0 hg h
  go_loopw [1, 18] (fun lv iv wr => ∃ (i : Nat) (r : Int), i + 1 ≤ n ∧ iv = .int .i64 i ∧ lv = .int .i64 r ∧ Hid (v - wbelow F S n (F i) = r) ∧ 0 ≤ r ∧ r ≤ 40000000000000 ∧ Below W0.heap.size W0 wr) (fun _ iv _ => n - (intOf iv).toNat)
  case atStart => exact ⟨0, v, hn, rfl, rfl, hid (by rw [below_floor B (Int.le_refl _)]; omega), h0, by omega, Below.refl _ _⟩
  case round =>
    obtain ⟨i, r, hi, rfl, rfl, HR, hr1, hr2, hbel⟩ := hrel
    have K2 := K.below hbel
    have Hbel := hid hbel
    have hBE := hid (bthen HB0.out hbel (Nat.le_refl _))
    clear hbel
    obtain ⟨x0, x1, x2⟩ := K2.cells
    obtain ⟨ad', hA, hl, q0, q1, qf, qs⟩ := K2.a.at_ i hi
    injection hA with hA
    subst hA
    have hf := B.f i hi
    have hs := B.s i hi
    by_cases hlt : i < n - 1
    · have hl2 := Nat.lt_of_lt_of_le hl K2.a.le
      have hf2 := B.f (i + 1) (by omega)
      have hup := B.up i (by omega)
      obtain ⟨gb, hgb⟩ : ∃ gb, wr.heap.size = gb := ⟨_, rfl⟩
      have jb := Bk.of_alloc wr (.cells #[.int .i64 (F i), .int .i64 (S i)] 113) hgb
      have ha := alo (W := wr) (o := (.cells #[.int .i64 (F i), .int .i64 (S i)] 113))
      have K3 := K2.below ha
      have Hba := hid (Hbel.out.trans (ha.mono Hbel.out.size))
      have HBa := hid (bthen hBE.out ha (Nat.le_refl _))
      clear ha K2
      have hp := prod_le' B (i := i) (by omega) (t := F (i + 1)) hup hf2.2
      have hnx := hid (below_next B (i := i) (by omega))
      go_upto_region 5 with (fail)
      generalize wr.alloc (.cells #[.int .i64 (F i), .int .i64 (S i)] 113) = wa at *
      have Hgb := hid hgb
      clear x0 x1 x2 q0 q1 hgb
      obtain ⟨x0, x1, x2⟩ := K3.cells
      obtain ⟨b0, b1⟩ := jb.c2
      obtain ⟨ad', hA', hl', p0, p1, pf, ps⟩ := K3.a.at_ (i + 1) (by omega)
      injection hA' with hA'
      subst hA'
      obtain ⟨P, hP⟩ : ∃ P, (F (i + 1) - F i) * S i = P := ⟨_, rfl⟩
      rw [hP] at hp
      have w1 : IntKind.i64.wrap ((i : Int) + 1) = (i : Int) + 1 := IntWalk.i64_in _ (by omega)
      have w2 : ((i : Int) + 1).toNat = i + 1 := by omega
      have w3 : (0 : Int) ≤ (i : Int) + 1 := by omega
      have w4 : (i : Int) + 1 < (n : Int) := by omega
      have w5 : IntKind.i64.wrap (F (i + 1) - F i) = F (i + 1) - F i := IntWalk.i64_in _ (by omega)
      have w6 : IntKind.i64.wrap ((F (i + 1) - F i) * S i) = P := by rw [hP]; exact IntWalk.i64_in _ (by omega)
      have HP := hid hP
      clear hP
      go_quiet (fail)
      clear w1 w2 w3 w4 w5 w6
      by_cases hrp : r < P
      · have HE := hid (show F i + r / S i = l from (Lev.of_part B (i := i) (by omega) HR.out hr1 (fun _ => by rw [HP.out]; exact hrp) hv).same B hL)
        have hdv := div_mul_le (r := r) hs.1
        have hdv0 : 0 ≤ r / S i := Int.ediv_nonneg hr1 (by omega)
        have hdv1 : r / S i ≤ r := Int.ediv_le_self _ hr1
        have hF0 : I64 (F i + r / S i) := ⟨by omega, by omega⟩
        go_wp2
        have y1 : r.tdiv (S i) = r / S i := Int.tdiv_eq_ediv_of_nonneg hr1
        have y2 : IntKind.i64.wrap (r / S i) = r / S i := IntWalk.i64_in _ (by omega)
        have y3 : IntKind.i64.wrap (F i + r / S i) = F i + r / S i := IntWalk.i64_in _ (by omega)
        have y4 : ¬ S i = 0 := by omega
        have y5 : (S i == 0) = false := by rw [beq_eq_false_iff_ne]; omega
        go_quiet (fail)
        clear y1 y2 y3 y4 y5
        go_wp2
        go_ret
        exact ⟨ret_int HE.out, (HBa.out.drewN' _).drewN' _⟩
      · have HR2 := hid (show v - wbelow F S n (F (i + 1)) = r - P by rw [hnx.out, Int.mul_comm (S i), HP.out]; have := HR.out; omega)
        go_wp2
        go_roundw
        case rel => exact ⟨i + 1, r - P, by omega, by go_num, rfl, HR2, by omega, by omega, Hba.out.drewN' _⟩
        case measure => simp [intOf]; omega
    · obtain rfl : i = n - 1 := by omega
      have HE := hid (show F (n - 1) + r / S (n - 1) = l from (Lev.of_part B (i := n - 1) (by omega) HR.out hr1 (fun h => by omega) hv).same B hL)
      have hdv := div_mul_le (r := r) hs.1
      have hdv0 : 0 ≤ r / S (n - 1) := Int.ediv_nonneg hr1 (by omega)
      have hdv1 : r / S (n - 1) ≤ r := Int.ediv_le_self _ hr1
      go_wp2
      have w1 : IntKind.i64.wrap ((n : Int) - 1) = (n : Int) - 1 := IntWalk.i64_in _ (by omega)
      have w3 : (0 : Int) ≤ (n : Int) - 1 := by omega
      have w4 : (n : Int) - 1 < (n : Int) := by omega
      have y1 : r.tdiv (S (n - 1)) = r / S (n - 1) := Int.tdiv_eq_ediv_of_nonneg hr1
      have y2 : IntKind.i64.wrap (r / S (n - 1)) = r / S (n - 1) := IntWalk.i64_in _ (by omega)
      have y3 : IntKind.i64.wrap (F (n - 1) + r / S (n - 1)) = F (n - 1) + r / S (n - 1) := IntWalk.i64_in _ (by omega)
      have y4 : ¬ S (n - 1) = 0 := by omega
      have y5 : (S (n - 1) == 0) = false := by rw [beq_eq_false_iff_ne]; omega
      go_quiet (fail)
      clear w1 w3 w4 y1 y2 y3 y4 y5
      go_wp2
      go_ret
      exact ⟨ret_int HE.out, hBE.out.drewN' _⟩

end Go.Proofs.Ytndcopljjnbkbaa
