/- The contracts of zeroBits and lessWords. For all slices that read as words. -/
import Derived.Test.YtlfeendebbidhaaDoorWords
namespace Go.Proofs.YtlfeendebbidhaaDoor
open Go.RowKit Kb

theorem pow64 (k : Nat) : (18446744073709551616 : Nat) ^ k = 2 ^ (64 * k) := by rw [Nat.pow_mul]
/-- The factors 2 of words whose first i are 0, and the next is not. -/
theorem zero_math {xs : List Nat} {i : Nat} (hx : LimW xs) (hz : ∀ j, j < i → nth xs j = 0) (hi : i < xs.length) (hn : nth xs i ≠ 0) :
    ∃ m, vw xs = 2 ^ (64 * i + Lib.ctz 64 (nth xs i)) * (2 * m + 1) := by
  have hl := limW_nth hx i
  obtain ⟨m, h1, h2⟩ := odd_spec hl hn
  have hk : Lib.ctz 64 (nth xs i) < 64 := (Lib.lowest_bit 64 _ hn hl).2
  generalize Lib.ctz 64 (nth xs i) = k at *
  have e1 := vw_split (l := xs) i (by omega)
  have e2 : vw (xs.take i) = 0 := vw_zeros fun j hj => by
    rw [List.length_take] at hj
    rw [nth_take (by omega)]
    exact hz j (by omega)
  have e3 := vw_drop_nth hi
  rw [h1] at h2
  refine ⟨m + 2 ^ (63 - k) * vw (xs.drop (i + 1)), ?_⟩
  have p : (18446744073709551616 : Nat) = 2 ^ k * (2 * 2 ^ (63 - k)) := by
    rw [← Nat.mul_assoc, Nat.mul_comm (2 ^ k) 2, Nat.mul_assoc, ← Nat.pow_add, show k + (63 - k) = 63 by omega]
  rw [e1, e2, e3, h2, pow64, Nat.zero_add, Nat.pow_add, Nat.mul_assoc]
  congr 1
  conv => lhs; rw [p]
  rw [Nat.mul_assoc (2 ^ k), ← Nat.mul_add]
  congr 1
  rw [Nat.mul_assoc 2, Nat.mul_add]
  omega

set_option maxRecDepth 100000 in
set_option maxHeartbeats 2000000 in
theorem zeroBits_any (A : Option Addr) (n c i : Nat) (xs : List Nat) (w : World) (hs : Sl w .u64 A xs) (hx : LimW xs) (hn : xs.length = n) (hbig : n ≤ 100000000) (hz : ∀ j, j < i → nth xs j = 0) (hi : i < n) (h0 : nth xs i ≠ 0) (hT : Tab w) :
    Calls Tryd.prog 97 #[.slice A n c] w fun e w' => e = .returned (.int .i64 ((64 * i + Lib.ctz 64 (nth xs i) : Nat) : Int)) ∧ w = w' := by
  obtain ⟨ad, rfl, hb, hci⟩ := hs i (by omega)
  have hl := limW_nth hx i
  have hk : Lib.ctz 64 (nth xs i) < 64 := (Lib.lowest_bit 64 _ h0 hl).2
  have Hn := hid hn
  have Hz := hid (show ∀ j, j < i → w.cell? (ad.add j) = some (.int .u64 0) from fun j hj => by
    obtain ⟨ad', e, _, hc⟩ := hs j (by omega)
    injection e with e
    subst e
    rw [hc, hz j hj]; rfl)
  have HT := hid hT
  have H0 := hid h0
  have h0i : ((nth xs i : Int) == 0) = false := by rw [beq_eq_false_iff_ne]; omega
  clear hn hT hz hs h0
  go_enter Tryd.func97, Tryd.ntmps97
  go_wp2
  go_loop [3] (fun s => ∃ j : Nat, j ≤ i ∧ s = .int .i64 j) (fun s => i - (intOf s).toNat)
  case atStart => exact ⟨0, Nat.zero_le _, rfl⟩
  case round =>
    obtain ⟨j, hj, rfl⟩ := hrel
    by_cases hlt : j < i
    · have hc := Hz.out j hlt
      go_wp2
      go_round
      case rel => exact ⟨j + 1, hlt, by go_num⟩
      case measure => simp [intOf]; omega
    · obtain rfl : j = i := by omega
      go_wp2_with fail
      refine (tz_any (nth xs j) _ hl H0.out HT.out).mono ?_
      rintro e w' ⟨rfl, rfl⟩
      go_wp2
      go_ret
      exact ⟨ret_int (by push_cast; omega), rfl⟩

theorem ret_bool {a b : Bool} (h : a = b) : Ending.returned (.bool a) = .returned (.bool b) := by rw [h]
theorem less_round {a b : List Nat} {k : Nat} (h0 : 0 < k) (hk : k ≤ a.length) (hl : a.length = b.length) (hd : a.drop k = b.drop k) (he : nth a (k - 1) = nth b (k - 1)) : a.drop (k - 1) = b.drop (k - 1) := cmp_round h0 hk hl hd he
theorem less_top {a b : List Nat} {k : Nat} (ha : LimW a) (h0 : 0 < k) (hk : k ≤ a.length) (hl : a.length = b.length) (hd : a.drop k = b.drop k) (he : nth a (k - 1) < nth b (k - 1)) : vw a < vw b :=
  vw_lt_of_top (k := k - 1) ha hl (by omega) (by rw [show k - 1 + 1 = k by omega]; exact hd) he

set_option maxRecDepth 100000 in
set_option maxHeartbeats 2000000 in
theorem lessWords_any (A B : Option Addr) (n m c d : Nat) (X Y : List Nat) (w : World) (hs : Sl w .u64 A X) (hs2 : Sl w .u64 B Y) (hn : X.length = n) (hm : Y.length = m) (lX : LimW X) (lY : LimW Y) (tX : TopW X) (tY : TopW Y) (hb1 : n ≤ 100000000) (hb2 : m ≤ 100000000) :
    Calls Tryd.prog 99 #[.slice A n c, .slice B m d] w fun e w' => e = .returned (.bool (decide (vw X < vw Y))) ∧ Qt w w' := by
  by_cases hne : n = m
  · subst hne
    have hne' : ((n : Int) != (n : Int)) = false := by simp
    have Hn := hid hn
    have Hm := hid hm
    clear hn hm
    go_enter Tryd.func99, Tryd.ntmps99
    go_wp2
    go_loopw [5] (fun i wr => ∃ k : Nat, k ≤ n ∧ i = .int .i64 ((k : Int) - 1) ∧ X.drop k = Y.drop k ∧ Qt w wr) (fun i _ => (intOf i + 1).toNat)
    case atStart =>
      refine ⟨n, Nat.le_refl _, by go_num, ?_, Qt.refl _⟩
      rw [List.drop_of_length_le (by rw [Hn.out]; exact Nat.le_refl _), List.drop_of_length_le (by rw [Hm.out]; exact Nat.le_refl _)]
    case round =>
      obtain ⟨k, hk, rfl, hdr, hq⟩ := hrel
      have Hdr := hid hdr; clear hdr
      by_cases h0 : 0 < k
      · obtain ⟨ad, rfl, _, hcell⟩ := (hs.qt hq) (k - 1) (by have := Hn.out; omega)
        obtain ⟨bd, rfl, _, hcell2⟩ := (hs2.qt hq) (k - 1) (by have := Hm.out; omega)
        by_cases he : nth X (k - 1) = nth Y (k - 1)
        · have he' : (((nth X (k - 1) : Nat) : Int) != ((nth Y (k - 1) : Nat) : Int)) = false := by simp [he]
          have He := hid he; clear he
          go_wp2
          go_quiet (fail)
          go_wp2
          go_roundw
          case rel => exact ⟨k - 1, by omega, by go_num, less_round h0 (by have := Hn.out; omega) (Hn.out.trans Hm.out.symm) Hdr.out He.out, hq.drewN _⟩
          case measure => simp [intOf]; omega
        · have he' : (((nth X (k - 1) : Nat) : Int) != ((nth Y (k - 1) : Nat) : Int)) = true := by simp; omega
          have Hs := hid (show decide (vw X < vw Y) = decide (nth X (k - 1) < nth Y (k - 1)) from by
            rcases Nat.lt_or_gt_of_ne he with hlt | hgt
            · rw [decide_eq_true hlt, decide_eq_true (less_top lX h0 (by have := Hn.out; omega) (Hn.out.trans Hm.out.symm) Hdr.out hlt)]
            · have h1 := less_top lY h0 (by have := Hm.out; omega) (Hm.out.trans Hn.out.symm) Hdr.out.symm hgt
              rw [decide_eq_false (show ¬ vw X < vw Y by omega), decide_eq_false (show ¬ nth X (k - 1) < nth Y (k - 1) by omega)])
          clear he
          go_wp2
          go_quiet (fail)
          have hq1 := hq.drewN nq
          have hcell1 : (wr.drewN nq).cell? (ad.add (k - 1)) = _ := hcell
          have hcell3 : (wr.drewN nq).cell? (bd.add (k - 1)) = _ := hcell2
          clear hcell hcell2 hq
          generalize wr.drewN nq = w1 at *
          go_wp2
          go_quiet (fail)
          all_goals go_wp2
          all_goals go_ret
          all_goals exact ⟨ret_bool Hs.out.symm, hq1.drewN _⟩
      · have Hs := hid (show decide (vw X < vw Y) = false from by
          rw [show k = 0 by omega] at Hdr
          have := Hdr.out
          rw [List.drop_zero, List.drop_zero] at this
          rw [this]; simp)
        go_wp2
        go_ret
        exact ⟨ret_bool Hs.out.symm, hq⟩
  · have hne' : ((n : Int) != (m : Int)) = true := by simp; omega
    have Hs := hid (show decide (vw X < vw Y) = decide (n < m) from by
      rcases Nat.lt_or_gt_of_ne hne with hlt | hgt
      · rw [decide_eq_true hlt, decide_eq_true (vw_lt_of_length lX tY (by omega))]
      · have h1 := vw_lt_of_length lY tX (show Y.length < X.length by omega)
        rw [decide_eq_false (show ¬ vw X < vw Y by omega), decide_eq_false (show ¬ n < m by omega)])
    clear hne hn hm
    go_enter Tryd.func99, Tryd.ntmps99
    go_wp2
    go_ret
    exact ⟨ret_bool Hs.out.symm, Qt.refl _⟩

end Go.Proofs.YtlfeendebbidhaaDoor
