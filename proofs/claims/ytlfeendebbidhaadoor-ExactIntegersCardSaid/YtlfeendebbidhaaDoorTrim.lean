/- The contracts of the smallest functions over limbs: trim, wordOf, isOne, direction, compareLimbs. For all slices that read as limbs. -/
import Derived.Test.YtlfeendebbidhaaDoorBase
import Derived.Test.YtlfeendebbidhaaDoorBits
namespace Go.Proofs.YtlfeendebbidhaaDoor
open Go.RowKit Kb

set_option maxHeartbeats 400000 in
theorem trim_any (A : Option Addr) (c : Nat) (xs : List Nat) (w : World) (hs : Sl w .u16 A xs) (hl : xs.length ≤ c) (hc : c ≤ maxLen) :
    Calls Tryd.prog 68 #[.slice A xs.length c] w fun e w' => e = .returned (.slice A (trimL xs).length c) ∧ w = w' := by
  unfold maxLen at hc
  go_enter Tryd.func68, Tryd.ntmps68
  go_wp2
  go_loop [0] (fun s => ∃ n : Nat, keepL xs n ∧ s = .slice A n c) (fun s => lenOf s)
  case atStart => exact ⟨xs.length, keepL_start xs, rfl⟩
  case round =>
    obtain ⟨n, hn, rfl⟩ := hrel
    have hn1 := hn.1
    by_cases h0 : 0 < n
    · obtain ⟨ad, rfl, hb, hcell⟩ := hs (n - 1) (by omega)
      by_cases hz : nth xs (n - 1) = 0
      · have hk := keepL_step hn hz
        rw [hz] at hcell
        have Hz := hid hz; clear hz
        go_wp2
        go_round
        case rel => exact ⟨n - 1, hk, rfl⟩
        case measure => simp [lenOf]; omega
      · have hk := trimL_length hn (.inr hz)
        have Hk := hid hk; clear hk
        go_wp2
        go_ret
        exact ⟨ret_slice Hk.out.symm, rfl⟩
    · have hk := trimL_length hn (.inl (by omega))
      have Hk := hid hk; clear hk
      go_wp2
      go_ret
      exact ⟨ret_slice Hk.out.symm, rfl⟩

theorem trim_nm (A : Option Addr) (c n : Nat) (xs : List Nat) (w : World) (hs : Sl w .u16 A xs) (hx : Lim xs) (hn : xs.length = n) (hl : n ≤ c) (hc : c ≤ maxLen) :
    Calls Tryd.prog 68 #[.slice A n c] w fun e w' => ∃ v, e = .returned v ∧ Nm w v (val xs) ∧ w = w' := by
  subst hn
  refine (trim_any A c xs w hs hl hc).mono ?_
  rintro e w' ⟨rfl, rfl⟩
  refine ⟨_, rfl, ⟨A, c, by rw [trimL_dig hx], ?_, ?_, hc⟩, rfl⟩
  · obtain ⟨n, hn⟩ : ∃ n, trimL xs = xs.take n := trimL_is_take xs
    rw [← trimL_dig hx, hn]
    exact hs.take n
  · rw [← trimL_dig hx]
    have := trimL_length_le xs
    omega

set_option maxHeartbeats 400000 in
theorem direction_any (b : Bool) (w : World) :
    Calls Tryd.prog 73 #[.bool b] w fun e w' => e = .returned (.int .i64 (if b then 1 else -1)) ∧ w = w' := by
  cases b <;>
  · go_enter Tryd.func73, Tryd.ntmps73
    go_wp2
    go_ret
    exact ⟨rfl, rfl⟩

set_option maxHeartbeats 400000 in
theorem wordOf_any (A : Option Addr) (c : Nat) (xs : List Nat) (w : World) (hs : Sl w .u16 A xs) (h4 : xs.length ≤ 4) (hx : Lim xs) :
    Calls Tryd.prog 40 #[.slice A xs.length c] w fun e w' => e = .returned (.int .u64 (val xs : Nat)) ∧ w = w' := by
  go_enter Tryd.func40, Tryd.ntmps40
  go_wp2
  go_loop [3, 8] (fun s i => ∃ k : Nat, k ≤ xs.length ∧ i = .int .i64 k ∧ s = .int .u64 (val (xs.take k) : Nat)) (fun _ i => xs.length - (intOf i).toNat)
  case atStart => exact ⟨0, by omega, rfl, rfl⟩
  case round =>
    obtain ⟨k, hk, rfl, rfl⟩ := hrel
    by_cases hlt : k < xs.length
    · obtain ⟨ad, rfl, hb, hcell⟩ := hs k hlt
      go_wp2
      go_round
      case rel =>
        refine ⟨k + 1, hlt, by go_num, ?_⟩
        rw [or_word (by omega) (Nat.lt_of_lt_of_le (val_lt (lim_take hx k)) (by rw [List.length_take, Nat.min_eq_left hk]; exact Nat.le_refl _)) (lim_nth hx k), val_take_succ hlt]
      case measure => simp [intOf]; omega
    · have e : xs.take k = xs := List.take_of_length_le (by omega)
      rw [e]
      clear e
      go_wp2
      go_ret
      exact ⟨rfl, rfl⟩

set_option maxHeartbeats 400000 in
theorem isOne_any (A : Option Addr) (c : Nat) (xs : List Nat) (w : World) (hs : Sl w .u16 A xs)  :
    Calls Tryd.prog 77 #[.slice A xs.length c] w fun e w' => e = .returned (.bool (decide (xs = [1]))) ∧ w = w' := by
  by_cases h1 : xs.length = 1
  · obtain ⟨x, rfl⟩ : ∃ x, xs = [x] := List.length_eq_one_iff.1 h1
    obtain ⟨ad, rfl, hb, hcell⟩ := hs 0 (by simp)
    rw [nth_cons_zero, addr_zero] at hcell
    by_cases hx : x = 1
    · subst hx
      go_enter Tryd.func77, Tryd.ntmps77
      go_wp2
      go_ret
      exact ⟨rfl, rfl⟩
    · have hx' : ((x : Int) == 1) = false := by rw [beq_eq_false_iff_ne]; omega
      have hd : decide ([x] = [1]) = false := by simp; exact hx
      rw [hd]
      clear hd
      go_enter Tryd.func77, Tryd.ntmps77
      go_wp2
      go_ret
      exact ⟨rfl, rfl⟩
  · have hd : decide (xs = [1]) = false := by simp; intro e; subst e; simp at h1
    have hl1 : ((xs.length : Int) == 1) = false := by rw [beq_eq_false_iff_ne]; omega
    rw [hd]
    clear hd
    go_enter Tryd.func77, Tryd.ntmps77
    go_wp2
    go_ret
    exact ⟨rfl, rfl⟩

/-- The sign of a difference. -/
def sgn (a b : Nat) : Int := if a < b then -1 else if a = b then 0 else 1
theorem sgn_lt {a b : Nat} (h : a < b) : sgn a b = -1 := if_pos h
theorem sgn_gt {a b : Nat} (h : b < a) : sgn a b = 1 := by unfold sgn; rw [if_neg (by omega), if_neg (by omega)]
theorem sgn_eq (a : Nat) : sgn a a = 0 := by unfold sgn; rw [if_neg (by omega), if_pos rfl]

theorem drop_pred {l : List Nat} {k : Nat} (h0 : 0 < k) (hk : k ≤ l.length) : l.drop (k - 1) = nth l (k - 1) :: l.drop k := by
  obtain ⟨m, rfl⟩ : ∃ m, k = m + 1 := ⟨k - 1, by omega⟩
  rw [Nat.add_sub_cancel, List.drop_eq_getElem_cons (by omega), nth_eq (by omega)]
theorem cmp_round {a b : List Nat} {k : Nat} (h0 : 0 < k) (hk : k ≤ a.length) (hl : a.length = b.length) (hd : a.drop k = b.drop k) (he : nth a (k - 1) = nth b (k - 1)) : a.drop (k - 1) = b.drop (k - 1) := by
  rw [drop_pred h0 hk, drop_pred h0 (by omega), hd, he]
theorem cmp_less {a b k : Nat} (h0 : 0 < k) (hk : k ≤ (dig a).length) (hl : (dig a).length = (dig b).length) (hd : (dig a).drop k = (dig b).drop k) (he : nth (dig a) (k - 1) < nth (dig b) (k - 1)) : a < b := by
  have := val_lt_of_top (k := k - 1) (lim_dig a) hl (by omega) (by rw [show k - 1 + 1 = k by omega]; exact hd) he
  rwa [val_dig, val_dig] at this
theorem cmp_same {a b k : Nat} (h0 : ¬ 0 < k) (hd : (dig a).drop k = (dig b).drop k) : a = b := by
  rw [show k = 0 by omega, List.drop_zero, List.drop_zero] at hd
  exact dig_inj hd

set_option maxHeartbeats 1000000 in
theorem compareLimbs_any (A B : Option Addr) (c d a b : Nat) (w : World) (hs : Sl w .u16 A (dig a)) (hl : (dig a).length ≤ c) (hc : c ≤ maxLen)
    (hs2 : Sl w .u16 B (dig b)) :
    Calls Tryd.prog 50 #[.slice A (dig a).length c, .slice B (dig b).length d] w fun e w' => e = .returned (.int .i64 (sgn a b)) ∧ Qt w w' := by
  unfold maxLen at hc
  by_cases hne : (dig a).length = (dig b).length
  · have hne' : (((dig a).length : Int) != ((dig b).length : Int)) = false := by simp [hne]
    have Hne := hid hne; clear hne
    go_enter Tryd.func50, Tryd.ntmps50
    go_wp2
    go_loopw [5] (fun i wr => ∃ k : Nat, k ≤ (dig a).length ∧ i = .int .i64 ((k : Int) - 1) ∧ (dig a).drop k = (dig b).drop k ∧ Qt w wr) (fun i _ => (intOf i + 1).toNat)
    case atStart =>
      refine ⟨(dig a).length, Nat.le_refl _, by go_num, ?_, Qt.refl _⟩
      rw [List.drop_length, Hne.out, List.drop_length]
    case round =>
      obtain ⟨k, hk, rfl, hdr, hq⟩ := hrel
      have Hdr := hid hdr; clear hdr
      by_cases h0 : 0 < k
      · obtain ⟨ad, rfl, hb1, hcell⟩ := (hs.qt hq) (k - 1) (by omega)
        obtain ⟨bd, rfl, hb2, hcell2⟩ := (hs2.qt hq) (k - 1) (by have := Hne.out; omega)
        have hkb : k ≤ (dig b).length := by have := Hne.out; omega
        by_cases he : nth (dig a) (k - 1) = nth (dig b) (k - 1)
        · have he' : (((nth (dig a) (k - 1) : Nat) : Int) != ((nth (dig b) (k - 1) : Nat) : Int)) = false := by simp [he]
          have He := hid he; clear he
          go_wp2
          go_quiet (fail)
          go_wp2
          go_roundw
          case rel => exact ⟨k - 1, by omega, by go_num, cmp_round h0 hk Hne.out Hdr.out He.out, hq.drewN _⟩
          case measure => simp [intOf]; omega
        · have he' : (((nth (dig a) (k - 1) : Nat) : Int) != ((nth (dig b) (k - 1) : Nat) : Int)) = true := by simp; omega
          rcases Nat.lt_or_gt_of_ne he with hlt | hgt
          · have Hs := hid (sgn_lt (cmp_less h0 hk Hne.out Hdr.out hlt))
            have hgt' : decide (nth (dig b) (k - 1) < nth (dig a) (k - 1)) = false := by simp; omega
            clear he
            go_wp2
            go_quiet (fail)
            have hq1 := hq.drewN nq
            have hcell1 : (wr.drewN nq).cell? (ad.add (k - 1)) = _ := hcell
            have hcell3 : (wr.drewN nq).cell? (bd.add (k - 1)) = _ := hcell2
            clear hcell hcell2 hq
            generalize wr.drewN nq = w1 at *
            go_wp2
            go_quiet ((go_at_call 73; exact quiet_left (direction_any _ _)))
            all_goals go_wp2
            all_goals go_ret
            all_goals exact ⟨ret_int Hs.out.symm, hq1.drewN _⟩
          · have Hs := hid (sgn_gt (cmp_less h0 (by have := Hne.out; omega) Hne.out.symm Hdr.out.symm hgt))
            have hgt' : decide (nth (dig b) (k - 1) < nth (dig a) (k - 1)) = true := by simp; omega
            clear he
            go_wp2
            go_quiet (fail)
            have hq1 := hq.drewN nq
            have hcell1 : (wr.drewN nq).cell? (ad.add (k - 1)) = _ := hcell
            have hcell3 : (wr.drewN nq).cell? (bd.add (k - 1)) = _ := hcell2
            clear hcell hcell2 hq
            generalize wr.drewN nq = w1 at *
            go_wp2
            go_quiet ((go_at_call 73; exact quiet_left (direction_any _ _)))
            all_goals go_wp2
            all_goals go_ret
            all_goals exact ⟨ret_int Hs.out.symm, hq1.drewN _⟩
      · have Hs := hid (cmp_same h0 Hdr.out)
        go_wp2
        go_ret
        exact ⟨ret_int (by rw [Hs.out, sgn_eq]), hq⟩
  · have hne' : (((dig a).length : Int) != ((dig b).length : Int)) = true := by simp; omega
    rcases Nat.lt_or_gt_of_ne hne with hlt | hgt
    · have Hs := hid (sgn_lt (lt_of_length_lt hlt))
      have hgt' : decide ((dig b).length < (dig a).length) = false := by simp; omega
      clear hne
      go_enter Tryd.func50, Tryd.ntmps50
      go_wp2_with (go_at_call 73; refine (direction_any _ _).mono ?_; rintro e w' ⟨rfl, rfl⟩)
      all_goals go_ret
      all_goals exact ⟨ret_int Hs.out.symm, Qt.refl _⟩
    · have Hs := hid (sgn_gt (lt_of_length_lt hgt))
      have hgt' : decide ((dig b).length < (dig a).length) = true := by simp; omega
      clear hne
      go_enter Tryd.func50, Tryd.ntmps50
      go_wp2_with (go_at_call 73; refine (direction_any _ _).mono ?_; rintro e w' ⟨rfl, rfl⟩)
      all_goals go_ret
      all_goals exact ⟨ret_int Hs.out.symm, Qt.refl _⟩


theorem compareLimbs_nm {v u : Value} {a b : Nat} {w : World} (h : Nm w v a) (k : Nm w u b) :
    Calls Tryd.prog 50 #[v, u] w fun e w' => e = .returned (.int .i64 (sgn a b)) ∧ Qt w w' := by
  obtain ⟨A, c, rfl, h1, h2, h3⟩ := h
  obtain ⟨B, d, rfl, k1, k2, k3⟩ := k
  exact compareLimbs_any A B c d a b w h1 h2 h3 k1
theorem isOne_nm {v : Value} {a : Nat} {w : World} (h : Nm w v a) :
    Calls Tryd.prog 77 #[v] w fun e w' => e = .returned (.bool (decide (a = 1))) ∧ w = w' := by
  obtain ⟨A, c, rfl, h1, h2, h3⟩ := h
  have e : decide (a = 1) = decide (dig a = [1]) := by
    have e1 : dig 1 = [1] := by rw [dig_pos (by decide)]; simp [dig_zero]
    rw [← e1]
    exact decide_eq_decide.2 ⟨fun h => by rw [h], fun h => dig_inj h⟩
  rw [e]
  exact isOne_any A c (dig a) w h1
theorem wordOf_nm {v : Value} {a : Nat} {w : World} (h : Nm w v a) (ha : a < 65536 ^ 4) :
    Calls Tryd.prog 40 #[v] w fun e w' => e = .returned (.int .u64 (a : Nat)) ∧ w = w' := by
  obtain ⟨A, c, rfl, h1, h2, h3⟩ := h
  have := wordOf_any A c (dig a) w h1 (dig_length_le ha) (lim_dig a)
  rwa [val_dig] at this

end Go.Proofs.YtlfeendebbidhaaDoor
