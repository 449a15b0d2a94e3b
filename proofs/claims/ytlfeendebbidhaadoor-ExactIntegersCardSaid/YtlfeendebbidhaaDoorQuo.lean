/- The contracts of Clone and divLimbs at numbers. For all numbers whose limbs fit into memory, the divisor not 0. -/
import Derived.Test.YtlfeendebbidhaaDoorLong
import Derived.Deep.RegionWith
namespace Go.Proofs.YtlfeendebbidhaaDoor
open Go.RowKit Kb

set_option maxRecDepth 100000 in
set_option maxHeartbeats 1000000 in
theorem clone_empty (ad : Addr) (c : Nat) (w : World) :
    Calls Tryd.prog 70 #[.slice (some ad) 0 c] w fun e w' => ∃ v, e = .returned v ∧ Nm w' v 0 ∧ Below w.heap.size w w' := by
  obtain ⟨i0, hi, hz0, hz1, hz2⟩ := info_parts Tryd.info16
  have hnil := fun w => Lib.run_eql_slice_nil (P := Tryd.prog) w 22 71 (some ad) 0 c 0 0 Tryd.underlying22
  simp only [Option.isNone_some] at hnil
  go_enter Tryd.func70, Tryd.ntmps70
  go_wp2_with (at_builtin; refine wpList_append_own _ rfl (.tmp 5) (.tmp 6) 22 rfl w.heap.size 71 i0 (.int .u16 0) 1 2 Tryd.underlying22 hi hz0 hz1 hz2 rfl (by decide) (.slice (some ⟨w.heap.size, 0, none⟩) 0 0) 0 [] rfl (World.ownsRow_made _ _ 0 (Nat.le_refl _) (by unfold maxLen; omega) rfl) ad 0 c [] rfl (by simp) (by simp) (by simp) (by unfold maxLen; omega) (by omega) (by simp) ?_)
  intro v' w1 hown hgrow hnn
  have hbel := ((Below.refl w.heap.size w).alloc (Nat.le_refl _) (.cells #[] 71)).grown hgrow (by simp) (fun k hk => by simp [Value.ownBlock] at hk; omega)
  have hnm : Nm w1 v' 0 := by
    rcases hown.2 with ⟨e, _⟩ | ⟨g, cap, cur, e, _, _, h1, h2, _⟩
    · rw [e]; exact nm_nil _
    · exact ⟨_, cap, by rw [e, dig_zero]; rfl, by rw [dig_zero]; exact Sl.nil _ _ _, by rw [dig_zero]; exact Nat.zero_le _, h2⟩
  clear hown hgrow hnn hnil
  go_wp2
  go_ret
  exact ⟨v', rfl, hnm, hbel⟩

theorem clone_nm {v : Value} {a : Nat} {w : World} (h : Nm w v a) (ha : (dig a).length ≤ 1000000000) :
    Calls Tryd.prog 70 #[v] w fun e w' => ∃ v, e = .returned v ∧ Nm w' v a ∧ Below w.heap.size w w' := by
  obtain ⟨A, c, rfl, h1, h2, h3⟩ := h
  by_cases h0 : a = 0
  · subst h0
    rw [dig_zero] at *
    rcases A with _ | ad
    · refine (Tryd.slices_Clone_nil 0 c w).mono ?_
      rintro e w' ⟨rfl, rfl⟩
      exact ⟨_, rfl, nm_nil _, Below.refl _ _⟩
    · exact clone_empty ad c w
  · have hne : dig a ≠ [] := fun e => h0 (dig_nil_iff.1 e)
    refine (clone_any A c (dig a) w h1 hne ha).mono ?_
    rintro e w' ⟨g, c', rfl, _, hc1, hc2, hp, hb⟩
    exact ⟨_, rfl, ⟨_, c', rfl, hp.sl, hc1, hc2⟩, hb⟩

set_option maxRecDepth 100000 in
set_option maxHeartbeats 2000000 in
theorem divLimbs_less {v u : Value} {a b : Nat} {w : World} (h : Nm w v a) (k : Nm w u b) (hlt : a < b) (ha : (dig a).length ≤ 400000000) :
    Calls Tryd.prog 44 #[v, u] w fun e w' => ∃ q r, e = .returned (.tuple #[q, r]) ∧ Nm w' q (a / b) ∧ Nm w' r (a % b) ∧ Below w.heap.size w w' := by
  have Hs := hid (sgn_lt hlt)
  have Hd := hid (And.intro (Nat.div_eq_of_lt hlt) (Nat.mod_eq_of_lt hlt))
  clear hlt
  go_enter Tryd.func44, Tryd.ntmps44
  go_wp2_with fail
  refine (compareLimbs_nm h k).mono ?_
  rintro e w1 ⟨rfl, hq⟩
  rw [Hs.out]
  go_wp2_with fail
  refine (clone_nm (h.qt hq) (by omega)).mono ?_
  rintro e w2 ⟨r, rfl, hr, hb⟩
  go_wp2
  go_ret2
  refine ⟨_, r, rfl, ?_, ?_, (hq.below _).trans (hb.mono (by have := (hq.below 0).size; omega))⟩
  · rw [Hd.out.1]; exact nm_nil _
  · rw [Hd.out.2]; exact hr

theorem hide_all {p : World → Prop} (h : ∀ W, p W) : Hid (∀ W, p W) := h
theorem show_all {p : World → Prop} (h : Hid (∀ W, p W)) : ∀ W, p W := h

set_option maxRecDepth 100000 in
set_option maxHeartbeats 2000000 in
theorem divLimbs_words {v u : Value} {a b : Nat} {w : World} (h : Nm w v a) (k : Nm w u b) (hge : b ≤ a) (hb0 : b ≠ 0) (ha : (dig a).length ≤ 4) :
    Calls Tryd.prog 44 #[v, u] w fun e w' => ∃ q r, e = .returned (.tuple #[q, r]) ∧ Nm w' q (a / b) ∧ Nm w' r (a % b) ∧ Below w.heap.size w w' := by
  have h4 := lt_of_dig_length ha
  rw [show (65536 : Nat) ^ 4 = 18446744073709551616 from rfl] at h4
  have hq1 : a / b < 18446744073709551616 := Nat.lt_of_le_of_lt (Nat.div_le_self _ _) h4
  have hr1 : a % b < 18446744073709551616 := Nat.lt_of_le_of_lt (Nat.mod_le _ _) h4
  have Hs := hid (show sgn a b = 0 ∨ sgn a b = 1 from by
    rcases Nat.lt_or_ge b a with h | h
    · exact .inr (sgn_gt h)
    · exact .inl (by rw [show a = b by omega]; exact sgn_eq b))
  have Hb := hid (And.intro h4 (Nat.lt_of_le_of_lt hge h4))
  have Hq := hid (And.intro hq1 hr1)
  have hbz : ((b : Int) == 0) = false := by rw [beq_eq_false_iff_ne]; omega
  have hbp : (0 : Int) < (b : Int) := by omega
  have hbn : ¬ (b : Int) = 0 := by omega
  have hbn2 : ¬ b = 0 := hb0
  obtain ⟨q1, hq1'⟩ : ∃ q1, q1 = a / b := ⟨_, rfl⟩
  obtain ⟨r1, hr1'⟩ : ∃ r1, r1 = a % b := ⟨_, rfl⟩
  have hwq : IntKind.u64.wrap ((a : Int) / (b : Int)) = (q1 : Int) := by rw [hq1', ← Int.natCast_ediv]; exact u64_of hq1
  have hwr : ((a : Int).tmod (b : Int)) = (r1 : Int) := by rw [hr1', Int.tmod_eq_emod_of_nonneg (Int.natCast_nonneg a), Int.natCast_emod]
  rw [← hq1'] at Hq ⊢
  rw [← hr1'] at Hq ⊢
  clear hq1' hr1' hq1 hr1
  obtain ⟨A, c, rfl, g1, g2, g3⟩ := id h
  clear hge hb0 h4
  go_enter Tryd.func44, Tryd.ntmps44
  go_wp2_with fail
  refine (compareLimbs_nm h k).mono ?_
  rintro e w1 ⟨rfl, hq⟩
  have h' := h.qt hq
  have k' := k.qt hq
  rcases Hs.out with hs | hs
  all_goals
    rw [hs]
    have hs2 := hid hs
    clear hs
    go_wp2_with fail
    refine (wordOf_nm h' (by rw [show (65536 : Nat) ^ 4 = 18446744073709551616 from rfl]; exact Hb.out.1)).mono ?_
    rintro e w2 ⟨rfl, rfl⟩
    go_wp2_with fail
    refine (wordOf_nm k' (by rw [show (65536 : Nat) ^ 4 = 18446744073709551616 from rfl]; exact Hb.out.2)).mono ?_
    rintro e w2 ⟨rfl, rfl⟩
    go_wp2_with fail
    go_region_with (first
      | (go_at_call 43; with_reducible refine (limbsOf_any q1 _ Hq.out.1).mono ?_; rintro e w' ⟨vq, rfl, hnq, hbq⟩)
      | (go_at_call 43; with_reducible refine (limbsOf_any r1 _ Hq.out.2).mono ?_; rintro e w' ⟨vr, rfl, hnr, hbr⟩))
    go_wp2
    go_ret2
    exact ⟨vq, vr, rfl, hnq.below hbr, hnr, bthen (bthen (hq.drew.below w.heap.size) hbq (Nat.le_refl _)) hbr (Nat.le_refl _)⟩

set_option maxRecDepth 100000 in
set_option maxHeartbeats 2000000 in
theorem divLimbs_digit {v u : Value} {a b : Nat} {w : World} (h : Nm w v a) (k : Nm w u b) (hge : b ≤ a) (hb1 : (dig b).length = 1) (ha4 : 4 < (dig a).length) (ha : (dig a).length ≤ 400000000) :
    Calls Tryd.prog 44 #[v, u] w fun e w' => ∃ q r, e = .returned (.tuple #[q, r]) ∧ Nm w' q (a / b) ∧ Nm w' r (a % b) ∧ Below w.heap.size w w' := by
  have hs0 : 0 ≤ sgn a b := by
    rcases Nat.lt_or_ge b a with h | h
    · rw [sgn_gt h]; decide
    · rw [show a = b by omega, sgn_eq]; decide
  have hnn : ¬ sgn a b < 0 := by omega
  obtain ⟨A, c, rfl, g1, g2, g3⟩ := id h
  obtain ⟨B, d, rfl, k1, k2, k3⟩ := id k
  have hb0 : b ≠ 0 := by intro e; subst e; rw [dig_zero] at hb1; simp at hb1
  have e1 : dig b = [b] := by
    obtain ⟨x, hx⟩ := List.length_eq_one_iff.1 hb1
    have := val_dig b
    rw [hx] at this ⊢
    simp [val] at this
    rw [this]
  have hbl : b < 65536 := lim_dig b b (by rw [e1]; simp)
  obtain ⟨bd, rfl, hbb, hcell⟩ := k1 0 (by omega)
  rw [addr_zero, e1, nth_cons_zero] at hcell
  have hbl1 : (((dig b).length : Int) == 1) = true := by rw [hb1]; rfl
  have hane : dig a ≠ [] := by intro e; rw [e] at ha4; simp at ha4
  have hlp : 0 < (dig b).length := by omega
  have Hb1 := hid hb1
  have E1 := hid e1
  clear hb1 e1
  generalize hsg : sgn a b = sg at *
  have Hsg := hid hsg
  clear hsg
  go_enter Tryd.func44, Tryd.ntmps44
  go_wp2_with fail
  refine (compareLimbs_nm h k).mono ?_
  rintro e w1 ⟨rfl, hq⟩
  rw [Hsg.out]
  have hcell1 : w1.cell? bd = some (.int .u16 (b : Nat)) := by
    obtain ⟨n, rfl⟩ := hq; exact hcell
  have hsb := hid (hq.below w.heap.size)
  have g1' := g1.qt hq
  clear hcell h k
  go_wp2_with fail
  refine (clone_any A c (dig a) _ g1' hane (by omega)).mono ?_
  rintro e w2 ⟨g, c', rfl, hg, hc1, hc2, hp, hb2⟩
  have hcell2 : w2.cell? bd = some (.int .u16 (b : Nat)) := by
    have := (hq.below 0).size
    rw [hb2.cell (p := bd) (by omega)]; exact hcell1
  go_wp2_with fail
  refine (divideBy_any g c' b (dig a) _ hp (lim_dig a) (by omega) hbl (by omega)).mono ?_
  rintro e w3 ⟨rfl, o, hol, lo, hov, hpo, hgr⟩
  have hb3 := (hsb.out.trans (hb2.mono (hq.below 0).size)).grown hgr (by have := (hq.below 0).size; have := hb2.size; omega) (fun k hk => by injection hk with hk; have := (hq.below 0).size; omega)
  have Hol := hid hol
  have Hov := hid hov
  clear hol hov hcell1 hcell2 hb2 hp hgr
  go_wp2_with fail
  refine (trim_nm _ c' _ o _ hpo.sl lo Hol.out hc1 hc2).mono ?_
  rintro e w4 ⟨q, rfl, hnq, rfl⟩
  go_wp2_with fail
  have hrest : IntKind.u64.wrap ((val (dig a) : Int) % (b : Int)) = ((a % b : Nat) : Int) := by
    rw [val_dig, ← Int.natCast_emod]
    exact u64_of (by have := Nat.mod_lt a (show 0 < b by omega); omega)
  rw [hrest]
  clear hrest
  refine (limbsOf_any (a % b) _ (by have := Nat.mod_lt a (show 0 < b by omega); omega)).mono ?_
  rintro e w4 ⟨r, rfl, hnr, hb4⟩
  go_wp2
  go_ret2
  rw [Hov.out, val_dig] at hnq
  exact ⟨q, r, rfl, hnq.below hb4, hnr, bthen hb3 hb4 (Nat.le_refl _)⟩

set_option maxRecDepth 100000 in
set_option maxHeartbeats 2000000 in
theorem divLimbs_long {v u : Value} {a b : Nat} {w : World} (h : Nm w v a) (k : Nm w u b) (hge : b ≤ a) (hb2 : 2 ≤ (dig b).length) (ha4 : 4 < (dig a).length) (ha : (dig a).length ≤ 400000000) :
    Calls Tryd.prog 44 #[v, u] w fun e w' => ∃ q r, e = .returned (.tuple #[q, r]) ∧ Nm w' q (a / b) ∧ Nm w' r (a % b) ∧ Below w.heap.size w w' := by
  have hs0 : 0 ≤ sgn a b := by
    rcases Nat.lt_or_ge b a with h | h
    · rw [sgn_gt h]; decide
    · rw [show a = b by omega, sgn_eq]; decide
  have hnn : ¬ sgn a b < 0 := by omega
  have hlm := dig_length_mono hge
  obtain ⟨A, c, rfl, g1, g2, g3⟩ := id h
  obtain ⟨B, d, rfl, k1, k2, k3⟩ := id k
  have hbl1 : (((dig b).length : Int) == 1) = false := by rw [beq_eq_false_iff_ne]; omega
  generalize hsg : sgn a b = sg at *
  have Hsg := hid hsg
  clear hsg
  go_enter Tryd.func44, Tryd.ntmps44
  go_wp2_with fail
  refine (compareLimbs_nm h k).mono ?_
  rintro e w1 ⟨rfl, hq⟩
  rw [Hsg.out]
  have hsb := hid (hq.below w.heap.size)
  have g1' := g1.qt hq
  have k1' := k1.qt hq
  clear h k
  go_wp2_with fail
  refine (divLong_any A B c d a b ((dig b).length - 2) (dig b).length (dig a).length _ g1' k1' (by omega) (by omega) rfl hlm ha).mono ?_
  rintro e w2 ⟨q, r, rfl, hnq, hnr, hb⟩
  go_wp2
  go_ret2
  exact ⟨q, r, rfl, hnq, hnr, bthen hsb.out hb (Nat.le_refl _)⟩

/-- The quotient and the remainder of numbers. -/
theorem divLimbs_nm {v u : Value} {a b : Nat} {w : World} (h : Nm w v a) (k : Nm w u b) (hb : b ≠ 0) (ha : (dig a).length ≤ 400000000) :
    Calls Tryd.prog 44 #[v, u] w fun e w' => ∃ q r, e = .returned (.tuple #[q, r]) ∧ Nm w' q (a / b) ∧ Nm w' r (a % b) ∧ Below w.heap.size w w' := by
  rcases Nat.lt_or_ge a b with hlt | hge
  · exact divLimbs_less h k hlt ha
  · by_cases h4 : (dig a).length ≤ 4
    · exact divLimbs_words h k hge hb h4
    · have hl : (dig b).length ≠ 0 := fun e => hb (dig_nil_iff.1 (List.eq_nil_of_length_eq_zero e))
      by_cases h1 : (dig b).length = 1
      · exact divLimbs_digit h k hge h1 (by omega) ha
      · exact divLimbs_long h k hge (by omega) (by omega) ha

end Go.Proofs.YtlfeendebbidhaaDoor
