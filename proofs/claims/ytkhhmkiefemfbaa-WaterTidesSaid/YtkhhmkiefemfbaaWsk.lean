/- HighWaters of the reference. For all marks that are right. -/
import Derived.Test.YtkhhmkiefemfbaaWsh
namespace Go.Proofs.Ytkhhmkiefemfbaa
open Go.RowKit Kb Wb

set_option maxRecDepth 100000 in
set_option maxHeartbeats 8000000 in
theorem rHighWaters_ok {w : World} {B0 n c : Nat} {A : Option Addr} {F L : Nat → Int} (h : Pa w B0 A n F L) (hS : Sea n F L) :
    Calls Try.prog 19 #[.slice A n c] w fun e w' => ∃ v : Value, e = .returned v ∧ Hid (w'.ownsRow w.heap.size 43 2 v (hwl n L n).length (mks F L (hwl n L n))) ∧ Below w.heap.size w w' := by
  have hn4 := hS.most
  obtain ⟨i0, hi0, hz0, hz1, hz2⟩ := info_parts info_mark
  have Hh := hid h
  have Hlen := hid (fun k => hwl_len (n := n) (L := L) k)
  clear h
  go_enter Try.func19, Try.ntmps19
  go_wp2_with fail
  go_loopw [3, 4, 5] (fun sv iv _ wr => ∃ i : Nat, i ≤ n ∧ iv = .int .i64 i ∧ Hid (wr.ownsRow w.heap.size 43 2 sv (hwl n L i).length (mks F L (hwl n L i))) ∧ Below w.heap.size w wr) (fun _ iv _ _ => n - (intOf iv).toNat)
  case atStart => exact ⟨0, Nat.zero_le _, rfl, hid (World.ownsRow_nil _ _ _ _), Below.refl _ _⟩
  case round =>
    obtain ⟨i, hi, rfl, Own1, hbel⟩ := hrel
    have pw1 := Hh.out.below (hbel.mono (Nat.le_refl _))
    have HB1 := hid hbel
    have hll := Hlen.out i
    clear hbel
    by_cases hlt : i < n
    · obtain ⟨ad, hA, hl, q0, q1, -, -⟩ := pw1.at_ i hlt
      subst hA
      by_cases hp : 0 < i
      · obtain ⟨ad', hA', hl', p0, p1, pf, ps⟩ := pw1.at_ (i - 1) (by omega)
        injection hA' with hA'
        subst hA'
        have hip : (decide ((0 : Int) < (i : Int))) = true := decide_eq_true (by omega)
        have hip2 : (decide (0 < i)) = true := decide_eq_true hp
        have hi1 : (1 : Int) ≤ (i : Int) := by omega
        by_cases ho : L (i - 1) < L i
        · have hod : decide (L i ≤ L (i - 1)) = false := decide_eq_false (by omega)
          have h0 := hid (show 0 < i → L (i - 1) < L i from fun _ => ho)
          go_wp2
          have w1 : IntKind.i64.wrap ((i : Int) - 1) = (i : Int) - 1 := IntWalk.i64_in _ (by omega)
          have w2 : ((i : Int) - 1).toNat = i - 1 := by omega
          have w3 : (0 : Int) ≤ (i : Int) - 1 := by omega
          have w4 : (i : Int) - 1 < (n : Int) := by omega
          go_quiet (fail)
          clear w1 w2 w3 w4 p0 p1
          have hq := below_drewN (Below.refl wr.heap.size wr) nq
          have pw2 := pw1.below hq
          have HB2 := hid (HB1.out.drewN' nq)
          have Own2 := hid (own_below Own1.out hq)
          clear hq q0 q1
          generalize wr.drewN nq = W2 at *
          clear pw1 Own1 HB1
          clear wr
          go_wp2_with fail
          go_loopw [5] (fun kv wr => ∃ k : Nat, i < k ∧ k ≤ n ∧ kv = .int .i64 k ∧ Hid (∀ j, i < j → j < k → L j = L i) ∧ Below W2.heap.size W2 wr) (fun kv _ => n - (intOf kv).toNat)
          case atStart => exact ⟨i + 1, by omega, by omega, by go_num, hid (fun j a b => by omega), Below.refl _ _⟩
          case round =>
            obtain ⟨k, hk1, hk2, rfl, HK, hbel⟩ := hrel
            have pwr := pw2.below hbel
            have HBr := hid (HB2.out.trans (hbel.mono HB2.out.size))
            have Ownr := hid (own_below Own2.out hbel)
            have Hbel := hid hbel
            clear hbel
            obtain ⟨ad', hA', hl', q0, q1, -, -⟩ := pwr.at_ i hlt
            injection hA' with hA'
            subst hA'
            by_cases hkn : k < n
            · obtain ⟨ad', hA', hl', r0, r1, -, -⟩ := pwr.at_ k hkn
              injection hA' with hA'
              subst hA'
              have dk : decide ((k : Int) < (n : Int)) = true := decide_eq_true (by omega)
              have dk2 : decide (k < n) = true := decide_eq_true hkn
              by_cases hLk : L k = L i
              · have dl : (L k == L i) = true := by rw [beq_iff_eq]; exact hLk
                have HK2 := hid (show ∀ j, i < j → j < k + 1 → L j = L i from fun j a b => by
                  by_cases e : j = k
                  · subst e; exact hLk
                  · exact HK.out j a (by omega))
                clear hLk
                go_wp2
                go_quiet (fail)
                go_wp2
                go_roundw
                case rel => exact ⟨k + 1, by omega, by omega, by go_num, HK2, Hbel.out.drewN' _⟩
                case measure => simp [intOf]; omega
              · have dl : (L k == L i) = false := by rw [beq_eq_false_iff_ne]; exact hLk
                have hwi := hid (hw_iff h0.out (k := k) hk1 hk2 HK.out (fun _ => hLk))
                have e9 : ((k : Int) == (n : Int)) = false := by rw [beq_eq_false_iff_ne]; omega
                have e9' : (k == n) = false := by rw [beq_eq_false_iff_ne]; omega
                clear hLk
                go_wp2
                go_quiet (fail)
                have hq := below_drewN (Below.refl wr.heap.size wr) nq
                have pw4 := pwr.below hq
                have HB4 := hid (HBr.out.drewN' nq)
                have Own4 := hid (own_below Ownr.out hq)
                clear hq q0 q1 r0 r1
                generalize wr.drewN nq = W4 at *
                obtain ⟨ad', hA', hl', q0, q1, -, -⟩ := pw4.at_ i hlt
                injection hA' with hA'
                subst hA'
                obtain ⟨ad', hA', hl', r0, r1, -, -⟩ := pw4.at_ k hkn
                injection hA' with hA'
                subst hA'
                by_cases hlk : L k < L i
                · have dl2 : decide (L k < L i) = true := decide_eq_true hlk
                  have HW := hid (hwi.out.2 (.inr hlk))
                  go_wp2
                  go_quiet (fail)
                  have hq := below_drewN (Below.refl W4.heap.size W4) nq
                  have pw3 := pw4.below hq
                  have HB3 := hid (HB4.out.drewN' nq)
                  have Own3 := hid (own_below Own4.out hq)
                  clear hq q0 q1 r0 r1
                  generalize W4.drewN nq = W3 at *
                  obtain ⟨ad', hA', hl', q0, q1, -, -⟩ := pw3.at_ i hlt
                  injection hA' with hA'
                  subst hA'
                  have hrow := Bk.of_alloc W3 (.cells (#[.int .i64 (F i), .int .i64 (L i)]) 43) rfl
                  have hown' := Own3.out.alloc (.cells (#[.int .i64 (F i), .int .i64 (L i)]) 43)
                  have hB' : w.heap.size ≤ (W3.alloc (.cells (#[.int .i64 (F i), .int .i64 (L i)]) 43)).heap.size := by have := HB3.out.size; simp; omega
                  have hbel := HB3.out.alloc HB3.out.size (.cells (#[.int .i64 (F i), .int .i64 (L i)]) 43)
                  have hcl := mark_cells hrow
                  go_wp2_with (at_builtin; (refine wpList_append_own _ rfl (.tmp 66) (.tmp 71) 34 rfl w.heap.size 43 i0 (.agg #[.int .i64 0, .int .i64 0]) 2 16 Try.underlying34 hi0 hz0 hz1 hz2 rfl (by decide) u3 _ _ rfl hown' ⟨W3.heap.size, 0, none⟩ 1 1 [.int .i64 (F i), .int .i64 (L i)] rfl rfl hcl ?_ (by unfold maxLen; omega) (by omega) hB' ?_))
                  · intro u hu; simp only [List.mem_cons, List.not_mem_nil, or_false] at hu; rcases hu with rfl | rfl <;> rfl
                  intro v' w4 hown4 hgrow _
                  have hb4 := hbel.grown hgrow hB' (fun k hk => (hown'.lt k hk).1)
                  have HO := hid (own_snoc hown4)
                  rw [← hwl_yes HW.out] at HO
                  have HB4 := hid hb4
                  clear hb4 hown4 hgrow hown' hcl hrow hbel hB'
                  go_wp2
                  go_roundw
                  case rel => exact ⟨i + 1, by omega, by go_num, HO, HB4.out⟩
                  case measure => simp [intOf]; omega
                · have dl2 : decide (L k < L i) = false := decide_eq_false hlk
                  have HO := hid Own4.out
                  rw [← hwl_no (fun hw => (hwi.out.1 hw).elim (fun e => by omega) hlk)] at HO
                  go_wp2
                  go_quiet (fail)
                  go_wp2
                  go_roundw
                  case rel => exact ⟨i + 1, by omega, by go_num, HO, HB4.out.drewN' _⟩
                  case measure => simp [intOf]; omega
            · obtain rfl : k = n := by omega
              have dk : decide ((k : Int) < (k : Int)) = false := decide_eq_false (by omega)
              have HW := hid ((hw_iff h0.out (k := k) hk1 hk2 HK.out (fun h => by omega)).2 (.inl rfl))
              go_wp2
              go_quiet (fail)
              have hq := below_drewN (Below.refl wr.heap.size wr) nq
              have pw4 := pwr.below hq
              have HB4 := hid (HBr.out.drewN' nq)
              have Own4 := hid (own_below Ownr.out hq)
              clear hq q0 q1
              generalize wr.drewN nq = W4 at *
              obtain ⟨ad', hA', hl', q0, q1, -, -⟩ := pw4.at_ i hlt
              injection hA' with hA'
              subst hA'
              go_wp2
              go_quiet (fail)
              have hq := below_drewN (Below.refl W4.heap.size W4) nq
              have pw3 := pw4.below hq
              have HB3 := hid (HB4.out.drewN' nq)
              have Own3 := hid (own_below Own4.out hq)
              clear hq q0 q1
              generalize W4.drewN nq = W3 at *
              obtain ⟨ad', hA', hl', q0, q1, -, -⟩ := pw3.at_ i hlt
              injection hA' with hA'
              subst hA'
              have hrow := Bk.of_alloc W3 (.cells (#[.int .i64 (F i), .int .i64 (L i)]) 43) rfl
              have hown' := Own3.out.alloc (.cells (#[.int .i64 (F i), .int .i64 (L i)]) 43)
              have hB' : w.heap.size ≤ (W3.alloc (.cells (#[.int .i64 (F i), .int .i64 (L i)]) 43)).heap.size := by have := HB3.out.size; simp; omega
              have hbel := HB3.out.alloc HB3.out.size (.cells (#[.int .i64 (F i), .int .i64 (L i)]) 43)
              have hcl := mark_cells hrow
              go_wp2_with (at_builtin; (refine wpList_append_own _ rfl (.tmp 66) (.tmp 71) 34 rfl w.heap.size 43 i0 (.agg #[.int .i64 0, .int .i64 0]) 2 16 Try.underlying34 hi0 hz0 hz1 hz2 rfl (by decide) u3 _ _ rfl hown' ⟨W3.heap.size, 0, none⟩ 1 1 [.int .i64 (F i), .int .i64 (L i)] rfl rfl hcl ?_ (by unfold maxLen; omega) (by omega) hB' ?_))
              · intro u hu; simp only [List.mem_cons, List.not_mem_nil, or_false] at hu; rcases hu with rfl | rfl <;> rfl
              intro v' w4 hown4 hgrow _
              have hb4 := hbel.grown hgrow hB' (fun k hk => (hown'.lt k hk).1)
              have HO := hid (own_snoc hown4)
              rw [← hwl_yes HW.out] at HO
              have HB4 := hid hb4
              clear hb4 hown4 hgrow hown' hcl hrow hbel hB'
              go_wp2
              go_roundw
              case rel => exact ⟨i + 1, by omega, by go_num, HO, HB4.out⟩
              case measure => simp [intOf]; omega
        · have hod : decide (L i ≤ L (i - 1)) = true := decide_eq_true (by omega)
          have HO := hid Own1.out
          rw [← hwl_no (fun hw => ho (hw.1 hp))] at HO
          go_wp2
          have w1 : IntKind.i64.wrap ((i : Int) - 1) = (i : Int) - 1 := IntWalk.i64_in _ (by omega)
          have w2 : ((i : Int) - 1).toNat = i - 1 := by omega
          have w3 : (0 : Int) ≤ (i : Int) - 1 := by omega
          have w4 : (i : Int) - 1 < (n : Int) := by omega
          go_quiet (fail)
          clear w1 w2 w3 w4 p0 p1
          go_wp2
          go_roundw
          case rel => exact ⟨i + 1, by omega, by go_num, HO, HB1.out.drewN' _⟩
          case measure => simp [intOf]; omega
      · have hip : (decide ((0 : Int) < (i : Int))) = false := decide_eq_false (by omega)
        have hip2 : (decide (0 < i)) = false := decide_eq_false hp
        have h0 := hid (show 0 < i → L (i - 1) < L i from fun h => absurd h hp)
        go_wp2
        go_quiet (fail)
        have hq := below_drewN (Below.refl wr.heap.size wr) nq
        have pw2 := pw1.below hq
        have HB2 := hid (HB1.out.drewN' nq)
        have Own2 := hid (own_below Own1.out hq)
        clear hq q0 q1
        generalize wr.drewN nq = W2 at *
        clear pw1 Own1 HB1
        clear wr
        go_wp2_with fail
        go_loopw [5] (fun kv wr => ∃ k : Nat, i < k ∧ k ≤ n ∧ kv = .int .i64 k ∧ Hid (∀ j, i < j → j < k → L j = L i) ∧ Below W2.heap.size W2 wr) (fun kv _ => n - (intOf kv).toNat)
        case atStart => exact ⟨i + 1, by omega, by omega, by go_num, hid (fun j a b => by omega), Below.refl _ _⟩
        case round =>
          obtain ⟨k, hk1, hk2, rfl, HK, hbel⟩ := hrel
          have pwr := pw2.below hbel
          have HBr := hid (HB2.out.trans (hbel.mono HB2.out.size))
          have Ownr := hid (own_below Own2.out hbel)
          have Hbel := hid hbel
          clear hbel
          obtain ⟨ad', hA', hl', q0, q1, -, -⟩ := pwr.at_ i hlt
          injection hA' with hA'
          subst hA'
          by_cases hkn : k < n
          · obtain ⟨ad', hA', hl', r0, r1, -, -⟩ := pwr.at_ k hkn
            injection hA' with hA'
            subst hA'
            have dk : decide ((k : Int) < (n : Int)) = true := decide_eq_true (by omega)
            have dk2 : decide (k < n) = true := decide_eq_true hkn
            by_cases hLk : L k = L i
            · have dl : (L k == L i) = true := by rw [beq_iff_eq]; exact hLk
              have HK2 := hid (show ∀ j, i < j → j < k + 1 → L j = L i from fun j a b => by
                by_cases e : j = k
                · subst e; exact hLk
                · exact HK.out j a (by omega))
              clear hLk
              go_wp2
              go_quiet (fail)
              go_wp2
              go_roundw
              case rel => exact ⟨k + 1, by omega, by omega, by go_num, HK2, Hbel.out.drewN' _⟩
              case measure => simp [intOf]; omega
            · have dl : (L k == L i) = false := by rw [beq_eq_false_iff_ne]; exact hLk
              have hwi := hid (hw_iff h0.out (k := k) hk1 hk2 HK.out (fun _ => hLk))
              have e9 : ((k : Int) == (n : Int)) = false := by rw [beq_eq_false_iff_ne]; omega
              have e9' : (k == n) = false := by rw [beq_eq_false_iff_ne]; omega
              clear hLk
              go_wp2
              go_quiet (fail)
              have hq := below_drewN (Below.refl wr.heap.size wr) nq
              have pw4 := pwr.below hq
              have HB4 := hid (HBr.out.drewN' nq)
              have Own4 := hid (own_below Ownr.out hq)
              clear hq q0 q1 r0 r1
              generalize wr.drewN nq = W4 at *
              obtain ⟨ad', hA', hl', q0, q1, -, -⟩ := pw4.at_ i hlt
              injection hA' with hA'
              subst hA'
              obtain ⟨ad', hA', hl', r0, r1, -, -⟩ := pw4.at_ k hkn
              injection hA' with hA'
              subst hA'
              by_cases hlk : L k < L i
              · have dl2 : decide (L k < L i) = true := decide_eq_true hlk
                have HW := hid (hwi.out.2 (.inr hlk))
                go_wp2
                go_quiet (fail)
                have hq := below_drewN (Below.refl W4.heap.size W4) nq
                have pw3 := pw4.below hq
                have HB3 := hid (HB4.out.drewN' nq)
                have Own3 := hid (own_below Own4.out hq)
                clear hq q0 q1 r0 r1
                generalize W4.drewN nq = W3 at *
                obtain ⟨ad', hA', hl', q0, q1, -, -⟩ := pw3.at_ i hlt
                injection hA' with hA'
                subst hA'
                have hrow := Bk.of_alloc W3 (.cells (#[.int .i64 (F i), .int .i64 (L i)]) 43) rfl
                have hown' := Own3.out.alloc (.cells (#[.int .i64 (F i), .int .i64 (L i)]) 43)
                have hB' : w.heap.size ≤ (W3.alloc (.cells (#[.int .i64 (F i), .int .i64 (L i)]) 43)).heap.size := by have := HB3.out.size; simp; omega
                have hbel := HB3.out.alloc HB3.out.size (.cells (#[.int .i64 (F i), .int .i64 (L i)]) 43)
                have hcl := mark_cells hrow
                go_wp2_with (at_builtin; (refine wpList_append_own _ rfl (.tmp 66) (.tmp 71) 34 rfl w.heap.size 43 i0 (.agg #[.int .i64 0, .int .i64 0]) 2 16 Try.underlying34 hi0 hz0 hz1 hz2 rfl (by decide) u3 _ _ rfl hown' ⟨W3.heap.size, 0, none⟩ 1 1 [.int .i64 (F i), .int .i64 (L i)] rfl rfl hcl ?_ (by unfold maxLen; omega) (by omega) hB' ?_))
                · intro u hu; simp only [List.mem_cons, List.not_mem_nil, or_false] at hu; rcases hu with rfl | rfl <;> rfl
                intro v' w4 hown4 hgrow _
                have hb4 := hbel.grown hgrow hB' (fun k hk => (hown'.lt k hk).1)
                have HO := hid (own_snoc hown4)
                rw [← hwl_yes HW.out] at HO
                have HB4 := hid hb4
                clear hb4 hown4 hgrow hown' hcl hrow hbel hB'
                go_wp2
                go_roundw
                case rel => exact ⟨i + 1, by omega, by go_num, HO, HB4.out⟩
                case measure => simp [intOf]; omega
              · have dl2 : decide (L k < L i) = false := decide_eq_false hlk
                have HO := hid Own4.out
                rw [← hwl_no (fun hw => (hwi.out.1 hw).elim (fun e => by omega) hlk)] at HO
                go_wp2
                go_quiet (fail)
                go_wp2
                go_roundw
                case rel => exact ⟨i + 1, by omega, by go_num, HO, HB4.out.drewN' _⟩
                case measure => simp [intOf]; omega
          · obtain rfl : k = n := by omega
            have dk : decide ((k : Int) < (k : Int)) = false := decide_eq_false (by omega)
            have HW := hid ((hw_iff h0.out (k := k) hk1 hk2 HK.out (fun h => by omega)).2 (.inl rfl))
            go_wp2
            go_quiet (fail)
            have hq := below_drewN (Below.refl wr.heap.size wr) nq
            have pw4 := pwr.below hq
            have HB4 := hid (HBr.out.drewN' nq)
            have Own4 := hid (own_below Ownr.out hq)
            clear hq q0 q1
            generalize wr.drewN nq = W4 at *
            obtain ⟨ad', hA', hl', q0, q1, -, -⟩ := pw4.at_ i hlt
            injection hA' with hA'
            subst hA'
            go_wp2
            go_quiet (fail)
            have hq := below_drewN (Below.refl W4.heap.size W4) nq
            have pw3 := pw4.below hq
            have HB3 := hid (HB4.out.drewN' nq)
            have Own3 := hid (own_below Own4.out hq)
            clear hq q0 q1
            generalize W4.drewN nq = W3 at *
            obtain ⟨ad', hA', hl', q0, q1, -, -⟩ := pw3.at_ i hlt
            injection hA' with hA'
            subst hA'
            have hrow := Bk.of_alloc W3 (.cells (#[.int .i64 (F i), .int .i64 (L i)]) 43) rfl
            have hown' := Own3.out.alloc (.cells (#[.int .i64 (F i), .int .i64 (L i)]) 43)
            have hB' : w.heap.size ≤ (W3.alloc (.cells (#[.int .i64 (F i), .int .i64 (L i)]) 43)).heap.size := by have := HB3.out.size; simp; omega
            have hbel := HB3.out.alloc HB3.out.size (.cells (#[.int .i64 (F i), .int .i64 (L i)]) 43)
            have hcl := mark_cells hrow
            go_wp2_with (at_builtin; (refine wpList_append_own _ rfl (.tmp 66) (.tmp 71) 34 rfl w.heap.size 43 i0 (.agg #[.int .i64 0, .int .i64 0]) 2 16 Try.underlying34 hi0 hz0 hz1 hz2 rfl (by decide) u3 _ _ rfl hown' ⟨W3.heap.size, 0, none⟩ 1 1 [.int .i64 (F i), .int .i64 (L i)] rfl rfl hcl ?_ (by unfold maxLen; omega) (by omega) hB' ?_))
            · intro u hu; simp only [List.mem_cons, List.not_mem_nil, or_false] at hu; rcases hu with rfl | rfl <;> rfl
            intro v' w4 hown4 hgrow _
            have hb4 := hbel.grown hgrow hB' (fun k hk => (hown'.lt k hk).1)
            have HO := hid (own_snoc hown4)
            rw [← hwl_yes HW.out] at HO
            have HB4 := hid hb4
            clear hb4 hown4 hgrow hown' hcl hrow hbel hB'
            go_wp2
            go_roundw
            case rel => exact ⟨i + 1, by omega, by go_num, HO, HB4.out⟩
            case measure => simp [intOf]; omega
    · obtain rfl : i = n := by omega
      go_wp2
      go_ret
      exact ⟨_, rfl, Own1, HB1.out⟩

end Go.Proofs.Ytkhhmkiefemfbaa
