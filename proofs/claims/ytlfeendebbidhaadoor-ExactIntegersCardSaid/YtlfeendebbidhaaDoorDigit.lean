/- The contract of digit: one digit of a long division, and the rest in its place. For all windows as a long division meets them. -/
import Derived.Test.YtlfeendebbidhaaDoorKnuth
namespace Go.Proofs.YtlfeendebbidhaaDoor
open Go.RowKit Kb

theorem div_u32 {T v : Nat} (h : T / v ≤ 65537) : ((T : Int) / (v : Int)) % 4294967296 = ((T / v : Nat) : Int) := by
  rw [← Int.natCast_ediv]
  generalize T / v = G at *
  omega

set_option maxRecDepth 100000 in
set_option maxHeartbeats 4000000 in
theorem digit_any (g gv j m cu cv q : Nat) (L X R V : List Nat) (w : World) (hp : Pre w g 71 .u16 (L ++ (X ++ R))) (hv : Pre w gv 71 .u16 V) (hne : gv ≠ g)
    (hL : L.length = j) (t : Top X V m q) (hbig : j + m ≤ 900000000) (hcu : m + 3 ≤ cu) (hcu2 : cu ≤ 2000000000) :
    Calls Tryd.prog 87 #[.slice (some ⟨g, j, none⟩) (m + 3) cu, .slice (some ⟨gv, 0, none⟩) (m + 2) cv] w fun e w' =>
      e = .returned (.int .u16 (q : Nat)) ∧ ∃ (Y : List Nat), Y.length = m + 3 ∧ Lim Y ∧ val Y = val X % val V ∧ Pre w' g 71 .u16 (L ++ (Y ++ R)) ∧ w.grownBy w' (some g) := by
  have hx2 := lim_nth t.lX (m + 2)
  have hx1 := lim_nth t.lX (m + 1)
  have hx0 := lim_nth t.lX m
  have hv1 := lim_nth t.lV (m + 1)
  have hv0 := lim_nth t.lV m
  have hb := t.big
  have hst := t.start
  have HX := hid t.hX
  have HV := hid t.hV
  have HL := hid hL
  clear hL
  have c2 := hp.cell (i := j + (m + 2)) (by simp; have := HX.out; have := HL.out; omega)
  have c1 := hp.cell (i := j + (m + 1)) (by simp; have := HX.out; have := HL.out; omega)
  have c0 := hp.cell (i := j + m) (by simp; have := HX.out; have := HL.out; omega)
  rw [nth_mid HL.out (by have := HX.out; omega)] at c2 c1 c0
  have d1 := hv.cell (i := m + 1) (by have := HV.out; omega)
  have d0 := hv.cell (i := m) (by have := HV.out; omega)
  have hor := or_shl16 (r := nth X (m + 2)) (x := nth X (m + 1)) hx2 hx1 rfl rfl
  obtain ⟨T, hT⟩ : ∃ T, T = nth X (m + 2) * 65536 + nth X (m + 1) := ⟨_, rfl⟩
  rw [← hT] at hor hst
  have hTl : T < 4294967296 := by omega
  have HT := hid hT
  have Hst := hid hst.1
  have hg0 := hst.2
  have hr0 : T % nth V (m + 1) < nth V (m + 1) := Nat.mod_lt _ (by omega)
  have hv1w := u32_of (s := nth V (m + 1)) (by omega)
  have hv0w := u32_of (s := nth V m) (by omega)
  have hx0w := u32_of (s := nth X m) (by omega)
  have hvz : ((nth V (m + 1) : Int) == 0) = false := by rw [beq_eq_false_iff_ne]; omega
  clear hT hst
  go_enter Tryd.func87, Tryd.ntmps87
  go_wp2
  go_quiet (fail)
  have hq0 : Qt w (w.drewN nq) := ⟨nq, rfl⟩
  have d1' : (w.drewN nq).cell? ⟨gv, m + 1, none⟩ = _ := d1
  clear c2 c1 c0 d1 d0 hor
  generalize w.drewN nq = w0 at *
  go_wp2
  go_quiet (fail)
  have hq1 := hq0.drewN nq
  clear hq0 d1'
  generalize w0.drewN nq = w1 at *
  go_wp2
  go_loopw [7, 8] (fun gv' rv wr => ∃ (gs r : Nat), gs ≤ 65537 ∧ r ≤ 65535 ∧ gv' = .int .u32 gs ∧ rv = .int .u32 r ∧ Guess q T (nth V (m + 1)) gs r ∧ Qt w wr) (fun gv' _ _ => (intOf gv').toNat)
  case atStart => exact ⟨T / nth V (m + 1), T % nth V (m + 1), hg0, by omega, val_int (div_u32 hg0), val_int (by rw [← Int.natCast_emod]), Hst.out, hq1⟩
  case round =>
    obtain ⟨gs, r, hgs, hrl, rfl, rfl, hG, hqr⟩ := hrel
    have HG := hid hG
    clear hG hq1 Hst hg0 hr0
    have c0 := (hp.below (hqr.below _) hp.lt).cell (i := j + m) (by simp; have := HX.out; have := HL.out; omega)
    rw [nth_mid HL.out (by have := HX.out; omega)] at c0
    have d1 := (hv.below (hqr.below _) hv.lt).cell (i := m + 1) (by have := HV.out; omega)
    have d0 := (hv.below (hqr.below _) hv.lt).cell (i := m) (by have := HV.out; omega)
    by_cases hA : 65535 < gs
    · have hgd : decide ((65535 : Int) < (gs : Int)) = true := by simp; omega
      have Hdown := hid (t.down (by rw [← HT.out]; exact HG.out) (.inl hA))
      go_wp2
      go_quiet (fail)
      have hqt := hqr.drewN nq
      have d1' : (wr.drewN nq).cell? ⟨gv, m + 1, none⟩ = _ := d1
      clear c0 d1 d0 hqr
      generalize wr.drewN nq = w4 at *
      clear hgd
      obtain ⟨p, rfl⟩ : ∃ p, gs = p + 1 := ⟨gs - 1, by omega⟩
      have Hdn := hid (t.step (by rw [← HT.out]; exact HG.out) (by have := Hdown.out; omega))
      by_cases hov : 65535 < r + nth V (m + 1)
      · have hfin := t.over Hdn.out hov
        have hp1 : p ≤ 65535 := hfin.1
        have Hf := hid (show q ≤ p ∧ p ≤ q + 1 from ⟨Hdn.out.2, hfin.2⟩)
        clear hfin
        go_wp2_with fail
        refine (takeProduct_any g gv j (m + 2) cu cv p L X R V _ (hp.below (hqt.below _) hp.lt) (hv.below (hqt.below _) hv.lt) hne HL.out HX.out HV.out t.lX t.lV (by omega) (by omega) (by omega) hcu2).mono ?_
        rintro e w2 ⟨Y, neg, rfl, hn, hYl, hYlim, hYv, hpY, hgr⟩
        have hgrw := gb_trans (gb_of_below (r := some g) (hqt.below w.heap.size)) hgr
        have hvY := (hv.below (hqt.below _) hv.lt).grown hgr (by simpa using hne)
        rcases t.taken Hf.out.1 Hf.out.2 hn hYl hYlim hYv with ⟨hn0, hpq, hval⟩ | ⟨hn1, hpq, hval⟩
        · have hd : decide (neg = 1) = false := by simp; omega
          have Hpq := hid hpq
          have HYl := hid hYl
          have Hval := hid hval
          clear hn0 hpq hYl hval hYv
          rw [hd]
          go_wp2
          go_ret
          exact ⟨ret_int (by have := Hpq.out; omega), Y, HYl.out, hYlim, Hval.out, hpY, hgrw⟩
        · have hd : decide (neg = 1) = true := by simp; omega
          have Hpq := hid hpq
          have HYl := hid hYl
          have Hval := hid hval
          have hp0 : 1 ≤ p := by omega
          clear hn1 hpq hYl hval hYv
          rw [hd]
          go_wp2_with fail
          refine (putBack_any g gv j (m + 2) cu cv L Y R V _ hpY hvY hne HL.out HYl.out HV.out hYlim t.lV (by omega)).mono ?_
          rintro e w3 ⟨rfl, Z, ov, ho, hZl, hZlim, hZv, hpZ, hgr2⟩
          have Hz := hid (t.back ho hZl hZlim Hval.out hZv)
          have HZl := hid hZl
          clear hZl hZv
          go_wp2
          go_ret
          exact ⟨ret_int (by have := Hpq.out; omega), Z, HZl.out, hZlim, Hz.out, hpZ, gb_trans hgrw hgr2⟩
      · go_wp2
        go_roundw
        case rel => exact ⟨p, r + nth V (m + 1), by omega, by omega, by go_num, by go_num, by rw [HT.out]; exact Hdn.out, hqt⟩
        case measure => simp [intOf]
    · have hgd : decide ((65535 : Int) < (gs : Int)) = false := by simp; omega
      have hm0 : gs * nth V m ≤ 65535 * 65535 := Nat.mul_le_mul (by omega) (by omega)
      have hm1 : (0 : Int) ≤ (gs : Int) * (nth V m : Int) := by rw [← Int.natCast_mul]; omega
      have hm2 : (gs : Int) * (nth V m : Int) ≤ 4294836225 := by rw [← Int.natCast_mul]; omega
      have hor := or_shl16 (r := r) (x := nth X m) (by omega) hx0 rfl rfl
      by_cases hB : r * 65536 + nth X m < gs * nth V m
      · have hBi : (r : Int) * 65536 + (nth X m : Int) < (gs : Int) * (nth V m : Int) := by rw [← Int.natCast_mul]; omega
        have hgp : 0 < gs := by
          rcases Nat.eq_zero_or_pos gs with h | h
          · subst h; rw [Nat.zero_mul] at hB; omega
          · exact h
        have Hdown := hid (t.down (by rw [← HT.out]; exact HG.out) (.inr hB))
        clear hm0 hB
        go_wp2
        go_quiet (fail)
        have hqt := hqr.drewN nq
        have d1' : (wr.drewN nq).cell? ⟨gv, m + 1, none⟩ = _ := d1
        clear c0 d1 d0 hqr hor hBi hm1 hm2 hgd
        generalize wr.drewN nq = w4 at *
        obtain ⟨p, rfl⟩ : ∃ p, gs = p + 1 := ⟨gs - 1, by omega⟩
        have Hdn := hid (t.step (by rw [← HT.out]; exact HG.out) (by have := Hdown.out; omega))
        by_cases hov : 65535 < r + nth V (m + 1)
        · have hfin := t.over Hdn.out hov
          have hp1 : p ≤ 65535 := hfin.1
          have Hf := hid (show q ≤ p ∧ p ≤ q + 1 from ⟨Hdn.out.2, hfin.2⟩)
          clear hfin
          go_wp2_with fail
          refine (takeProduct_any g gv j (m + 2) cu cv p L X R V _ (hp.below (hqt.below _) hp.lt) (hv.below (hqt.below _) hv.lt) hne HL.out HX.out HV.out t.lX t.lV (by omega) (by omega) (by omega) hcu2).mono ?_
          rintro e w2 ⟨Y, neg, rfl, hn, hYl, hYlim, hYv, hpY, hgr⟩
          have hgrw := gb_trans (gb_of_below (r := some g) (hqt.below w.heap.size)) hgr
          have hvY := (hv.below (hqt.below _) hv.lt).grown hgr (by simpa using hne)
          rcases t.taken Hf.out.1 Hf.out.2 hn hYl hYlim hYv with ⟨hn0, hpq, hval⟩ | ⟨hn1, hpq, hval⟩
          · have hd : decide (neg = 1) = false := by simp; omega
            have Hpq := hid hpq
            have HYl := hid hYl
            have Hval := hid hval
            clear hn0 hpq hYl hval hYv
            rw [hd]
            go_wp2
            go_ret
            exact ⟨ret_int (by have := Hpq.out; omega), Y, HYl.out, hYlim, Hval.out, hpY, hgrw⟩
          · have hd : decide (neg = 1) = true := by simp; omega
            have Hpq := hid hpq
            have HYl := hid hYl
            have Hval := hid hval
            have hp0 : 1 ≤ p := by omega
            clear hn1 hpq hYl hval hYv
            rw [hd]
            go_wp2_with fail
            refine (putBack_any g gv j (m + 2) cu cv L Y R V _ hpY hvY hne HL.out HYl.out HV.out hYlim t.lV (by omega)).mono ?_
            rintro e w3 ⟨rfl, Z, ov, ho, hZl, hZlim, hZv, hpZ, hgr2⟩
            have Hz := hid (t.back ho hZl hZlim Hval.out hZv)
            have HZl := hid hZl
            clear hZl hZv
            go_wp2
            go_ret
            exact ⟨ret_int (by have := Hpq.out; omega), Z, HZl.out, hZlim, Hz.out, hpZ, gb_trans hgrw hgr2⟩
        · go_wp2
          go_roundw
          case rel => exact ⟨p, r + nth V (m + 1), by omega, by omega, by go_num, by go_num, by rw [HT.out]; exact Hdn.out, hqt⟩
          case measure => simp [intOf]
      · have hBi : decide ((r : Int) * 65536 + (nth X m : Int) < (gs : Int) * (nth V m : Int)) = false := by rw [← Int.natCast_mul]; simp only [decide_eq_false_iff_not]; omega
        have hgl : gs ≤ 65535 := by omega
        have Hf := hid (show q ≤ gs ∧ gs ≤ q + 1 from ⟨HG.out.2, t.stop (by rw [← HT.out]; exact HG.out) hgl (by omega)⟩)
        clear hm0 hB
        go_wp2
        go_quiet (fail)
        have hqt := hqr.drewN nq
        clear c0 d1 d0 hqr hor hBi hm1 hm2 hgd
        generalize wr.drewN nq = w4 at *
        go_wp2_with fail
        refine (takeProduct_any g gv j (m + 2) cu cv gs L X R V _ (hp.below (hqt.below _) hp.lt) (hv.below (hqt.below _) hv.lt) hne HL.out HX.out HV.out t.lX t.lV (by omega) (by omega) (by omega) hcu2).mono ?_
        rintro e w2 ⟨Y, neg, rfl, hn, hYl, hYlim, hYv, hpY, hgr⟩
        have hgrw := gb_trans (gb_of_below (r := some g) (hqt.below w.heap.size)) hgr
        have hvY := (hv.below (hqt.below _) hv.lt).grown hgr (by simpa using hne)
        rcases t.taken Hf.out.1 Hf.out.2 hn hYl hYlim hYv with ⟨hn0, hpq, hval⟩ | ⟨hn1, hpq, hval⟩
        · have hd : decide (neg = 1) = false := by simp; omega
          have Hpq := hid hpq
          have HYl := hid hYl
          have Hval := hid hval
          clear hn0 hpq hYl hval hYv
          rw [hd]
          go_wp2
          go_ret
          exact ⟨ret_int (by have := Hpq.out; omega), Y, HYl.out, hYlim, Hval.out, hpY, hgrw⟩
        · have hd : decide (neg = 1) = true := by simp; omega
          have Hpq := hid hpq
          have HYl := hid hYl
          have Hval := hid hval
          have hp0 : 1 ≤ gs := by omega
          clear hn1 hpq hYl hval hYv
          rw [hd]
          go_wp2_with fail
          refine (putBack_any g gv j (m + 2) cu cv L Y R V _ hpY hvY hne HL.out HYl.out HV.out hYlim t.lV (by omega)).mono ?_
          rintro e w3 ⟨rfl, Z, ov, ho, hZl, hZlim, hZv, hpZ, hgr2⟩
          have Hz := hid (t.back ho hZl hZlim Hval.out hZv)
          have HZl := hid hZl
          clear hZl hZv
          go_wp2
          go_ret
          exact ⟨ret_int (by have := Hpq.out; omega), Z, HZl.out, hZlim, Hz.out, hpZ, gb_trans hgrw hgr2⟩

end Go.Proofs.YtlfeendebbidhaaDoor
