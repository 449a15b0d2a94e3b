/- The contract of total.add at any denominators, the walk. -/
import Derived.Test.YtffipjofefemiaaGreatDoorTots
namespace Go.Proofs.YtffipjofefemiaaGreatDoor
open Go.RowKit Kb

theorem le_div {k a b : Nat} (h : Le k (a : Int)) : Le k ((a / b : Nat) : Int) := by
  unfold Le at h ⊢
  rw [Int.natAbs_natCast] at h ⊢
  exact Nat.lt_of_le_of_lt (Nat.div_le_self _ _) h
theorem integer_q {v : Value} {a : Nat} {w : World} (h : Nm w v a) :
    Calls Tryz.prog 101 #[.bool false, v] w fun e w' => ∃ r C n c, e = .returned (.agg #[.bool r, .slice C n c]) ∧ Zn w' r C n c (a : Int) ∧ Below w.heap.size w w' := by
  have e0 : toZ false a = (a : Int) := by unfold toZ; rw [if_neg (by decide)]
  have := zn_open (integer_nm (neg := false) h)
  rwa [e0] at this
theorem Zn.posn {w : World} {s : Bool} {A : Option Addr} {n c a : Nat} (h : Zn w s A n c (a : Int)) : s = false := by
  rw [h.1.out]; exact decide_eq_false (by omega)
theorem Zn.rawn {w : World} {s : Bool} {A : Option Addr} {n c a : Nat} (h : Zn w s A n c (a : Int)) : Raw w A n c a := by
  have := h.2.raw; rwa [Int.natAbs_natCast] at this
theorem Zn.nmn {w : World} {s : Bool} {A : Option Addr} {n c a : Nat} (h : Zn w s A n c (a : Int)) : Nm w (.slice A n c) a := by
  have := h.2; rwa [Int.natAbs_natCast] at this
set_option maxRecDepth 100000 in
set_option maxHeartbeats 80000000 in
theorem total_add_q (g k l : Nat) (r x : Rat) (w : World) {t1 t2 : Bool} {B1 B2 : Option Addr} {m1 d1 m2 d2 : Nat} (h : Tq w g k r) (k0 : Qi w t1 B1 m1 d1 t2 B2 m2 d2 l x) (hl0 : 0 < l) (hk : k ≤ 400) (hl : l ≤ 400) (hT : Tb w) :
    Calls Tryz.prog 121 #[.pointer (some ⟨g, 0, none⟩), .agg #[.bool t1, .slice B1 m1 d1, .bool t2, .slice B2 m2 d2]] w fun e w' => e = .returned (.tuple #[]) ∧ Tq w' g (k + l + 1) (r + x) ∧ w.grownBy w' (some g) := by
  obtain ⟨s1, A1, n1, c1, A2, n2, c2, tn, td, ht, hzn, hzd, hpq⟩ := h
  have hB := alo (W := w) (o := (.cells #[.bool t1, .slice B1 m1 d1, .bool t2, .slice B2 m2 d2] 26))
  have HP := hpq
  clear hpq
  go_enter Tryz.func121, Tryz.ntmps121
  go_wp2_with fail
  refine (parts_q (k0.below hB) hl0).mono ?_
  rintro e w1 ⟨p, A, n, c, B, m, d, a, b, rfl, hf, hb1⟩
  have hB1 := bthen (bthen hB hb1 (Nat.le_refl _)) (al2 (o := (.cells #[.bool p, .slice A n c] 24)) (p := (.cells #[.bool false, .slice B m d] 24))) (Nat.le_refl _)
  have hlt : g < w1.heap.size := Nat.lt_of_lt_of_le ht.lt (bthen hB hb1 (Nat.le_refl _)).size
  have P : Ta w g w1.heap.size s1 A1 n1 c1 tn A2 n2 c2 td p A n c B m d l x a b ((w1.alloc (.cells #[.bool p, .slice A n c] 24)).alloc (.cells #[.bool false, .slice B m d] 24)) :=
    ⟨ht.below hB1 ht.lt, hzn.below hB1, hzd.below hB1, box1 _ _ _, box2 _ _ _, hf.below al2, hT.below hB1, gb_of_below hB1, hlt⟩
  have hb1s : w.heap.size ≤ w1.heap.size := (bthen hB hb1 (Nat.le_refl _)).size
  clear ht hzn hzd hf hT hB1 hb1 hB k0 hlt
  go_upto_region 2 with fail
  generalize (w1.alloc (.cells #[.bool p, .slice A n c] 24)).alloc (.cells #[.bool false, .slice B m d] 24) = W1 at *
  have HW0 := hb1s
  generalize w1.heap.size = g1 at *
  have HW := hid HW0
  clear HW0
  have Q0 := P.below dr0
  clear P
  have hcells := Q0.cells
  have hltg := Q0.t.lt
  go_region_held3 (fun w' => w'.cell? ⟨g, 0, none⟩ = some (.bool s1) ∧ w'.cell? ⟨g, 1, none⟩ = some (.slice A1 n1 c1) ∧ w'.cell? ⟨g, 2, none⟩ = some (.bool false) ∧ w'.cell? ⟨g, 3, none⟩ = some (.slice A2 n2 c2) ∧ w'.cell? ⟨g1, 0, none⟩ = some (.bool p) ∧ w'.cell? ⟨g1, 1, none⟩ = some (.slice A n c) ∧ w'.cell? ⟨g1 + 1, 0, none⟩ = some (.bool false) ∧ w'.cell? ⟨g1 + 1, 1, none⟩ = some (.slice B m d)) (first | with_reducible exact Ta.cells Q0 | with_reducible exact Ta.cells Q1 | with_reducible exact Ta.cells Q2 | with_reducible exact Ta.cells Q3) (first
    | (go_at_call 76; with_reducible refine (size_any false B m d b _ Q0.f.den).mono ?_; rintro e w2 ⟨v1, rfl, hv1, hb1⟩; have Q1 := Q0.below hb1)
    | (go_at_call 76; with_reducible refine (size_any false A2 n2 c2 td _ Q1.zd.rawn).mono ?_; rintro e w3 ⟨v2, rfl, hv2, hb2⟩; have Q2 := Q1.below hb2; replace hv1 := hv1.below hb2)
    | (go_at_call 75; with_reducible refine (compareLimbs_nm hv1 hv2).mono ?_; rintro e w4 ⟨rfl, hq⟩; have hb3 := hq.below w3.heap.size; have Q3 := Q2.below hb3))
  clear Q0 Q1 Q2 hb1 hb2 hb3 hv1 hv2 hcells hq hltg
  have hcells := Q3.cells
  go_upto_if 21 with fail
  go_cut [8] (fun _ wx => Tz w g g1 (k + l + 1) (r + x) wx)
  case first =>
    by_cases hbb : b = td
    · have hs : (sgn b td != 0) = false := by rw [hbb, sgn_eq]; rfl
      have HZ := hid (tot_same HP Q3.f.pq hbb)
      have HL := hid (And.intro (HP.la.mono (show k ≤ 900 by omega)) (Q3.f.pq.la.mono (show l ≤ 900 by omega)))
      clear hbb
      go_wp2_with fail
      go_meet
      exact ⟨s1, A1, n1, c1, tn, A2, n2, c2, td, p, A, n, c, a, Q3.t, Q3.zn, Q3.zd, Q3.jn, Q3.f.num, HZ.out, HL, Q3.gb, Q3.lt⟩
    · have hs : (sgn b td != 0) = true := by rw [bne_iff_ne]; exact sgn_ne hbb
      have HB' := hid hbb
      have lb := Q3.f.pq.lb.len
      have lt := HP.lb.len
      rw [Int.natAbs_natCast] at lb lt
      have hw1 : w.heap.size ≤ g1 := HW.out
      have HD := hid (tot_diff HP Q3.f.pq (G := Nat.gcd b td) rfl)
      have HG0 := hid (show Nat.gcd b td ≠ 0 from fun e => Q3.f.pq.nz (Nat.eq_zero_of_gcd_eq_zero_left e))
      have K := Q3.clo
      have ltn := hid (HP.la.mono (show k ≤ 400 from hk))
      have lta := hid (Q3.f.pq.la.mono (show l ≤ 400 from hl))
      have lbU : Hid (Le 400 ((b / Nat.gcd b td : Nat) : Int)) := hid (le_div (Q3.f.pq.lb.mono (show l ≤ 400 from hl)))
      have ltU : Hid (Le 400 ((td / Nat.gcd b td : Nat) : Int)) := hid (le_div (HP.lb.mono (show k ≤ 400 from hk)))
      have ltd := hid (HP.lb.mono (show k ≤ 400 from hk))
      clear hbb
      go_upto_region 3 with fail
      go_cut [6] (fun s6 wx => One (Ta w g g1 s1 A1 n1 c1 tn A2 n2 c2 td p A n c B m d l x a b) w4.heap.size ((Nat.gcd b td : Nat) : Int) s6 wx)
      case first =>
        rename_i Kr hKr J0 K0 hJ0 hK0
        clear hKr
        have hk0 := hid (Ta.cells (K.below Q3 dr0))
        have hk1 := hid (fun o : Obj => Ta.cells (K.below Q3 (dr1 (o := o))))
        go_region_held3 (fun w' => w'.cell? ⟨g, 0, none⟩ = some (.bool s1) ∧ w'.cell? ⟨g, 1, none⟩ = some (.slice A1 n1 c1) ∧ w'.cell? ⟨g, 2, none⟩ = some (.bool false) ∧ w'.cell? ⟨g, 3, none⟩ = some (.slice A2 n2 c2) ∧ w'.cell? ⟨g1, 0, none⟩ = some (.bool p) ∧ w'.cell? ⟨g1, 1, none⟩ = some (.slice A n c) ∧ w'.cell? ⟨g1 + 1, 0, none⟩ = some (.bool false) ∧ w'.cell? ⟨g1 + 1, 1, none⟩ = some (.slice B m d)) (first
          | with_reducible exact hk0.out
          | with_reducible exact hk1.out _
          | with_reducible exact hk10.out
          | with_reducible exact hk11.out _
          | with_reducible exact hk20.out
          | with_reducible exact hk21.out _
          | with_reducible exact hk30.out
          | with_reducible exact hk31.out _
          | with_reducible exact hk40.out
          | with_reducible exact hk41.out _
          | with_reducible exact hsa.out _ _) (first
          | (go_at_call 76; (first | with_reducible refine (size_any false B m d b _ (K.below Q3 dr0).f.den).mono ?_ | with_reducible refine (size_any false B m d b _ (K.below Q3 dr1).f.den).mono ?_); rintro e wa1 ⟨v1, rfl, hv1, hb1⟩; (first | ((with_reducible have H := sd1 (Nat.le_refl _) hb1); obtain ⟨hc1, qa⟩ := H) | ((with_reducible have hc1 := sd0 hb1))); have Q31 := K.below Q3 hc1; have hN1 := hc1.size; have hk10 := hid (Ta.cells Q31); have hk11 := hid (fun o : Obj => Ta.cells (K.below Q31 (al1 (o := o)))))
          | (go_at_call 76; (first | with_reducible refine (size_any false A2 n2 c2 td _ Q31.zd.rawn).mono ?_ | with_reducible refine (size_any false A2 n2 c2 td _ (K.below Q31 al1).zd.rawn).mono ?_); rintro e wa2 ⟨v2, rfl, hv2, hb2⟩; (first | ((with_reducible have H := se1 hN1 hb2); obtain ⟨hc2, qa⟩ := H) | (have hc2 := hb2; (try replace qa := qa.step hc2))); have Q32 := K.below Q31 hc2; have hN2 := Nat.le_trans hN1 hc2.size; have hk20 := hid (Ta.cells Q32); have hk21 := hid (fun o : Obj => Ta.cells (K.below Q32 (al1 (o := o)))); replace hv1 := hv1.below hc2)
          | (go_at_call 105; (first | with_reducible refine (cd_q hv1 hv2 (by omega) (by omega) Q32.T).mono ?_ | with_reducible refine (cd_q (hv1.below al1) (hv2.below al1) (by omega) (by omega) (K.below Q32 al1).T).mono ?_); rintro e wa3 ⟨v3, rfl, hv3, hb3⟩; (first | ((with_reducible have H := se1 hN2 hb3); obtain ⟨hc3, qa⟩ := H) | (have hc3 := hb3; (try replace qa := qa.step hc3))); have Q33 := K.below Q32 hc3; have hN3 := Nat.le_trans hN2 hc3.size; have hk30 := hid (Ta.cells Q33); have hk31 := hid (fun o : Obj => Ta.cells (K.below Q33 (al1 (o := o)))); replace hv1 := hv1.below hc3; replace hv2 := hv2.below hc3)
          | (go_at_call 101; (first | with_reducible refine (integer_q hv3).mono ?_ | with_reducible refine (integer_q (hv3.below al1)).mono ?_); rintro e wa4 ⟨r6, C6, o6, e6, rfl, h6, hb4⟩; (first | ((with_reducible have H := se1 hN3 hb4); obtain ⟨hc4, qa⟩ := H) | (have hc4 := hb4; (try replace qa := qa.step hc4))); have Q34 := K.below Q33 hc4; have hN4 := Nat.le_trans hN3 hc4.size; have hk40 := hid (Ta.cells Q34); have hk41 := hid (fun o : Obj => Ta.cells (K.below Q34 (al1 (o := o)))); replace hv1 := hv1.below hc4; replace hv2 := hv2.below hc4; replace hv3 := hv3.below hc4; (try have hsa := hid (fun (u0 u1 : Value) => Ta.cells (K.set (u := u0) (v := u1) Q34 qa))); (try have lqa := qa.lt); (try obtain ⟨_, _, _, _⟩ := qa.1.c2)))
        all_goals
          (try clear lqa)
          go_wp2_with fail
          go_meet
          first
            | with_reducible exact one1 K Q34 h6 hN4
            | with_reducible exact one2 K Q34 h6 qa
      case rest =>
        obtain ⟨g6, r6, C6, o6, e6, rfl, hN6, j6, hM⟩ := hcut
        obtain rfl := j6.z.posn
        have hg6 : g1 + 1 < g6 := Nat.lt_of_lt_of_le Q3.jd.lt hN6
        clear K Q3 hcells hN6
        rename World => wc
        obtain ⟨-, -, -, -, -, -, x0, x1⟩ := hM.cells
        obtain ⟨x2, x3, -, -⟩ := j6.b.c2
        go_wp2_with fail
        refine (quotient_q hM.f.den j6.z.rawn HG0.out (by omega)).mono ?_
        rintro e w5 ⟨r7, C7, o7, e7, rfl, h7, hb5⟩
        obtain rfl := h7.posn
        have R : Tc w g g1 g6 w5.heap.size s1 A1 n1 c1 tn A2 n2 c2 td p A n c B m d l x a b C6 o6 e6 (Nat.gcd b td) C7 o7 e7 (b / Nat.gcd b td) (w5.alloc (.cells #[.bool false, .slice C7 o7 e7] 24)) :=
          ⟨(hM.below hb5).below al1, (j6.below hb5).below al1, Jb.made h7, hg6, Nat.lt_of_lt_of_le hM.jd.lt hb5.size⟩
        clear hM j6 h7 hb5 hg6 x0 x1 x2 x3
        go_upto_region 5 with fail
        generalize w5.alloc (.cells #[.bool false, .slice C7 o7 e7] 24) = W5 at *
        generalize w5.heap.size = g7 at *
        have R0 := R.below dr0
        clear R
        have hcl0 := R0.cells
        have hl0 := R0.o.t.lt
        have hl1 := R0.o.jn.lt
        have hl2 := R0.j6.b.lt
        obtain ⟨-, -, ff0, ff1⟩ := R0.o.jn.c2
        go_cut [8] (fun _ wx => ∃ p A n c, Td w g g1 g7 s1 A1 n1 c1 tn A2 n2 c2 td p A n c (a * ((td / Nat.gcd b td : Nat) : Int)) C7 o7 e7 (b / Nat.gcd b td) wx)
        case first =>
          go_region_with (first
            | (go_at_call 136; with_reducible refine (quotient_q R0.o.zd.rawn R0.j6.z.rawn HG0.out (by omega)).mono ?_; rintro e w6 ⟨r8, C8, o8, e8, rfl, h8, hb6⟩; have R1 := R0.below hb6; have hcl1 := R1.cells; have hm0 := R1.o.t.lt; have hm1 := R1.o.jn.lt; obtain ⟨-, -, fg0, fg1⟩ := R1.o.jn.c2)
            | (go_at_call 59; with_reducible refine (MulZ R1.o.f.num h8.zi (lta.out.mono (by decide)) (ltU.out.mono (by decide))).mono ?_; rintro e w7 ⟨r9, C9, o9, e9, rfl, h9, hb7⟩; have R2 := R1.below hb7; have hcl2 := R2.cells; have hn1 := R2.o.jn.lt; obtain ⟨-, -, fh0, fh1⟩ := R2.o.jn.c2))
          all_goals
            clear hcl0 hcl1 hcl2 hl0 hl1 hl2 ff0 ff1 hm0 hm1 fg0 fg1 hn1 fh0 fh1
            go_wp2_with fail
            go_meet
            exact ⟨_, _, _, _, tc_put hw1 R2 h9⟩
        case rest =>
          obtain ⟨p', A', n', c', D⟩ := hcut
          clear R0 hcl0 hl0 hl1 hl2 ff0 ff1
          rename World => wd
          have D0 := D.below dr0
          clear D
          have hcl0 := D0.cells
          have hl0 := D0.t.lt
          have hl2 := D0.j7.b.lt
          go_upto_region 6 with fail
          go_region_with (first
            | (go_at_call 59; with_reducible refine (MulZ D0.zn.zi D0.j7.z.zi (ltn.out.mono (by decide)) (lbU.out.mono (by decide))).mono ?_; rintro e w8 ⟨r8, C8, o8, e8, rfl, h8, hb8⟩; have D1 := D0.below hb8; have hcl1 := D1.cells; have hm0 := D1.t.lt)
            | (go_at_call 59; with_reducible refine (MulZ D1.zd.zi D1.j7.z.zi (ltd.out.mono (by decide)) (lbU.out.mono (by decide))).mono ?_; rintro e w9 ⟨r9, C9, o9, e9, rfl, h9, hb9⟩; have D2 := D1.below hb9; have hn0 := D2.t.lt; have h8' := h8.below hb9; obtain ⟨i0, i1, i2, i3, i4, i5, i6, i7⟩ := D2.t.c4))
          all_goals
            have HE := hid (show Le 900 (tn * ((b / Nat.gcd b td : Nat) : Int)) ∧ Le 900 (a * ((td / Nat.gcd b td : Nat) : Int)) from ⟨(Le.mul ltn.out lbU.out).mono (by decide), (Le.mul lta.out ltU.out).mono (by decide)⟩)
            clear hcl0 hcl1 hl0 hl2 hm0 hn0 i0 i1 i2 i3 i4 i5 i6 i7
            go_wp2_with fail
            go_meet
            exact td_put D2 h8' h9 (by rw [Int.natCast_mul]) HD.out HE.out
  case rest =>
    obtain ⟨s1, A1, n1, c1, tn, A2, n2, c2, td, p, A, n, c, a, ht, hzn, hzd, hjn, hza, hpq, HL, hgb, hlt⟩ := hcut
    clear Q3 hcells HP
    rename World => wc
    have HZ := hid hpq
    have HG := hid hgb
    have ht0 : Bk wc.drew g _ := ht
    have hjn0 : Bk wc.drew g1 _ := hjn
    have z1 := hzn.below (dr0 (W := wc))
    have z2 := hzd.below (dr0 (W := wc))
    have z3 := hza.below (dr0 (W := wc))
    obtain ⟨x0, x1, x2, x3, f0, f1, f2, f3⟩ := ht.c4
    obtain ⟨x4, x5, -, -⟩ := hjn.c2
    have hl1 := ht.lt
    have hl2 := hjn.lt
    clear hpq hgb hzn hzd hza hjn
    go_upto_region 7 with fail
    go_region_with (go_at_call 68; with_reducible refine (AddZ z1.zi z3 (HL.out.1.mono (by decide)) (HL.out.2.mono (by decide))).mono ?_; rintro e w8 ⟨t1, A3, n3, c3, rfl, hn3, hb8⟩; have hbe := ht0.step hb8; obtain ⟨i0, i1, i2, i3, i4, i5, i6, i7⟩ := hbe.c4)
    all_goals
      have hgb1 := hid (gb_set (gb_set (gb_trans HG.out (gb_trans (gb_of_below dr0) (gb_of_below hb8))) 0 (.bool t1)) 1 (.slice A3 n3 c3))
      have hbk := hid (hbe.put2 (.bool t1) (.slice A3 n3 c3))
      have hm1 := hid (hn3.offbox hbe (noInt_four _ _ _ _ _ _ _ _) (gb2 w8 g 0 1 (.bool t1) (.slice A3 n3 c3)))
      have hm2 := hid ((z2.below hb8).offbox hbe (noInt_four _ _ _ _ _ _ _ _) (gb2 w8 g 0 1 (.bool t1) (.slice A3 n3 c3)))
      have HT := hid (show Tq ((w8.setCell ⟨g, 0, none⟩ (.bool t1)).setCell ⟨g, 1, none⟩ (.slice A3 n3 c3)) g (k + l + 1) (r + x) from ⟨t1, A3, n3, c3, A2, n2, c2, _, _, hbk.out, hm1.out, hm2.out, HZ.out⟩)
      clear hn3 hbe i0 i1 i2 i3 i4 i5 i6 i7 hb8 z1 z2 z3 ht0 hjn0 x0 x1 x2 x3 f0 f1 f2 f3 x4 x5 ht hbk hm1 hm2
      go_wp2
      go_end0
      exact ⟨rfl, HT.out, hgb1.out⟩

end Go.Proofs.YtffipjofefemiaaGreatDoor
