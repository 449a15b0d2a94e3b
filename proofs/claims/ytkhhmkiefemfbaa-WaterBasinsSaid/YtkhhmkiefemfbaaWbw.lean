/- The walks of WaterBasins and WaterInverse. For all basins, levels and volumes. -/
import Derived.Test.YtkhhmkiefemfbaaWba
namespace Go.Proofs.Ytkhhmkiefemfbaa
open Go.RowKit Kb Wb

section
variable {w : World} {B0 n c : Nat} {A : Option Addr} {F S : Nat → Int} {rim : Int} {s : ByteArray}
theorem CheckBasin_is {q : Int} (hq : Hid (Cb (nameB s) n F S rim q)) (h : Pa w B0 A n F S) (hn : n ≤ maxLen) (hs : s.size ≤ 1000000000) :
    Calls Try.prog 12 #[.agg #[.string s, .slice A n c, .int .i64 rim]] w fun e w' => e = .returned (.int .i64 q) ∧ Below w.heap.size w w' :=
  (CheckBasin_any h hn hs).mono fun _ _ ⟨r, he, hr, hb⟩ => ⟨by rw [he, hr.out.same hq.out], hb⟩
theorem rCheckBasin_is {q : Int} (hq : Hid (Cb (nameB s) n F S rim q)) (h : Pa w B0 A n F S) (hn : n ≤ maxLen) (hs : s.size ≤ 1000000000) :
    Calls Try.prog 13 #[.agg #[.string s, .slice A n c, .int .i64 rim]] w fun e w' => e = .returned (.int .i64 q) ∧ Below w.heap.size w w' :=
  (rCheckBasin_any h hn hs).mono fun _ _ ⟨r, he, hr, hb⟩ => ⟨by rw [he, hr.out.same hq.out], hb⟩
end

set_option maxRecDepth 100000 in
set_option maxHeartbeats 8000000 in
theorem basins_walk {w : World} {B0 n c : Nat} {A : Option Addr} {F S : Nat → Int} {rim : Int} {s : ByteArray} (lv v : Int) (h : Pa w B0 A n F S) (hc : n ≤ c) (hcm : c ≤ maxLen) (hs : s.size ≤ maxLen) :
    Calls Try.prog 3 #[.agg #[.string s, .slice A n c, .int .i64 rim], .int .i64 lv, .int .i64 v] w fun e w' => e = .returned (.bool true) ∧ Below w.heap.size w w' := by
  unfold maxLen at hs
  have hb0 := alo (W := w) (o := (.cells #[.string s, .slice A n c, .int .i64 rim] 24))
  obtain ⟨g, hg⟩ : ∃ g, w.heap.size = g := ⟨_, rfl⟩
  have K := Bx.new s c rim h hg
  have hc' := hid hc
  have hcm' := hid hcm
  have hn' := hid (Nat.le_trans hc hcm)
  have hnm : n ≤ 9223372036854775807 := by unfold maxLen at hcm; omega
  clear hc hcm
  go_enter Try.func3, Try.ntmps3
  go_wp2_with fail
  generalize w.alloc (.cells #[.string s, .slice A n c, .int .i64 rim] 24) = W0 at *
  have HB0 := hid hb0
  have Hg := hid hg
  have Hh := hid h
  clear hb0 hg h
  refine (awake_any _).mono ?_
  rintro e w1 ⟨rfl, hb⟩
  have K1 := K.below hb
  have HB1 := hid (bthen HB0.out hb (Nat.le_refl _))
  clear hb K
  obtain ⟨x0, x1, x2⟩ := K1.cells
  by_cases h40 : 40 < n
  · have hd : decide ((40 : Int) < (n : Int)) = true := decide_eq_true (by omega)
    go_wp2
    go_ret
    exact ⟨rfl, HB1.out⟩
  · have hd : decide ((40 : Int) < (n : Int)) = false := decide_eq_false (by omega)
    by_cases s40 : 40 < s.size
    · have hd2 : decide ((40 : Int) < (s.size : Int)) = true := decide_eq_true (by omega)
      go_wp2
      go_ret
      exact ⟨rfl, HB1.out⟩
    · have hd2 : decide ((40 : Int) < (s.size : Int)) = false := decide_eq_false (by omega)
      have hs9 : s.size ≤ 1000000000 := by omega
      go_wp2_with fail
      refine (Volume_any lv K1.a hn'.out hs9).mono ?_
      rintro e w2 ⟨r1, e1, rfl, hz1, hb⟩
      have K2 := K1.below hb
      have HB2 := hid (bthen HB1.out hb (Nat.le_refl _))
      clear hb K1 x0 x1 x2 hd hd2
      obtain ⟨x0, x1, x2⟩ := K2.cells
      go_wp2_with fail
      refine (rVolume_any lv K2.a hn'.out hs9).mono ?_
      rintro e w3 ⟨r1', e1', rfl, hz1', hb⟩
      obtain ⟨rfl, rfl⟩ := hz1.out.same hz1'.out
      have K3 := K2.below hb
      have HB3 := hid (bthen HB2.out hb (Nat.le_refl _))
      clear hb K2 x0 x1 x2 hz1'
      obtain ⟨x0, x1, x2⟩ := K3.cells
      go_wp2_with fail
      refine (Level_any v K3.a hc'.out hcm'.out hs9).mono ?_
      rintro e w4 ⟨r2, e2, rfl, hz2, hb⟩
      have K4 := K3.below hb
      have HB4 := hid (bthen HB3.out hb (Nat.le_refl _))
      clear hb K3 x0 x1 x2
      obtain ⟨x0, x1, x2⟩ := K4.cells
      go_wp2_with fail
      refine (rLevel_any v K4.a hc'.out hcm'.out hs9).mono ?_
      rintro e w5 ⟨r2', e2', rfl, hz2', hb⟩
      obtain ⟨rfl, rfl⟩ := hz2.out.same hz2'.out
      have K5 := K4.below hb
      have HB5 := hid (bthen HB4.out hb (Nat.le_refl _))
      clear hb K4 x0 x1 x2 hz2' hz2
      obtain ⟨x0, x1, x2⟩ := K5.cells
      obtain ⟨q, hq, -⟩ := hz1.out
      have Hq := hid hq
      clear hq hz1
      go_wp2_with fail
      have D5 : Bx w5.drew g s A n c rim B0 F S := K5.below dr0
      go_region_held3 (fun w' => w'.cell? ⟨g, 0, none⟩ = some (.string s) ∧ w'.cell? ⟨g, 1, none⟩ = some (.slice A n c) ∧ w'.cell? ⟨g, 2, none⟩ = some (.int .i64 rim)) (first | with_reducible exact Bx.cells D5 | with_reducible exact Bx.cells D6 | with_reducible exact Bx.cells D7) (first
        | (go_at_call 12; with_reducible refine (CheckBasin_is Hq D5.a hn'.out hs9).mono ?_; rintro e w6 ⟨rfl, hb6⟩; have D6 := D5.below hb6)
        | (go_at_call 13; with_reducible refine (rCheckBasin_is Hq D6.a hn'.out hs9).mono ?_; rintro e w7 ⟨rfl, hb7⟩; have D7 := D6.below hb7)
        | (go_at_call 13; with_reducible refine (rCheckBasin_is Hq D5.a hn'.out hs9).mono ?_; rintro e w6 ⟨rfl, hb6⟩; have D6 := D5.below hb6)
        | (go_at_call 12; with_reducible refine (CheckBasin_is Hq D6.a hn'.out hs9).mono ?_; rintro e w7 ⟨rfl, hb7⟩; have D7 := D6.below hb7))
      all_goals
        have HB7 := hid (bthen (bthen HB5.out.drew hb6 (Nat.le_refl _)) hb7 (Nat.le_refl _))
        clear hb6 hb7
        go_wp2
        go_ret
        exact ⟨rfl, HB7.out⟩

section
variable {w : World} {B0 n c : Nat} {A : Option Addr} {F S : Nat → Int} {rim : Int} {s : ByteArray}
theorem Volume_in {lv : Int} (hq : Hid (Cb (nameB s) n F S rim 0)) (h : Pa w B0 A n F S) (hn : n ≤ maxLen) (hs : s.size ≤ 1000000000) (h1 : F 0 ≤ lv) (h2 : lv ≤ rim) :
    Calls Try.prog 8 #[.agg #[.string s, .slice A n c, .int .i64 rim], .int .i64 lv] w fun e w' => e = .returned (.tuple #[.int .i64 (wbelow F S n lv), .int .i64 0]) ∧ Below w.heap.size w w' :=
  (Volume_any lv h hn hs).mono fun _ _ ⟨r, x, he, hr, hb⟩ => by
    obtain ⟨rfl, rfl⟩ := hr.out.same ⟨0, hq.out, .inr ⟨rfl, .inr ⟨⟨h1, h2⟩, rfl, rfl⟩⟩⟩
    exact ⟨he, hb⟩
theorem Volume_off {lv : Int} (hq : Hid (Cb (nameB s) n F S rim 0)) (h : Pa w B0 A n F S) (hn : n ≤ maxLen) (hs : s.size ≤ 1000000000) (h1 : ¬ (F 0 ≤ lv ∧ lv ≤ rim)) :
    Calls Try.prog 8 #[.agg #[.string s, .slice A n c, .int .i64 rim], .int .i64 lv] w fun e w' => e = .returned (.tuple #[.int .i64 0, .int .i64 2]) ∧ Below w.heap.size w w' :=
  (Volume_any lv h hn hs).mono fun _ _ ⟨r, x, he, hr, hb⟩ => by
    obtain ⟨rfl, rfl⟩ := hr.out.same ⟨0, hq.out, .inr ⟨rfl, .inl ⟨h1, rfl, rfl⟩⟩⟩
    exact ⟨he, hb⟩
theorem Level_in {v l : Int} (hq : Hid (Cb (nameB s) n F S rim 0)) (h : Pa w B0 A n F S) (hc : n ≤ c) (hcm : c ≤ maxLen) (hs : s.size ≤ 1000000000) (h1 : 0 ≤ v) (h2 : v ≤ wbelow F S n rim) (hL : Lev F S n rim v l) :
    Calls Try.prog 10 #[.agg #[.string s, .slice A n c, .int .i64 rim], .int .i64 v] w fun e w' => e = .returned (.tuple #[.int .i64 l, .int .i64 0]) ∧ Below w.heap.size w w' :=
  (Level_any v h hc hcm hs).mono fun _ _ ⟨r, x, he, hr, hb⟩ => by
    obtain ⟨rfl, rfl⟩ := hr.out.same ⟨0, hq.out, .inr ⟨rfl, .inr ⟨⟨h1, h2⟩, hL, rfl⟩⟩⟩
    exact ⟨he, hb⟩
theorem Level_off {v : Int} (hq : Hid (Cb (nameB s) n F S rim 0)) (h : Pa w B0 A n F S) (hc : n ≤ c) (hcm : c ≤ maxLen) (hs : s.size ≤ 1000000000) (h1 : ¬ (0 ≤ v ∧ v ≤ wbelow F S n rim)) :
    Calls Try.prog 10 #[.agg #[.string s, .slice A n c, .int .i64 rim], .int .i64 v] w fun e w' => e = .returned (.tuple #[.int .i64 0, .int .i64 2]) ∧ Below w.heap.size w w' :=
  (Level_any v h hc hcm hs).mono fun _ _ ⟨r, x, he, hr, hb⟩ => by
    obtain ⟨rfl, rfl⟩ := hr.out.same ⟨0, hq.out, .inr ⟨rfl, .inl ⟨h1, rfl, rfl⟩⟩⟩
    exact ⟨he, hb⟩
end

set_option maxRecDepth 100000 in
set_option maxHeartbeats 8000000 in
theorem inverse_walk {w : World} {B0 n c : Nat} {A : Option Addr} {F S : Nat → Int} {rim : Int} {s : ByteArray} (lv v : Int) (h : Pa w B0 A n F S) (hc : n ≤ c) (hcm : c ≤ maxLen) (hs : s.size ≤ maxLen) :
    Calls Try.prog 4 #[.agg #[.string s, .slice A n c, .int .i64 rim], .int .i64 lv, .int .i64 v] w fun e w' => e = .returned (.bool true) ∧ Below w.heap.size w w' := by
  unfold maxLen at hs
  have hb0 := alo (W := w) (o := (.cells #[.string s, .slice A n c, .int .i64 rim] 24))
  obtain ⟨g, hg⟩ : ∃ g, w.heap.size = g := ⟨_, rfl⟩
  have K := Bx.new s c rim h hg
  have hc' := hid hc
  have hcm' := hid hcm
  have hn' := hid (Nat.le_trans hc hcm)
  have hnm : n ≤ 9223372036854775807 := by unfold maxLen at hcm; omega
  clear hc hcm
  go_enter Try.func4, Try.ntmps4
  go_wp2_with fail
  generalize w.alloc (.cells #[.string s, .slice A n c, .int .i64 rim] 24) = W0 at *
  have HB0 := hid hb0
  have Hg := hid hg
  have Hh := hid h
  clear hb0 hg h
  refine (awake_any _).mono ?_
  rintro e w1 ⟨rfl, hb⟩
  have K1 := K.below hb
  have HB1 := hid (bthen HB0.out hb (Nat.le_refl _))
  clear hb K
  obtain ⟨x0, x1, x2⟩ := K1.cells
  by_cases h40 : 40 < n
  · have hd : decide ((40 : Int) < (n : Int)) = true := decide_eq_true (by omega)
    go_wp2
    go_ret
    exact ⟨rfl, HB1.out⟩
  · have hd : decide ((40 : Int) < (n : Int)) = false := decide_eq_false (by omega)
    by_cases s40 : 40 < s.size
    · have hd2 : decide ((40 : Int) < (s.size : Int)) = true := decide_eq_true (by omega)
      go_wp2
      go_ret
      exact ⟨rfl, HB1.out⟩
    · have hd2 : decide ((40 : Int) < (s.size : Int)) = false := decide_eq_false (by omega)
      have hs9 : s.size ≤ 1000000000 := by omega
      go_wp2_with fail
      refine (CheckBasin_any K1.a hn'.out hs9).mono ?_
      rintro e w2 ⟨q, rfl, hq, hb⟩
      have K2 := K1.below hb
      have HB2 := hid (bthen HB1.out hb (Nat.le_refl _))
      clear hb K1 x0 x1 x2 hd hd2
      obtain ⟨x0, x1, x2⟩ := K2.cells
      by_cases q0 : q = 0
      · subst q0
        have B := hq.out.bas
        have hpos := B.pos
        have rm := hid B.rm
        have f0 := hid (B.f 0 hpos)
        have fr := hid (floor_rim B)
        have e0 : ((n : Int) == 0) = false := by rw [beq_eq_false_iff_ne]; omega
        by_cases hlv : F 0 ≤ lv ∧ lv ≤ rim
        · obtain ⟨l1, l2⟩ := hlv
          have LB := hid (Lev.of_below B l1 l2)
          have nn := hid (below_nonneg B (a := lv) (by have := rm.out; omega)).1
          have mm := hid (below_mono B l2)
          go_wp2_with fail
          refine (Volume_in hq K2.a hn'.out hs9 l1 l2).mono ?_
          rintro e w3 ⟨rfl, hb⟩
          have K3 := K2.below hb
          have HB3 := hid (bthen HB2.out hb (Nat.le_refl _))
          clear hb K2 x0 x1 x2
          obtain ⟨x0, x1, x2⟩ := K3.cells
          go_wp2_with fail
          refine (Level_in hq K3.a hc'.out hcm'.out hs9 nn.out mm.out LB.out).mono ?_
          rintro e w4 ⟨rfl, hb⟩
          have K4 := K3.below hb
          have HB4 := hid (bthen HB3.out hb (Nat.le_refl _))
          clear hb K3 x0 x1 x2
          obtain ⟨x0, x1, x2⟩ := K4.cells
          by_cases hv : 0 ≤ v ∧ v ≤ wbelow F S n rim
          · obtain ⟨l, hL⟩ := Lev.exists B hv.1 hv.2
            have g1 := hL.lo
            have g2 := hL.hi
            have g3 := hL.at_
            go_wp2_with fail
            refine (Level_in hq K4.a hc'.out hcm'.out hs9 hv.1 hv.2 hL).mono ?_
            rintro e w5 ⟨rfl, hb⟩
            have K5 := K4.below hb
            have HB5 := hid (bthen HB4.out hb (Nat.le_refl _))
            clear hb K4 x0 x1 x2
            obtain ⟨x0, x1, x2⟩ := K5.cells
            go_wp2_with fail
            refine (Volume_in hq K5.a hn'.out hs9 g1 g2).mono ?_
            rintro e w6 ⟨rfl, hb⟩
            have K6 := K5.below hb
            have HB6 := hid (bthen HB5.out hb (Nat.le_refl _))
            clear hb K5 x0 x1 x2
            obtain ⟨x0, x1, x2⟩ := K6.cells
            by_cases hr : l = rim
            · have g4 : wbelow F S n l = v := by have := hv.2; rw [← hr] at this; omega
              have q1 : (l == rim) = true := by rw [beq_iff_eq]; exact hr
              have q2 : (wbelow F S n l == v) = true := by rw [beq_iff_eq]; exact g4
              clear g4 hr hv hL
              go_wp2
              go_ret
              exact ⟨rfl, HB6.out⟩
            · have g4 := hL.next (by omega)
              have q1 : (l == rim) = false := by rw [beq_eq_false_iff_ne]; exact hr
              have g5 := rm.out
              have g6 := f0.out
              clear hv hL
              go_wp2_with fail
              refine (Volume_in hq K6.a hn'.out hs9 (by omega) (by omega)).mono ?_
              rintro e w7 ⟨rfl, hb⟩
              have K7 := K6.below hb
              have HB7 := hid (bthen HB6.out hb (Nat.le_refl _))
              clear hb K6 x0 x1 x2
              obtain ⟨x0, x1, x2⟩ := K7.cells
              go_wp2
              go_ret
              exact ⟨rfl, HB7.out⟩
          · have hv2 := hid hv
            clear hv
            go_wp2_with fail
            refine (Level_off hq K4.a hc'.out hcm'.out hs9 hv2.out).mono ?_
            rintro e w5 ⟨rfl, hb⟩
            have K5 := K4.below hb
            have HB5 := hid (bthen HB4.out hb (Nat.le_refl _))
            clear hb K4 x0 x1 x2
            obtain ⟨x0, x1, x2⟩ := K5.cells
            go_wp2
            go_ret
            exact ⟨rfl, HB5.out⟩
        · have hlv2 := hid hlv
          clear hlv
          go_wp2_with fail
          refine (Volume_off hq K2.a hn'.out hs9 hlv2.out).mono ?_
          rintro e w3 ⟨rfl, hb⟩
          have K3 := K2.below hb
          have HB3 := hid (bthen HB2.out hb (Nat.le_refl _))
          clear hb K2 x0 x1 x2
          obtain ⟨x0, x1, x2⟩ := K3.cells
          by_cases hv : 0 ≤ v ∧ v ≤ wbelow F S n rim
          · obtain ⟨l, hL⟩ := Lev.exists B hv.1 hv.2
            have g1 := hL.lo
            have g2 := hL.hi
            have g3 := hL.at_
            go_wp2_with fail
            refine (Level_in hq K3.a hc'.out hcm'.out hs9 hv.1 hv.2 hL).mono ?_
            rintro e w4 ⟨rfl, hb⟩
            have K4 := K3.below hb
            have HB4 := hid (bthen HB3.out hb (Nat.le_refl _))
            clear hb K3 x0 x1 x2
            obtain ⟨x0, x1, x2⟩ := K4.cells
            go_wp2_with fail
            refine (Volume_in hq K4.a hn'.out hs9 g1 g2).mono ?_
            rintro e w5 ⟨rfl, hb⟩
            have K5 := K4.below hb
            have HB5 := hid (bthen HB4.out hb (Nat.le_refl _))
            clear hb K4 x0 x1 x2
            obtain ⟨x0, x1, x2⟩ := K5.cells
            by_cases hr : l = rim
            · have g4 : wbelow F S n l = v := by have := hv.2; rw [← hr] at this; omega
              have q1 : (l == rim) = true := by rw [beq_iff_eq]; exact hr
              have q2 : (wbelow F S n l == v) = true := by rw [beq_iff_eq]; exact g4
              clear g4 hr hv hL
              go_wp2
              go_ret
              exact ⟨rfl, HB5.out⟩
            · have g4 := hL.next (by omega)
              have q1 : (l == rim) = false := by rw [beq_eq_false_iff_ne]; exact hr
              have g5 := rm.out
              have g6 := f0.out
              clear hv hL
              go_wp2_with fail
              refine (Volume_in hq K5.a hn'.out hs9 (by omega) (by omega)).mono ?_
              rintro e w6 ⟨rfl, hb⟩
              have K6 := K5.below hb
              have HB6 := hid (bthen HB5.out hb (Nat.le_refl _))
              clear hb K5 x0 x1 x2
              obtain ⟨x0, x1, x2⟩ := K6.cells
              go_wp2
              go_ret
              exact ⟨rfl, HB6.out⟩
          · have hv2 := hid hv
            clear hv
            go_wp2_with fail
            refine (Level_off hq K3.a hc'.out hcm'.out hs9 hv2.out).mono ?_
            rintro e w4 ⟨rfl, hb⟩
            have K4 := K3.below hb
            have HB4 := hid (bthen HB3.out hb (Nat.le_refl _))
            clear hb K3 x0 x1 x2
            obtain ⟨x0, x1, x2⟩ := K4.cells
            go_wp2
            go_ret
            exact ⟨rfl, HB4.out⟩
      · have hq1 : (q != 0) = true := by rw [bne_iff_ne]; exact q0
        clear q0 hq
        go_wp2
        go_ret
        exact ⟨rfl, HB2.out⟩

end Go.Proofs.Ytkhhmkiefemfbaa
