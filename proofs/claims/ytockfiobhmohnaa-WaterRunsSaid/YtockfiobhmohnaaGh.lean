/- Networks: turnsError of the program, CheckTurns of the reference. For every network and turns. Networks: CheckWater of the reference. Networks: Started of the reference at no turns; Flow's first part. -/
import Derived.Test.YtockfiobhmohnaaGg
namespace Go.Proofs.Ytockfiobhmohnaa
open Go.RowKit Go.Maps Kb Wb

/-- A network in a box, and a turn of a list. -/
structure Tz (w : World) (g B0 B2 : Nat) (N : Nd) (T : Tn) (ad : Addr) (i : Nat) : Prop where
  n : Nb w g B0 N
  t : Tl w B2 (some ad) T.p T.tm T.tl T.tp
  i : i < T.p
theorem Tz.below {w w' : World} {g B0 B2 : Nat} {N : Nd} {T : Tn} {ad : Addr} {i : Nat} (h : Tz w g B0 B2 N T ad i) (hb : Below w.heap.size w w') : Tz w' g B0 B2 N T ad i := ⟨h.n.below hb, h.t.below hb, h.i⟩
theorem Tz.cells {w : World} {g B0 B2 : Nat} {N : Nd} {T : Tn} {ad : Addr} {i : Nat} (h : Tz w g B0 B2 N T ad i) : w.cell? ⟨g, 0, none⟩ = some (.slice N.A N.n N.c) ∧ w.cell? ⟨g, 1, none⟩ = some (.slice N.M N.m N.d) ∧ w.cell? ⟨g, 2, none⟩ = some (.slice N.K N.k N.e) ∧ w.cell? ⟨(ad.add (i * 3)).block, (ad.add (i * 3)).off + 1, none⟩ = some (.string (T.tl i)) := by
  obtain ⟨x0, x1, x2⟩ := h.n.cells
  obtain ⟨ad', e, _, _, h1, _⟩ := h.t.at_ i h.i
  injection e with e
  subst e
  exact ⟨x0, x1, x2, h1⟩

set_option maxRecDepth 100000 in
set_option maxHeartbeats 8000000 in
theorem turnsError_any {w : World} {B0 B2 u : Nat} {N : Nd} {T : Tn} {P : Option Addr} (h : Nt w B0 N) (hs : Nsm N) (hT : Tl w B2 P T.p T.tm T.tl T.tp) (hp9 : T.p ≤ 9223372036854775807) :
    Calls Try.prog 59 #[.agg #[.slice N.A N.n N.c, .slice N.M N.m N.d, .slice N.K N.k N.e], .slice P T.p u] w fun e w' => ∃ r : Int, e = .returned (.int .i64 r) ∧ Hid (Te N T r) ∧ Below w.heap.size w w' := by
  obtain ⟨g, hg⟩ : ∃ g, w.heap.size = g := ⟨_, rfl⟩
  have hb0 := alo (W := w) (o := .cells #[.slice N.A N.n N.c, .slice N.M N.m N.d, .slice N.K N.k N.e] 26)
  have K0 := Nb.new h hg
  have T0 := hT.below hb0
  by_cases hbig : 200 < T.p
  · have hd : decide ((200 : Int) < (T.p : Int)) = true := decide_eq_true (by omega)
    have HE := hid (show Te N T 8 from .inl ⟨hbig, rfl⟩)
    go_enter Try.func59, Try.ntmps59
    go_wp2
    go_ret
    exact ⟨8, rfl, HE, hb0⟩
  · have hd : decide ((200 : Int) < (T.p : Int)) = false := decide_eq_false (by omega)
    go_enter Try.func59, Try.ntmps59
    go_wp2_with fail
    generalize w.alloc (.cells #[.slice N.A N.n N.c, .slice N.M N.m N.d, .slice N.K N.k N.e] 26) = W0 at *
    have HB0 := hid hb0
    have Hs := hid hs
    clear hb0 hg h hT hd
    go_loopw [12] (fun iv wr => ∃ (i : Nat), i ≤ T.p ∧ iv = .int .i64 i ∧ Hid (∀ j, j < i → Good1 N T j) ∧ Below W0.heap.size W0 wr) (fun iv _ => T.p - (intOf iv).toNat)
    case atStart => exact ⟨0, Nat.zero_le _, rfl, hid (fun j hj => absurd hj (Nat.not_lt_zero _)), Below.refl _ _⟩
    case round =>
      obtain ⟨i, hi, rfl, HN, hbel⟩ := hrel
      have hw := T0.below hbel
      have K1 := K0.below hbel
      have Hbel := hid hbel
      clear hbel
      by_cases hlt : i < T.p
      · have dlt : decide ((i : Int) < (T.p : Int)) = true := decide_eq_true (by omega)
        obtain ⟨ad, hA, hl, q0, q1, q2⟩ := hw.at_ i hlt
        subst hA
        obtain ⟨gb, hgb⟩ : ∃ gb, wr.heap.size = gb := ⟨_, rfl⟩
        have jb := Bk.of_alloc wr (.cells #[.int .i64 (T.tm i), .string (T.tl i), .bool (T.tp i)] 75) hgb
        have ha := alo (W := wr) (o := (.cells #[.int .i64 (T.tm i), .string (T.tl i), .bool (T.tp i)] 75))
        have hwa := hw.below ha
        have K2 := K1.below ha
        have Hba := hid (Hbel.out.trans (ha.mono Hbel.out.size))
        clear hw ha K1
        by_cases hF : inB (T.tm i) 0 1000000 = true
        · have HF := hid (inB_iff.1 hF)
          go_wp2_with fail
          generalize wr.alloc (.cells #[.int .i64 (T.tm i), .string (T.tl i), .bool (T.tp i)] 75) = wa at *
          clear q0 q1 q2
          obtain ⟨b0, b1, b2⟩ := jb.c3
          obtain ⟨x0, x1, x2⟩ := K2.cells
          refine (isMinute_any _ _).mono ?_
          rintro e w' ⟨rfl, rfl⟩
          by_cases hp : 0 < i
          · obtain ⟨ad', hA', hl', p0, p1, p2⟩ := hwa.at_ (i - 1) (by omega)
            injection hA' with hA'
            subst hA'
            have hip : (decide ((0 : Int) < (i : Int))) = true := decide_eq_true (by omega)
            have hip2 : (decide (0 < i)) = true := decide_eq_true hp
            have hi1 : (1 : Int) ≤ (i : Int) := by omega
            by_cases ho : T.tm i < T.tm (i - 1)
            · have hod : decide (T.tm i < T.tm (i - 1)) = true := decide_eq_true ho
              have HE := hid (show Te N T 10 from .inr ⟨by omega, .inl ⟨i, hlt, HN.out, .inr ⟨HF.out, .inl ⟨⟨hp, ho⟩, rfl⟩⟩⟩⟩)
              go_wp2_with ((with_reducible refine (isMinute_any _ _).mono ?_); rintro e w' ⟨rfl, rfl⟩)
              have w1 : IntKind.i64.wrap ((i : Int) - 1) = (i : Int) - 1 := IntWalk.i64_in _ (by omega)
              have w2 : ((i : Int) - 1).toNat = i - 1 := by omega
              have w3 : (0 : Int) ≤ (i : Int) - 1 := by omega
              have w4 : (i : Int) - 1 < (T.p : Int) := by omega
              go_quiet (fail)
              clear w1 w2 w3 w4
              go_wp2
              go_ret
              exact ⟨10, rfl, HE, bthen HB0.out (Hba.out.drewN' _) (Nat.le_refl _)⟩
            · have hod : decide (T.tm i < T.tm (i - 1)) = false := decide_eq_false ho
              have hgood : ¬ (0 < i ∧ T.tm i < T.tm (i - 1)) := fun e => ho e.2
              have HG0 := hid hgood
              clear hgood ho
              go_wp2_with ((with_reducible refine (isMinute_any _ _).mono ?_); rintro e w' ⟨rfl, rfl⟩)
              have w1 : IntKind.i64.wrap ((i : Int) - 1) = (i : Int) - 1 := IntWalk.i64_in _ (by omega)
              have w2 : ((i : Int) - 1).toNat = i - 1 := by omega
              have w3 : (0 : Int) ≤ (i : Int) - 1 := by omega
              have w4 : (i : Int) - 1 < (T.p : Int) := by omega
              go_quiet (fail)
              clear w1 w2 w3 w4 p0 p1 p2
              obtain ⟨ix, hix⟩ : ∃ ix, ixL N (T.tl i) = ix := ⟨_, rfl⟩
              by_cases h6 : ix < 0
              · have d6 : decide (ix < 0) = true := decide_eq_true h6
                have HE := hid (show Te N T 6 from .inr ⟨by omega, .inl ⟨i, hlt, HN.out, .inr ⟨HF.out, .inr ⟨HG0.out, by rw [hix]; exact h6, rfl⟩⟩⟩⟩)
                clear h6
                go_wp2_with fail
                clear b0 b1 b2 x0 x1 x2
                refine (findLink_is (hid (hix ▸ ixL_is N (T.tl i))) (K2.a.below (below_drewN (Below.refl _ _) _)) hs).mono ?_
                rintro e w4 ⟨rfl, hb⟩
                have HB4 := hid (bthen (Hba.out.drewN' _) hb (Nat.le_refl _))
                clear hb
                go_wp2
                go_ret
                exact ⟨6, rfl, HE, bthen HB0.out HB4.out (Nat.le_refl _)⟩
              · have d6 : decide (ix < 0) = false := decide_eq_false h6
                have HG := hid (show Good1 N T i from ⟨HF.out, HG0.out, by rw [hix]; omega⟩)
                clear h6
                go_wp2_with fail
                clear b0 b1 b2 x0 x1 x2
                refine (findLink_is (hid (hix ▸ ixL_is N (T.tl i))) (K2.a.below (below_drewN (Below.refl _ _) _)) hs).mono ?_
                rintro e w4 ⟨rfl, hb⟩
                have HB4 := hid (bthen (Hba.out.drewN' _) hb (Nat.le_refl _))
                clear hb
                go_wp2
                go_roundw
                case rel => exact ⟨i + 1, by omega, by go_num, hid (fun j hj => by rcases Nat.lt_or_ge j i with h | h; exact HN.out j h; have : j = i := (by omega); subst this; exact HG.out), HB4.out⟩
                case measure => simp [intOf]; omega
          · have hip : (decide ((0 : Int) < (i : Int))) = false := decide_eq_false (by omega)
            have hip2 : (decide (0 < i)) = false := decide_eq_false hp
            have HG0 := hid (show ¬ (0 < i ∧ T.tm i < T.tm (i - 1)) from fun e => hp e.1)
            go_wp2_with ((with_reducible refine (isMinute_any _ _).mono ?_); rintro e w' ⟨rfl, rfl⟩)
            go_quiet (fail)
            obtain ⟨ix, hix⟩ : ∃ ix, ixL N (T.tl i) = ix := ⟨_, rfl⟩
            by_cases h6 : ix < 0
            · have d6 : decide (ix < 0) = true := decide_eq_true h6
              have HE := hid (show Te N T 6 from .inr ⟨by omega, .inl ⟨i, hlt, HN.out, .inr ⟨HF.out, .inr ⟨HG0.out, by rw [hix]; exact h6, rfl⟩⟩⟩⟩)
              clear h6
              go_wp2_with fail
              clear b0 b1 b2 x0 x1 x2
              refine (findLink_is (hid (hix ▸ ixL_is N (T.tl i))) (K2.a.below (below_drewN (Below.refl _ _) _)) hs).mono ?_
              rintro e w4 ⟨rfl, hb⟩
              have HB4 := hid (bthen (Hba.out.drewN' _) hb (Nat.le_refl _))
              clear hb
              go_wp2
              go_ret
              exact ⟨6, rfl, HE, bthen HB0.out HB4.out (Nat.le_refl _)⟩
            · have d6 : decide (ix < 0) = false := decide_eq_false h6
              have HG := hid (show Good1 N T i from ⟨HF.out, HG0.out, by rw [hix]; omega⟩)
              clear h6
              go_wp2_with fail
              clear b0 b1 b2 x0 x1 x2
              refine (findLink_is (hid (hix ▸ ixL_is N (T.tl i))) (K2.a.below (below_drewN (Below.refl _ _) _)) hs).mono ?_
              rintro e w4 ⟨rfl, hb⟩
              have HB4 := hid (bthen (Hba.out.drewN' _) hb (Nat.le_refl _))
              clear hb
              go_wp2
              go_roundw
              case rel => exact ⟨i + 1, by omega, by go_num, hid (fun j hj => by rcases Nat.lt_or_ge j i with h | h; exact HN.out j h; have : j = i := (by omega); subst this; exact HG.out), HB4.out⟩
              case measure => simp [intOf]; omega
        · have hF0 := Bool.eq_false_iff.2 hF
          have HE := hid (show Te N T 2 from .inr ⟨by omega, .inl ⟨i, hlt, HN.out, .inl ⟨fun hg => hF (inB_t hg), rfl⟩⟩⟩)
          clear hF
          go_wp2_with ((with_reducible refine (isMinute_any _ _).mono ?_); rintro e w' ⟨rfl, rfl⟩)
          go_ret
          exact ⟨2, rfl, HE, bthen HB0.out Hba.out (Nat.le_refl _)⟩
      · have dlt : decide ((i : Int) < (T.p : Int)) = false := decide_eq_false (by omega)
        have HE := hid (show Te N T 0 from .inr ⟨by omega, .inr ⟨fun j hj => HN.out j (by omega), rfl⟩⟩)
        go_wp2
        go_ret
        exact ⟨0, rfl, HE, bthen HB0.out Hbel.out (Nat.le_refl _)⟩

set_option maxRecDepth 100000 in
set_option maxHeartbeats 8000000 in
theorem rTurns_any {w : World} {B0 B2 u : Nat} {N : Nd} {T : Tn} {P : Option Addr} (h : Nt w B0 N) (hs : Nsm N) (hT : Tl w B2 P T.p T.tm T.tl T.tp) (hp9 : T.p ≤ 9223372036854775807) :
    Calls Try.prog 40 #[.agg #[.slice N.A N.n N.c, .slice N.M N.m N.d, .slice N.K N.k N.e], .slice P T.p u] w fun e w' => ∃ r : Int, e = .returned (.int .i64 r) ∧ Hid (Te N T r) ∧ Below w.heap.size w w' := by
  obtain ⟨g, hg⟩ : ∃ g, w.heap.size = g := ⟨_, rfl⟩
  have hb0 := alo (W := w) (o := .cells #[.slice N.A N.n N.c, .slice N.M N.m N.d, .slice N.K N.k N.e] 26)
  have K0 := Nb.new h hg
  have T0 := hT.below hb0
  by_cases hbig : 200 < T.p
  · have hd : decide ((200 : Int) < (T.p : Int)) = true := decide_eq_true (by omega)
    have HE := hid (show Te N T 8 from .inl ⟨hbig, rfl⟩)
    go_enter Try.func40, Try.ntmps40
    go_wp2
    go_ret
    exact ⟨8, rfl, HE, hb0⟩
  · have hd : decide ((200 : Int) < (T.p : Int)) = false := decide_eq_false (by omega)
    go_enter Try.func40, Try.ntmps40
    go_wp2_with fail
    generalize w.alloc (.cells #[.slice N.A N.n N.c, .slice N.M N.m N.d, .slice N.K N.k N.e] 26) = W0 at *
    have HB0 := hid hb0
    have Hs := hid hs
    clear hb0 hg h hT hd
    go_loopw [5] (fun iv wr => ∃ (i : Nat), i ≤ T.p ∧ iv = .int .i64 i ∧ Hid (∀ j, j < i → Good1 N T j) ∧ Below W0.heap.size W0 wr) (fun iv _ => T.p - (intOf iv).toNat)
    case atStart => exact ⟨0, Nat.zero_le _, rfl, hid (fun j hj => absurd hj (Nat.not_lt_zero _)), Below.refl _ _⟩
    case round =>
      obtain ⟨i, hi, rfl, HN, hbel⟩ := hrel
      have hw := T0.below hbel
      have K1 := K0.below hbel
      have Hbel := hid hbel
      clear hbel
      by_cases hlt : i < T.p
      · have dlt : decide ((i : Int) < (T.p : Int)) = true := decide_eq_true (by omega)
        obtain ⟨ad, hA, hl, q0, q1, q2⟩ := hw.at_ i hlt
        subst hA
        have hwa := hw
        have K2 := K1
        have Hba := Hbel
        clear hw K1
        obtain ⟨x0, x1, x2⟩ := K2.cells
        by_cases hF : inB (T.tm i) 0 1000000 = true
        · have HF := hid (inB_iff.1 hF)
          by_cases hp : 0 < i
          · obtain ⟨ad', hA', hl', p0, p1, p2⟩ := hwa.at_ (i - 1) (by omega)
            injection hA' with hA'
            subst hA'
            have hip : (decide ((0 : Int) < (i : Int))) = true := decide_eq_true (by omega)
            have hip2 : (decide (0 < i)) = true := decide_eq_true hp
            have hi1 : (1 : Int) ≤ (i : Int) := by omega
            by_cases ho : T.tm i < T.tm (i - 1)
            · have hod : decide (T.tm i < T.tm (i - 1)) = true := decide_eq_true ho
              have HE := hid (show Te N T 10 from .inr ⟨by omega, .inl ⟨i, hlt, HN.out, .inr ⟨HF.out, .inl ⟨⟨hp, ho⟩, rfl⟩⟩⟩⟩)
              go_wp2_with ((with_reducible refine (inside_any _ _ _ _).mono ?_); rintro e w' ⟨rfl, rfl⟩)
              have w1 : IntKind.i64.wrap ((i : Int) - 1) = (i : Int) - 1 := IntWalk.i64_in _ (by omega)
              have w2 : ((i : Int) - 1).toNat = i - 1 := by omega
              have w3 : (0 : Int) ≤ (i : Int) - 1 := by omega
              have w4 : (i : Int) - 1 < (T.p : Int) := by omega
              go_quiet (fail)
              clear w1 w2 w3 w4
              go_wp2
              go_ret
              exact ⟨10, rfl, HE, bthen HB0.out (Hba.out.drewN' _) (Nat.le_refl _)⟩
            · have hod : decide (T.tm i < T.tm (i - 1)) = false := decide_eq_false ho
              have hgood : ¬ (0 < i ∧ T.tm i < T.tm (i - 1)) := fun e => ho e.2
              have HG0 := hid hgood
              clear hgood ho
              go_wp2_with ((with_reducible refine (inside_any _ _ _ _).mono ?_); rintro e w' ⟨rfl, rfl⟩)
              have w1 : IntKind.i64.wrap ((i : Int) - 1) = (i : Int) - 1 := IntWalk.i64_in _ (by omega)
              have w2 : ((i : Int) - 1).toNat = i - 1 := by omega
              have w3 : (0 : Int) ≤ (i : Int) - 1 := by omega
              have w4 : (i : Int) - 1 < (T.p : Int) := by omega
              go_quiet (fail)
              clear w1 w2 w3 w4 p0 p1 p2
              obtain ⟨ix, hix⟩ : ∃ ix, ixL N (T.tl i) = ix := ⟨_, rfl⟩
              by_cases h6 : ix < 0
              · have d6 : decide (ix < 0) = true := decide_eq_true h6
                have HE := hid (show Te N T 6 from .inr ⟨by omega, .inl ⟨i, hlt, HN.out, .inr ⟨HF.out, .inr ⟨HG0.out, by rw [hix]; exact h6, rfl⟩⟩⟩⟩)
                clear h6
                have HIX := hid (show Ixn N.k N.lnm (T.tl i) ix from hix ▸ ixL_is N (T.tl i))
                clear x0 x1 x2 q0 q1 q2
                have Z1 := hid (fun k => (show Tz (wr.drewN k) g B0 B2 N T ad i from ⟨K2.below (below_drewN (Below.refl _ _) _), hwa.below (below_drewN (Below.refl _ _) _), hlt⟩))
                have HBk := hid (fun k => Hba.out.drewN' k)
                clear K2 hwa
                go_wp2_with fail
                generalize hwq : wr.drewN _ = wq at *
                have D0 : Tz wq.drew g B0 B2 N T ad i := Tz.below (by rw [← hwq]; exact Z1.out _) dr0
                have HBq := hid (show Below W0.heap.size W0 wq from by rw [← hwq]; exact HBk.out _)
                clear hwq Z1 HBk
                go_region_held3 (fun w' => w'.cell? ⟨g, 0, none⟩ = some (.slice N.A N.n N.c) ∧ w'.cell? ⟨g, 1, none⟩ = some (.slice N.M N.m N.d) ∧ w'.cell? ⟨g, 2, none⟩ = some (.slice N.K N.k N.e) ∧ w'.cell? ⟨(ad.add (i * 3)).block, (ad.add (i * 3)).off + 1, none⟩ = some (.string (T.tl i))) (first | with_reducible exact Tz.cells D0 | with_reducible exact Tz.cells D1) (first
                  | (go_at_call 44; (with_reducible refine (rLink_is HIX D0.n.a Hs.out).mono ?_); rintro e w4 ⟨rfl, hb4⟩; have D1 := D0.below hb4))
                have HB4 := hid (bthen HBq.out.drew hb4 (Nat.le_refl _))
                clear hb4 D0 D1 HIX
                go_wp2
                go_ret
                exact ⟨6, rfl, HE, bthen HB0.out HB4.out (Nat.le_refl _)⟩
              · have d6 : decide (ix < 0) = false := decide_eq_false h6
                have HG := hid (show Good1 N T i from ⟨HF.out, HG0.out, by rw [hix]; omega⟩)
                clear h6
                have HIX := hid (show Ixn N.k N.lnm (T.tl i) ix from hix ▸ ixL_is N (T.tl i))
                clear x0 x1 x2 q0 q1 q2
                have Z1 := hid (fun k => (show Tz (wr.drewN k) g B0 B2 N T ad i from ⟨K2.below (below_drewN (Below.refl _ _) _), hwa.below (below_drewN (Below.refl _ _) _), hlt⟩))
                have HBk := hid (fun k => Hba.out.drewN' k)
                clear K2 hwa
                go_wp2_with fail
                generalize hwq : wr.drewN _ = wq at *
                have D0 : Tz wq.drew g B0 B2 N T ad i := Tz.below (by rw [← hwq]; exact Z1.out _) dr0
                have HBq := hid (show Below W0.heap.size W0 wq from by rw [← hwq]; exact HBk.out _)
                clear hwq Z1 HBk
                go_region_held3 (fun w' => w'.cell? ⟨g, 0, none⟩ = some (.slice N.A N.n N.c) ∧ w'.cell? ⟨g, 1, none⟩ = some (.slice N.M N.m N.d) ∧ w'.cell? ⟨g, 2, none⟩ = some (.slice N.K N.k N.e) ∧ w'.cell? ⟨(ad.add (i * 3)).block, (ad.add (i * 3)).off + 1, none⟩ = some (.string (T.tl i))) (first | with_reducible exact Tz.cells D0 | with_reducible exact Tz.cells D1) (first
                  | (go_at_call 44; (with_reducible refine (rLink_is HIX D0.n.a Hs.out).mono ?_); rintro e w4 ⟨rfl, hb4⟩; have D1 := D0.below hb4))
                have HB4 := hid (bthen HBq.out.drew hb4 (Nat.le_refl _))
                clear hb4 D0 D1 HIX
                go_wp2
                go_roundw
                case rel => exact ⟨i + 1, by omega, by go_num, hid (fun j hj => by rcases Nat.lt_or_ge j i with h | h; exact HN.out j h; have : j = i := (by omega); subst this; exact HG.out), HB4.out⟩
                case measure => simp [intOf]; omega
          · have hip : (decide ((0 : Int) < (i : Int))) = false := decide_eq_false (by omega)
            have hip2 : (decide (0 < i)) = false := decide_eq_false hp
            have HG0 := hid (show ¬ (0 < i ∧ T.tm i < T.tm (i - 1)) from fun e => hp e.1)
            go_wp2_with ((with_reducible refine (inside_any _ _ _ _).mono ?_); rintro e w' ⟨rfl, rfl⟩)
            go_quiet (fail)
            obtain ⟨ix, hix⟩ : ∃ ix, ixL N (T.tl i) = ix := ⟨_, rfl⟩
            by_cases h6 : ix < 0
            · have d6 : decide (ix < 0) = true := decide_eq_true h6
              have HE := hid (show Te N T 6 from .inr ⟨by omega, .inl ⟨i, hlt, HN.out, .inr ⟨HF.out, .inr ⟨HG0.out, by rw [hix]; exact h6, rfl⟩⟩⟩⟩)
              clear h6
              have HIX := hid (show Ixn N.k N.lnm (T.tl i) ix from hix ▸ ixL_is N (T.tl i))
              clear x0 x1 x2 q0 q1 q2
              have Z1 := hid (fun k => (show Tz (wr.drewN k) g B0 B2 N T ad i from ⟨K2.below (below_drewN (Below.refl _ _) _), hwa.below (below_drewN (Below.refl _ _) _), hlt⟩))
              have HBk := hid (fun k => Hba.out.drewN' k)
              clear K2 hwa
              go_wp2_with fail
              generalize hwq : wr.drewN _ = wq at *
              have D0 : Tz wq.drew g B0 B2 N T ad i := Tz.below (by rw [← hwq]; exact Z1.out _) dr0
              have HBq := hid (show Below W0.heap.size W0 wq from by rw [← hwq]; exact HBk.out _)
              clear hwq Z1 HBk
              go_region_held3 (fun w' => w'.cell? ⟨g, 0, none⟩ = some (.slice N.A N.n N.c) ∧ w'.cell? ⟨g, 1, none⟩ = some (.slice N.M N.m N.d) ∧ w'.cell? ⟨g, 2, none⟩ = some (.slice N.K N.k N.e) ∧ w'.cell? ⟨(ad.add (i * 3)).block, (ad.add (i * 3)).off + 1, none⟩ = some (.string (T.tl i))) (first | with_reducible exact Tz.cells D0 | with_reducible exact Tz.cells D1) (first
                | (go_at_call 44; (with_reducible refine (rLink_is HIX D0.n.a Hs.out).mono ?_); rintro e w4 ⟨rfl, hb4⟩; have D1 := D0.below hb4))
              have HB4 := hid (bthen HBq.out.drew hb4 (Nat.le_refl _))
              clear hb4 D0 D1 HIX
              go_wp2
              go_ret
              exact ⟨6, rfl, HE, bthen HB0.out HB4.out (Nat.le_refl _)⟩
            · have d6 : decide (ix < 0) = false := decide_eq_false h6
              have HG := hid (show Good1 N T i from ⟨HF.out, HG0.out, by rw [hix]; omega⟩)
              clear h6
              have HIX := hid (show Ixn N.k N.lnm (T.tl i) ix from hix ▸ ixL_is N (T.tl i))
              clear x0 x1 x2 q0 q1 q2
              have Z1 := hid (fun k => (show Tz (wr.drewN k) g B0 B2 N T ad i from ⟨K2.below (below_drewN (Below.refl _ _) _), hwa.below (below_drewN (Below.refl _ _) _), hlt⟩))
              have HBk := hid (fun k => Hba.out.drewN' k)
              clear K2 hwa
              go_wp2_with fail
              generalize hwq : wr.drewN _ = wq at *
              have D0 : Tz wq.drew g B0 B2 N T ad i := Tz.below (by rw [← hwq]; exact Z1.out _) dr0
              have HBq := hid (show Below W0.heap.size W0 wq from by rw [← hwq]; exact HBk.out _)
              clear hwq Z1 HBk
              go_region_held3 (fun w' => w'.cell? ⟨g, 0, none⟩ = some (.slice N.A N.n N.c) ∧ w'.cell? ⟨g, 1, none⟩ = some (.slice N.M N.m N.d) ∧ w'.cell? ⟨g, 2, none⟩ = some (.slice N.K N.k N.e) ∧ w'.cell? ⟨(ad.add (i * 3)).block, (ad.add (i * 3)).off + 1, none⟩ = some (.string (T.tl i))) (first | with_reducible exact Tz.cells D0 | with_reducible exact Tz.cells D1) (first
                | (go_at_call 44; (with_reducible refine (rLink_is HIX D0.n.a Hs.out).mono ?_); rintro e w4 ⟨rfl, hb4⟩; have D1 := D0.below hb4))
              have HB4 := hid (bthen HBq.out.drew hb4 (Nat.le_refl _))
              clear hb4 D0 D1 HIX
              go_wp2
              go_roundw
              case rel => exact ⟨i + 1, by omega, by go_num, hid (fun j hj => by rcases Nat.lt_or_ge j i with h | h; exact HN.out j h; have : j = i := (by omega); subst this; exact HG.out), HB4.out⟩
              case measure => simp [intOf]; omega
        · have hF0 := Bool.eq_false_iff.2 hF
          have HE := hid (show Te N T 2 from .inr ⟨by omega, .inl ⟨i, hlt, HN.out, .inl ⟨fun hg => hF (inB_t hg), rfl⟩⟩⟩)
          clear hF
          go_wp2_with ((with_reducible refine (inside_any _ _ _ _).mono ?_); rintro e w' ⟨rfl, rfl⟩)
          go_ret
          exact ⟨2, rfl, HE, bthen HB0.out Hba.out (Nat.le_refl _)⟩
      · have dlt : decide ((i : Int) < (T.p : Int)) = false := decide_eq_false (by omega)
        have HE := hid (show Te N T 0 from .inr ⟨by omega, .inr ⟨fun j hj => HN.out j (by omega), rfl⟩⟩)
        go_wp2
        go_ret
        exact ⟨0, rfl, HE, bthen HB0.out Hbel.out (Nat.le_refl _)⟩

end Go.Proofs.Ytockfiobhmohnaa

namespace Go.Proofs.Ytockfiobhmohnaa
open Go.RowKit Go.Maps Kb Wb

/-- What CheckWater tells of a state of a network that is right. -/
def Wq (N : Nd) (W : Wd) (r : Int) : Prop := (¬ (0 ≤ W.min ∧ W.min ≤ 1000000) ∧ r = 2) ∨ ((0 ≤ W.min ∧ W.min ≤ 1000000) ∧ ((¬ (W.n = N.n ∧ W.m = N.k) ∧ r = 11) ∨ ((W.n = N.n ∧ W.m = N.k) ∧ ((¬ (∀ i, i < N.n → LitOk N W i) ∧ r = 2) ∨ ((∀ i, i < N.n → LitOk N W i) ∧ r = 0)))))
theorem Wq.we {N : Nd} {W : Wd} {r : Int} (h : Wq N W r) (hC : Cn N 0) : We N W r := ⟨0, hC, .inr ⟨rfl, h⟩⟩

section
variable {w : World} {B0 B1 : Nat} {N : Nd} {W : Wd}
set_option maxRecDepth 100000 in
set_option maxHeartbeats 8000000 in
theorem rCheckWater_any (hC : Hid (Cn N 0)) (hs : Nsm N) (h : Nt w B0 N) (hw : Wt w B1 W) :
    Calls Try.prog 39 #[.agg #[.slice N.A N.n N.c, .slice N.M N.m N.d, .slice N.K N.k N.e], .agg #[.int .i64 W.min, .slice W.A W.n W.c, .slice W.M W.m W.d]] w fun e w' => ∃ r : Int, e = .returned (.int .i64 r) ∧ Hid (Wq N W r) ∧ Below w.heap.size w w' := by
  have hnn := hs.n
  have hkk := hs.k
  have hn9 : W.n ≤ 9223372036854775807 := by have := Nat.le_trans hw.nc hw.cm; unfold maxLen at this; omega
  have hm9 : W.m ≤ 9223372036854775807 := by have := Nat.le_trans hw.md hw.dm; unfold maxLen at this; omega
  obtain ⟨g, hg⟩ : ∃ g, w.heap.size = g := ⟨_, rfl⟩
  have hb0 := ((Below.refl w.heap.size w).alloc (Nat.le_refl _) (.cells #[.slice N.A N.n N.c, .slice N.M N.m N.d, .slice N.K N.k N.e] 26)).alloc (by simp) (.cells #[.int .i64 W.min, .slice W.A W.n W.c, .slice W.M W.m W.d] 30)
  have K1 := (Nb.new h hg).below (alo (o := .cells #[.int .i64 W.min, .slice W.A W.n W.c, .slice W.M W.m W.d] 30))
  have V1 : Wx _ (g + 1) B1 W := ⟨Bk.of_alloc (w.alloc (.cells #[.slice N.A N.n N.c, .slice N.M N.m N.d, .slice N.K N.k N.e] 26)) (.cells #[.int .i64 W.min, .slice W.A W.n W.c, .slice W.M W.m W.d] 30) (by simp [hg]), hw.below hb0⟩
  go_enter Try.func39, Try.ntmps39
  go_upto_region 1 with fail
  generalize (w.alloc (.cells #[.slice N.A N.n N.c, .slice N.M N.m N.d, .slice N.K N.k N.e] 26)).alloc (.cells #[.int .i64 W.min, .slice W.A W.n W.c, .slice W.M W.m W.d] 30) = W0 at *
  have HB0 := hid hb0
  clear hb0 h hg hw
  obtain ⟨x0, x1, x2⟩ := K1.cells
  obtain ⟨y0, y1, y2⟩ := V1.cells
  by_cases ht : inB W.min 0 1000000 = true
  · have ht' := hid (inB_iff.1 ht)
    by_cases hn : W.n = N.n
    · have Hn := hid hn
      have dn : ((W.n : Int) != (N.n : Int)) = false := by rw [bne_eq_false_iff_eq, hn]
      clear hn
      by_cases hm : W.m = N.k
      · have Hm := hid hm
        have dm : ((W.m : Int) != (N.k : Int)) = false := by rw [bne_eq_false_iff_eq, hm]
        clear hm
        go_wp2_with (((with_reducible refine (inside_any _ _ _ _).mono ?_); rintro e w' ⟨rfl, rfl⟩))
        clear x0 x1 x2 y0 y1 y2
        go_loopw [5] (fun iv wr => ∃ i : Nat, i ≤ W.n ∧ iv = .int .i64 i ∧ Hid (∀ j, j < i → LitOk N W j) ∧ Below W0.heap.size W0 wr) (fun iv _ => W.n - (intOf iv).toNat)
        case atStart => exact ⟨0, Nat.zero_le _, rfl, hid (fun j hj => absurd hj (Nat.not_lt_zero _)), Below.refl _ _⟩
        case round =>
          obtain ⟨i, hi, rfl, HN, hbel⟩ := hrel
          have K3 := K1.below hbel
          have V3 := V1.below hbel
          have HB3 := hid (bthen HB0.out hbel (Nat.le_refl _))
          have Hbel := hid hbel
          obtain ⟨y0, y1, y2⟩ := V3.cells
          clear hbel
          by_cases iW : i < W.n
          · have hlt : i < N.n := by have := Hn.out; omega
            have B := hC.out.bas hlt
            obtain ⟨ab, hab, -⟩ := K3.a.b.at_ i hlt
            obtain ⟨al, hal, -, -⟩ := V3.a.x i iW
            have D0 : Hi wr.drew g B0 B1 N W al ab i := (Hi.mk K3 V3 hal hab iW hlt).below dr0
            have dlt : decide ((i : Int) < (W.n : Int)) = true := decide_eq_true (by omega)
            have hil : (i : Int) < (W.n : Int) := by omega
            have hin : (i : Int) < (N.n : Int) := by omega
            obtain ⟨c, hc⟩ : ∃ c, capB (N.b i) = c := ⟨_, rfl⟩
            have Hcp := hid (fun (W : World) (hP : Pa W B0 (N.b i).A (N.b i).n (N.b i).F (N.b i).S) => (show Calls Try.prog 17 #[.agg #[.string (N.b i).nm, .slice (N.b i).A (N.b i).n (N.b i).c, .int .i64 (N.b i).rim]] W fun e w' => e = .returned (.int .i64 c) ∧ Below W.heap.size W w' from hc ▸ rCapacity_any (N.b i).nm hP B))
            have Hc := hid hc
            clear hab hal hc
            by_cases hok : inB (W.X i) 0 c = true
            · have HL := hid (show LitOk N W i by
                have := inB_iff.1 hok
                unfold LitOk
                rw [Hc.out]
                exact this)
              go_upto_region 8 with (fail)
              clear y0 y1 y2
              go_region_held3 (fun w' => w'.cell? ⟨g, 0, none⟩ = some (.slice (some ab) N.n N.c) ∧ w'.cell? ⟨g + 1, 1, none⟩ = some (.slice (some al) W.n W.c) ∧ w'.cell? (ab.add (i * 3)) = some (.string (N.b i).nm) ∧ w'.cell? ⟨(ab.add (i * 3)).block, (ab.add (i * 3)).off + 1, none⟩ = some (.slice (N.b i).A (N.b i).n (N.b i).c) ∧ w'.cell? ⟨(ab.add (i * 3)).block, (ab.add (i * 3)).off + 2, none⟩ = some (.int .i64 (N.b i).rim) ∧ w'.cell? (al.add i) = some (.int .i64 (W.X i))) (first | with_reducible exact Hi.cells D0 | with_reducible exact Hi.cells D1 | with_reducible exact Hi.cells D2) (first
                | (go_at_call 17; with_reducible refine (Hcp.out _ D0.pa).mono ?_; rintro e w3 ⟨rfl, hb3⟩; have D1 := D0.below hb3)
                | (go_at_call 52; with_reducible refine (inside_any _ _ _ _).mono ?_; rintro e w3e ⟨rfl, rfl⟩; have D2 := D1))
              all_goals
                have HB4 := hid (Hbel.out.drew.trans (hb3.mono Hbel.out.drew.size))
                clear hb3 D0 D1 D2
                go_wp2
                go_roundw
                case rel => exact ⟨i + 1, by omega, by go_num, hid (fun j hj => by rcases Nat.lt_or_ge j i with h | h; exact HN.out j h; have : j = i := (by omega); subst this; exact HL.out), HB4.out⟩
                case measure => simp [intOf]; omega
            · have HE := hid (show Wq N W 2 from .inr ⟨ht'.out, .inr ⟨⟨Hn.out, Hm.out⟩, .inl ⟨fun hh => hok (inB_t (by
                have := hh i hlt
                unfold LitOk at this
                rw [Hc.out] at this
                exact this)), rfl⟩⟩⟩)
              have hok0 := Bool.eq_false_iff.2 hok
              clear hok
              go_upto_region 8 with (fail)
              clear y0 y1 y2
              go_region_held3 (fun w' => w'.cell? ⟨g, 0, none⟩ = some (.slice (some ab) N.n N.c) ∧ w'.cell? ⟨g + 1, 1, none⟩ = some (.slice (some al) W.n W.c) ∧ w'.cell? (ab.add (i * 3)) = some (.string (N.b i).nm) ∧ w'.cell? ⟨(ab.add (i * 3)).block, (ab.add (i * 3)).off + 1, none⟩ = some (.slice (N.b i).A (N.b i).n (N.b i).c) ∧ w'.cell? ⟨(ab.add (i * 3)).block, (ab.add (i * 3)).off + 2, none⟩ = some (.int .i64 (N.b i).rim) ∧ w'.cell? (al.add i) = some (.int .i64 (W.X i))) (first | with_reducible exact Hi.cells D0 | with_reducible exact Hi.cells D1 | with_reducible exact Hi.cells D2) (first
                | (go_at_call 17; with_reducible refine (Hcp.out _ D0.pa).mono ?_; rintro e w3 ⟨rfl, hb3⟩; have D1 := D0.below hb3)
                | (go_at_call 52; with_reducible refine (inside_any _ _ _ _).mono ?_; rintro e w3e ⟨rfl, rfl⟩; have D2 := D1))
              all_goals
                have HB4 := hid (bthen HB3.out.drew hb3 (Nat.le_refl _))
                clear hb3 D0 D1 D2
                go_wp2
                go_ret
                exact ⟨2, rfl, HE, HB4.out⟩
          · have e : i = W.n := by omega
            have dlt : decide ((i : Int) < (W.n : Int)) = false := decide_eq_false (by omega)
            subst e
            have HE := hid (show Wq N W 0 from .inr ⟨ht'.out, .inr ⟨⟨Hn.out, Hm.out⟩, .inr ⟨fun i hi => HN.out i (by have := Hn.out; omega), rfl⟩⟩⟩)
            go_wp2
            go_ret
            exact ⟨0, rfl, HE, HB3.out⟩
      · have dm : ((W.m : Int) != (N.k : Int)) = true := by rw [bne_iff_ne]; omega
        have HE := hid (show Wq N W 11 from .inr ⟨ht'.out, .inl ⟨fun hh => hm hh.2, rfl⟩⟩)
        clear hm
        go_wp2_with (((with_reducible refine (inside_any _ _ _ _).mono ?_); rintro e w' ⟨rfl, rfl⟩))
        go_ret
        exact ⟨11, rfl, HE, HB0.out⟩
    · have dn : ((W.n : Int) != (N.n : Int)) = true := by rw [bne_iff_ne]; omega
      have HE := hid (show Wq N W 11 from .inr ⟨ht'.out, .inl ⟨fun hh => hn hh.1, rfl⟩⟩)
      clear hn
      go_wp2_with (((with_reducible refine (inside_any _ _ _ _).mono ?_); rintro e w' ⟨rfl, rfl⟩))
      go_ret
      exact ⟨11, rfl, HE, HB0.out⟩
  · have HE := hid (show Wq N W 2 from .inl ⟨fun hh => ht (inB_t hh), rfl⟩)
    have ht0 := Bool.eq_false_iff.2 ht
    clear ht
    go_wp2_with (((with_reducible refine (inside_any _ _ _ _).mono ?_); rintro e w' ⟨rfl, rfl⟩))
    go_ret
    exact ⟨2, rfl, HE, HB0.out⟩
end

end Go.Proofs.Ytockfiobhmohnaa

namespace Go.Proofs.Ytockfiobhmohnaa
open Go.RowKit Go.Maps Kb Wb

section
variable {w : World} {B0 B1 : Nat} {N : Nd} {W : Wd}
set_option maxRecDepth 100000 in
theorem rTurns_nil (w : World) (N : Nd) :
    Calls Try.prog 40 #[.agg #[.slice N.A N.n N.c, .slice N.M N.m N.d, .slice N.K N.k N.e], .slice none 0 0] w fun e w' => e = .returned (.int .i64 0) ∧ Below w.heap.size w w' := by
  have hb0 := alo (W := w) (o := .cells #[.slice N.A N.n N.c, .slice N.M N.m N.d, .slice N.K N.k N.e] 26)
  go_enter Try.func40, Try.ntmps40
  go_wp2_with fail
  generalize w.alloc (.cells #[.slice N.A N.n N.c, .slice N.M N.m N.d, .slice N.K N.k N.e] 26) = W0 at *
  have HB0 := hid hb0
  clear hb0
  go_loopw [5] (fun iv wr => iv = .int .i64 0 ∧ wr = W0) (fun _ _ => 0)
  case atStart => exact ⟨rfl, rfl⟩
  case round =>
    obtain ⟨rfl, rfl⟩ := hrel
    go_wp2
    go_ret
    exact ⟨rfl, HB0.out⟩

set_option maxRecDepth 100000 in
set_option maxHeartbeats 4000000 in
theorem rStarted_nil (h : Nt w B0 N) (hs : Nsm N) (hw : Wt w B1 W) :
    Calls Try.prog 11 #[.agg #[.slice N.A N.n N.c, .slice N.M N.m N.d, .slice N.K N.k N.e], .agg #[.int .i64 W.min, .slice W.A W.n W.c, .slice W.M W.m W.d], .slice none 0 0] w fun e w' => ∃ r : Int, e = .returned (.int .i64 r) ∧ Hid (We N W r) ∧ Below w.heap.size w w' := by
  obtain ⟨g, hg⟩ : ∃ g, w.heap.size = g := ⟨_, rfl⟩
  have hb0 := ((Below.refl w.heap.size w).alloc (Nat.le_refl _) (.cells #[.slice N.A N.n N.c, .slice N.M N.m N.d, .slice N.K N.k N.e] 26)).alloc (by simp) (.cells #[.int .i64 W.min, .slice W.A W.n W.c, .slice W.M W.m W.d] 30)
  have K1 := (Nb.new h hg).below (alo (o := .cells #[.int .i64 W.min, .slice W.A W.n W.c, .slice W.M W.m W.d] 30))
  have V1 : Wx _ (g + 1) B1 W := ⟨Bk.of_alloc (w.alloc (.cells #[.slice N.A N.n N.c, .slice N.M N.m N.d, .slice N.K N.k N.e] 26)) (.cells #[.int .i64 W.min, .slice W.A W.n W.c, .slice W.M W.m W.d] 30) (by simp [hg]), hw.below hb0⟩
  go_enter Try.func11, Try.ntmps11
  go_wp2_with fail
  generalize (w.alloc (.cells #[.slice N.A N.n N.c, .slice N.M N.m N.d, .slice N.K N.k N.e] 26)).alloc (.cells #[.int .i64 W.min, .slice W.A W.n W.c, .slice W.M W.m W.d] 30) = W0 at *
  have HB0 := hid hb0
  clear hb0 h hg hw
  refine (rCheckNetwork_any K1.a hs).mono ?_
  rintro e w2 ⟨q, rfl, hq, hb⟩
  have K2 := K1.below hb
  have V2 := V1.below hb
  have HB2 := hid (bthen HB0.out hb (Nat.le_refl _))
  clear hb K1 V1
  by_cases h0 : q = 0
  · subst h0
    obtain ⟨x0, x1, x2⟩ := K2.cells
    obtain ⟨y0, y1, y2⟩ := V2.cells
    go_wp2_with fail
    refine (rCheckWater_any hq hs K2.a V2.a).mono ?_
    rintro e w3 ⟨r, rfl, hr, hb⟩
    have K3 := K2.below hb
    have HB3 := hid (bthen HB2.out hb (Nat.le_refl _))
    have HE := hid (hr.out.we hq.out)
    clear hb K2 V2 x0 x1 x2 y0 y1 y2
    by_cases h1 : r = 0
    · subst h1
      obtain ⟨x0, x1, x2⟩ := K3.cells
      go_wp2_with fail
      refine (rTurns_nil _ N).mono ?_
      rintro e w4 ⟨rfl, hb⟩
      have HB4 := hid (bthen HB3.out hb (Nat.le_refl _))
      clear hb
      go_wp2
      go_ret
      exact ⟨0, rfl, HE, HB4.out⟩
    · have hr1 : (r != 0) = true := by rw [bne_iff_ne]; exact h1
      clear h1
      go_wp2
      go_ret
      exact ⟨r, rfl, HE, HB3.out⟩
  · have hq1 : (q != 0) = true := by rw [bne_iff_ne]; exact h0
    have HE := hid (show We N W q from ⟨q, hq.out, .inl ⟨h0, rfl⟩⟩)
    clear h0
    go_wp2
    go_ret
    exact ⟨q, rfl, HE, HB2.out⟩
end

end Go.Proofs.Ytockfiobhmohnaa

