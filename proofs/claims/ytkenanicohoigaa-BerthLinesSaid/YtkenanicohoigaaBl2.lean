/- Mooring lines: CheckLines of the reference. For all lists whose names are not endless. -/
import Derived.Test.YtkenanicohoigaaBl1
namespace Go.Proofs.Ytkenanicohoigaa
open Go.RowKit Go.Maps Kb Wb


set_option maxRecDepth 100000 in
set_option maxHeartbeats 8000000 in
theorem rline_any {w : World} (x : Mld) :
    Calls Try.prog 41 #[.agg #[.string x.nm, .int .i64 x.x, .int .i64 x.y, .int .i64 x.tx, .int .i64 x.ty, .int .i64 x.most]] w fun e w' => e = .returned (.int .i64 (lineE x)) ∧ Below w.heap.size w w' := by
  have HB0 := hid (alo (W := w) (o := (.cells #[.string x.nm, .int .i64 x.x, .int .i64 x.y, .int .i64 x.tx, .int .i64 x.ty, .int .i64 x.most] 46)))
  have HK := hid (Mlb.new w x rfl)
  cases k0 : inB x.x (-1000000) 1000000
  case false =>
    rw [show lineE x = 2 from if_neg (fun h => by rw [btw_f0 k0] at h; exact absurd h.1 (by decide))]
    go_enter Try.func41, Try.ntmps41
    obtain ⟨y0, y1, y2, y3, y4, y5⟩ := HK.out.cells
    go_wp2_with ((with_reducible refine (inside6_any _ _ _ _).mono ?_); rintro e w' ⟨rfl, rfl⟩)
    go_ret
    exact ⟨rfl, HB0.out⟩
  case true =>
    cases k1 : inB x.y (-1000000) 1000000
    case false =>
      rw [show lineE x = 2 from if_neg (fun h => by rw [btw_f1 k1] at h; exact absurd h.1 (by decide))]
      go_enter Try.func41, Try.ntmps41
      obtain ⟨y0, y1, y2, y3, y4, y5⟩ := HK.out.cells
      go_wp2_with ((with_reducible refine (inside6_any _ _ _ _).mono ?_); rintro e w' ⟨rfl, rfl⟩)
      go_ret
      exact ⟨rfl, HB0.out⟩
    case true =>
      cases k2 : inB x.tx (-1000000) 1000000
      case false =>
        rw [show lineE x = 2 from if_neg (fun h => by rw [btw_f2 k2] at h; exact absurd h.1 (by decide))]
        go_enter Try.func41, Try.ntmps41
        obtain ⟨y0, y1, y2, y3, y4, y5⟩ := HK.out.cells
        go_wp2_with ((with_reducible refine (inside6_any _ _ _ _).mono ?_); rintro e w' ⟨rfl, rfl⟩)
        go_ret
        exact ⟨rfl, HB0.out⟩
      case true =>
        cases k3 : inB x.ty (-1000000) 1000000
        case false =>
          rw [show lineE x = 2 from if_neg (fun h => by rw [btw_f3 k3] at h; exact absurd h.1 (by decide))]
          go_enter Try.func41, Try.ntmps41
          obtain ⟨y0, y1, y2, y3, y4, y5⟩ := HK.out.cells
          go_wp2_with ((with_reducible refine (inside6_any _ _ _ _).mono ?_); rintro e w' ⟨rfl, rfl⟩)
          go_ret
          exact ⟨rfl, HB0.out⟩
        case true =>
          cases k4 : inB x.most 1 1000000000
          case false =>
            rw [show lineE x = 2 from if_neg (fun h => by rw [k4] at h; exact absurd h.2 (by decide))]
            go_enter Try.func41, Try.ntmps41
            obtain ⟨y0, y1, y2, y3, y4, y5⟩ := HK.out.cells
            go_wp2_with ((with_reducible refine (inside6_any _ _ _ _).mono ?_); rintro e w' ⟨rfl, rfl⟩)
            go_ret
            exact ⟨rfl, HB0.out⟩
          case true =>
            have hE : ∀ v : Int, (if x.x = x.tx ∧ x.y = x.ty then 9 else 0) = v → lineE x = v := fun v h => (if_pos ⟨btw_t ⟨k0, k1, k2, k3⟩, k4⟩).trans h
            obtain ⟨p1, hp1⟩ : ∃ p, (x.x == x.tx) = p := ⟨_, rfl⟩
            obtain ⟨p2, hp2⟩ : ∃ p, (x.y == x.ty) = p := ⟨_, rfl⟩
            have hF := hE (if p1 = true ∧ p2 = true then 9 else 0) (by rw [← hp1, ← hp2]; simp only [beq_iff_eq])
            rw [hF]
            clear hE hF
            cases p1 <;> cases p2
            all_goals
              simp only [Bool.false_eq_true, and_self, and_true, and_false, if_true, if_false]
              go_enter Try.func41, Try.ntmps41
              obtain ⟨y0, y1, y2, y3, y4, y5⟩ := HK.out.cells
              go_wp2_with ((with_reducible refine (inside6_any _ _ _ _).mono ?_); rintro e w' ⟨rfl, rfl⟩)
              go_ret
              exact ⟨rfl, HB0.out⟩

set_option maxRecDepth 100000 in
set_option maxHeartbeats 16000000 in
theorem rCheckLines_any {w : World} {B0 n c : Nat} {A : Option Addr} {b : Nat → Mld} (h : Mll w B0 A n b) (hn : n ≤ 1000) (hs : ∀ i, i < n → (b i).nm.size ≤ 1000000000) :
    Calls Try.prog 17 #[.slice A n c] w fun e w' => ∃ r : Int, e = .returned (.int .i64 r) ∧ Hid (Mlq n b r) ∧ Below w.heap.size w w' := by
  by_cases hbig : 12 < n
  · have hd : decide ((12 : Int) < (n : Int)) = true := decide_eq_true (by omega)
    have HE := hid (show Mlq n b 8 from .inl ⟨hbig, rfl⟩)
    go_enter Try.func17, Try.ntmps17
    go_wp2
    go_ret
    exact ⟨8, rfl, HE, Below.refl _ _⟩
  · have hd : decide ((12 : Int) < (n : Int)) = false := decide_eq_false (by omega)
    go_enter Try.func17, Try.ntmps17
    go_wp2_with fail
    clear hd
    have Hh := hid h
    have Hs := hid hs
    clear h hs
    go_loopw [3, 4, 5] (fun iv _ _ wr => ∃ (i : Nat), i ≤ n ∧ iv = .int .i64 i ∧ Hid (∀ j, j < i → LGood (fun i => (b i).nm) (fun i r => r = lineE (b i)) j) ∧ Below w.heap.size w wr) (fun iv _ _ _ => n - (intOf iv).toNat)
    case atStart => exact ⟨0, Nat.zero_le _, rfl, hid (fun j hj => absurd hj (Nat.not_lt_zero _)), Below.refl _ _⟩
    case round =>
      obtain ⟨i, hi, rfl, HN, hbel⟩ := hrel
      have hw := Hh.out.below hbel
      have Hbel := hid hbel
      clear hbel
      by_cases hlt : i < n
      · obtain ⟨ad, hA, hl, q0, q1, q2, q3, q4, q5⟩ := hw.at_ i hlt
        subst hA
        have hs9 := Hs.out i hlt
        have Wbad := hid (fun (r : Int) (hx : LBad (fun i => (b i).nm) (fun i r => r = lineE (b i)) i r) => show Mlq n b r from .inr ⟨by omega, .inl ⟨i, hlt, HN.out, hx⟩⟩)
        by_cases hnm : nameB (b i).nm = true
        · have HNM := hid hnm
          go_wp2_with (((with_reducible refine (rIsName_any _ _ hs9).mono ?_); rintro e w' ⟨rfl, rfl⟩))
          have Hwr := hid hw
          clear hw hnm q0 q1 q2 q3 q4 q5
          go_loopw [4] (fun kv w2 => ∃ (k : Nat), k ≤ i ∧ kv = .int .i64 k ∧ Hid (∀ j, j < k → (b j).nm ≠ (b i).nm) ∧ Below wr.heap.size wr w2) (fun kv _ => i - (intOf kv).toNat)
          case atStart => exact ⟨0, Nat.zero_le _, rfl, hid (fun j hj => absurd hj (Nat.not_lt_zero _)), Below.refl _ _⟩
          case round =>
            rename_i w2 _
            obtain ⟨k, hk, rfl, HM, hb2⟩ := hrel
            have hw2 := Hwr.out.below hb2
            have HB2 := hid (Hbel.out.trans (hb2.mono Hbel.out.size))
            have Hb2 := hid hb2
            clear hb2
            obtain ⟨ad', hA', hl', q0, q1, q2, q3, q4, q5⟩ := hw2.at_ i hlt
            injection hA' with hA'
            subst hA'
            by_cases hki : k < i
            · obtain ⟨ad', hA', hl'', r0, r1, r2, r3, r4, r5⟩ := hw2.at_ k (by omega)
              injection hA' with hA'
              subst hA'
              have hk9 := Hs.out k (by omega)
              by_cases hc : (b k).nm = (b i).nm
              · have hdd := str_t hc
                have HE := Wbad.out 5 (.inr (.inl ⟨HNM.out, ⟨k, hki, hc⟩, rfl⟩))
                clear hc
                go_wp2
                go_quiet (fail)
                go_wp2
                go_ret
                exact ⟨5, rfl, HE, HB2.out.drewN' _⟩
              · have hdd := str_f hc
                have HM2 := hid (show ∀ j, j < k + 1 → (b j).nm ≠ (b i).nm from fun j hj => by
                  by_cases e : j = k
                  · subst e; exact hc
                  · exact HM.out j (by omega))
                clear hc
                go_wp2
                go_quiet (fail)
                go_wp2
                go_roundw
                case rel => exact ⟨k + 1, by omega, by go_num, HM2, Hb2.out.drewN' _⟩
                case measure => simp [intOf]; omega
            · obtain rfl : k = i := by omega
              go_wp2_with fail
              refine (rline_any (b k)).mono ?_
              rintro e w4 ⟨rfl, hb⟩
              have HB4 := hid (HB2.out.trans (hb.mono HB2.out.size))
              clear hb hw2 q0 q1 q2 q3 q4 q5
              generalize hr0 : lineE (b k) = r
              have Hr0 := hid hr0
              clear hr0
              by_cases hr : r = 0
              · subst hr
                have HG := hid (show LGood (fun i => (b i).nm) (fun i r => r = lineE (b i)) k from ⟨HNM.out, HM.out, Hr0.out.symm⟩)
                go_wp2
                go_roundw
                case rel => exact ⟨k + 1, by omega, by go_num, hid (fun j hj => by rcases Nat.lt_or_ge j k with h | h; exact HN.out j h; have : j = k := (by omega); subst this; exact HG.out), HB4.out⟩
                case measure => simp [intOf]; omega
              · have hq : (r != 0) = true := by rw [bne_iff_ne]; exact hr
                have HE := Wbad.out r (.inr (.inr ⟨HNM.out, HM.out, Hr0.out.symm, hr⟩))
                clear hr
                go_wp2
                go_ret
                exact ⟨r, rfl, HE, HB4.out⟩
        · have hnm' := Bool.eq_false_iff.2 hnm
          have HE := Wbad.out 4 (.inl ⟨hnm', rfl⟩)
          clear hnm
          go_wp2_with (((with_reducible refine (rIsName_any _ _ hs9).mono ?_); rintro e w' ⟨rfl, rfl⟩))
          go_ret
          exact ⟨4, rfl, HE, Hbel.out⟩
      · obtain rfl : i = n := by omega
        have HE := hid (show Mlq i b 0 from .inr ⟨by omega, .inr ⟨HN.out, rfl⟩⟩)
        go_wp2
        go_ret
        exact ⟨0, rfl, HE, Hbel.out⟩
theorem rCheckLines_is {w : World} {B0 n c : Nat} {A : Option Addr} {b : Nat → Mld} {q : Int} (hq : Hid (Mlq n b q)) (h : Mll w B0 A n b) (hn : n ≤ 1000) (hs : ∀ i, i < n → (b i).nm.size ≤ 1000000000) :
    Calls Try.prog 17 #[.slice A n c] w fun e w' => e = .returned (.int .i64 q) ∧ Below w.heap.size w w' :=
  (rCheckLines_any h hn hs).mono fun _ _ ⟨r, he, hr, hb⟩ => ⟨by rw [he, Mlq.same hr.out hq.out], hb⟩

end Go.Proofs.Ytkenanicohoigaa
