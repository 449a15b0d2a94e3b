/- Ships that call: CallOf, CheckCalls of the reference. For all ships. -/
import Derived.Test.YtkenanicohoigaaBc0
namespace Go.Proofs.Ytkenanicohoigaa
open Go.RowKit Go.Maps Kb Wb


set_option maxRecDepth 100000 in
set_option maxHeartbeats 4000000 in
theorem Caof_any {w : World} {B0 n c : Nat} {A : Option Addr} {b : Nat → Cad} {s : ByteArray} (h : Cal w B0 A n b) (hn : n ≤ 1000) :
    Calls Try.prog 33 #[.slice A n c, .string s] w fun e w' => ∃ r : Int, e = .returned (.int .i64 r) ∧ Hid (Ixn n (fun i => (b i).nm) s r) ∧ Below w.heap.size w w' := by
  have Hh := hid h
  clear h
  go_enter Try.func33, Try.ntmps33
  go_wp2_with fail
  go_loopw [5] (fun iv wr => ∃ i : Nat, i ≤ n ∧ iv = .int .i64 i ∧ Hid (∀ j, j < i → (b j).nm ≠ s) ∧ Below w.heap.size w wr) (fun iv _ => n - (intOf iv).toNat)
  case atStart => exact ⟨0, Nat.zero_le _, rfl, hid (fun j hj => absurd hj (Nat.not_lt_zero _)), Below.refl _ _⟩
  case round =>
    obtain ⟨i, hi, rfl, HN, hbel⟩ := hrel
    have hw := Hh.out.below hbel
    have Hbel := hid hbel
    clear hbel
    by_cases hlt : i < n
    · obtain ⟨ad, hA, hl, q0, q1, q2, q3, q4, q5, q6, q7, q8⟩ := hw.at_ i hlt
      subst hA
      by_cases hc : (b i).nm = s
      · have hd := str_t hc
        have HE := hid (show Ixn n (fun i => (b i).nm) s (i : Int) from .inr ⟨i, hlt, HN.out, hc, rfl⟩)
        clear hc
        go_wp2
        go_ret
        exact ⟨_, rfl, HE, Hbel.out⟩
      · have hd := str_f hc
        have HN2 := hid (show ∀ j, j < i + 1 → (b j).nm ≠ s from fun j hj => by
          by_cases e : j = i
          · subst e; exact hc
          · exact HN.out j (by omega))
        clear hc
        go_wp2
        go_roundw
        case rel => exact ⟨i + 1, by omega, by go_num, HN2, Hbel.out⟩
        case measure => simp [intOf]; omega
    · obtain rfl : i = n := by omega
      have HE := hid (show Ixn i (fun i => (b i).nm) s (-1) from .inl ⟨rfl, HN.out⟩)
      go_wp2
      go_ret
      exact ⟨_, rfl, HE, Hbel.out⟩
theorem Caof_is {w : World} {B0 n c : Nat} {A : Option Addr} {b : Nat → Cad} {s : ByteArray} {q : Int} (hq : Hid (Ixn n (fun i => (b i).nm) s q)) (h : Cal w B0 A n b) (hn : n ≤ 1000) :
    Calls Try.prog 33 #[.slice A n c, .string s] w fun e w' => e = .returned (.int .i64 q) ∧ Below w.heap.size w w' :=
  (Caof_any h hn).mono fun _ _ ⟨r, he, hr, hb⟩ => ⟨by rw [he, hr.out.same hq.out], hb⟩

set_option maxRecDepth 100000 in
set_option maxHeartbeats 16000000 in
theorem rCacheck_any {w : World} {B0 n c : Nat} {A : Option Addr} {b : Nat → Cad} (h : Cal w B0 A n b) (hn : n ≤ 1000) (hs : ∀ i, i < n → (b i).nm.size ≤ 1000000000) :
    Calls Try.prog 10 #[.slice A n c] w fun e w' => ∃ r : Int, e = .returned (.int .i64 r) ∧ Hid (Caq n b r) ∧ Below w.heap.size w w' := by
  by_cases hbig : 8 < n
  · have hd : decide ((8 : Int) < (n : Int)) = true := decide_eq_true (by omega)
    have HE := hid (show Caq n b 8 from .inl ⟨hbig, rfl⟩)
    go_enter Try.func10, Try.ntmps10
    go_wp2
    go_ret
    exact ⟨8, rfl, HE, Below.refl _ _⟩
  · have hd : decide ((8 : Int) < (n : Int)) = false := decide_eq_false (by omega)
    go_enter Try.func10, Try.ntmps10
    go_wp2_with fail
    clear hd
    have Hh := hid h
    have Hs := hid hs
    clear h hs
    go_loopw [3] (fun iv wr => ∃ (i : Nat), i ≤ n ∧ iv = .int .i64 i ∧ Hid (∀ j, j < i → LGood (fun i => (b i).nm) (fun i r => r = callE (b i)) j) ∧ Below w.heap.size w wr) (fun iv _ => n - (intOf iv).toNat)
    case atStart => exact ⟨0, Nat.zero_le _, rfl, hid (fun j hj => absurd hj (Nat.not_lt_zero _)), Below.refl _ _⟩
    case round =>
      obtain ⟨i, hi, rfl, HN, hbel⟩ := hrel
      have hw := Hh.out.below hbel
      have Hbel := hid hbel
      clear hbel
      by_cases hlt : i < n
      · obtain ⟨ad, hA, hl, q0, q1, q2, q3, q4, q5, q6, q7, q8⟩ := hw.at_ i hlt
        subst hA
        have hs9 := Hs.out i hlt
        have Wbad := hid (fun (r : Int) (hx : LBad (fun i => (b i).nm) (fun i r => r = callE (b i)) i r) => show Caq n b r from .inr ⟨by omega, .inl ⟨i, hlt, HN.out, hx⟩⟩)
        obtain ⟨m, hm0⟩ := Ixn.exists n (fun i => (b i).nm) (b i).nm
        have hown := ix_own (nm := (fun i => (b i).nm)) hlt hm0
        have hm1 := hown.2.1
        have hm2 := hown.2.2
        have Hown := hid hown.1
        have Hm := hid hm0
        clear hm0 hown
        have ha := alo (W := wr) (o := (.cells #[.string (b i).nm, .int .i64 (b i).len, .int .i64 (b i).beam, .int .i64 (b i).dra, .int .i64 (b i).und, .int .i64 (b i).arr, .int .i64 (b i).wrk, .int .i64 (b i).due, .int .i64 (b i).late] 36))
        obtain ⟨gb, hgb⟩ : ∃ gb, wr.heap.size = gb := ⟨_, rfl⟩
        have jb : Cab _ gb (b i) := Cab.new wr (b i) hgb
        have hw1 := hw.below ha
        have Hba := hid (Hbel.out.trans (ha.mono Hbel.out.size))
        clear ha hw
        go_wp2_with fail
        generalize wr.alloc (.cells #[.string (b i).nm, .int .i64 (b i).len, .int .i64 (b i).beam, .int .i64 (b i).dra, .int .i64 (b i).und, .int .i64 (b i).arr, .int .i64 (b i).wrk, .int .i64 (b i).due, .int .i64 (b i).late] 36) = wa at *
        have Hgb := hid hgb
        clear hgb q0 q1 q2 q3 q4 q5 q6 q7 q8
        obtain ⟨q0, q1, q2, q3, q4, q5, q6, q7, q8⟩ := jb.cells
        by_cases hnm : nameB (b i).nm = true
        · have HNM := hid hnm
          go_wp2_with (((with_reducible refine (rIsName_any _ _ hs9).mono ?_); rintro e w' ⟨rfl, rfl⟩))
          refine (Caof_is Hm hw1 hn).mono ?_
          rintro e w2 ⟨rfl, hb⟩
          have hw2 := hw1.below hb
          have HB2 := hid (Hba.out.trans (hb.mono Hba.out.size))
          have jb2 := jb.below hb
          clear hb q0 q1 q2 q3 q4 q5 q6 q7 q8 hnm hw1 jb
          obtain ⟨q0, q1, q2, q3, q4, q5, q6, q7, q8⟩ := jb2.cells
          by_cases hmi : m = (i : Int)
          · have hd : (m != (i : Int)) = false := by rw [bne_eq_false_iff_eq]; exact hmi
            have HF := hid (Hown.out.1 hmi)
            clear hmi
            cases k0 : inB (b i).len (1) 1000000
            case false =>
              have HE := Wbad.out 2 (.inr (.inr ⟨HNM.out, HF.out, (if_neg (fun h => by rw [caB_f0 k0] at h; cases h)).symm, by decide⟩))
              go_wp2_with ((with_reducible refine (inside6_any _ _ _ _).mono ?_); rintro e w' ⟨rfl, rfl⟩)
              go_ret
              exact ⟨2, rfl, HE, HB2.out⟩
            case true =>
              cases k1 : inB (b i).beam (1) 1000000
              case false =>
                have HE := Wbad.out 2 (.inr (.inr ⟨HNM.out, HF.out, (if_neg (fun h => by rw [caB_f1 k1] at h; cases h)).symm, by decide⟩))
                go_wp2_with ((with_reducible refine (inside6_any _ _ _ _).mono ?_); rintro e w' ⟨rfl, rfl⟩)
                go_ret
                exact ⟨2, rfl, HE, HB2.out⟩
              case true =>
                cases k2 : inB (b i).dra (0) 1000000
                case false =>
                  have HE := Wbad.out 2 (.inr (.inr ⟨HNM.out, HF.out, (if_neg (fun h => by rw [caB_f2 k2] at h; cases h)).symm, by decide⟩))
                  go_wp2_with ((with_reducible refine (inside6_any _ _ _ _).mono ?_); rintro e w' ⟨rfl, rfl⟩)
                  go_ret
                  exact ⟨2, rfl, HE, HB2.out⟩
                case true =>
                  cases k3 : inB (b i).und (0) 1000000
                  case false =>
                    have HE := Wbad.out 2 (.inr (.inr ⟨HNM.out, HF.out, (if_neg (fun h => by rw [caB_f3 k3] at h; cases h)).symm, by decide⟩))
                    go_wp2_with ((with_reducible refine (inside6_any _ _ _ _).mono ?_); rintro e w' ⟨rfl, rfl⟩)
                    go_ret
                    exact ⟨2, rfl, HE, HB2.out⟩
                  case true =>
                    cases k4 : inB (b i).arr (0) 400
                    case false =>
                      have HE := Wbad.out 2 (.inr (.inr ⟨HNM.out, HF.out, (if_neg (fun h => by rw [caB_f4 k4] at h; cases h)).symm, by decide⟩))
                      go_wp2_with ((with_reducible refine (inside6_any _ _ _ _).mono ?_); rintro e w' ⟨rfl, rfl⟩)
                      go_ret
                      exact ⟨2, rfl, HE, HB2.out⟩
                    case true =>
                      cases k5 : inB (b i).due (0) 400
                      case false =>
                        have HE := Wbad.out 2 (.inr (.inr ⟨HNM.out, HF.out, (if_neg (fun h => by rw [caB_f5 k5] at h; cases h)).symm, by decide⟩))
                        go_wp2_with ((with_reducible refine (inside6_any _ _ _ _).mono ?_); rintro e w' ⟨rfl, rfl⟩)
                        go_ret
                        exact ⟨2, rfl, HE, HB2.out⟩
                      case true =>
                        cases k6 : inB (b i).wrk (1) 1000
                        case false =>
                          have HE := Wbad.out 2 (.inr (.inr ⟨HNM.out, HF.out, (if_neg (fun h => by rw [caB_f6 k6] at h; cases h)).symm, by decide⟩))
                          go_wp2_with ((with_reducible refine (inside6_any _ _ _ _).mono ?_); rintro e w' ⟨rfl, rfl⟩)
                          go_ret
                          exact ⟨2, rfl, HE, HB2.out⟩
                        case true =>
                          cases k7 : inB (b i).late (0) 1000000000
                          case false =>
                            have HE := Wbad.out 2 (.inr (.inr ⟨HNM.out, HF.out, (if_neg (fun h => by rw [caB_f7 k7] at h; cases h)).symm, by decide⟩))
                            go_wp2_with ((with_reducible refine (inside6_any _ _ _ _).mono ?_); rintro e w' ⟨rfl, rfl⟩)
                            go_ret
                            exact ⟨2, rfl, HE, HB2.out⟩
                          case true =>
                            have HG := hid (show LGood (fun i => (b i).nm) (fun i r => r = callE (b i)) i from ⟨HNM.out, HF.out, (if_pos (caB_t ⟨k0, k1, k2, k3, k4, k5, k6, k7⟩)).symm⟩)
                            go_wp2_with ((with_reducible refine (inside6_any _ _ _ _).mono ?_); rintro e w' ⟨rfl, rfl⟩)
                            go_roundw
                            case rel => exact ⟨i + 1, by omega, by go_num, hid (fun j hj => by rcases Nat.lt_or_ge j i with h | h; exact HN.out j h; have : j = i := (by omega); subst this; exact HG.out), HB2.out⟩
                            case measure => simp [intOf]; omega
          · have hd : (m != (i : Int)) = true := by rw [bne_iff_ne]; exact hmi
            have HE := Wbad.out 5 (.inr (.inl ⟨HNM.out, Classical.byContradiction fun h => hmi (Hown.out.2 fun k hk e => h ⟨k, hk, e⟩), rfl⟩))
            clear hmi
            go_wp2
            go_ret
            exact ⟨5, rfl, HE, HB2.out⟩
        · have hnm' := Bool.eq_false_iff.2 hnm
          have HE := Wbad.out 4 (.inl ⟨hnm', rfl⟩)
          clear hnm
          go_wp2_with (((with_reducible refine (rIsName_any _ _ hs9).mono ?_); rintro e w' ⟨rfl, rfl⟩))
          go_ret
          exact ⟨4, rfl, HE, Hba.out⟩
      · obtain rfl : i = n := by omega
        have HE := hid (show Caq i b 0 from .inr ⟨by omega, .inr ⟨HN.out, rfl⟩⟩)
        go_wp2
        go_ret
        exact ⟨0, rfl, HE, Hbel.out⟩
theorem rCacheck_is {w : World} {B0 n c : Nat} {A : Option Addr} {b : Nat → Cad} {q : Int} (hq : Hid (Caq n b q)) (h : Cal w B0 A n b) (hn : n ≤ 1000) (hs : ∀ i, i < n → (b i).nm.size ≤ 1000000000) :
    Calls Try.prog 10 #[.slice A n c] w fun e w' => e = .returned (.int .i64 q) ∧ Below w.heap.size w w' :=
  (rCacheck_any h hn hs).mono fun _ _ ⟨r, he, hr, hb⟩ => ⟨by rw [he, Caq.same hr.out hq.out], hb⟩

/-- One of them alone. -/
theorem Cal.one {w : World} (x : Cad) {g B0 : Nat} (h : Cab w g x) (hg : g < B0) (hB : B0 ≤ w.heap.size) : Cal w B0 (some ⟨g, 0, none⟩) 1 fun _ => x :=
  ⟨fun i hi => by
    obtain rfl : i = 0 := by omega
    obtain ⟨y0, y1, y2, y3, y4, y5, y6, y7, y8⟩ := h.cells
    refine ⟨⟨g, 0, none⟩, rfl, hg, ?_⟩
    rw [Nat.zero_mul, addr_zero]
    exact ⟨y0, (by simpa using y1), (by simpa using y2), (by simpa using y3), (by simpa using y4), (by simpa using y5), (by simpa using y6), (by simpa using y7), (by simpa using y8)⟩, hB⟩
/-- What is said of one of them alone. -/
theorem Caq.one (x : Cad) : Caq 1 (fun _ => x) (if nameB x.nm = true then callE x else 4) := by
  refine .inr ⟨by decide, ?_⟩
  by_cases hn : nameB x.nm = true
  · rw [if_pos hn]
    by_cases h0 : callE x = 0
    · exact .inr ⟨fun j _ => ⟨hn, fun k hk => by omega, h0.symm⟩, h0⟩
    · exact .inl ⟨0, by decide, fun j hj => absurd hj (Nat.not_lt_zero _), .inr (.inr ⟨hn, fun k hk => absurd hk (Nat.not_lt_zero _), rfl, h0⟩)⟩
  · rw [if_neg hn]
    exact .inl ⟨0, by decide, fun j hj => absurd hj (Nat.not_lt_zero _), .inl ⟨Bool.eq_false_iff.2 hn, rfl⟩⟩
theorem Caq.one0 {x : Cad} (h : Caq 1 (fun _ => x) 0) : callE x = 0 := by
  have h := Caq.same h (Caq.one x)
  by_cases hn : nameB x.nm = true
  · rw [if_pos hn] at h; exact h.symm
  · rw [if_neg hn] at h; exact absurd h (by decide)
theorem Cal.at1 {w : World} {B0 n : Nat} {ad : Addr} {b : Nat → Cad} (h : Cal w B0 (some ad) n b) {i : Nat} (hi : i < n) : Cal w B0 (some (ad.add (i * 9))) 1 fun _ => b i :=
  ⟨fun j hj => by
    obtain rfl : j = 0 := by omega
    obtain ⟨ad', e, hl, hc⟩ := h.at_ i hi
    injection e with e
    subst e
    refine ⟨_, rfl, in_add hl, ?_⟩
    rw [Nat.zero_mul, addr_zero]
    exact hc, h.le⟩

end Go.Proofs.Ytkenanicohoigaa
