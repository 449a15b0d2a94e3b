/- Mooring lines: CheckLines. For all lists whose names are not endless. -/
import Derived.Test.YtkenanicohoigaaBl0
namespace Go.Proofs.Ytkenanicohoigaa
open Go.RowKit Go.Maps Kb Wb


set_option maxRecDepth 100000 in
set_option maxHeartbeats 16000000 in
theorem Mllist_any {w : World} {B0 n c : Nat} {A : Option Addr} {b : Nat → Mld} (h : Mll w B0 A n b) (hn : n ≤ 1000) (hs : ∀ i, i < n → (b i).nm.size ≤ 1000000000) :
    Calls Try.prog 37 #[.slice A n c, .int .i64 12, .func (.func 36) #[] #[], .func (.func 38) #[] #[]] w fun e w' => ∃ r : Int, e = .returned (.int .i64 r) ∧ Hid (Lsg 12 n (fun i => (b i).nm) (fun i r => r = lineE (b i)) r) ∧ Below w.heap.size w w' := by
  by_cases hbig : 12 < n
  · have hd : decide ((12 : Int) < (n : Int)) = true := decide_eq_true (by omega)
    have HE := hid (show Lsg 12 n (fun i => (b i).nm) (fun i r => r = lineE (b i)) 8 from .inl ⟨hbig, rfl⟩)
    go_enter Try.func37, Try.ntmps37
    go_wp2
    go_ret
    exact ⟨8, rfl, HE, Below.refl _ _⟩
  · have hd : decide ((12 : Int) < (n : Int)) = false := decide_eq_false (by omega)
    have hmm := @run_makeMap Try.prog
    obtain ⟨mb, hmb⟩ : ∃ mb, w.heap.size = mb := ⟨_, rfl⟩
    have hz0 := Nz.new w (fun i => (b i).nm)
    rw [hmb] at hz0
    have hb0 := alo (W := w) (o := .map #[] 0)
    go_enter Try.func37, Try.ntmps37
    go_wp2_with fail
    clear hd hmm
    generalize w.alloc (.map #[] 0) = W0 at *
    have Hh := hid h
    have Hmb := hid hmb
    have Hs := hid hs
    have HZ0 := hid hz0
    have HB0 := hid hb0
    clear h hmb hs hz0 hb0
    go_loopw [21] (fun iv wr => ∃ (i : Nat), i ≤ n ∧ iv = .int .i64 i ∧ Hid (∀ j, j < i → LGood (fun i => (b i).nm) (fun i r => r = lineE (b i)) j) ∧ Hid (Nz wr mb (fun i => (b i).nm) i) ∧ Below w.heap.size w wr) (fun iv _ => n - (intOf iv).toNat)
    case atStart => exact ⟨0, Nat.zero_le _, rfl, hid (fun j hj => absurd hj (Nat.not_lt_zero _)), HZ0, HB0.out⟩
    case round =>
      obtain ⟨i, hi, rfl, HN, HZ, hbel⟩ := hrel
      have hw := Hh.out.below (hbel.mono (Nat.le_refl _))
      have Hbel := hid hbel
      clear hbel
      by_cases hlt : i < n
      · obtain ⟨ad, hA, hl, q0, q1, q2, q3, q4, q5⟩ := hw.at_ i hlt
        subst hA
        have hs9 := Hs.out i hlt
        have ha := alo (W := wr) (o := (.cells #[.string (b i).nm, .int .i64 (b i).x, .int .i64 (b i).y, .int .i64 (b i).tx, .int .i64 (b i).ty, .int .i64 (b i).most] 46))
        obtain ⟨gb, hgb⟩ : ∃ gb, wr.heap.size = gb := ⟨_, rfl⟩
        have jb := Bk.of_alloc wr (.cells #[.string (b i).nm, .int .i64 (b i).x, .int .i64 (b i).y, .int .i64 (b i).tx, .int .i64 (b i).ty, .int .i64 (b i).most] 46) hgb
        have Hba := hid (Hbel.out.trans (ha.mono Hbel.out.size))
        have HZa := hid (HZ.out.below ha)
        clear ha hw
        go_wp2_with fail
        generalize wr.alloc (.cells #[.string (b i).nm, .int .i64 (b i).x, .int .i64 (b i).y, .int .i64 (b i).tx, .int .i64 (b i).ty, .int .i64 (b i).most] 46) = wa at *
        have Hgb := hid hgb
        clear hgb q0 q1 q2 q3 q4 q5
        refine (Mlname_any (b i)).mono ?_
        rintro e w2 ⟨rfl, hb⟩
        have jb2 := jb.step hb
        have HB2 := hid (Hba.out.trans (hb.mono Hba.out.size))
        have HZ2 := hid (HZa.out.below hb)
        clear hb jb
        obtain ⟨y0, y1, y2, y3, y4, y5⟩ := (show Mlb w2 gb (b i) from ⟨jb2⟩).cells
        have wbad := fun (r : Int) (hx : LBad (fun i => (b i).nm) (fun i r => r = lineE (b i)) i r) => hid (show Lsg 12 n (fun i => (b i).nm) (fun i r => r = lineE (b i)) r from .inr ⟨by omega, .inl ⟨i, hlt, HN.out, hx⟩⟩)
        have Wbad := hid wbad
        clear wbad
        by_cases hnm : nameB (b i).nm = true
        · have HNM := hid hnm
          have hlk := HZ2.out.look (b i).nm (by unfold maxLen; omega)
          by_cases hsn : seenB (fun i => (b i).nm) i (b i).nm = true
          · have HE := Wbad.out 5 (.inr (.inl ⟨hnm, seen_iff.1 hsn, rfl⟩))
            rw [hsn] at hlk
            clear hsn
            go_wp2_with (((with_reducible refine (IsName_any _ _ hs9).mono ?_); rintro e w' ⟨rfl, rfl⟩))
            go_ret
            exact ⟨5, rfl, HE, HB2.out⟩
          · have hno : ∀ k, k < i → (b k).nm ≠ (b i).nm := fun k hk e => hsn (seenB_t ⟨k, hk, e⟩)
            rw [Bool.eq_false_iff.2 hsn] at hlk
            have Hno := hid hno
            clear hsn hno
            go_wp2_with (((with_reducible refine (IsName_any _ _ hs9).mono ?_); rintro e w' ⟨rfl, rfl⟩))
            refine (Mlown_any (b i)).mono ?_
            rintro e w4 ⟨rfl, hb⟩
            generalize hr0 : lineE (b i) = r
            have Hr0 := hid hr0
            clear hr0
            have hz : (fun i r => r = lineE (b i)) i r := Hr0.out.symm
            have jb4 := jb2.step hb
            have HB4 := hid (HB2.out.trans (hb.mono HB2.out.size))
            have HZ4 := hid (HZ2.out.below hb)
            clear hb jb2 y0 y1 y2 y3 y4 y5 hnm hlk
            by_cases hr : r = 0
            · subst hr
              have HG := hid (show LGood (fun i => (b i).nm) (fun i r => r = lineE (b i)) i from ⟨HNM.out, Hno.out, hz⟩)
              obtain ⟨f, ⟨D, hown, hD, hat⟩, hseen⟩ := HZ4.out
              obtain ⟨f', hat', hseen'⟩ := seen_put hD hat hseen
              have Hat := hid hat'
              have Hseen := hid hseen'
              have HD := hid hD
              clear hat hseen hat' hseen' hD hz
              have hil : i < maxLen := by unfold maxLen; omega
              go_wp2_with (at_mapUpdate; (refine wpList_mapUpdate_own _ rfl _ _ _ 65 rfl 9 4 law Try.underlying65 _ mb i _ rfl hown hil _ _ (.string (bl (b i).nm)) rfl rfl (Go.WideMaps.keyOf_string_mk Try.underlying9 (by unfold maxLen; omega)) (.lit (.bool true)) [] (plainElem_bool Try.underlying4 true) ?_))
              intro w5 hown5 hgrow
              have hb5 := HB4.out.grown hgrow HB4.out.size (fun k hk => by injection hk with hk; rw [← hk, ← Hmb.out]; exact Nat.le_refl _)
              have HZ5 := hid (show Nz w5 mb (fun i => (b i).nm) (i + 1) from ⟨f', ⟨_, hown5, HD.out.put _ _, Hat.out⟩, Hseen.out⟩)
              have HB5 := hid hb5
              clear hb5 hown hown5 hgrow hil
              go_wp2
              go_roundw
              case rel => exact ⟨i + 1, by omega, by go_num, hid (fun j hj => by rcases Nat.lt_or_ge j i with h | h; exact HN.out j h; have : j = i := (by omega); subst this; exact HG.out), HZ5, HB5.out⟩
              case measure => simp [intOf]; omega
            · have hq : (r != 0) = true := by rw [bne_iff_ne]; exact hr
              have HE := Wbad.out r (.inr (.inr ⟨HNM.out, Hno.out, hz, hr⟩))
              clear hr hz
              go_wp2
              go_ret
              exact ⟨r, rfl, HE, HB4.out⟩
        · have hnm' := Bool.eq_false_iff.2 hnm
          have HE := Wbad.out 4 (.inl ⟨hnm', rfl⟩)
          clear hnm
          go_wp2_with (((with_reducible refine (IsName_any _ _ hs9).mono ?_); rintro e w' ⟨rfl, rfl⟩))
          go_ret
          exact ⟨4, rfl, HE, HB2.out⟩
      · obtain rfl : i = n := by omega
        have HE := hid (show Lsg 12 i (fun i => (b i).nm) (fun i r => r = lineE (b i)) 0 from .inr ⟨by omega, .inr ⟨HN.out, rfl⟩⟩)
        go_wp2
        go_ret
        exact ⟨0, rfl, HE, Hbel.out⟩

/-- r is the error of a list of them. -/
abbrev Mlq (n : Nat) (b : Nat → Mld) (r : Int) : Prop := Lsg 12 n (fun i => (b i).nm) (fun i r => r = lineE (b i)) r
theorem Mlq.same {n : Nat} {b : Nat → Mld} {p q : Int} (h : Mlq n b p) (k : Mlq n b q) : p = q := Lsg.same (fun _ _ _ a b => a.trans b.symm) h k
theorem Mlq.exists (n : Nat) (b : Nat → Mld) : ∃ r, Mlq n b r := Lsg.exists _ _ _ _ fun _ => ⟨_, rfl⟩
set_option maxRecDepth 100000 in
theorem Mlcheck_is {w : World} {B0 n c : Nat} {A : Option Addr} {b : Nat → Mld} {q : Int} (hq : Hid (Mlq n b q)) (h : Mll w B0 A n b) (hn : n ≤ 1000) (hs : ∀ i, i < n → (b i).nm.size ≤ 1000000000) :
    Calls Try.prog 16 #[.slice A n c] w fun e w' => e = .returned (.int .i64 q) ∧ Below w.heap.size w w' := by
  have Hh := hid h
  have Hs := hid hs
  clear h hs
  go_enter Try.func16, Try.ntmps16
  go_wp2_with fail
  refine (Mllist_any Hh.out hn Hs.out).mono ?_
  rintro e w2 ⟨r, rfl, hr, hb⟩
  obtain rfl := Mlq.same hr.out hq.out
  have HB := hid hb
  clear hb hr
  go_wp2
  go_ret
  exact ⟨rfl, HB.out⟩

end Go.Proofs.Ytkenanicohoigaa
