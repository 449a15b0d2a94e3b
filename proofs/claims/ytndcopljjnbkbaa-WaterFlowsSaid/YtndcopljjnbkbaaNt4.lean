/- Networks: the errors of the lists of basins and of links. For all lists. -/
import Derived.Test.YtndcopljjnbkbaaNt3
namespace Go.Proofs.Ytndcopljjnbkbaa
open Go.RowKit Go.Maps Kb Wb

/-- Item j of a list is right. -/
def LGood (nm : Nat → ByteArray) (own : Nat → Int → Prop) (j : Nat) : Prop := nameB (nm j) = true ∧ (∀ k, k < j → nm k ≠ nm j) ∧ own j 0
/-- r is the error of item i. -/
def LBad (nm : Nat → ByteArray) (own : Nat → Int → Prop) (i : Nat) (r : Int) : Prop := (nameB (nm i) = false ∧ r = 4) ∨ (nameB (nm i) = true ∧ (∃ k, k < i ∧ nm k = nm i) ∧ r = 5) ∨ (nameB (nm i) = true ∧ (∀ k, k < i → nm k ≠ nm i) ∧ own i r ∧ r ≠ 0)
/-- r is the error of a list of named things. -/
def Lsg (most n : Nat) (nm : Nat → ByteArray) (own : Nat → Int → Prop) (r : Int) : Prop :=
  (most < n ∧ r = 8) ∨ (n ≤ most ∧ ((∃ i, i < n ∧ (∀ j, j < i → LGood nm own j) ∧ LBad nm own i r) ∨ ((∀ j, j < n → LGood nm own j) ∧ r = 0)))
section
variable {nm : Nat → ByteArray} {own : Nat → Int → Prop}
theorem LBad.not {i : Nat} {r : Int} (hf : ∀ i r q, own i r → own i q → r = q) (h : LBad nm own i r) : ¬ LGood nm own i := fun g => by
  rcases h with ⟨h, _⟩ | ⟨_, ⟨k, h1, h2⟩, _⟩ | ⟨_, _, h1, h2⟩
  · rw [g.1] at h; cases h
  · exact g.2.1 k h1 h2
  · exact h2 (hf i r 0 h1 g.2.2)
theorem LBad.same {i : Nat} {r q : Int} (hf : ∀ i r q, own i r → own i q → r = q) (h : LBad nm own i r) (k : LBad nm own i q) : r = q := by
  rcases h with ⟨h, rfl⟩ | ⟨h, ⟨j, h1, h2⟩, rfl⟩ | ⟨h, h0, h1, h2⟩ <;> rcases k with ⟨k, rfl⟩ | ⟨k, ⟨j', k1, k2⟩, rfl⟩ | ⟨k, k0, k1, k2⟩
  · rfl
  · rw [h] at k; cases k
  · rw [h] at k; cases k
  · rw [h] at k; cases k
  · rfl
  · exact absurd h2 (k0 j h1)
  · rw [h] at k; cases k
  · exact absurd k2 (h0 j' k1)
  · exact hf i r q h1 k1
theorem Lsg.same {most n : Nat} {r q : Int} (hf : ∀ i r q, own i r → own i q → r = q) (h : Lsg most n nm own r) (k : Lsg most n nm own q) : r = q := by
  rcases h with ⟨h, rfl⟩ | ⟨h, ⟨i, hi, h1, h2⟩ | ⟨h1, rfl⟩⟩ <;> rcases k with ⟨k, rfl⟩ | ⟨k, ⟨j, hj, k1, k2⟩ | ⟨k1, rfl⟩⟩
  · rfl
  · omega
  · omega
  · omega
  · have e : i = j := by
      rcases Nat.lt_trichotomy i j with l | l | l
      · exact absurd (k1 i l) (h2.not hf)
      · exact l
      · exact absurd (h1 j l) (k2.not hf)
    subst e
    exact h2.same hf k2
  · exact absurd (k1 i hi) (h2.not hf)
  · omega
  · exact absurd (h1 j hj) (k2.not hf)
  · rfl
end
/-- The names seen so far. -/
def Seen (nm : Nat → ByteArray) (i : Nat) (f : List UInt8 → Bool) : Prop := ∀ l, f l = true ↔ ∃ j, j < i ∧ bl (nm j) = l
/-- The set of the first i names. -/
def Nz (w : World) (b : Nat) (nm : Nat → ByteArray) (i : Nat) : Prop := ∃ f, Ns w b i f ∧ Seen nm i f
theorem Nz.below {w w' : World} {b i : Nat} {nm : Nat → ByteArray} (h : Nz w b nm i) (hb : Below w.heap.size w w') : Nz w' b nm i := by
  obtain ⟨f, h1, h2⟩ := h
  exact ⟨f, h1.below hb, h2⟩
theorem Nz.new (w : World) (nm : Nat → ByteArray) : Nz (w.alloc (.map #[] 0)) w.heap.size nm 0 := ⟨_, Ns.new w, fun l => ⟨fun h => (by cases h), fun ⟨j, hj, _⟩ => absurd hj (Nat.not_lt_zero _)⟩⟩

/-- Whether a name has been seen. -/
noncomputable def seenB (nm : Nat → ByteArray) (i : Nat) (s : ByteArray) : Bool := @decide (∃ k, k < i ∧ nm k = s) (Classical.propDecidable _)
theorem Nz.look {w : World} {b i : Nat} {nm : Nat → ByteArray} (h : Nz w b nm i) (s : ByteArray) (hs : s.size ≤ maxLen) : (Instr.lookup 138 (.map (some b)) (.string s) false).run Try.prog w = .ok (.bool (seenB nm i s)) w := by
  obtain ⟨f, h1, h2⟩ := h
  rw [h1.look s hs]
  have e : f (bl s) = seenB nm i s := by
    rw [Bool.eq_iff_iff, h2 (bl s)]
    unfold seenB
    rw [@decide_eq_true_iff _ (Classical.propDecidable _)]
    exact ⟨fun ⟨j, a, b⟩ => ⟨j, a, bl_inj b⟩, fun ⟨j, a, b⟩ => ⟨j, a, by rw [b]⟩⟩
  rw [e]
theorem seenB_t {nm : Nat → ByteArray} {i : Nat} {s : ByteArray} (h : ∃ k, k < i ∧ nm k = s) : seenB nm i s = true := @decide_eq_true _ (Classical.propDecidable _) h
theorem seenB_f {nm : Nat → ByteArray} {i : Nat} {s : ByteArray} (h : ¬ ∃ k, k < i ∧ nm k = s) : seenB nm i s = false := @decide_eq_false _ (Classical.propDecidable _) h
theorem seen_iff {nm : Nat → ByteArray} {i : Nat} {s : ByteArray} : seenB nm i s = true ↔ ∃ k, k < i ∧ nm k = s := @decide_eq_true_iff _ (Classical.propDecidable _)
theorem seen_put {D : DataW Unit} {f : List UInt8 → Bool} {nm : Nat → ByteArray} {i : Nat} (hD : IsMap D) (hf : ∀ l, D.atKey (.string l) (.lit (.bool false)) = .lit (.bool (f l))) (hs : Seen nm i f) :
    ∃ f', (∀ l, (D.put (.string (bl (nm i))) (.lit (.bool true))).atKey (.string l) (.lit (.bool false)) = .lit (.bool (f' l))) ∧ Seen nm (i + 1) f' := by
  refine ⟨fun l => if l = bl (nm i) then true else f l, fun l => ?_, fun l => ?_⟩
  · by_cases e : l = bl (nm i)
    · subst e
      rw [atKey_put_same hD (by exact trivial)]
      dsimp only
      rw [if_pos rfl]
    · rw [atKey_put_other (by intro h; injection h with h; exact e h), hf]
      dsimp only
      rw [if_neg e]
  · by_cases e : l = bl (nm i)
    · subst e
      dsimp only
      rw [if_pos rfl]
      exact ⟨fun _ => ⟨i, by omega, rfl⟩, fun _ => rfl⟩
    · dsimp only
      rw [if_neg e, hs l]
      exact ⟨fun ⟨j, a, b⟩ => ⟨j, by omega, b⟩, fun ⟨j, a, b⟩ => ⟨j, by
        rcases Nat.lt_or_ge j i with h | h
        · exact h
        · have : j = i := by omega
          subst this
          exact absurd b.symm e, b⟩⟩

set_option maxRecDepth 100000 in
theorem bname_any {w : World} (x : Bd) :
    Calls Try.prog 78 #[.agg #[.string x.nm, .slice x.A x.n x.c, .int .i64 x.rim]] w fun e w' => e = .returned (.string x.nm) ∧ Below w.heap.size w w' := by
  have hb0 := alo (W := w) (o := (.cells #[.string x.nm, .slice x.A x.n x.c, .int .i64 x.rim] 42))
  have j1 := cell_of_row _ _ 0 _ _ _ (Bk.of_alloc w (.cells #[.string x.nm, .slice x.A x.n x.c, .int .i64 x.rim] 42) rfl)
  go_enter Try.func78, Try.ntmps78
  go_wp2
  go_ret
  exact ⟨rfl, hb0⟩

set_option maxRecDepth 100000 in
theorem lname_any {w : World} (x : Ld) :
    Calls Try.prog 80 #[.agg #[.string x.nm, .int .i64 x.kind, .string x.fr, .string x.tw, .int .i64 x.sill, .int .i64 x.rate, .int .i64 x.fac, .int .i64 x.lift]] w fun e w' => e = .returned (.string x.nm) ∧ Below w.heap.size w w' := by
  have hb0 := alo (W := w) (o := (.cells #[.string x.nm, .int .i64 x.kind, .string x.fr, .string x.tw, .int .i64 x.sill, .int .i64 x.rate, .int .i64 x.fac, .int .i64 x.lift] 59))
  have j1 := cell_of_row _ _ 0 _ _ _ (Bk.of_alloc w (.cells #[.string x.nm, .int .i64 x.kind, .string x.fr, .string x.tw, .int .i64 x.sill, .int .i64 x.rate, .int .i64 x.fac, .int .i64 x.lift] 59) rfl)
  go_enter Try.func80, Try.ntmps80
  go_wp2
  go_ret
  exact ⟨rfl, hb0⟩

set_option maxRecDepth 100000 in
set_option maxHeartbeats 16000000 in
theorem ListB_any {w : World} {B0 n c : Nat} {A : Option Addr} {b : Nat → Bd}  (h : Bl w B0 A n b) (hn : n ≤ 1000) (hs : ∀ i, i < n → (b i).nm.size ≤ 1000000000)  :
    Calls Try.prog 77 #[.slice A n c, .int .i64 8, .func (.func 78) #[] #[], .func (.func 79) #[] #[]] w fun e w' => ∃ r : Int, e = .returned (.int .i64 r) ∧ Hid (Lsg 8 n (fun i => (b i).nm) (fun i r => Sz (b i).n (b i).F (b i).S (b i).rim r) r) ∧ Below w.heap.size w w' := by
  by_cases hbig : 8 < n
  · have hd : decide ((8 : Int) < (n : Int)) = true := decide_eq_true (by omega)
    have HE := hid (show Lsg 8 n (fun i => (b i).nm) (fun i r => Sz (b i).n (b i).F (b i).S (b i).rim r) 8 from .inl ⟨hbig, rfl⟩)
    go_enter Try.func77, Try.ntmps77
    go_wp2
    go_ret
    exact ⟨8, rfl, HE, Below.refl _ _⟩
  · have hd : decide ((8 : Int) < (n : Int)) = false := decide_eq_false (by omega)
    have hmm := @run_makeMap Try.prog
    obtain ⟨mb, hmb⟩ : ∃ mb, w.heap.size = mb := ⟨_, rfl⟩
    have hz0 := Nz.new w (fun i => (b i).nm)
    rw [hmb] at hz0
    have hb0 := alo (W := w) (o := .map #[] 0)
    go_enter Try.func77, Try.ntmps77
    go_wp2_with fail
    clear hd hmm
    generalize w.alloc (.map #[] 0) = W0 at *
    have Hh := hid h
    have Hmb := hid hmb
    have Hs := hid hs
    have HZ0 := hid hz0
    have HB0 := hid hb0
    clear h hmb hs hz0 hb0
    go_loopw [21] (fun iv wr => ∃ (i : Nat), i ≤ n ∧ iv = .int .i64 i ∧ Hid (∀ j, j < i → LGood (fun i => (b i).nm) (fun i r => Sz (b i).n (b i).F (b i).S (b i).rim r) j) ∧ Hid (Nz wr mb (fun i => (b i).nm) i) ∧ Below w.heap.size w wr) (fun iv _ => n - (intOf iv).toNat)
    case atStart => exact ⟨0, Nat.zero_le _, rfl, hid (fun j hj => absurd hj (Nat.not_lt_zero _)), HZ0, HB0.out⟩
    case round =>
      obtain ⟨i, hi, rfl, HN, HZ, hbel⟩ := hrel
      have hw := Hh.out.below (hbel.mono (Nat.le_refl _))
      have Hbel := hid hbel
      clear hbel
      by_cases hlt : i < n
      · obtain ⟨ad, hA, hl, q0, q1, q2, -⟩ := hw.at_ i hlt
        subst hA
        have hs9 := Hs.out i hlt
        have ha := alo (W := wr) (o := (.cells #[.string (b i).nm, .slice (b i).A (b i).n (b i).c, .int .i64 (b i).rim] 42))
        obtain ⟨gb, hgb⟩ : ∃ gb, wr.heap.size = gb := ⟨_, rfl⟩
        have jb := Bk.of_alloc wr (.cells #[.string (b i).nm, .slice (b i).A (b i).n (b i).c, .int .i64 (b i).rim] 42) hgb
        have Hba := hid (Hbel.out.trans (ha.mono Hbel.out.size))
        have HZa := hid (HZ.out.below ha)
        clear ha hw
        go_wp2_with fail
        generalize wr.alloc (.cells #[.string (b i).nm, .slice (b i).A (b i).n (b i).c, .int .i64 (b i).rim] 42) = wa at *
        have Hgb := hid hgb
        clear hgb q0 q1 q2
        refine (bname_any (b i)).mono ?_
        rintro e w2 ⟨rfl, hb⟩
        have jb2 := jb.step hb
        have HB2 := hid (Hba.out.trans (hb.mono Hba.out.size))
        have HZ2 := hid (HZa.out.below hb)
        clear hb jb
        obtain ⟨y0, y1, y2⟩ := jb2.c3
        have wbad := fun (r : Int) (hx : LBad (fun i => (b i).nm) (fun i r => Sz (b i).n (b i).F (b i).S (b i).rim r) i r) => hid (show Lsg 8 n (fun i => (b i).nm) (fun i r => Sz (b i).n (b i).F (b i).S (b i).rim r) r from .inr ⟨by omega, .inl ⟨i, hlt, HN.out, hx⟩⟩)
        have Wbad := hid wbad
        clear wbad
        by_cases hnm : nameB (b i).nm = true
        · have HNM := hid hnm
          have hlk := HZ2.out.look (b i).nm (by unfold maxLen; omega)
          by_cases hsn : seenB (fun i => (b i).nm) i (b i).nm = true
          · have HE := Wbad.out 5 (.inr (.inl ⟨hnm, seen_iff.1 hsn, rfl⟩))
            rw [hsn] at hlk
            clear hsn
            go_wp2_with (((with_reducible refine (IsName_any _ _ hs9).mono ?_); rintro e w' ⟨rfl, rfl⟩))
            go_ret
            exact ⟨5, rfl, HE, HB2.out⟩
          · have hno : ∀ k, k < i → (b k).nm ≠ (b i).nm := fun k hk e => hsn (seenB_t ⟨k, hk, e⟩)
            rw [Bool.eq_false_iff.2 hsn] at hlk
            have Hno := hid hno
            clear hsn hno
            go_wp2_with (((with_reducible refine (IsName_any _ _ hs9).mono ?_); rintro e w' ⟨rfl, rfl⟩))
            have hP := (Hh.out.below HB2.out).at_ i hlt
            obtain ⟨-, -, -, -, -, -, hP1, hP2, hP3⟩ := hP
            have HP1 := hid hP1
            have HP2 := hid (Nat.le_trans hP2 hP3)
            clear hP1 hP2 hP3
            refine (sizeError_any (b i).nm HP1.out HP2.out).mono ?_
            rintro e w4 ⟨r, rfl, hz', hb⟩
            have hz := hz'.out
            have jb4 := jb2.step hb
            have HB4 := hid (HB2.out.trans (hb.mono HB2.out.size))
            have HZ4 := hid (HZ2.out.below hb)
            clear hb jb2 y0 y1 y2 hnm hlk
            by_cases hr : r = 0
            · subst hr
              have HG := hid (show LGood (fun i => (b i).nm) (fun i r => Sz (b i).n (b i).F (b i).S (b i).rim r) i from ⟨HNM.out, Hno.out, hz⟩)
              obtain ⟨f, ⟨D, hown, hD, hat⟩, hseen⟩ := HZ4.out
              obtain ⟨f', hat', hseen'⟩ := seen_put hD hat hseen
              have Hat := hid hat'
              have Hseen := hid hseen'
              have HD := hid hD
              clear hat hseen hat' hseen' hD hz
              have hil : i < maxLen := by unfold maxLen; omega
              go_wp2_with (at_mapUpdate; (refine wpList_mapUpdate_own _ rfl _ _ _ 138 rfl 9 4 law Try.underlying138 _ mb i _ rfl hown hil _ _ (.string (bl (b i).nm)) rfl rfl (Go.WideMaps.keyOf_string_mk Try.underlying9 (by unfold maxLen; omega)) (.lit (.bool true)) [] (plainElem_bool Try.underlying4 true) ?_))
              intro w5 hown5 hgrow
              have hb5 := HB4.out.grown hgrow HB4.out.size (fun k hk => by injection hk with hk; rw [← hk, ← Hmb.out]; exact Nat.le_refl _)
              have HZ5 := hid (show Nz w5 mb (fun i => (b i).nm) (i + 1) from ⟨f', ⟨_, hown5, HD.out.put _ _, Hat.out⟩, Hseen.out⟩)
              have HB5 := hid hb5
              clear hb5 hown hown5 hgrow hil
              go_wp2
              go_roundw
              case rel => exact ⟨i + 1, by omega, by go_num, hid (fun j hj => by rcases Nat.lt_or_ge j i with h | h; exact HN.out j h; have : j = i := (by omega); subst this; exact HG.out), HZ5, HB5.out⟩
              case measure => simp [intOf]; omega
            · have hq : (r != 0) = true := by rw [bne_iff_ne]; exact hr
              have HE := Wbad.out r (.inr (.inr ⟨HNM.out, Hno.out, hz, hr⟩))
              clear hr hz
              go_wp2
              go_ret
              exact ⟨r, rfl, HE, HB4.out⟩
        · have hnm' := Bool.eq_false_iff.2 hnm
          have HE := Wbad.out 4 (.inl ⟨hnm', rfl⟩)
          clear hnm
          go_wp2_with (((with_reducible refine (IsName_any _ _ hs9).mono ?_); rintro e w' ⟨rfl, rfl⟩))
          go_ret
          exact ⟨4, rfl, HE, HB2.out⟩
      · obtain rfl : i = n := by omega
        have HE := hid (show Lsg 8 i (fun i => (b i).nm) (fun i r => Sz (b i).n (b i).F (b i).S (b i).rim r) 0 from .inr ⟨by omega, .inr ⟨HN.out, rfl⟩⟩)
        go_wp2
        go_ret
        exact ⟨0, rfl, HE, Hbel.out⟩

/-- A network and a link in boxes. -/
structure Nlb (w : World) (g g2 B0 : Nat) (N : Nd) (l : Ld) : Prop where
  n : Nb w g B0 N
  l : Lb w g2 l
theorem Nlb.below {w w' : World} {g g2 B0 : Nat} {N : Nd} {l : Ld} (h : Nlb w g g2 B0 N l) (hb : Below w.heap.size w w') : Nlb w' g g2 B0 N l := ⟨h.n.below hb, h.l.below hb⟩
theorem Nlb.cells {w' : World} {g g2 B0 : Nat} {N : Nd} {l : Ld} (h : Nlb w' g g2 B0 N l) : w'.cell? ⟨g, 0, none⟩ = some (.slice N.A N.n N.c) ∧ w'.cell? ⟨g, 1, none⟩ = some (.slice N.M N.m N.d) ∧ w'.cell? ⟨g, 2, none⟩ = some (.slice N.K N.k N.e) ∧ w'.cell? ⟨g2, 0, none⟩ = some (.string l.nm) ∧ w'.cell? ⟨g2, 1, none⟩ = some (.int .i64 l.kind) ∧ w'.cell? ⟨g2, 2, none⟩ = some (.string l.fr) ∧ w'.cell? ⟨g2, 3, none⟩ = some (.string l.tw) ∧ w'.cell? ⟨g2, 4, none⟩ = some (.int .i64 l.sill) ∧ w'.cell? ⟨g2, 5, none⟩ = some (.int .i64 l.rate) ∧ w'.cell? ⟨g2, 6, none⟩ = some (.int .i64 l.fac) ∧ w'.cell? ⟨g2, 7, none⟩ = some (.int .i64 l.lift) := by
  obtain ⟨a0, a1, a2⟩ := h.n.cells
  obtain ⟨b0, b1, b2, b3, b4, b5, b6, b7⟩ := h.l.cells
  exact ⟨a0, a1, a2, b0, b1, b2, b3, b4, b5, b6, b7⟩
theorem fe2 (W : World) (a b : Int) : Calls Try.prog 47 #[.slice (some ⟨W.heap.size, 0, none⟩) 2 2] (W.alloc (.cells #[.int .i64 a, .int .i64 b] 34)) fun e w' => e = .returned (.int .i64 (if a ≠ 0 then a else b)) ∧ (W.alloc (.cells #[.int .i64 a, .int .i64 b] 34)) = w' := by
  have hh := fun i => cell_of_row _ _ i _ _ _ (Bk.of_alloc W (.cells #[.int .i64 a, .int .i64 b] 34) rfl)
  refine (FirstError_any (X := fun i => if i = 0 then a else b) (fun i hi => ?_) (by decide)).mono fun e w' ⟨r, he, hr, hw⟩ => ⟨?_, hw⟩
  · match i, hi with
    | 0, _ => exact ⟨_, rfl, (hh 0).trans rfl⟩
    | 1, _ => exact ⟨_, rfl, (hh 1).trans rfl⟩
  · rw [he]
    congr 2
    rcases hr.out with ⟨i, hi, h1, h2, rfl⟩ | ⟨h1, rfl⟩
    · match i, hi with
      | 0, _ => exact (if_pos h2).symm
      | 1, _ =>
        have := h1 0 (by decide)
        simp only [if_pos] at this
        rw [if_neg (by simpa using this)]
        rfl
    · have a0 := h1 0 (by decide)
      have b0 := h1 1 (by decide)
      simp only [if_pos] at a0
      rw [if_neg (by simpa using a0)]
      exact b0.symm
theorem fe2l (W : World) (N : Nd) (l : Ld) : Calls Try.prog 47 #[.slice (some ⟨W.heap.size, 0, none⟩) 2 2] (W.alloc (.cells #[.int .i64 (endsE N l), .int .i64 (rateE l)] 34)) fun e w' => e = .returned (.int .i64 (lkE N l)) ∧ (W.alloc (.cells #[.int .i64 (endsE N l), .int .i64 (rateE l)] 34)) = w' := fe2 W (endsE N l) (rateE l)
set_option maxRecDepth 100000 in
set_option maxHeartbeats 8000000 in
theorem linkOwn_any {w : World} {B0 g : Nat} {N : Nd} (l : Ld) (h : Nb w g B0 N) (hn : N.n ≤ 1000) :
    Calls Try.prog 82 #[.agg #[.string l.nm, .int .i64 l.kind, .string l.fr, .string l.tw, .int .i64 l.sill, .int .i64 l.rate, .int .i64 l.fac, .int .i64 l.lift], .pointer (some ⟨g, 0, none⟩)] w fun e w' => e = .returned (.int .i64 (lkE N l)) ∧ Below w.heap.size w w' := by
  obtain ⟨g2, hg2⟩ : ∃ g2, w.heap.size = g2 := ⟨_, rfl⟩
  have hb0 := alo (W := w) (o := (.cells #[.string l.nm, .int .i64 l.kind, .string l.fr, .string l.tw, .int .i64 l.sill, .int .i64 l.rate, .int .i64 l.fac, .int .i64 l.lift] 59))
  have K1 := h.below hb0
  have L1 : Lb _ g2 l := ⟨Bk.of_alloc w (.cells #[.string l.nm, .int .i64 l.kind, .string l.fr, .string l.tw, .int .i64 l.sill, .int .i64 l.rate, .int .i64 l.fac, .int .i64 l.lift] 59) hg2⟩
  go_enter Try.func82, Try.ntmps82
  go_wp2_with fail
  generalize w.alloc (.cells #[.string l.nm, .int .i64 l.kind, .string l.fr, .string l.tw, .int .i64 l.sill, .int .i64 l.rate, .int .i64 l.fac, .int .i64 l.lift] 59) = W0 at *
  have HB0 := hid hb0
  have Hh := hid h
  have Hg := hid hg2
  clear hb0 h hg2
  have D0 : Nlb W0.drew g g2 B0 N l := ⟨K1.below dr0, L1.below dr0⟩
  clear K1 L1
  go_region_held3 (fun w' => w'.cell? ⟨g, 0, none⟩ = some (.slice N.A N.n N.c) ∧ w'.cell? ⟨g, 1, none⟩ = some (.slice N.M N.m N.d) ∧ w'.cell? ⟨g, 2, none⟩ = some (.slice N.K N.k N.e) ∧ w'.cell? ⟨g2, 0, none⟩ = some (.string l.nm) ∧ w'.cell? ⟨g2, 1, none⟩ = some (.int .i64 l.kind) ∧ w'.cell? ⟨g2, 2, none⟩ = some (.string l.fr) ∧ w'.cell? ⟨g2, 3, none⟩ = some (.string l.tw) ∧ w'.cell? ⟨g2, 4, none⟩ = some (.int .i64 l.sill) ∧ w'.cell? ⟨g2, 5, none⟩ = some (.int .i64 l.rate) ∧ w'.cell? ⟨g2, 6, none⟩ = some (.int .i64 l.fac) ∧ w'.cell? ⟨g2, 7, none⟩ = some (.int .i64 l.lift)) (first | with_reducible exact Nlb.cells D0 | with_reducible exact Nlb.cells D1 | with_reducible exact Nlb.cells D2 | with_reducible exact Nlb.cells (Nlb.below D2 alo)) (first
    | (go_at_call 83; with_reducible refine (endsError_any l D0.n.a hn).mono ?_; rintro e w1 ⟨rfl, hb1⟩; have D1 := D0.below hb1)
    | (go_at_call 84; with_reducible refine (rateError_any l).mono ?_; rintro e w2 ⟨rfl, hb2⟩; have D2 := D1.below hb2)
    | (go_at_call 84; with_reducible refine (rateError_any l).mono ?_; rintro e w1 ⟨rfl, hb1⟩; have D1 := D0.below hb1)
    | (go_at_call 83; with_reducible refine (endsError_any l D1.n.a hn).mono ?_; rintro e w2 ⟨rfl, hb2⟩; have D2 := D1.below hb2)
    | (go_at_call 47; with_reducible refine (fe2l _ N l).mono ?_; rintro e w3 ⟨rfl, rfl⟩))
  all_goals
    have HB := hid ((bthen (bthen HB0.out.drew hb1 (Nat.le_refl _)) hb2 (Nat.le_refl _)).alloc (bthen (bthen HB0.out.drew hb1 (Nat.le_refl _)) hb2 (Nat.le_refl _)).size (.cells #[.int .i64 (endsE N l), .int .i64 (rateE l)] 34))
    clear hb1 hb2
    go_wp2
    go_ret
    exact ⟨rfl, HB.out⟩

set_option maxRecDepth 100000 in
set_option maxHeartbeats 16000000 in
theorem ListL_any {w : World} {B0 n c : Nat} {A : Option Addr} {b : Nat → Ld} {gN B1 : Nat} {N : Nd} (h : Ll w B0 A n b) (hn : n ≤ 1000) (hs : ∀ i, i < n → (b i).nm.size ≤ 1000000000) (hNb : Nb w gN B1 N) (hN : N.n ≤ 1000) :
    Calls Try.prog 81 #[.slice A n c, .int .i64 12, .func (.func 80) #[] #[], .func (.func 82) #[] #[.pointer (some ⟨gN, 0, none⟩)]] w fun e w' => ∃ r : Int, e = .returned (.int .i64 r) ∧ Hid (Lsg 12 n (fun i => (b i).nm) (fun i r => r = lkE N (b i)) r) ∧ Below w.heap.size w w' := by
  by_cases hbig : 12 < n
  · have hd : decide ((12 : Int) < (n : Int)) = true := decide_eq_true (by omega)
    have HE := hid (show Lsg 12 n (fun i => (b i).nm) (fun i r => r = lkE N (b i)) 8 from .inl ⟨hbig, rfl⟩)
    go_enter Try.func81, Try.ntmps81
    go_wp2
    go_ret
    exact ⟨8, rfl, HE, Below.refl _ _⟩
  · have hd : decide ((12 : Int) < (n : Int)) = false := decide_eq_false (by omega)
    have hmm := @run_makeMap Try.prog
    obtain ⟨mb, hmb⟩ : ∃ mb, w.heap.size = mb := ⟨_, rfl⟩
    have hz0 := Nz.new w (fun i => (b i).nm)
    rw [hmb] at hz0
    have hb0 := alo (W := w) (o := .map #[] 0)
    go_enter Try.func81, Try.ntmps81
    go_wp2_with fail
    clear hd hmm
    generalize w.alloc (.map #[] 0) = W0 at *
    have HNb := hid hNb
    clear hNb
    have Hh := hid h
    have Hmb := hid hmb
    have Hs := hid hs
    have HZ0 := hid hz0
    have HB0 := hid hb0
    clear h hmb hs hz0 hb0
    go_loopw [21] (fun iv wr => ∃ (i : Nat), i ≤ n ∧ iv = .int .i64 i ∧ Hid (∀ j, j < i → LGood (fun i => (b i).nm) (fun i r => r = lkE N (b i)) j) ∧ Hid (Nz wr mb (fun i => (b i).nm) i) ∧ Below w.heap.size w wr) (fun iv _ => n - (intOf iv).toNat)
    case atStart => exact ⟨0, Nat.zero_le _, rfl, hid (fun j hj => absurd hj (Nat.not_lt_zero _)), HZ0, HB0.out⟩
    case round =>
      obtain ⟨i, hi, rfl, HN, HZ, hbel⟩ := hrel
      have hw := Hh.out.below (hbel.mono (Nat.le_refl _))
      have Hbel := hid hbel
      clear hbel
      by_cases hlt : i < n
      · obtain ⟨ad, hA, hl, q0, q1, q2, q3, q4, q5, q6, q7⟩ := hw.at_ i hlt
        subst hA
        have hs9 := Hs.out i hlt
        have ha := alo (W := wr) (o := (.cells #[.string (b i).nm, .int .i64 (b i).kind, .string (b i).fr, .string (b i).tw, .int .i64 (b i).sill, .int .i64 (b i).rate, .int .i64 (b i).fac, .int .i64 (b i).lift] 59))
        obtain ⟨gb, hgb⟩ : ∃ gb, wr.heap.size = gb := ⟨_, rfl⟩
        have jb := Bk.of_alloc wr (.cells #[.string (b i).nm, .int .i64 (b i).kind, .string (b i).fr, .string (b i).tw, .int .i64 (b i).sill, .int .i64 (b i).rate, .int .i64 (b i).fac, .int .i64 (b i).lift] 59) hgb
        have Hba := hid (Hbel.out.trans (ha.mono Hbel.out.size))
        have HZa := hid (HZ.out.below ha)
        clear ha hw
        go_wp2_with fail
        generalize wr.alloc (.cells #[.string (b i).nm, .int .i64 (b i).kind, .string (b i).fr, .string (b i).tw, .int .i64 (b i).sill, .int .i64 (b i).rate, .int .i64 (b i).fac, .int .i64 (b i).lift] 59) = wa at *
        have Hgb := hid hgb
        clear hgb q0 q1 q2 q3 q4 q5 q6 q7
        refine (lname_any (b i)).mono ?_
        rintro e w2 ⟨rfl, hb⟩
        have jb2 := jb.step hb
        have HB2 := hid (Hba.out.trans (hb.mono Hba.out.size))
        have HZ2 := hid (HZa.out.below hb)
        clear hb jb
        obtain ⟨y0, y1, y2, y3, y4, y5, y6, y7⟩ := (show Lb w2 gb (b i) from ⟨jb2⟩).cells
        have wbad := fun (r : Int) (hx : LBad (fun i => (b i).nm) (fun i r => r = lkE N (b i)) i r) => hid (show Lsg 12 n (fun i => (b i).nm) (fun i r => r = lkE N (b i)) r from .inr ⟨by omega, .inl ⟨i, hlt, HN.out, hx⟩⟩)
        have Wbad := hid wbad
        clear wbad
        by_cases hnm : nameB (b i).nm = true
        · have HNM := hid hnm
          have hlk := HZ2.out.look (b i).nm (by unfold maxLen; omega)
          by_cases hsn : seenB (fun i => (b i).nm) i (b i).nm = true
          · have HE := Wbad.out 5 (.inr (.inl ⟨hnm, seen_iff.1 hsn, rfl⟩))
            rw [hsn] at hlk
            clear hsn
            go_wp2_with (((with_reducible refine (IsName_any _ _ hs9).mono ?_); rintro e w' ⟨rfl, rfl⟩))
            go_ret
            exact ⟨5, rfl, HE, HB2.out⟩
          · have hno : ∀ k, k < i → (b k).nm ≠ (b i).nm := fun k hk e => hsn (seenB_t ⟨k, hk, e⟩)
            rw [Bool.eq_false_iff.2 hsn] at hlk
            have Hno := hid hno
            clear hsn hno
            go_wp2_with (((with_reducible refine (IsName_any _ _ hs9).mono ?_); rintro e w' ⟨rfl, rfl⟩))
            have hK := HNb.out.below (HB2.out.mono (Nat.le_refl _))
            refine (linkOwn_any (b i) hK hN).mono ?_
            rintro e w4 ⟨rfl, hb⟩
            clear hK
            generalize hr0 : lkE N (b i) = r
            have Hr0 := hid hr0
            clear hr0
            have hz : (fun (i : Nat) (r : Int) => r = lkE N (b i)) i r := Hr0.out.symm
            have jb4 := jb2.step hb
            have HB4 := hid (HB2.out.trans (hb.mono HB2.out.size))
            have HZ4 := hid (HZ2.out.below hb)
            clear hb jb2 y0 y1 y2 y3 y4 y5 y6 y7 hnm hlk
            by_cases hr : r = 0
            · subst hr
              have HG := hid (show LGood (fun i => (b i).nm) (fun i r => r = lkE N (b i)) i from ⟨HNM.out, Hno.out, hz⟩)
              obtain ⟨f, ⟨D, hown, hD, hat⟩, hseen⟩ := HZ4.out
              obtain ⟨f', hat', hseen'⟩ := seen_put hD hat hseen
              have Hat := hid hat'
              have Hseen := hid hseen'
              have HD := hid hD
              clear hat hseen hat' hseen' hD hz
              have hil : i < maxLen := by unfold maxLen; omega
              go_wp2_with (at_mapUpdate; (refine wpList_mapUpdate_own _ rfl _ _ _ 138 rfl 9 4 law Try.underlying138 _ mb i _ rfl hown hil _ _ (.string (bl (b i).nm)) rfl rfl (Go.WideMaps.keyOf_string_mk Try.underlying9 (by unfold maxLen; omega)) (.lit (.bool true)) [] (plainElem_bool Try.underlying4 true) ?_))
              intro w5 hown5 hgrow
              have hb5 := HB4.out.grown hgrow HB4.out.size (fun k hk => by injection hk with hk; rw [← hk, ← Hmb.out]; exact Nat.le_refl _)
              have HZ5 := hid (show Nz w5 mb (fun i => (b i).nm) (i + 1) from ⟨f', ⟨_, hown5, HD.out.put _ _, Hat.out⟩, Hseen.out⟩)
              have HB5 := hid hb5
              clear hb5 hown hown5 hgrow hil
              go_wp2
              go_roundw
              case rel => exact ⟨i + 1, by omega, by go_num, hid (fun j hj => by rcases Nat.lt_or_ge j i with h | h; exact HN.out j h; have : j = i := (by omega); subst this; exact HG.out), HZ5, HB5.out⟩
              case measure => simp [intOf]; omega
            · have hq : (r != 0) = true := by rw [bne_iff_ne]; exact hr
              have HE := Wbad.out r (.inr (.inr ⟨HNM.out, Hno.out, hz, hr⟩))
              clear hr hz
              go_wp2
              go_ret
              exact ⟨r, rfl, HE, HB4.out⟩
        · have hnm' := Bool.eq_false_iff.2 hnm
          have HE := Wbad.out 4 (.inl ⟨hnm', rfl⟩)
          clear hnm
          go_wp2_with (((with_reducible refine (IsName_any _ _ hs9).mono ?_); rintro e w' ⟨rfl, rfl⟩))
          go_ret
          exact ⟨4, rfl, HE, HB2.out⟩
      · obtain rfl : i = n := by omega
        have HE := hid (show Lsg 12 i (fun i => (b i).nm) (fun i r => r = lkE N (b i)) 0 from .inr ⟨by omega, .inr ⟨HN.out, rfl⟩⟩)
        go_wp2
        go_ret
        exact ⟨0, rfl, HE, Hbel.out⟩

end Go.Proofs.Ytndcopljjnbkbaa
