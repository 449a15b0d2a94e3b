/- Networks: FirstError; the set of the names seen; the error of a list of named things. For all lists. Networks: the errors of the lists of basins and of links. For all lists. Networks: CheckNetwork of the program and of the reference. For all networks whose lists are not endless. -/
import Derived.Test.YtockfiobhmohnaaGc
import Derived.Maps.Own
import Derived.Maps.Views
namespace Go.Proofs.Ytockfiobhmohnaa
open Go.RowKit Go.Maps Kb Wb

/-- The slice at A reads as numbers. -/
def Xs (w : World) (A : Option Addr) (n : Nat) (X : Nat → Int) : Prop := ∀ i, i < n → ∃ ad, A = some ad ∧ w.cell? (ad.add i) = some (.int .i64 (X i))
/-- r is the first number that is not 0, or 0. -/
def Fe (n : Nat) (X : Nat → Int) (r : Int) : Prop := (∃ i, i < n ∧ (∀ j, j < i → X j = 0) ∧ X i ≠ 0 ∧ r = X i) ∨ ((∀ j, j < n → X j = 0) ∧ r = 0)
set_option maxRecDepth 100000 in
set_option maxHeartbeats 4000000 in
theorem FirstError_any {w : World} {n c : Nat} {A : Option Addr} {X : Nat → Int} (h : Xs w A n X) (hn : n ≤ 1000) :
    Calls Try.prog 88 #[.slice A n c] w fun e w' => ∃ r : Int, e = .returned (.int .i64 r) ∧ Hid (Fe n X r) ∧ w = w' := by
  go_enter Try.func88, Try.ntmps88
  go_wp2_with fail
  go_loop [7] (fun iv => ∃ i : Nat, i ≤ n ∧ iv = .int .i64 i ∧ Hid (∀ j, j < i → X j = 0)) (fun iv => n - (intOf iv).toNat)
  case atStart => exact ⟨0, Nat.zero_le _, rfl, hid (fun j hj => absurd hj (Nat.not_lt_zero _))⟩
  case round =>
    obtain ⟨i, hi, rfl, HN⟩ := hrel
    by_cases hlt : i < n
    · obtain ⟨ad, hA, q0⟩ := h i hlt
      subst hA
      by_cases hx : X i = 0
      · have d : (X i != 0) = false := by rw [bne_eq_false_iff_eq]; exact hx
        have HN2 := hid (show ∀ j, j < i + 1 → X j = 0 from fun j hj => by
          by_cases e : j = i
          · subst e; exact hx
          · exact HN.out j (by omega))
        clear hx
        go_wp2
        go_round
        case rel => exact ⟨i + 1, by omega, by go_num, HN2⟩
        case measure => simp [intOf]; omega
      · have d : (X i != 0) = true := by rw [bne_iff_ne]; exact hx
        have HE := hid (show Fe n X (X i) from .inl ⟨i, hlt, HN.out, hx, rfl⟩)
        clear hx
        go_wp2
        go_ret
        exact ⟨_, rfl, HE, rfl⟩
    · obtain rfl : i = n := by omega
      have HE := hid (show Fe i X 0 from .inr ⟨HN.out, rfl⟩)
      go_wp2
      go_ret
      exact ⟨_, rfl, HE, rfl⟩

theorem law : Keyed Try.prog 9 := string_keyed Try.underlying9
theorem zeroB (w : World) : (zeroValue 4).run Try.prog w = .ok (.bool false) w := by kernel_rfl
/-- Block b is the set of the texts of f. -/
def Ns (w : World) (b k : Nat) (f : List UInt8 → Bool) : Prop := ∃ D : DataW Unit, w.ownsMap Try.prog 9 (plainElem Try.prog 4) b k D ∧ IsMap D ∧ ∀ l, D.atKey (.string l) (.lit (.bool false)) = .lit (.bool (f l))
theorem Ns.below {w w' : World} {b k : Nat} {f : List UInt8 → Bool} (h : Ns w b k f) (hb : Below w.heap.size w w') : Ns w' b k f := by
  obtain ⟨D, h1, h2, h3⟩ := h
  exact ⟨D, h1.kept (gb_of_below (r := none) hb) (by simp), h2, h3⟩
theorem Ns.lt {w : World} {b k : Nat} {f : List UInt8 → Bool} (h : Ns w b k f) : b < w.heap.size := by
  obtain ⟨D, h1, _⟩ := h
  exact h1.lt
theorem Ns.new (w : World) : Ns (w.alloc (.map #[] 0)) w.heap.size 0 fun _ => false :=
  ⟨.map [], World.ownsMap_made _ _ _ _, isMap_empty, fun _ => rfl⟩
theorem plain_inv {P : Program} {e : TypeId} (he : P.underlying e = some .bool) {v : Value} {z : DataW Unit × List MemPlace} (h : plainElem P e v = some z) : ∃ x, v = .bool x ∧ z = (.lit (.bool x), []) := by
  unfold plainElem at h
  rw [he] at h
  cases v <;> simp at h
  exact ⟨_, rfl, h.symm⟩
set_option maxRecDepth 100000 in
theorem Ns.look {w : World} {b k : Nat} {f : List UInt8 → Bool} (h : Ns w b k f) (s : ByteArray) (hs : s.size ≤ maxLen) : (Instr.lookup 136 (.map (some b)) (.string s) false).run Try.prog w = .ok (.bool (f (bl s))) w := by
  obtain ⟨D, h1, h2, h3⟩ := h
  obtain ⟨v, ps, hr, hv⟩ := h1.lookup law Try.underlying136 (zeroB w) (plainElem_bool Try.underlying4 false) (Go.WideMaps.keyOf_string_mk Try.underlying9 hs)
  obtain ⟨x, e1, e2⟩ := plain_inv Try.underlying4 hv
  have e3 : D.atKey (.string (bl s)) (.lit (.bool false)) = .lit (.bool x) := congrArg Prod.fst e2
  rw [h3] at e3
  injection e3 with e3
  injection e3 with e3
  rw [hr, e1, e3]

end Go.Proofs.Ytockfiobhmohnaa

namespace Go.Proofs.Ytockfiobhmohnaa
open Go.RowKit Go.Maps Kb Wb

/-- Item j of a list is right. -/
def LGood (nm : Nat → ByteArray) (own : Nat → Int → Prop) (j : Nat) : Prop := nameB (nm j) = true ∧ (∀ k, k < j → nm k ≠ nm j) ∧ own j 0
/-- r is the error of item i. -/
def LBad (nm : Nat → ByteArray) (own : Nat → Int → Prop) (i : Nat) (r : Int) : Prop := (nameB (nm i) = false ∧ r = 4) ∨ (nameB (nm i) = true ∧ (∃ k, k < i ∧ nm k = nm i) ∧ r = 5) ∨ (nameB (nm i) = true ∧ (∀ k, k < i → nm k ≠ nm i) ∧ own i r ∧ r ≠ 0)
/-- r is the error of a list of named things. -/
def Lsg (most n : Nat) (nm : Nat → ByteArray) (own : Nat → Int → Prop) (r : Int) : Prop :=
  (most < n ∧ r = 8) ∨ (n ≤ most ∧ ((∃ i, i < n ∧ (∀ j, j < i → LGood nm own j) ∧ LBad nm own i r) ∨ ((∀ j, j < n → LGood nm own j) ∧ r = 0)))
section
variable {nm : Nat → ByteArray} {own : Nat → Int → Prop}
theorem LBad.not {i : Nat} {r : Int} (hf : ∀ i r q, own i r → own i q → r = q) (h : LBad nm own i r) : ¬ LGood nm own i := fun g => by
  rcases h with ⟨h, _⟩ | ⟨_, ⟨k, h1, h2⟩, _⟩ | ⟨_, _, h1, h2⟩
  · rw [g.1] at h; cases h
  · exact g.2.1 k h1 h2
  · exact h2 (hf i r 0 h1 g.2.2)
theorem LBad.same {i : Nat} {r q : Int} (hf : ∀ i r q, own i r → own i q → r = q) (h : LBad nm own i r) (k : LBad nm own i q) : r = q := by
  rcases h with ⟨h, rfl⟩ | ⟨h, ⟨j, h1, h2⟩, rfl⟩ | ⟨h, h0, h1, h2⟩ <;> rcases k with ⟨k, rfl⟩ | ⟨k, ⟨j', k1, k2⟩, rfl⟩ | ⟨k, k0, k1, k2⟩
  · rfl
  · rw [h] at k; cases k
  · rw [h] at k; cases k
  · rw [h] at k; cases k
  · rfl
  · exact absurd h2 (k0 j h1)
  · rw [h] at k; cases k
  · exact absurd k2 (h0 j' k1)
  · exact hf i r q h1 k1
theorem Lsg.same {most n : Nat} {r q : Int} (hf : ∀ i r q, own i r → own i q → r = q) (h : Lsg most n nm own r) (k : Lsg most n nm own q) : r = q := by
  rcases h with ⟨h, rfl⟩ | ⟨h, ⟨i, hi, h1, h2⟩ | ⟨h1, rfl⟩⟩ <;> rcases k with ⟨k, rfl⟩ | ⟨k, ⟨j, hj, k1, k2⟩ | ⟨k1, rfl⟩⟩
  · rfl
  · omega
  · omega
  · omega
  · have e : i = j := by
      rcases Nat.lt_trichotomy i j with l | l | l
      · exact absurd (k1 i l) (h2.not hf)
      · exact l
      · exact absurd (h1 j l) (k2.not hf)
    subst e
    exact h2.same hf k2
  · exact absurd (k1 i hi) (h2.not hf)
  · omega
  · exact absurd (h1 j hj) (k2.not hf)
  · rfl
end
/-- The names seen so far. -/
def Seen (nm : Nat → ByteArray) (i : Nat) (f : List UInt8 → Bool) : Prop := ∀ l, f l = true ↔ ∃ j, j < i ∧ bl (nm j) = l
/-- The set of the first i names. -/
def Nz (w : World) (b : Nat) (nm : Nat → ByteArray) (i : Nat) : Prop := ∃ f, Ns w b i f ∧ Seen nm i f
theorem Nz.below {w w' : World} {b i : Nat} {nm : Nat → ByteArray} (h : Nz w b nm i) (hb : Below w.heap.size w w') : Nz w' b nm i := by
  obtain ⟨f, h1, h2⟩ := h
  exact ⟨f, h1.below hb, h2⟩
theorem Nz.new (w : World) (nm : Nat → ByteArray) : Nz (w.alloc (.map #[] 0)) w.heap.size nm 0 := ⟨_, Ns.new w, fun l => ⟨fun h => (by cases h), fun ⟨j, hj, _⟩ => absurd hj (Nat.not_lt_zero _)⟩⟩

/-- Whether a name has been seen. -/
noncomputable def seenB (nm : Nat → ByteArray) (i : Nat) (s : ByteArray) : Bool := @decide (∃ k, k < i ∧ nm k = s) (Classical.propDecidable _)
theorem Nz.look {w : World} {b i : Nat} {nm : Nat → ByteArray} (h : Nz w b nm i) (s : ByteArray) (hs : s.size ≤ maxLen) : (Instr.lookup 136 (.map (some b)) (.string s) false).run Try.prog w = .ok (.bool (seenB nm i s)) w := by
  obtain ⟨f, h1, h2⟩ := h
  rw [h1.look s hs]
  have e : f (bl s) = seenB nm i s := by
    rw [Bool.eq_iff_iff, h2 (bl s)]
    unfold seenB
    rw [@decide_eq_true_iff _ (Classical.propDecidable _)]
    exact ⟨fun ⟨j, a, b⟩ => ⟨j, a, bl_inj b⟩, fun ⟨j, a, b⟩ => ⟨j, a, by rw [b]⟩⟩
  rw [e]
theorem seenB_t {nm : Nat → ByteArray} {i : Nat} {s : ByteArray} (h : ∃ k, k < i ∧ nm k = s) : seenB nm i s = true := @decide_eq_true _ (Classical.propDecidable _) h
theorem seenB_f {nm : Nat → ByteArray} {i : Nat} {s : ByteArray} (h : ¬ ∃ k, k < i ∧ nm k = s) : seenB nm i s = false := @decide_eq_false _ (Classical.propDecidable _) h
theorem seen_iff {nm : Nat → ByteArray} {i : Nat} {s : ByteArray} : seenB nm i s = true ↔ ∃ k, k < i ∧ nm k = s := @decide_eq_true_iff _ (Classical.propDecidable _)
theorem seen_put {D : DataW Unit} {f : List UInt8 → Bool} {nm : Nat → ByteArray} {i : Nat} (hD : IsMap D) (hf : ∀ l, D.atKey (.string l) (.lit (.bool false)) = .lit (.bool (f l))) (hs : Seen nm i f) :
    ∃ f', (∀ l, (D.put (.string (bl (nm i))) (.lit (.bool true))).atKey (.string l) (.lit (.bool false)) = .lit (.bool (f' l))) ∧ Seen nm (i + 1) f' := by
  refine ⟨fun l => if l = bl (nm i) then true else f l, fun l => ?_, fun l => ?_⟩
  · by_cases e : l = bl (nm i)
    · subst e
      rw [atKey_put_same hD (by exact trivial)]
      dsimp only
      rw [if_pos rfl]
    · rw [atKey_put_other (by intro h; injection h with h; exact e h), hf]
      dsimp only
      rw [if_neg e]
  · by_cases e : l = bl (nm i)
    · subst e
      dsimp only
      rw [if_pos rfl]
      exact ⟨fun _ => ⟨i, by omega, rfl⟩, fun _ => rfl⟩
    · dsimp only
      rw [if_neg e, hs l]
      exact ⟨fun ⟨j, a, b⟩ => ⟨j, by omega, b⟩, fun ⟨j, a, b⟩ => ⟨j, by
        rcases Nat.lt_or_ge j i with h | h
        · exact h
        · have : j = i := by omega
          subst this
          exact absurd b.symm e, b⟩⟩

set_option maxRecDepth 100000 in
theorem bname_any {w : World} (x : Bd) :
    Calls Try.prog 100 #[.agg #[.string x.nm, .slice x.A x.n x.c, .int .i64 x.rim]] w fun e w' => e = .returned (.string x.nm) ∧ Below w.heap.size w w' := by
  have hb0 := alo (W := w) (o := (.cells #[.string x.nm, .slice x.A x.n x.c, .int .i64 x.rim] 53))
  have j1 := cell_of_row _ _ 0 _ _ _ (Bk.of_alloc w (.cells #[.string x.nm, .slice x.A x.n x.c, .int .i64 x.rim] 53) rfl)
  go_enter Try.func100, Try.ntmps100
  go_wp2
  go_ret
  exact ⟨rfl, hb0⟩

set_option maxRecDepth 100000 in
theorem lname_any {w : World} (x : Ld) :
    Calls Try.prog 101 #[.agg #[.string x.nm, .int .i64 x.kind, .string x.fr, .string x.tw, .int .i64 x.sill, .int .i64 x.rate, .int .i64 x.fac, .int .i64 x.lift]] w fun e w' => e = .returned (.string x.nm) ∧ Below w.heap.size w w' := by
  have hb0 := alo (W := w) (o := (.cells #[.string x.nm, .int .i64 x.kind, .string x.fr, .string x.tw, .int .i64 x.sill, .int .i64 x.rate, .int .i64 x.fac, .int .i64 x.lift] 49))
  have j1 := cell_of_row _ _ 0 _ _ _ (Bk.of_alloc w (.cells #[.string x.nm, .int .i64 x.kind, .string x.fr, .string x.tw, .int .i64 x.sill, .int .i64 x.rate, .int .i64 x.fac, .int .i64 x.lift] 49) rfl)
  go_enter Try.func101, Try.ntmps101
  go_wp2
  go_ret
  exact ⟨rfl, hb0⟩

set_option maxRecDepth 100000 in
set_option maxHeartbeats 16000000 in
theorem ListB_any {w : World} {B0 n c : Nat} {A : Option Addr} {b : Nat → Bd}  (h : Bl w B0 A n b) (hn : n ≤ 1000) (hs : ∀ i, i < n → (b i).nm.size ≤ 1000000000)  :
    Calls Try.prog 99 #[.slice A n c, .int .i64 8, .func (.func 100) #[] #[], .func (.func 78) #[] #[]] w fun e w' => ∃ r : Int, e = .returned (.int .i64 r) ∧ Hid (Lsg 8 n (fun i => (b i).nm) (fun i r => Sz (b i).n (b i).F (b i).S (b i).rim r) r) ∧ Below w.heap.size w w' := by
  by_cases hbig : 8 < n
  · have hd : decide ((8 : Int) < (n : Int)) = true := decide_eq_true (by omega)
    have HE := hid (show Lsg 8 n (fun i => (b i).nm) (fun i r => Sz (b i).n (b i).F (b i).S (b i).rim r) 8 from .inl ⟨hbig, rfl⟩)
    go_enter Try.func99, Try.ntmps99
    go_wp2
    go_ret
    exact ⟨8, rfl, HE, Below.refl _ _⟩
  · have hd : decide ((8 : Int) < (n : Int)) = false := decide_eq_false (by omega)
    have hmm := @run_makeMap Try.prog
    obtain ⟨mb, hmb⟩ : ∃ mb, w.heap.size = mb := ⟨_, rfl⟩
    have hz0 := Nz.new w (fun i => (b i).nm)
    rw [hmb] at hz0
    have hb0 := alo (W := w) (o := .map #[] 0)
    go_enter Try.func99, Try.ntmps99
    go_wp2_with fail
    clear hd hmm
    generalize w.alloc (.map #[] 0) = W0 at *
    have Hh := hid h
    have Hmb := hid hmb
    have Hs := hid hs
    have HZ0 := hid hz0
    have HB0 := hid hb0
    clear h hmb hs hz0 hb0
    go_loopw [21] (fun iv wr => ∃ (i : Nat), i ≤ n ∧ iv = .int .i64 i ∧ Hid (∀ j, j < i → LGood (fun i => (b i).nm) (fun i r => Sz (b i).n (b i).F (b i).S (b i).rim r) j) ∧ Hid (Nz wr mb (fun i => (b i).nm) i) ∧ Below w.heap.size w wr) (fun iv _ => n - (intOf iv).toNat)
    case atStart => exact ⟨0, Nat.zero_le _, rfl, hid (fun j hj => absurd hj (Nat.not_lt_zero _)), HZ0, HB0.out⟩
    case round =>
      obtain ⟨i, hi, rfl, HN, HZ, hbel⟩ := hrel
      have hw := Hh.out.below (hbel.mono (Nat.le_refl _))
      have Hbel := hid hbel
      clear hbel
      by_cases hlt : i < n
      · obtain ⟨ad, hA, hl, q0, q1, q2, -⟩ := hw.at_ i hlt
        subst hA
        have hs9 := Hs.out i hlt
        have ha := alo (W := wr) (o := (.cells #[.string (b i).nm, .slice (b i).A (b i).n (b i).c, .int .i64 (b i).rim] 53))
        obtain ⟨gb, hgb⟩ : ∃ gb, wr.heap.size = gb := ⟨_, rfl⟩
        have jb := Bk.of_alloc wr (.cells #[.string (b i).nm, .slice (b i).A (b i).n (b i).c, .int .i64 (b i).rim] 53) hgb
        have Hba := hid (Hbel.out.trans (ha.mono Hbel.out.size))
        have HZa := hid (HZ.out.below ha)
        clear ha hw
        go_wp2_with fail
        generalize wr.alloc (.cells #[.string (b i).nm, .slice (b i).A (b i).n (b i).c, .int .i64 (b i).rim] 53) = wa at *
        have Hgb := hid hgb
        clear hgb q0 q1 q2
        refine (bname_any (b i)).mono ?_
        rintro e w2 ⟨rfl, hb⟩
        have jb2 := jb.step hb
        have HB2 := hid (Hba.out.trans (hb.mono Hba.out.size))
        have HZ2 := hid (HZa.out.below hb)
        clear hb jb
        obtain ⟨y0, y1, y2⟩ := jb2.c3
        have wbad := fun (r : Int) (hx : LBad (fun i => (b i).nm) (fun i r => Sz (b i).n (b i).F (b i).S (b i).rim r) i r) => hid (show Lsg 8 n (fun i => (b i).nm) (fun i r => Sz (b i).n (b i).F (b i).S (b i).rim r) r from .inr ⟨by omega, .inl ⟨i, hlt, HN.out, hx⟩⟩)
        have Wbad := hid wbad
        clear wbad
        by_cases hnm : nameB (b i).nm = true
        · have HNM := hid hnm
          have hlk := HZ2.out.look (b i).nm (by unfold maxLen; omega)
          by_cases hsn : seenB (fun i => (b i).nm) i (b i).nm = true
          · have HE := Wbad.out 5 (.inr (.inl ⟨hnm, seen_iff.1 hsn, rfl⟩))
            rw [hsn] at hlk
            clear hsn
            go_wp2_with (((with_reducible refine (IsName_any _ _ hs9).mono ?_); rintro e w' ⟨rfl, rfl⟩))
            go_ret
            exact ⟨5, rfl, HE, HB2.out⟩
          · have hno : ∀ k, k < i → (b k).nm ≠ (b i).nm := fun k hk e => hsn (seenB_t ⟨k, hk, e⟩)
            rw [Bool.eq_false_iff.2 hsn] at hlk
            have Hno := hid hno
            clear hsn hno
            go_wp2_with (((with_reducible refine (IsName_any _ _ hs9).mono ?_); rintro e w' ⟨rfl, rfl⟩))
            have hP := (Hh.out.below HB2.out).at_ i hlt
            obtain ⟨-, -, -, -, -, -, hP1, hP2, hP3⟩ := hP
            have HP1 := hid hP1
            have HP2 := hid (Nat.le_trans hP2 hP3)
            clear hP1 hP2 hP3
            refine (sizeError_any (b i).nm HP1.out HP2.out).mono ?_
            rintro e w4 ⟨r, rfl, hz', hb⟩
            have hz := hz'.out
            have jb4 := jb2.step hb
            have HB4 := hid (HB2.out.trans (hb.mono HB2.out.size))
            have HZ4 := hid (HZ2.out.below hb)
            clear hb jb2 y0 y1 y2 hnm hlk
            by_cases hr : r = 0
            · subst hr
              have HG := hid (show LGood (fun i => (b i).nm) (fun i r => Sz (b i).n (b i).F (b i).S (b i).rim r) i from ⟨HNM.out, Hno.out, hz⟩)
              obtain ⟨f, ⟨D, hown, hD, hat⟩, hseen⟩ := HZ4.out
              obtain ⟨f', hat', hseen'⟩ := seen_put hD hat hseen
              have Hat := hid hat'
              have Hseen := hid hseen'
              have HD := hid hD
              clear hat hseen hat' hseen' hD hz
              have hil : i < maxLen := by unfold maxLen; omega
              go_wp2_with (at_mapUpdate; (refine wpList_mapUpdate_own _ rfl _ _ _ 136 rfl 9 4 law Try.underlying136 _ mb i _ rfl hown hil _ _ (.string (bl (b i).nm)) rfl rfl (Go.WideMaps.keyOf_string_mk Try.underlying9 (by unfold maxLen; omega)) (.lit (.bool true)) [] (plainElem_bool Try.underlying4 true) ?_))
              intro w5 hown5 hgrow
              have hb5 := HB4.out.grown hgrow HB4.out.size (fun k hk => by injection hk with hk; rw [← hk, ← Hmb.out]; exact Nat.le_refl _)
              have HZ5 := hid (show Nz w5 mb (fun i => (b i).nm) (i + 1) from ⟨f', ⟨_, hown5, HD.out.put _ _, Hat.out⟩, Hseen.out⟩)
              have HB5 := hid hb5
              clear hb5 hown hown5 hgrow hil
              go_wp2
              go_roundw
              case rel => exact ⟨i + 1, by omega, by go_num, hid (fun j hj => by rcases Nat.lt_or_ge j i with h | h; exact HN.out j h; have : j = i := (by omega); subst this; exact HG.out), HZ5, HB5.out⟩
              case measure => simp [intOf]; omega
            · have hq : (r != 0) = true := by rw [bne_iff_ne]; exact hr
              have HE := Wbad.out r (.inr (.inr ⟨HNM.out, Hno.out, hz, hr⟩))
              clear hr hz
              go_wp2
              go_ret
              exact ⟨r, rfl, HE, HB4.out⟩
        · have hnm' := Bool.eq_false_iff.2 hnm
          have HE := Wbad.out 4 (.inl ⟨hnm', rfl⟩)
          clear hnm
          go_wp2_with (((with_reducible refine (IsName_any _ _ hs9).mono ?_); rintro e w' ⟨rfl, rfl⟩))
          go_ret
          exact ⟨4, rfl, HE, HB2.out⟩
      · obtain rfl : i = n := by omega
        have HE := hid (show Lsg 8 i (fun i => (b i).nm) (fun i r => Sz (b i).n (b i).F (b i).S (b i).rim r) 0 from .inr ⟨by omega, .inr ⟨HN.out, rfl⟩⟩)
        go_wp2
        go_ret
        exact ⟨0, rfl, HE, Hbel.out⟩

/-- A network and a link in boxes. -/
structure Nlb (w : World) (g g2 B0 : Nat) (N : Nd) (l : Ld) : Prop where
  n : Nb w g B0 N
  l : Lb w g2 l
theorem Nlb.below {w w' : World} {g g2 B0 : Nat} {N : Nd} {l : Ld} (h : Nlb w g g2 B0 N l) (hb : Below w.heap.size w w') : Nlb w' g g2 B0 N l := ⟨h.n.below hb, h.l.below hb⟩
theorem Nlb.cells {w' : World} {g g2 B0 : Nat} {N : Nd} {l : Ld} (h : Nlb w' g g2 B0 N l) : w'.cell? ⟨g, 0, none⟩ = some (.slice N.A N.n N.c) ∧ w'.cell? ⟨g, 1, none⟩ = some (.slice N.M N.m N.d) ∧ w'.cell? ⟨g, 2, none⟩ = some (.slice N.K N.k N.e) ∧ w'.cell? ⟨g2, 0, none⟩ = some (.string l.nm) ∧ w'.cell? ⟨g2, 1, none⟩ = some (.int .i64 l.kind) ∧ w'.cell? ⟨g2, 2, none⟩ = some (.string l.fr) ∧ w'.cell? ⟨g2, 3, none⟩ = some (.string l.tw) ∧ w'.cell? ⟨g2, 4, none⟩ = some (.int .i64 l.sill) ∧ w'.cell? ⟨g2, 5, none⟩ = some (.int .i64 l.rate) ∧ w'.cell? ⟨g2, 6, none⟩ = some (.int .i64 l.fac) ∧ w'.cell? ⟨g2, 7, none⟩ = some (.int .i64 l.lift) := by
  obtain ⟨a0, a1, a2⟩ := h.n.cells
  obtain ⟨b0, b1, b2, b3, b4, b5, b6, b7⟩ := h.l.cells
  exact ⟨a0, a1, a2, b0, b1, b2, b3, b4, b5, b6, b7⟩
theorem fe2 (W : World) (a b : Int) : Calls Try.prog 88 #[.slice (some ⟨W.heap.size, 0, none⟩) 2 2] (W.alloc (.cells #[.int .i64 a, .int .i64 b] 35)) fun e w' => e = .returned (.int .i64 (if a ≠ 0 then a else b)) ∧ (W.alloc (.cells #[.int .i64 a, .int .i64 b] 35)) = w' := by
  have hh := fun i => cell_of_row _ _ i _ _ _ (Bk.of_alloc W (.cells #[.int .i64 a, .int .i64 b] 35) rfl)
  refine (FirstError_any (X := fun i => if i = 0 then a else b) (fun i hi => ?_) (by decide)).mono fun e w' ⟨r, he, hr, hw⟩ => ⟨?_, hw⟩
  · match i, hi with
    | 0, _ => exact ⟨_, rfl, (hh 0).trans rfl⟩
    | 1, _ => exact ⟨_, rfl, (hh 1).trans rfl⟩
  · rw [he]
    congr 2
    rcases hr.out with ⟨i, hi, h1, h2, rfl⟩ | ⟨h1, rfl⟩
    · match i, hi with
      | 0, _ => exact (if_pos h2).symm
      | 1, _ =>
        have := h1 0 (by decide)
        simp only [if_pos] at this
        rw [if_neg (by simpa using this)]
        rfl
    · have a0 := h1 0 (by decide)
      have b0 := h1 1 (by decide)
      simp only [if_pos] at a0
      rw [if_neg (by simpa using a0)]
      exact b0.symm
theorem fe2l (W : World) (N : Nd) (l : Ld) : Calls Try.prog 88 #[.slice (some ⟨W.heap.size, 0, none⟩) 2 2] (W.alloc (.cells #[.int .i64 (endsE N l), .int .i64 (rateE l)] 35)) fun e w' => e = .returned (.int .i64 (lkE N l)) ∧ (W.alloc (.cells #[.int .i64 (endsE N l), .int .i64 (rateE l)] 35)) = w' := fe2 W (endsE N l) (rateE l)
set_option maxRecDepth 100000 in
set_option maxHeartbeats 8000000 in
theorem linkOwn_any {w : World} {B0 g : Nat} {N : Nd} (l : Ld) (h : Nb w g B0 N) (hn : N.n ≤ 1000) :
    Calls Try.prog 103 #[.agg #[.string l.nm, .int .i64 l.kind, .string l.fr, .string l.tw, .int .i64 l.sill, .int .i64 l.rate, .int .i64 l.fac, .int .i64 l.lift], .pointer (some ⟨g, 0, none⟩)] w fun e w' => e = .returned (.int .i64 (lkE N l)) ∧ Below w.heap.size w w' := by
  obtain ⟨g2, hg2⟩ : ∃ g2, w.heap.size = g2 := ⟨_, rfl⟩
  have hb0 := alo (W := w) (o := (.cells #[.string l.nm, .int .i64 l.kind, .string l.fr, .string l.tw, .int .i64 l.sill, .int .i64 l.rate, .int .i64 l.fac, .int .i64 l.lift] 49))
  have K1 := h.below hb0
  have L1 : Lb _ g2 l := ⟨Bk.of_alloc w (.cells #[.string l.nm, .int .i64 l.kind, .string l.fr, .string l.tw, .int .i64 l.sill, .int .i64 l.rate, .int .i64 l.fac, .int .i64 l.lift] 49) hg2⟩
  go_enter Try.func103, Try.ntmps103
  go_wp2_with fail
  generalize w.alloc (.cells #[.string l.nm, .int .i64 l.kind, .string l.fr, .string l.tw, .int .i64 l.sill, .int .i64 l.rate, .int .i64 l.fac, .int .i64 l.lift] 49) = W0 at *
  have HB0 := hid hb0
  have Hh := hid h
  have Hg := hid hg2
  clear hb0 h hg2
  have D0 : Nlb W0.drew g g2 B0 N l := ⟨K1.below dr0, L1.below dr0⟩
  clear K1 L1
  go_region_held3 (fun w' => w'.cell? ⟨g, 0, none⟩ = some (.slice N.A N.n N.c) ∧ w'.cell? ⟨g, 1, none⟩ = some (.slice N.M N.m N.d) ∧ w'.cell? ⟨g, 2, none⟩ = some (.slice N.K N.k N.e) ∧ w'.cell? ⟨g2, 0, none⟩ = some (.string l.nm) ∧ w'.cell? ⟨g2, 1, none⟩ = some (.int .i64 l.kind) ∧ w'.cell? ⟨g2, 2, none⟩ = some (.string l.fr) ∧ w'.cell? ⟨g2, 3, none⟩ = some (.string l.tw) ∧ w'.cell? ⟨g2, 4, none⟩ = some (.int .i64 l.sill) ∧ w'.cell? ⟨g2, 5, none⟩ = some (.int .i64 l.rate) ∧ w'.cell? ⟨g2, 6, none⟩ = some (.int .i64 l.fac) ∧ w'.cell? ⟨g2, 7, none⟩ = some (.int .i64 l.lift)) (first | with_reducible exact Nlb.cells D0 | with_reducible exact Nlb.cells D1 | with_reducible exact Nlb.cells D2 | with_reducible exact Nlb.cells (Nlb.below D2 alo)) (first
    | (go_at_call 104; with_reducible refine (endsError_any l D0.n.a hn).mono ?_; rintro e w1 ⟨rfl, hb1⟩; have D1 := D0.below hb1)
    | (go_at_call 105; with_reducible refine (rateError_any l).mono ?_; rintro e w2 ⟨rfl, hb2⟩; have D2 := D1.below hb2)
    | (go_at_call 105; with_reducible refine (rateError_any l).mono ?_; rintro e w1 ⟨rfl, hb1⟩; have D1 := D0.below hb1)
    | (go_at_call 104; with_reducible refine (endsError_any l D1.n.a hn).mono ?_; rintro e w2 ⟨rfl, hb2⟩; have D2 := D1.below hb2)
    | (go_at_call 88; with_reducible refine (fe2l _ N l).mono ?_; rintro e w3 ⟨rfl, rfl⟩))
  all_goals
    have HB := hid ((bthen (bthen HB0.out.drew hb1 (Nat.le_refl _)) hb2 (Nat.le_refl _)).alloc (bthen (bthen HB0.out.drew hb1 (Nat.le_refl _)) hb2 (Nat.le_refl _)).size (.cells #[.int .i64 (endsE N l), .int .i64 (rateE l)] 35))
    clear hb1 hb2
    go_wp2
    go_ret
    exact ⟨rfl, HB.out⟩

set_option maxRecDepth 100000 in
set_option maxHeartbeats 16000000 in
theorem ListL_any {w : World} {B0 n c : Nat} {A : Option Addr} {b : Nat → Ld} {gN B1 : Nat} {N : Nd} (h : Ll w B0 A n b) (hn : n ≤ 1000) (hs : ∀ i, i < n → (b i).nm.size ≤ 1000000000) (hNb : Nb w gN B1 N) (hN : N.n ≤ 1000) :
    Calls Try.prog 102 #[.slice A n c, .int .i64 12, .func (.func 101) #[] #[], .func (.func 103) #[] #[.pointer (some ⟨gN, 0, none⟩)]] w fun e w' => ∃ r : Int, e = .returned (.int .i64 r) ∧ Hid (Lsg 12 n (fun i => (b i).nm) (fun i r => r = lkE N (b i)) r) ∧ Below w.heap.size w w' := by
  by_cases hbig : 12 < n
  · have hd : decide ((12 : Int) < (n : Int)) = true := decide_eq_true (by omega)
    have HE := hid (show Lsg 12 n (fun i => (b i).nm) (fun i r => r = lkE N (b i)) 8 from .inl ⟨hbig, rfl⟩)
    go_enter Try.func102, Try.ntmps102
    go_wp2
    go_ret
    exact ⟨8, rfl, HE, Below.refl _ _⟩
  · have hd : decide ((12 : Int) < (n : Int)) = false := decide_eq_false (by omega)
    have hmm := @run_makeMap Try.prog
    obtain ⟨mb, hmb⟩ : ∃ mb, w.heap.size = mb := ⟨_, rfl⟩
    have hz0 := Nz.new w (fun i => (b i).nm)
    rw [hmb] at hz0
    have hb0 := alo (W := w) (o := .map #[] 0)
    go_enter Try.func102, Try.ntmps102
    go_wp2_with fail
    clear hd hmm
    generalize w.alloc (.map #[] 0) = W0 at *
    have HNb := hid hNb
    clear hNb
    have Hh := hid h
    have Hmb := hid hmb
    have Hs := hid hs
    have HZ0 := hid hz0
    have HB0 := hid hb0
    clear h hmb hs hz0 hb0
    go_loopw [21] (fun iv wr => ∃ (i : Nat), i ≤ n ∧ iv = .int .i64 i ∧ Hid (∀ j, j < i → LGood (fun i => (b i).nm) (fun i r => r = lkE N (b i)) j) ∧ Hid (Nz wr mb (fun i => (b i).nm) i) ∧ Below w.heap.size w wr) (fun iv _ => n - (intOf iv).toNat)
    case atStart => exact ⟨0, Nat.zero_le _, rfl, hid (fun j hj => absurd hj (Nat.not_lt_zero _)), HZ0, HB0.out⟩
    case round =>
      obtain ⟨i, hi, rfl, HN, HZ, hbel⟩ := hrel
      have hw := Hh.out.below (hbel.mono (Nat.le_refl _))
      have Hbel := hid hbel
      clear hbel
      by_cases hlt : i < n
      · obtain ⟨ad, hA, hl, q0, q1, q2, q3, q4, q5, q6, q7⟩ := hw.at_ i hlt
        subst hA
        have hs9 := Hs.out i hlt
        have ha := alo (W := wr) (o := (.cells #[.string (b i).nm, .int .i64 (b i).kind, .string (b i).fr, .string (b i).tw, .int .i64 (b i).sill, .int .i64 (b i).rate, .int .i64 (b i).fac, .int .i64 (b i).lift] 49))
        obtain ⟨gb, hgb⟩ : ∃ gb, wr.heap.size = gb := ⟨_, rfl⟩
        have jb := Bk.of_alloc wr (.cells #[.string (b i).nm, .int .i64 (b i).kind, .string (b i).fr, .string (b i).tw, .int .i64 (b i).sill, .int .i64 (b i).rate, .int .i64 (b i).fac, .int .i64 (b i).lift] 49) hgb
        have Hba := hid (Hbel.out.trans (ha.mono Hbel.out.size))
        have HZa := hid (HZ.out.below ha)
        clear ha hw
        go_wp2_with fail
        generalize wr.alloc (.cells #[.string (b i).nm, .int .i64 (b i).kind, .string (b i).fr, .string (b i).tw, .int .i64 (b i).sill, .int .i64 (b i).rate, .int .i64 (b i).fac, .int .i64 (b i).lift] 49) = wa at *
        have Hgb := hid hgb
        clear hgb q0 q1 q2 q3 q4 q5 q6 q7
        refine (lname_any (b i)).mono ?_
        rintro e w2 ⟨rfl, hb⟩
        have jb2 := jb.step hb
        have HB2 := hid (Hba.out.trans (hb.mono Hba.out.size))
        have HZ2 := hid (HZa.out.below hb)
        clear hb jb
        obtain ⟨y0, y1, y2, y3, y4, y5, y6, y7⟩ := (show Lb w2 gb (b i) from ⟨jb2⟩).cells
        have wbad := fun (r : Int) (hx : LBad (fun i => (b i).nm) (fun i r => r = lkE N (b i)) i r) => hid (show Lsg 12 n (fun i => (b i).nm) (fun i r => r = lkE N (b i)) r from .inr ⟨by omega, .inl ⟨i, hlt, HN.out, hx⟩⟩)
        have Wbad := hid wbad
        clear wbad
        by_cases hnm : nameB (b i).nm = true
        · have HNM := hid hnm
          have hlk := HZ2.out.look (b i).nm (by unfold maxLen; omega)
          by_cases hsn : seenB (fun i => (b i).nm) i (b i).nm = true
          · have HE := Wbad.out 5 (.inr (.inl ⟨hnm, seen_iff.1 hsn, rfl⟩))
            rw [hsn] at hlk
            clear hsn
            go_wp2_with (((with_reducible refine (IsName_any _ _ hs9).mono ?_); rintro e w' ⟨rfl, rfl⟩))
            go_ret
            exact ⟨5, rfl, HE, HB2.out⟩
          · have hno : ∀ k, k < i → (b k).nm ≠ (b i).nm := fun k hk e => hsn (seenB_t ⟨k, hk, e⟩)
            rw [Bool.eq_false_iff.2 hsn] at hlk
            have Hno := hid hno
            clear hsn hno
            go_wp2_with (((with_reducible refine (IsName_any _ _ hs9).mono ?_); rintro e w' ⟨rfl, rfl⟩))
            have hK := HNb.out.below (HB2.out.mono (Nat.le_refl _))
            refine (linkOwn_any (b i) hK hN).mono ?_
            rintro e w4 ⟨rfl, hb⟩
            clear hK
            generalize hr0 : lkE N (b i) = r
            have Hr0 := hid hr0
            clear hr0
            have hz : (fun (i : Nat) (r : Int) => r = lkE N (b i)) i r := Hr0.out.symm
            have jb4 := jb2.step hb
            have HB4 := hid (HB2.out.trans (hb.mono HB2.out.size))
            have HZ4 := hid (HZ2.out.below hb)
            clear hb jb2 y0 y1 y2 y3 y4 y5 y6 y7 hnm hlk
            by_cases hr : r = 0
            · subst hr
              have HG := hid (show LGood (fun i => (b i).nm) (fun i r => r = lkE N (b i)) i from ⟨HNM.out, Hno.out, hz⟩)
              obtain ⟨f, ⟨D, hown, hD, hat⟩, hseen⟩ := HZ4.out
              obtain ⟨f', hat', hseen'⟩ := seen_put hD hat hseen
              have Hat := hid hat'
              have Hseen := hid hseen'
              have HD := hid hD
              clear hat hseen hat' hseen' hD hz
              have hil : i < maxLen := by unfold maxLen; omega
              go_wp2_with (at_mapUpdate; (refine wpList_mapUpdate_own _ rfl _ _ _ 136 rfl 9 4 law Try.underlying136 _ mb i _ rfl hown hil _ _ (.string (bl (b i).nm)) rfl rfl (Go.WideMaps.keyOf_string_mk Try.underlying9 (by unfold maxLen; omega)) (.lit (.bool true)) [] (plainElem_bool Try.underlying4 true) ?_))
              intro w5 hown5 hgrow
              have hb5 := HB4.out.grown hgrow HB4.out.size (fun k hk => by injection hk with hk; rw [← hk, ← Hmb.out]; exact Nat.le_refl _)
              have HZ5 := hid (show Nz w5 mb (fun i => (b i).nm) (i + 1) from ⟨f', ⟨_, hown5, HD.out.put _ _, Hat.out⟩, Hseen.out⟩)
              have HB5 := hid hb5
              clear hb5 hown hown5 hgrow hil
              go_wp2
              go_roundw
              case rel => exact ⟨i + 1, by omega, by go_num, hid (fun j hj => by rcases Nat.lt_or_ge j i with h | h; exact HN.out j h; have : j = i := (by omega); subst this; exact HG.out), HZ5, HB5.out⟩
              case measure => simp [intOf]; omega
            · have hq : (r != 0) = true := by rw [bne_iff_ne]; exact hr
              have HE := Wbad.out r (.inr (.inr ⟨HNM.out, Hno.out, hz, hr⟩))
              clear hr hz
              go_wp2
              go_ret
              exact ⟨r, rfl, HE, HB4.out⟩
        · have hnm' := Bool.eq_false_iff.2 hnm
          have HE := Wbad.out 4 (.inl ⟨hnm', rfl⟩)
          clear hnm
          go_wp2_with (((with_reducible refine (IsName_any _ _ hs9).mono ?_); rintro e w' ⟨rfl, rfl⟩))
          go_ret
          exact ⟨4, rfl, HE, HB2.out⟩
      · obtain rfl : i = n := by omega
        have HE := hid (show Lsg 12 i (fun i => (b i).nm) (fun i r => r = lkE N (b i)) 0 from .inr ⟨by omega, .inr ⟨HN.out, rfl⟩⟩)
        go_wp2
        go_ret
        exact ⟨0, rfl, HE, Hbel.out⟩

end Go.Proofs.Ytockfiobhmohnaa

namespace Go.Proofs.Ytockfiobhmohnaa
open Go.RowKit Go.Maps Kb Wb

theorem first_bad (P : Nat → Prop) : ∀ n, (∀ j, j < n → P j) ∨ ∃ i, i < n ∧ (∀ j, j < i → P j) ∧ ¬ P i
  | 0 => .inl fun j hj => absurd hj (Nat.not_lt_zero _)
  | n + 1 => by
    rcases first_bad P n with h | ⟨i, h1, h2, h3⟩
    · by_cases hn : P n
      · exact .inl fun j hj => by
          by_cases e : j = n
          · subst e; exact hn
          · exact h j (by omega)
      · exact .inr ⟨n, by omega, h, hn⟩
    · exact .inr ⟨i, by omega, h2, h3⟩
theorem Sz.exists (n : Nat) (F S : Nat → Int) (rim : Int) : ∃ r, Sz n F S rim r := by
  by_cases h : 1 ≤ n ∧ n ≤ 20
  · rcases first_bad (Ga F S) n with h1 | ⟨i, h1, h2, h3⟩
    · by_cases h4 : F (n - 1) < rim ∧ rim ≤ 1000000
      · exact ⟨0, .inr ⟨h, .inr ⟨h1, .inr ⟨h4, rfl⟩⟩⟩⟩
      · exact ⟨2, .inr ⟨h, .inr ⟨h1, .inl ⟨h4, rfl⟩⟩⟩⟩
    · by_cases h4 : Rg F S i
      · have h5 : 0 < i ∧ F i ≤ F (i - 1) := by
          refine ⟨Nat.pos_of_ne_zero fun e => h3 ⟨h4, fun h => by omega⟩, ?_⟩
          exact Classical.byContradiction fun e => h3 ⟨h4, fun _ => by omega⟩
        exact ⟨10, .inr ⟨h, .inl ⟨i, h1, h2, .inr ⟨h4, h5.1, h5.2, rfl⟩⟩⟩⟩
      · exact ⟨2, .inr ⟨h, .inl ⟨i, h1, h2, .inl ⟨h4, rfl⟩⟩⟩⟩
  · exact ⟨2, .inl ⟨h, rfl⟩⟩
theorem Cs.exists (n : Nat) (F L : Nat → Int) : ∃ r, Cs n F L r := by
  by_cases h : 400 < n
  · exact ⟨8, .inl ⟨h, rfl⟩⟩
  · rcases first_bad (Gm F L) n with h1 | ⟨i, h1, h2, h3⟩
    · exact ⟨0, .inr ⟨by omega, .inr ⟨h1, rfl⟩⟩⟩
    · by_cases h4 : Rm F L i
      · have h5 : 0 < i ∧ F i ≤ F (i - 1) := by
          refine ⟨Nat.pos_of_ne_zero fun e => h3 ⟨h4, fun h => by omega⟩, ?_⟩
          exact Classical.byContradiction fun e => h3 ⟨h4, fun _ => by omega⟩
        exact ⟨10, .inr ⟨by omega, .inl ⟨i, h1, h2, .inr ⟨h4, h5.1, h5.2, rfl⟩⟩⟩⟩
      · exact ⟨2, .inr ⟨by omega, .inl ⟨i, h1, h2, .inl ⟨h4, rfl⟩⟩⟩⟩
theorem Lsg.exists (most n : Nat) (nm : Nat → ByteArray) (own : Nat → Int → Prop) (ht : ∀ i, ∃ r, own i r) : ∃ r, Lsg most n nm own r := by
  by_cases h : most < n
  · exact ⟨8, .inl ⟨h, rfl⟩⟩
  · rcases first_bad (LGood nm own) n with h1 | ⟨i, h1, h2, h3⟩
    · exact ⟨0, .inr ⟨by omega, .inr ⟨h1, rfl⟩⟩⟩
    · suffices H : ∃ r, LBad nm own i r by
        obtain ⟨r, hr⟩ := H
        exact ⟨r, .inr ⟨by omega, .inl ⟨i, h1, h2, hr⟩⟩⟩
      by_cases h4 : nameB (nm i) = true
      · by_cases h5 : ∃ k, k < i ∧ nm k = nm i
        · exact ⟨5, .inr (.inl ⟨h4, h5, rfl⟩)⟩
        · obtain ⟨r, hr⟩ := ht i
          have h6 : ∀ k, k < i → nm k ≠ nm i := fun k a b => h5 ⟨k, a, b⟩
          refine ⟨r, .inr (.inr ⟨h4, h6, hr, fun e => h3 ⟨h4, h6, by rw [← e]; exact hr⟩⟩)⟩
      · exact ⟨4, .inl ⟨Bool.eq_false_iff.2 h4, rfl⟩⟩

/-- What is said of the list of basins, and of links. -/
abbrev Bq (N : Nd) (q : Int) : Prop := Lsg 8 N.n (fun i => (N.b i).nm) (fun i r => Sz (N.b i).n (N.b i).F (N.b i).S (N.b i).rim r) q
abbrev Kq (N : Nd) (q : Int) : Prop := Lsg 12 N.k (fun i => (N.l i).nm) (fun i r => r = lkE N (N.l i)) q
theorem Bq.same {N : Nd} {p q : Int} (h : Bq N p) (k : Bq N q) : p = q := Lsg.same (fun _ _ _ a b => a.same b) h k
theorem Kq.same {N : Nd} {p q : Int} (h : Kq N p) (k : Kq N q) : p = q := Lsg.same (fun _ _ _ a b => a.trans b.symm) h k
/-- The first error of three. -/
def cnE (a b c : Int) : Int := if a ≠ 0 then a else if b ≠ 0 then b else c
/-- q is the error of a network. -/
def Cn (N : Nd) (q : Int) : Prop := ∃ a b c, Bq N a ∧ Cs N.m N.F N.L b ∧ Kq N c ∧ q = cnE a b c
theorem Cn.same {N : Nd} {p q : Int} (h : Cn N p) (k : Cn N q) : p = q := by
  obtain ⟨a, b, c, h1, h2, h3, rfl⟩ := h
  obtain ⟨a', b', c', k1, k2, k3, rfl⟩ := k
  rw [h1.same k1, h2.same k2, h3.same k3]
theorem Cn.zero {N : Nd} (h : Cn N 0) : Bq N 0 ∧ Cs N.m N.F N.L 0 ∧ Kq N 0 := by
  obtain ⟨a, b, c, h1, h2, h3, e⟩ := h
  unfold cnE at e
  by_cases ha : a = 0
  · by_cases hb : b = 0
    · subst ha; subst hb
      simp only [ne_eq, not_true_eq_false, if_false] at e
      subst e
      exact ⟨h1, h2, h3⟩
    · rw [if_neg (fun h => h ha), if_pos hb] at e
      exact absurd e.symm hb
  · rw [if_pos ha] at e
    exact absurd e.symm ha

/-- A network whose names are short. -/
structure Nsm (N : Nd) : Prop where
  n : N.n ≤ 1000
  k : N.k ≤ 1000
  b : ∀ i, i < N.n → (N.b i).nm.size ≤ 1000
  l : ∀ i, i < N.k → (N.l i).nm.size ≤ 1000
section
variable {w : World} {B0 : Nat} {N : Nd}
set_option maxRecDepth 100000 in
theorem basinsError_is {q : Int} (hq : Hid (Bq N q)) (h : Nt w B0 N) (hs : Nsm N) :
    Calls Try.prog 89 #[.slice N.A N.n N.c] w fun e w' => e = .returned (.int .i64 q) ∧ Below w.heap.size w w' := by
  have Hh := hid h
  clear h
  go_enter Try.func89, Try.ntmps89
  go_wp2_with fail
  refine (ListB_any Hh.out.b hs.n (fun i hi => Nat.le_trans (hs.b i hi) (by decide))).mono ?_
  rintro e w2 ⟨r, rfl, hr, hb⟩
  obtain rfl := Bq.same (N := N) hr.out hq.out
  have HB := hid hb
  clear hb hr
  go_wp2
  go_ret
  exact ⟨rfl, HB.out⟩
set_option maxRecDepth 100000 in
theorem linksError_is {q : Int} (hq : Hid (Kq N q)) (h : Nt w B0 N) (hs : Nsm N) :
    Calls Try.prog 91 #[.agg #[.slice N.A N.n N.c, .slice N.M N.m N.d, .slice N.K N.k N.e]] w fun e w' => e = .returned (.int .i64 q) ∧ Below w.heap.size w w' := by
  obtain ⟨g, hg⟩ : ∃ g, w.heap.size = g := ⟨_, rfl⟩
  have hb0 := alo (W := w) (o := .cells #[.slice N.A N.n N.c, .slice N.M N.m N.d, .slice N.K N.k N.e] 26)
  have K1 := Nb.new h hg
  go_enter Try.func91, Try.ntmps91
  go_wp2_with fail
  generalize w.alloc (.cells #[.slice N.A N.n N.c, .slice N.M N.m N.d, .slice N.K N.k N.e] 26) = W0 at *
  have HB0 := hid hb0
  have Hh := hid h
  have Hg := hid hg
  clear hb0 h hg
  refine (ListL_any K1.a.l hs.k (fun i hi => Nat.le_trans (hs.l i hi) (by decide)) K1 hs.n).mono ?_
  rintro e w2 ⟨r, rfl, hr, hb⟩
  obtain rfl := Kq.same (N := N) hr.out hq.out
  have HB := hid (bthen HB0.out hb (Nat.le_refl _))
  clear hb hr K1
  go_wp2
  go_ret
  exact ⟨rfl, HB.out⟩
theorem CheckSea_is {q : Int} {n c : Nat} {A : Option Addr} {F L : Nat → Int} (hq : Hid (Cs n F L q)) (h : Pa w B0 A n F L) (hn : n ≤ maxLen) :
    Calls Try.prog 90 #[.slice A n c] w fun e w' => e = .returned (.int .i64 q) ∧ Below w.heap.size w w' :=
  (CheckSea_any h hn).mono fun _ _ ⟨r, he, hr, hb⟩ => ⟨by rw [he, hr.out.same hq.out], hb⟩
theorem rCheckSea_is {q : Int} {n c : Nat} {A : Option Addr} {F L : Nat → Int} (hq : Hid (Cs n F L q)) (h : Pa w B0 A n F L) (hn : n ≤ maxLen) :
    Calls Try.prog 67 #[.slice A n c] w fun e w' => e = .returned (.int .i64 q) ∧ Below w.heap.size w w' :=
  (rCheckSea_any h hn).mono fun _ _ ⟨r, he, hr, hb⟩ => ⟨by rw [he, hr.out.same hq.out], hb⟩
theorem fe3 (W : World) (a b c : Int) : Calls Try.prog 88 #[.slice (some ⟨W.heap.size, 0, none⟩) 3 3] (W.alloc (.cells #[.int .i64 a, .int .i64 b, .int .i64 c] 35)) fun e w' => e = .returned (.int .i64 (cnE a b c)) ∧ (W.alloc (.cells #[.int .i64 a, .int .i64 b, .int .i64 c] 35)) = w' := by
  have hh := fun i => cell_of_row _ _ i _ _ _ (Bk.of_alloc W (.cells #[.int .i64 a, .int .i64 b, .int .i64 c] 35) rfl)
  refine (FirstError_any (X := fun i => match i with | 0 => a | 1 => b | _ => c) (fun i hi => ?_) (by decide)).mono fun e w' ⟨r, he, hr, hw⟩ => ⟨?_, hw⟩
  · match i, hi with
    | 0, _ => exact ⟨_, rfl, (hh 0).trans rfl⟩
    | 1, _ => exact ⟨_, rfl, (hh 1).trans rfl⟩
    | 2, _ => exact ⟨_, rfl, (hh 2).trans rfl⟩
  · rw [he]
    congr 2
    unfold cnE
    rcases hr.out with ⟨i, hi, h1, h2, rfl⟩ | ⟨h1, rfl⟩
    · match i, hi with
      | 0, _ => exact (if_pos h2).symm
      | 1, _ =>
        have a0 : a = 0 := h1 0 (by decide)
        rw [if_neg (fun h => h a0)]
        exact (if_pos h2).symm
      | 2, _ =>
        have a0 : a = 0 := h1 0 (by decide)
        have b0 : b = 0 := h1 1 (by decide)
        rw [if_neg (fun h => h a0), if_neg (fun h => h b0)]
        rfl
    · have a0 : a = 0 := h1 0 (by decide)
      have b0 : b = 0 := h1 1 (by decide)
      have c0 : c = 0 := h1 2 (by decide)
      rw [if_neg (fun h => h a0), if_neg (fun h => h b0), c0]
end

set_option maxRecDepth 100000 in
set_option maxHeartbeats 8000000 in
theorem CheckNetwork_any {w : World} {B0 : Nat} {N : Nd} (h : Nt w B0 N) (hs : Nsm N) :
    Calls Try.prog 75 #[.agg #[.slice N.A N.n N.c, .slice N.M N.m N.d, .slice N.K N.k N.e]] w fun e w' => ∃ q : Int, e = .returned (.int .i64 q) ∧ Hid (Cn N q) ∧ Below w.heap.size w w' := by
  obtain ⟨qa, ha'⟩ := Lsg.exists 8 N.n (fun i => (N.b i).nm) (fun i r => Sz (N.b i).n (N.b i).F (N.b i).S (N.b i).rim r) (fun i => Sz.exists _ _ _ _)
  obtain ⟨qb, hb'⟩ := Cs.exists N.m N.F N.L
  obtain ⟨qc, hc'⟩ := Lsg.exists 12 N.k (fun i => (N.l i).nm) (fun i r => r = lkE N (N.l i)) (fun i => ⟨_, rfl⟩)
  have HE := hid (show Cn N (cnE qa qb qc) from ⟨qa, qb, qc, ha', hb', hc', rfl⟩)
  have QA := hid (show Bq N qa from ha')
  have QB := hid hb'
  have QC := hid (show Kq N qc from hc')
  have HM := hid (Nat.le_trans h.md h.dm)
  clear ha' hb' hc'
  obtain ⟨g, hg⟩ : ∃ g, w.heap.size = g := ⟨_, rfl⟩
  have hb0 := alo (W := w) (o := .cells #[.slice N.A N.n N.c, .slice N.M N.m N.d, .slice N.K N.k N.e] 26)
  have K1 := Nb.new h hg
  go_enter Try.func75, Try.ntmps75
  go_wp2_with fail
  generalize w.alloc (.cells #[.slice N.A N.n N.c, .slice N.M N.m N.d, .slice N.K N.k N.e] 26) = W0 at *
  have HB0 := hid hb0
  have Hh := hid h
  have Hg := hid hg
  clear hb0 h hg
  have D0 : Nb W0.drew g B0 N := K1.below dr0
  clear K1
  go_region_held3 (fun w' => w'.cell? ⟨g, 0, none⟩ = some (.slice N.A N.n N.c) ∧ w'.cell? ⟨g, 1, none⟩ = some (.slice N.M N.m N.d) ∧ w'.cell? ⟨g, 2, none⟩ = some (.slice N.K N.k N.e)) (first | with_reducible exact Nb.cells D0 | with_reducible exact Nb.cells D1 | with_reducible exact Nb.cells D2 | with_reducible exact Nb.cells D3 | with_reducible exact Nb.cells (Nb.below D3 alo)) (first
    | (go_at_call 89; with_reducible refine (basinsError_is QA D0.a hs).mono ?_; rintro e w1 ⟨rfl, hb1⟩; have D1 := D0.below hb1)
    | (go_at_call 90; with_reducible refine (CheckSea_is QB D0.a.s HM.out).mono ?_; rintro e w1 ⟨rfl, hb1⟩; have D1 := D0.below hb1)
    | (go_at_call 91; with_reducible refine (linksError_is QC D0.a hs).mono ?_; rintro e w1 ⟨rfl, hb1⟩; have D1 := D0.below hb1)
    | (go_at_call 89; with_reducible refine (basinsError_is QA D1.a hs).mono ?_; rintro e w2 ⟨rfl, hb2⟩; have D2 := D1.below hb2)
    | (go_at_call 90; with_reducible refine (CheckSea_is QB D1.a.s HM.out).mono ?_; rintro e w2 ⟨rfl, hb2⟩; have D2 := D1.below hb2)
    | (go_at_call 91; with_reducible refine (linksError_is QC D1.a hs).mono ?_; rintro e w2 ⟨rfl, hb2⟩; have D2 := D1.below hb2)
    | (go_at_call 89; with_reducible refine (basinsError_is QA D2.a hs).mono ?_; rintro e w3 ⟨rfl, hb3⟩; have D3 := D2.below hb3)
    | (go_at_call 90; with_reducible refine (CheckSea_is QB D2.a.s HM.out).mono ?_; rintro e w3 ⟨rfl, hb3⟩; have D3 := D2.below hb3)
    | (go_at_call 91; with_reducible refine (linksError_is QC D2.a hs).mono ?_; rintro e w3 ⟨rfl, hb3⟩; have D3 := D2.below hb3)
    | (go_at_call 88; with_reducible refine (fe3 _ qa qb qc).mono ?_; rintro e w4 ⟨rfl, rfl⟩))
  all_goals
    have hb4 := bthen (bthen (bthen HB0.out.drew hb1 (Nat.le_refl _)) hb2 (Nat.le_refl _)) hb3 (Nat.le_refl _)
    have HB := hid (hb4.alloc hb4.size (.cells #[.int .i64 qa, .int .i64 qb, .int .i64 qc] 35))
    clear hb1 hb2 hb3 hb4
    go_wp2
    go_ret
    exact ⟨_, rfl, HE, HB.out⟩

end Go.Proofs.Ytockfiobhmohnaa

