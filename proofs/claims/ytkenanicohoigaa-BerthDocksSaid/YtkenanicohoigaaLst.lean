/- Words for lists of named things: names found, sets of names, the error of a list; FirstError. For all lists. -/
import Derived.Test.YtkenanicohoigaaWbn
import Derived.Maps.Own
import Derived.Maps.Views
namespace Go.Proofs.Ytkenanicohoigaa
open Go.RowKit Go.Maps Kb Wb

theorem tl_eq (s : ByteArray) : s.toList = bl s := ByteArray.toList_eq s
theorem bl_inj {s t : ByteArray} (h : bl s = bl t) : s = t := by
  cases s; cases t
  simp only [bl] at h
  congr 1
  exact Array.toList_inj.1 h
theorem str_t {s t : ByteArray} (h : s = t) : (s.toList == t.toList) = true := by rw [beq_iff_eq, h]
theorem str_f {s t : ByteArray} (h : s ≠ t) : (s.toList == t.toList) = false := by
  rw [beq_eq_false_iff_ne]
  exact fun e => h (bl_inj (by rw [← tl_eq, ← tl_eq]; exact e))
/-- The empty text. -/
abbrev s0 : ByteArray := ⟨#[]⟩
theorem emp_t {s : ByteArray} (h : s = s0) : s.toList.isEmpty = true := by subst h; rw [tl_eq]; rfl
theorem emp_f {s : ByteArray} (h : s ≠ s0) : s.toList.isEmpty = false := by
  rw [List.isEmpty_eq_false_iff, tl_eq]
  exact fun e => h (bl_inj e)
/-- r is the place of the first of n names that is s, or -1. -/
def Ixn (n : Nat) (nm : Nat → ByteArray) (s : ByteArray) (r : Int) : Prop := (r = -1 ∧ ∀ j, j < n → nm j ≠ s) ∨ ∃ j : Nat, j < n ∧ (∀ k, k < j → nm k ≠ s) ∧ nm j = s ∧ r = j
theorem Ixn.same {n : Nat} {nm : Nat → ByteArray} {s : ByteArray} {r q : Int} (h : Ixn n nm s r) (k : Ixn n nm s q) : r = q := by
  rcases h with ⟨rfl, h⟩ | ⟨i, hi, h1, h2, rfl⟩ <;> rcases k with ⟨rfl, k⟩ | ⟨j, hj, k1, k2, rfl⟩
  · rfl
  · exact absurd k2 (h j hj)
  · exact absurd h2 (k i hi)
  · rcases Nat.lt_trichotomy i j with e | e | e
    · exact absurd h2 (k1 i e)
    · subst e; rfl
    · exact absurd k2 (h1 j e)
theorem Ixn.ge {n : Nat} {nm : Nat → ByteArray} {s : ByteArray} {r : Int} (h : Ixn n nm s r) : -1 ≤ r ∧ r < (n : Int) ∨ (r = -1 ∧ n = 0) := by
  rcases h with ⟨rfl, _⟩ | ⟨j, hj, _, _, rfl⟩
  · by_cases h : n = 0
    · exact .inr ⟨rfl, h⟩
    · exact .inl ⟨by omega, by omega⟩
  · exact .inl ⟨by omega, by omega⟩
/-- The slice at A reads as numbers. -/
def Xs (w : World) (A : Option Addr) (n : Nat) (X : Nat → Int) : Prop := ∀ i, i < n → ∃ ad, A = some ad ∧ w.cell? (ad.add i) = some (.int .i64 (X i))
/-- r is the first number that is not 0, or 0. -/
def Fe (n : Nat) (X : Nat → Int) (r : Int) : Prop := (∃ i, i < n ∧ (∀ j, j < i → X j = 0) ∧ X i ≠ 0 ∧ r = X i) ∨ ((∀ j, j < n → X j = 0) ∧ r = 0)
set_option maxRecDepth 100000 in
set_option maxHeartbeats 4000000 in
theorem FirstError_any {w : World} {n c : Nat} {A : Option Addr} {X : Nat → Int} (h : Xs w A n X) (hn : n ≤ 1000) :
    Calls Try.prog 47 #[.slice A n c] w fun e w' => ∃ r : Int, e = .returned (.int .i64 r) ∧ Hid (Fe n X r) ∧ w = w' := by
  go_enter Try.func47, Try.ntmps47
  go_wp2_with fail
  go_loop [7] (fun iv => ∃ i : Nat, i ≤ n ∧ iv = .int .i64 i ∧ Hid (∀ j, j < i → X j = 0)) (fun iv => n - (intOf iv).toNat)
  case atStart => exact ⟨0, Nat.zero_le _, rfl, hid (fun j hj => absurd hj (Nat.not_lt_zero _))⟩
  case round =>
    obtain ⟨i, hi, rfl, HN⟩ := hrel
    by_cases hlt : i < n
    · obtain ⟨ad, hA, q0⟩ := h i hlt
      subst hA
      by_cases hx : X i = 0
      · have d : (X i != 0) = false := by rw [bne_eq_false_iff_eq]; exact hx
        have HN2 := hid (show ∀ j, j < i + 1 → X j = 0 from fun j hj => by
          by_cases e : j = i
          · subst e; exact hx
          · exact HN.out j (by omega))
        clear hx
        go_wp2
        go_round
        case rel => exact ⟨i + 1, by omega, by go_num, HN2⟩
        case measure => simp [intOf]; omega
      · have d : (X i != 0) = true := by rw [bne_iff_ne]; exact hx
        have HE := hid (show Fe n X (X i) from .inl ⟨i, hlt, HN.out, hx, rfl⟩)
        clear hx
        go_wp2
        go_ret
        exact ⟨_, rfl, HE, rfl⟩
    · obtain rfl : i = n := by omega
      have HE := hid (show Fe i X 0 from .inr ⟨HN.out, rfl⟩)
      go_wp2
      go_ret
      exact ⟨_, rfl, HE, rfl⟩
theorem law : Keyed Try.prog 9 := string_keyed Try.underlying9
theorem zeroB (w : World) : (zeroValue 4).run Try.prog w = .ok (.bool false) w := by kernel_rfl
/-- Block b is the set of the texts of f. -/
def Ns (w : World) (b k : Nat) (f : List UInt8 → Bool) : Prop := ∃ D : DataW Unit, w.ownsMap Try.prog 9 (plainElem Try.prog 4) b k D ∧ IsMap D ∧ ∀ l, D.atKey (.string l) (.lit (.bool false)) = .lit (.bool (f l))
theorem Ns.below {w w' : World} {b k : Nat} {f : List UInt8 → Bool} (h : Ns w b k f) (hb : Below w.heap.size w w') : Ns w' b k f := by
  obtain ⟨D, h1, h2, h3⟩ := h
  exact ⟨D, h1.kept (gb_of_below (r := none) hb) (by simp), h2, h3⟩
theorem Ns.lt {w : World} {b k : Nat} {f : List UInt8 → Bool} (h : Ns w b k f) : b < w.heap.size := by
  obtain ⟨D, h1, _⟩ := h
  exact h1.lt
theorem Ns.new (w : World) : Ns (w.alloc (.map #[] 0)) w.heap.size 0 fun _ => false :=
  ⟨.map [], World.ownsMap_made _ _ _ _, isMap_empty, fun _ => rfl⟩
theorem plain_inv {P : Program} {e : TypeId} (he : P.underlying e = some .bool) {v : Value} {z : DataW Unit × List MemPlace} (h : plainElem P e v = some z) : ∃ x, v = .bool x ∧ z = (.lit (.bool x), []) := by
  unfold plainElem at h
  rw [he] at h
  cases v <;> simp at h
  exact ⟨_, rfl, h.symm⟩
set_option maxRecDepth 100000 in
theorem Ns.look {w : World} {b k : Nat} {f : List UInt8 → Bool} (h : Ns w b k f) (s : ByteArray) (hs : s.size ≤ maxLen) : (Instr.lookup 65 (.map (some b)) (.string s) false).run Try.prog w = .ok (.bool (f (bl s))) w := by
  obtain ⟨D, h1, h2, h3⟩ := h
  obtain ⟨v, ps, hr, hv⟩ := h1.lookup law Try.underlying65 (zeroB w) (plainElem_bool Try.underlying4 false) (Go.WideMaps.keyOf_string_mk Try.underlying9 hs)
  obtain ⟨x, e1, e2⟩ := plain_inv Try.underlying4 hv
  have e3 : D.atKey (.string (bl s)) (.lit (.bool false)) = .lit (.bool x) := congrArg Prod.fst e2
  rw [h3] at e3
  injection e3 with e3
  injection e3 with e3
  rw [hr, e1, e3]
/-- Item j of a list is right. -/
def LGood (nm : Nat → ByteArray) (own : Nat → Int → Prop) (j : Nat) : Prop := nameB (nm j) = true ∧ (∀ k, k < j → nm k ≠ nm j) ∧ own j 0
/-- r is the error of item i. -/
def LBad (nm : Nat → ByteArray) (own : Nat → Int → Prop) (i : Nat) (r : Int) : Prop := (nameB (nm i) = false ∧ r = 4) ∨ (nameB (nm i) = true ∧ (∃ k, k < i ∧ nm k = nm i) ∧ r = 5) ∨ (nameB (nm i) = true ∧ (∀ k, k < i → nm k ≠ nm i) ∧ own i r ∧ r ≠ 0)
/-- r is the error of a list of named things. -/
def Lsg (most n : Nat) (nm : Nat → ByteArray) (own : Nat → Int → Prop) (r : Int) : Prop :=
  (most < n ∧ r = 8) ∨ (n ≤ most ∧ ((∃ i, i < n ∧ (∀ j, j < i → LGood nm own j) ∧ LBad nm own i r) ∨ ((∀ j, j < n → LGood nm own j) ∧ r = 0)))
section
variable {nm : Nat → ByteArray} {own : Nat → Int → Prop}
theorem LBad.not {i : Nat} {r : Int} (hf : ∀ i r q, own i r → own i q → r = q) (h : LBad nm own i r) : ¬ LGood nm own i := fun g => by
  rcases h with ⟨h, _⟩ | ⟨_, ⟨k, h1, h2⟩, _⟩ | ⟨_, _, h1, h2⟩
  · rw [g.1] at h; cases h
  · exact g.2.1 k h1 h2
  · exact h2 (hf i r 0 h1 g.2.2)
theorem LBad.same {i : Nat} {r q : Int} (hf : ∀ i r q, own i r → own i q → r = q) (h : LBad nm own i r) (k : LBad nm own i q) : r = q := by
  rcases h with ⟨h, rfl⟩ | ⟨h, ⟨j, h1, h2⟩, rfl⟩ | ⟨h, h0, h1, h2⟩ <;> rcases k with ⟨k, rfl⟩ | ⟨k, ⟨j', k1, k2⟩, rfl⟩ | ⟨k, k0, k1, k2⟩
  · rfl
  · rw [h] at k; cases k
  · rw [h] at k; cases k
  · rw [h] at k; cases k
  · rfl
  · exact absurd h2 (k0 j h1)
  · rw [h] at k; cases k
  · exact absurd k2 (h0 j' k1)
  · exact hf i r q h1 k1
theorem Lsg.same {most n : Nat} {r q : Int} (hf : ∀ i r q, own i r → own i q → r = q) (h : Lsg most n nm own r) (k : Lsg most n nm own q) : r = q := by
  rcases h with ⟨h, rfl⟩ | ⟨h, ⟨i, hi, h1, h2⟩ | ⟨h1, rfl⟩⟩ <;> rcases k with ⟨k, rfl⟩ | ⟨k, ⟨j, hj, k1, k2⟩ | ⟨k1, rfl⟩⟩
  · rfl
  · omega
  · omega
  · omega
  · have e : i = j := by
      rcases Nat.lt_trichotomy i j with l | l | l
      · exact absurd (k1 i l) (h2.not hf)
      · exact l
      · exact absurd (h1 j l) (k2.not hf)
    subst e
    exact h2.same hf k2
  · exact absurd (k1 i hi) (h2.not hf)
  · omega
  · exact absurd (h1 j hj) (k2.not hf)
  · rfl
end
/-- The names seen so far. -/
def Seen (nm : Nat → ByteArray) (i : Nat) (f : List UInt8 → Bool) : Prop := ∀ l, f l = true ↔ ∃ j, j < i ∧ bl (nm j) = l
/-- The set of the first i names. -/
def Nz (w : World) (b : Nat) (nm : Nat → ByteArray) (i : Nat) : Prop := ∃ f, Ns w b i f ∧ Seen nm i f
theorem Nz.below {w w' : World} {b i : Nat} {nm : Nat → ByteArray} (h : Nz w b nm i) (hb : Below w.heap.size w w') : Nz w' b nm i := by
  obtain ⟨f, h1, h2⟩ := h
  exact ⟨f, h1.below hb, h2⟩
theorem Nz.new (w : World) (nm : Nat → ByteArray) : Nz (w.alloc (.map #[] 0)) w.heap.size nm 0 := ⟨_, Ns.new w, fun l => ⟨fun h => (by cases h), fun ⟨j, hj, _⟩ => absurd hj (Nat.not_lt_zero _)⟩⟩
/-- Whether a name has been seen. -/
noncomputable def seenB (nm : Nat → ByteArray) (i : Nat) (s : ByteArray) : Bool := @decide (∃ k, k < i ∧ nm k = s) (Classical.propDecidable _)
theorem Nz.look {w : World} {b i : Nat} {nm : Nat → ByteArray} (h : Nz w b nm i) (s : ByteArray) (hs : s.size ≤ maxLen) : (Instr.lookup 65 (.map (some b)) (.string s) false).run Try.prog w = .ok (.bool (seenB nm i s)) w := by
  obtain ⟨f, h1, h2⟩ := h
  rw [h1.look s hs]
  have e : f (bl s) = seenB nm i s := by
    rw [Bool.eq_iff_iff, h2 (bl s)]
    unfold seenB
    rw [@decide_eq_true_iff _ (Classical.propDecidable _)]
    exact ⟨fun ⟨j, a, b⟩ => ⟨j, a, bl_inj b⟩, fun ⟨j, a, b⟩ => ⟨j, a, by rw [b]⟩⟩
  rw [e]
theorem seenB_t {nm : Nat → ByteArray} {i : Nat} {s : ByteArray} (h : ∃ k, k < i ∧ nm k = s) : seenB nm i s = true := @decide_eq_true _ (Classical.propDecidable _) h
theorem seenB_f {nm : Nat → ByteArray} {i : Nat} {s : ByteArray} (h : ¬ ∃ k, k < i ∧ nm k = s) : seenB nm i s = false := @decide_eq_false _ (Classical.propDecidable _) h
theorem seen_iff {nm : Nat → ByteArray} {i : Nat} {s : ByteArray} : seenB nm i s = true ↔ ∃ k, k < i ∧ nm k = s := @decide_eq_true_iff _ (Classical.propDecidable _)
theorem seen_put {D : DataW Unit} {f : List UInt8 → Bool} {nm : Nat → ByteArray} {i : Nat} (hD : IsMap D) (hf : ∀ l, D.atKey (.string l) (.lit (.bool false)) = .lit (.bool (f l))) (hs : Seen nm i f) :
    ∃ f', (∀ l, (D.put (.string (bl (nm i))) (.lit (.bool true))).atKey (.string l) (.lit (.bool false)) = .lit (.bool (f' l))) ∧ Seen nm (i + 1) f' := by
  refine ⟨fun l => if l = bl (nm i) then true else f l, fun l => ?_, fun l => ?_⟩
  · by_cases e : l = bl (nm i)
    · subst e
      rw [atKey_put_same hD (by exact trivial)]
      dsimp only
      rw [if_pos rfl]
    · rw [atKey_put_other (by intro h; injection h with h; exact e h), hf]
      dsimp only
      rw [if_neg e]
  · by_cases e : l = bl (nm i)
    · subst e
      dsimp only
      rw [if_pos rfl]
      exact ⟨fun _ => ⟨i, by omega, rfl⟩, fun _ => rfl⟩
    · dsimp only
      rw [if_neg e, hs l]
      exact ⟨fun ⟨j, a, b⟩ => ⟨j, by omega, b⟩, fun ⟨j, a, b⟩ => ⟨j, by
        rcases Nat.lt_or_ge j i with h | h
        · exact h
        · have : j = i := by omega
          subst this
          exact absurd b.symm e, b⟩⟩
theorem fe2 (W : World) (a b : Int) : Calls Try.prog 47 #[.slice (some ⟨W.heap.size, 0, none⟩) 2 2] (W.alloc (.cells #[.int .i64 a, .int .i64 b] 26)) fun e w' => e = .returned (.int .i64 (if a ≠ 0 then a else b)) ∧ (W.alloc (.cells #[.int .i64 a, .int .i64 b] 26)) = w' := by
  have hh := fun i => cell_of_row _ _ i _ _ _ (Bk.of_alloc W (.cells #[.int .i64 a, .int .i64 b] 26) rfl)
  refine (FirstError_any (X := fun i => if i = 0 then a else b) (fun i hi => ?_) (by decide)).mono fun e w' ⟨r, he, hr, hw⟩ => ⟨?_, hw⟩
  · match i, hi with
    | 0, _ => exact ⟨_, rfl, (hh 0).trans rfl⟩
    | 1, _ => exact ⟨_, rfl, (hh 1).trans rfl⟩
  · rw [he]
    congr 2
    rcases hr.out with ⟨i, hi, h1, h2, rfl⟩ | ⟨h1, rfl⟩
    · match i, hi with
      | 0, _ => exact (if_pos h2).symm
      | 1, _ =>
        have := h1 0 (by decide)
        simp only [if_pos] at this
        rw [if_neg (by simpa using this)]
        rfl
    · have a0 := h1 0 (by decide)
      have b0 := h1 1 (by decide)
      simp only [if_pos] at a0
      rw [if_neg (by simpa using a0)]
      exact b0.symm
theorem first_bad (P : Nat → Prop) : ∀ n, (∀ j, j < n → P j) ∨ ∃ i, i < n ∧ (∀ j, j < i → P j) ∧ ¬ P i
  | 0 => .inl fun j hj => absurd hj (Nat.not_lt_zero _)
  | n + 1 => by
    rcases first_bad P n with h | ⟨i, h1, h2, h3⟩
    · by_cases hn : P n
      · exact .inl fun j hj => by
          by_cases e : j = n
          · subst e; exact hn
          · exact h j (by omega)
      · exact .inr ⟨n, by omega, h, hn⟩
    · exact .inr ⟨i, by omega, h2, h3⟩
theorem Lsg.exists (most n : Nat) (nm : Nat → ByteArray) (own : Nat → Int → Prop) (ht : ∀ i, ∃ r, own i r) : ∃ r, Lsg most n nm own r := by
  by_cases h : most < n
  · exact ⟨8, .inl ⟨h, rfl⟩⟩
  · rcases first_bad (LGood nm own) n with h1 | ⟨i, h1, h2, h3⟩
    · exact ⟨0, .inr ⟨by omega, .inr ⟨h1, rfl⟩⟩⟩
    · suffices H : ∃ r, LBad nm own i r by
        obtain ⟨r, hr⟩ := H
        exact ⟨r, .inr ⟨by omega, .inl ⟨i, h1, h2, hr⟩⟩⟩
      by_cases h4 : nameB (nm i) = true
      · by_cases h5 : ∃ k, k < i ∧ nm k = nm i
        · exact ⟨5, .inr (.inl ⟨h4, h5, rfl⟩)⟩
        · obtain ⟨r, hr⟩ := ht i
          have h6 : ∀ k, k < i → nm k ≠ nm i := fun k a b => h5 ⟨k, a, b⟩
          refine ⟨r, .inr (.inr ⟨h4, h6, hr, fun e => h3 ⟨h4, h6, by rw [← e]; exact hr⟩⟩)⟩
      · exact ⟨4, .inl ⟨Bool.eq_false_iff.2 h4, rfl⟩⟩
theorem Ixn.exists (n : Nat) (nm : Nat → ByteArray) (s : ByteArray) : ∃ r, Ixn n nm s r := by
  rcases first_bad (fun j => nm j ≠ s) n with h | ⟨i, h1, h2, h3⟩
  · exact ⟨-1, .inl ⟨rfl, h⟩⟩
  · exact ⟨i, .inr ⟨i, h1, h2, Classical.byContradiction h3, rfl⟩⟩
/-- The first item with the name of item i. -/
theorem ix_own {n : Nat} {nm : Nat → ByteArray} {i : Nat} {r : Int} (hi : i < n) (h : Ixn n nm (nm i) r) : (r = (i : Int) ↔ ∀ k, k < i → nm k ≠ nm i) ∧ 0 ≤ r ∧ r ≤ i := by
  rcases h with ⟨rfl, h⟩ | ⟨j, hj, h1, h2, rfl⟩
  · exact absurd rfl (h i hi)
  · have hji : j ≤ i := Nat.le_of_not_lt fun e => h1 i e rfl
    refine ⟨⟨fun e k hk => h1 k (by omega), fun h => ?_⟩, by omega, by omega⟩
    rcases Nat.lt_or_ge j i with e | e
    · exact absurd h2 (h j e)
    · omega

end Go.Proofs.Ytkenanicohoigaa
