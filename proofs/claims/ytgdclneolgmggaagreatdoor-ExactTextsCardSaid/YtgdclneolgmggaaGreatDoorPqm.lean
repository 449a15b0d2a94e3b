/- The mathematics of ParseRat: the text of a fraction, parted at its first stroke. No program is run in this text. -/
import Derived.Test.YtgdclneolgmggaaGreatDoorRfq
import Derived.Test.YtgdclneolgmggaaGreatDoorPar
import Derived.Lib.IndexMore
namespace Go.Proofs.YtgdclneolgmggaaGreatDoor
open Go.RowKit Kb Go.Lib

/-- What stands ahead of the first stroke, and what behind it. -/
def cutS : List UInt8 → List UInt8 × Option (List UInt8)
  | [] => ([], none)
  | b :: l => if b = 47 then ([], some l) else (b :: (cutS l).1, (cutS l).2)

theorem cutS_hit (l : List UInt8) : cutS (47 :: l) = ([], some l) := by unfold cutS; rw [if_pos rfl]
theorem cutS_miss {b : UInt8} (h : b ≠ 47) (l : List UInt8) : cutS (b :: l) = (b :: (cutS l).1, (cutS l).2) := by
  conv => lhs; unfold cutS
  rw [if_neg h]

theorem cutS_join (l : List UInt8) : l = (cutS l).1 ++ (match (cutS l).2 with | none => [] | some r => 47 :: r) := by
  induction l with
  | nil => rfl
  | cons b l ih =>
    by_cases h : b = 47
    · subst h; rw [cutS_hit]; rfl
    · rw [cutS_miss h]
      show b :: l = b :: ((cutS l).1 ++ _)
      congr 1

theorem index_slash (l : List UInt8) : Lib.index l [47] = if (cutS l).2.isSome then ((cutS l).1.length : Int) else -1 := by
  induction l with
  | nil => rfl
  | cons b l ih =>
    unfold Lib.index
    by_cases h : b = 47
    · subst h
      rw [cutS_hit, if_pos (by cases l <;> rfl)]; rfl
    · have hp : ([47] : List UInt8).isPrefixOf (b :: l) = false := by
        show ((47 == b) && _) = false
        rw [beq_eq_false_iff_ne.2 (Ne.symm h), Bool.false_and]
      rw [cutS_miss h, hp, ih]
      cases hs : (cutS l).2.isSome with
      | false => simp
      | true =>
        have : ((((cutS l).1.length : Int)) == -1) = false := by rw [beq_eq_false_iff_ne]; omega
        simp [this]

theorem cut_slash (l : List UInt8) : Lib.cut l [47] = ((cutS l).1, ((cutS l).2).getD [], (cutS l).2.isSome) := by
  have hj := cutS_join l
  unfold Lib.cut
  rw [index_slash]
  cases hs : (cutS l).2 with
  | none =>
    rw [hs] at hj
    rw [if_neg (by simp)]
    simp only [List.append_nil] at hj
    rw [← hj]; rfl
  | some r =>
    rw [hs] at hj
    simp only at hj
    rw [Option.isSome_some, if_pos rfl, if_pos (by omega), Int.toNat_natCast]
    generalize (cutS l).1 = a at hj
    subst hj
    rw [List.take_left, show a.length + ([47] : List UInt8).length = a.length + 1 from rfl, ← List.drop_drop, List.drop_left]
    rfl

theorem cutS_append {a : List UInt8} (h : (47 : UInt8) ∉ a) (l : List UInt8) : cutS (a ++ l) = (a ++ (cutS l).1, (cutS l).2) := by
  induction a with
  | nil => rfl
  | cons b a ih =>
    have hb : b ≠ 47 := fun e => h (by rw [e]; simp)
    rw [List.cons_append, cutS_miss hb, ih (fun e => h (List.mem_cons_of_mem _ e))]
    rfl

theorem itoa_no (z : Int) : (47 : UInt8) ∉ itoa z := by
  intro h
  have hd : ∀ u, (47 : UInt8) ∉ decDigits u := fun u hm => by
    have := (dec_isD u _ hm).1
    have e : (47 : UInt8).toNat = 47 := rfl
    omega
  by_cases h0 : z < 0
  · rw [itoa_neg h0] at h
    rcases List.mem_cons.1 h with h | h
    · exact absurd h (by decide)
    · exact hd _ h
  · rw [itoa_pos (by omega)] at h
    exact hd _ h

/-- The denominator's text. -/
def den (l : List UInt8) : List UInt8 := match (cutS l).2 with | none => [49] | some r => r

/-- The fraction that a text would be. -/
def xq (l : List UInt8) : Rat := rv (rz (cutS l).1) (rz (den l))

theorem fq_cut (q : Rat) : (cutS (fq q)).1 = itoa q.num ∧ den (fq q) = itoa (q.den : Int) := by
  unfold fq den
  by_cases h : q.den = 1
  · rw [if_pos h]
    have := cutS_append (itoa_no q.num) []
    rw [List.append_nil] at this
    rw [this, h]
    refine ⟨by show itoa q.num ++ [] = _; rw [List.append_nil], ?_⟩
    show [49] = itoa 1
    rw [itoa_pos (by decide)]
    exact (dec_small (u := 1) (by decide)).symm
  · rw [if_neg h, cutS_append (itoa_no q.num), cutS_hit]
    exact ⟨by show itoa q.num ++ [] = _; rw [List.append_nil], rfl⟩

theorem xq_fq (q : Rat) : xq (fq q) = q := by
  obtain ⟨h1, h2⟩ := fq_cut q
  unfold xq
  rw [h1, h2, (good_itoa _).2, (good_itoa _).2]
  exact rv_self q

/-- A text of a fraction has good parts. -/
theorem good_parts {l : List UInt8} (h : fq (xq l) = l) : Good (cutS l).1 ∧ Good (den l) := by
  have := fq_cut (xq l)
  rw [h] at this
  rw [this.1, this.2]
  exact ⟨(good_itoa _).1, (good_itoa _).1⟩

/-- What ParseRat tells of a text. -/
def Psq (w : World) (l : List UInt8) (e : Ending) (w' : World) : Prop := ∃ s1 A1 n1 c1 s2 A2 n2 c2 r, e = .returned (.tuple #[.agg #[.bool s1, .slice A1 n1 c1, .bool s2, .slice A2 n2 c2], .int .i64 r]) ∧ Below w.heap.size w w' ∧
  ((r = 0 ∧ l.length ≤ 800 ∧ fq (xq l) = l ∧ Qf w' s1 A1 n1 c1 s2 A2 n2 c2 (xq l)) ∨ (Zn w' s1 A1 n1 c1 0 ∧ Zn w' s2 A2 n2 c2 0 ∧ ((800 < l.length ∧ r = 8) ∨ (l.length ≤ 800 ∧ fq (xq l) ≠ l ∧ r = 7))))

/-- bytealg's variable holds a number. -/
def Mx (w : World) : Prop := ∃ m, w.cell? ⟨1, 0, none⟩ = some (.int .i64 m) ∧ 1 < w.heap.size
theorem Mx.below {w w' : World} (h : Mx w) (hb : Below w.heap.size w w') : Mx w' := by
  obtain ⟨m, h1, h2⟩ := h
  exact ⟨m, by rw [hb.cell (p := ⟨1, 0, none⟩) h2]; exact h1, Nat.lt_of_lt_of_le h2 hb.size⟩

theorem cutCall (s : ByteArray) (w : World) (h : Mx w) (hs : s.size ≤ 100000) :
    Calls Tryz.prog 50 #[.string s, .string ⟨#[47]⟩] w fun e w' => ∃ sa sb f, e = .returned (.tuple #[.string sa, .string sb, .bool f]) ∧ Hid (bl sa = (cutS (bl s)).1) ∧ Hid (bl sb = ((cutS (bl s)).2).getD []) ∧ Hid (f = (cutS (bl s)).2.isSome) ∧ Below w.heap.size w w' := by
  obtain ⟨m, hm, _⟩ := h
  refine (Tryz.strings_Cut s ⟨#[47]⟩ m w (by omega) hm).mono ?_
  rintro e w' ⟨rfl, n, rfl⟩
  rw [show (⟨#[47]⟩ : ByteArray).data.toList = [47] from rfl, show s.data.toList = bl s from rfl, cut_slash]
  exact ⟨_, _, _, rfl, rfl, rfl, rfl, ⟨rfl, rfl, rfl, Nat.le_refl _, fun _ _ => rfl⟩⟩

theorem cutS_len (l : List UInt8) : (cutS l).1.length ≤ l.length ∧ (((cutS l).2).getD []).length ≤ l.length := by
  have hj := cutS_join l
  have := congrArg List.length hj
  cases hs : (cutS l).2 with
  | none =>
    rw [hs] at this
    simp at this ⊢
    omega
  | some r =>
    rw [hs] at this
    simp at this ⊢
    omega

end Go.Proofs.YtgdclneolgmggaaGreatDoor
