/- The reference's ParseRat: where the first stroke stands; decimal's outcome. -/
import Derived.Test.YtgdclneolgmggaaGreatDoorPqm
namespace Go.Proofs.YtgdclneolgmggaaGreatDoor
open Go.RowKit Kb Go.Lib

/-- The first stroke's place from k on, or the text's length. -/
def fsl (l : List UInt8) (k : Nat) : Nat := k + (cutS (l.drop k)).1.length

theorem fsl_end (l : List UInt8) : fsl l l.length = l.length := by unfold fsl; rw [List.drop_length]; rfl
theorem fsl_hit {l : List UInt8} {j : Nat} (h : l[j]? = some 47) : fsl l j = j := by
  obtain ⟨h1, h2⟩ := List.getElem?_eq_some_iff.1 h
  unfold fsl
  rw [List.drop_eq_getElem_cons h1, h2, cutS_hit]; rfl
theorem fsl_miss {l : List UInt8} {j : Nat} {b : UInt8} (h : l[j]? = some b) (hb : b ≠ 47) : fsl l j = fsl l (j + 1) := by
  obtain ⟨h1, h2⟩ := List.getElem?_eq_some_iff.1 h
  unfold fsl
  rw [List.drop_eq_getElem_cons h1, h2, cutS_miss hb, List.length_cons]; omega
theorem fsl_zero (l : List UInt8) : fsl l 0 = (cutS l).1.length := by unfold fsl; rw [List.drop_zero, Nat.zero_add]
theorem fsl_le (l : List UInt8) (k : Nat) (h : k ≤ l.length) : fsl l k ≤ l.length := by
  unfold fsl
  have := (cutS_len (l.drop k)).1
  rw [List.length_drop] at this
  omega

def Dco (w : World) (l : List UInt8) (e : Ending) (w' : World) : Prop := ∃ p A n c z r, e = .returned (.tuple #[.agg #[.bool p, .slice A n c], .int .i64 r]) ∧ ((Ad l ∧ r = 0 ∧ z = rz l) ∨ (¬ Ad l ∧ r = 7 ∧ z = 0)) ∧ Zn w' p A n c z ∧ Below w.heap.size w w'

theorem rDec_any (s : ByteArray) (w : World) (hs : s.size ≤ 1000) :
    Calls Tryz.prog 51 #[.string s] w fun e w' => Dco w (bl s) e w' := by
  refine (rDec s w hs).mono ?_
  rintro e w' ⟨⟨h, rfl⟩ | ⟨h, p, A, n, c, rfl, hz⟩, hb⟩
  · exact ⟨false, none, 0, 0, 0, 7, rfl, .inr ⟨h, rfl, rfl⟩, zn_zero _, hb⟩
  · exact ⟨p, A, n, c, _, 0, rfl, .inl ⟨h, rfl, rfl⟩, hz, hb⟩

theorem rv_z (N : Int) : rv N 0 = rv N 1 := rfl
theorem rz_one : rz [49] = 1 := by
  have := (good_itoa 1).2
  rw [itoa_pos (by decide)] at this
  exact (congrArg rz (dec_small (u := 1) (by decide)).symm).trans this

theorem ad_good {l : List UInt8} (h : Good l) : Ad l := h.1.2.1

theorem cut_take (l : List UInt8) : l.take (cutS l).1.length = (cutS l).1 := by
  have hj := cutS_join l
  generalize (cutS l).2 = o at hj
  generalize (cutS l).1 = a at hj ⊢
  subst hj
  exact List.take_left

theorem cut_drop {l r : List UInt8} (h : (cutS l).2 = some r) : l.drop ((cutS l).1.length + 1) = r := by
  have hj := cutS_join l
  rw [h] at hj
  generalize (cutS l).1 = a at hj ⊢
  subst hj
  rw [← List.drop_drop, List.drop_left]; rfl

theorem cut_none {l : List UInt8} (h : (cutS l).2 = none) : (cutS l).1.length = l.length := by
  have := cutS_join l
  rw [h] at this
  have e := congrArg List.length this
  simp at e
  omega
theorem cut_some {l r : List UInt8} (h : (cutS l).2 = some r) : (cutS l).1.length < l.length := by
  have := cutS_join l
  rw [h] at this
  have e := congrArg List.length this
  simp at e
  omega
theorem bl_extract (s : ByteArray) (i j : Nat) : bl (s.extract i j) = ((bl s).take j).drop i := by
  show (s.extract i j).data.toList = _
  rw [ByteArray.data_extract, Array.toList_extract]
  simp [bl, List.drop_take]

end Go.Proofs.YtgdclneolgmggaaGreatDoor
