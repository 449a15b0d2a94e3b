/- The reference's gcd. For all numbers of at most 200000 limbs. -/
import Derived.Test.YtffipjofefemiaaGreatDoorMR2
import Derived.Test.YtffipjofefemiaaGreatDoorMI
namespace Go.Proofs.YtffipjofefemiaaGreatDoor
open Go.RowKit Kb

/-- A digit of a slice, 0 if there is none. -/
def rdc (w : World) (A : Option Addr) (i : Nat) : Nat :=
  match A with
  | some a => (match w.cell? (a.add i) with | some (.int _ z) => z.toNat | _ => 0)
  | none => 0
/-- The number that a slice of digits reads as. -/
def rdn (v : Value) (w : World) : Nat :=
  match v with
  | .slice A n _ => val ((List.range n).map (rdc w A))
  | _ => 0
theorem Nt.rdn {w : World} {v : Value} {a : Nat} (h : Nt w v a) : rdn v w = a := by
  obtain ⟨A, c, rfl, hs, _⟩ := h
  have e : (List.range (dig a).length).map (rdc w A) = dig a := by
    apply List.ext_getElem
    · simp
    · intro i hi hj
      obtain ⟨ad, rfl, _, hc⟩ := hs i hj
      rw [List.getElem_map, List.getElem_range]
      show (match w.cell? (ad.add i) with | some (.int _ z) => z.toNat | _ => 0) = _
      rw [hc]
      show Int.toNat _ = _
      rw [Int.toNat_natCast]
      exact nth_eq hj
  show val _ = a
  rw [e, val_dig]
theorem digle {a b : Nat} (h : a ≤ b) : (dig a).length ≤ (dig b).length := by
  apply dig_length_le
  have := val_lt (lim_dig b)
  rw [val_dig] at this
  omega
theorem nt_form {w : World} {v : Value} {a : Nat} (h : Nt w v a) : ∃ A c, v = .slice A (dig a).length c := by
  obtain ⟨A, c, e, _⟩ := h; exact ⟨A, c, e⟩
set_option maxRecDepth 100000 in
set_option maxHeartbeats 20000000 in
theorem rgcd (v u : Value) (a b : Nat) (w : World) (hv : Nt w v a) (hu : Nt w u b) (hla : (dig a).length ≤ 200000) (hlb : (dig b).length ≤ 200000) :
    Calls Tryz.prog 65 #[v, u] w fun e w' => ∃ r, e = .returned r ∧ Nt w' r (Nat.gcd a b) ∧ Below w.heap.size w w' := by
  go_enter Tryz.func65, Tryz.ntmps65
  go_wp2
  go_loopw [0, 1] (fun x y wr => ∃ a' b', Nt wr x a' ∧ Nt wr y b' ∧ Hid (Nat.gcd a' b' = Nat.gcd a b) ∧ (dig a').length ≤ 200000 ∧ (dig b').length ≤ 200000 ∧ Below w.heap.size w wr) (fun _ y wr => rdn y wr)
  case atStart => exact ⟨a, b, hv, hu, hid rfl, hla, hlb, Below.refl _ _⟩
  case round =>
    obtain ⟨a', b', hx, hy, HG, la, lb, hbel⟩ := hrel
    clear hv hu hla hlb
    have hy' := hy
    have hx' := hx
    obtain ⟨A, c, rfl⟩ := nt_form hx'
    obtain ⟨B, d, rfl⟩ := nt_form hy'
    have HB := hid hbel
    have Hm := hid hy.rdn
    clear hbel
    by_cases h0 : b' = 0
    · have hl : ¬ (0 : Int) < ((dig b').length : Int) := by subst h0; rw [dig_zero]; decide
      have Hr := hid (show a' = Nat.gcd a b by rw [← HG.out, h0, Nat.gcd_zero_right])
      clear h0
      go_wp2
      go_ret
      exact ⟨_, rfl, by rw [← Hr.out]; exact hx, HB.out⟩
    · have hl : (0 : Int) < ((dig b').length : Int) := by
        rcases Nat.eq_zero_or_pos (dig b').length with h | h
        · exact absurd (dig_nil_iff.1 (List.eq_nil_of_length_eq_zero h)) h0
        · omega
      have H0 := hid h0
      have HG2 := hid (show Nat.gcd b' (a' % b') = Nat.gcd a b by rw [← HG.out, Nat.gcd_comm b', gcd_mod])
      have Hlt := hid (Nat.mod_lt a' (Nat.pos_of_ne_zero h0))
      have Hl2 := hid (Nat.le_trans (digle (Nat.le_of_lt (Nat.mod_lt a' (Nat.pos_of_ne_zero h0)))) lb)
      clear h0
      go_wp2_with fail
      refine (rover _ _ a' b' wr hx hy H0.out (by omega) (by omega)).mono ?_
      rintro e w2 ⟨q, r, rfl, -, hr, hb2⟩
      have hy2 := hy.below hb2
      have hB2 := hid (bthen HB.out hb2 (Nat.le_refl _))
      clear hb2 hx hy
      go_wp2_with fail
      go_roundw
      case rel => exact ⟨b', a' % b', hy2, hr, HG2, lb, Hl2.out, hB2.out⟩
      case measure => rw [hr.rdn, Hm.out]; exact Hlt.out

end Go.Proofs.YtffipjofefemiaaGreatDoor
