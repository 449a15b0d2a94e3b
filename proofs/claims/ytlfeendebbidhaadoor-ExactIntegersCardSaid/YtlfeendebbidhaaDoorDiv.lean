/- The contracts of Clone at limbs and of divideBy. For all slices that read as limbs and fit into memory. -/
import Derived.Test.YtlfeendebbidhaaDoorMul
import Derived.Lib.SliceRun
namespace Go.Proofs.YtlfeendebbidhaaDoor
open Go.RowKit Kb

set_option maxRecDepth 100000 in
set_option maxHeartbeats 1000000 in
theorem divideBy_any (g c b : Nat) (xs : List Nat) (w : World) (hp : Pre w g 71 .u16 xs) (hx : Lim xs) (hb : 0 < b) (hb2 : b < 65536) (hl : xs.length ≤ 1000000000) :
    Calls Tryd.prog 71 #[.slice (some ⟨g, 0, none⟩) xs.length c, .int .u16 b] w fun e w' =>
      e = .returned (.int .u16 (val xs % b : Nat)) ∧ ∃ o, o.length = xs.length ∧ Lim o ∧ val o = val xs / b ∧ Pre w' g 71 .u16 o ∧ w.grownBy w' (some g) := by
  have hbw := u32_of (s := b) (by omega)
  have hb0 : ((b : Int) == 0) = false := by rw [beq_eq_false_iff_ne]; omega
  go_enter Tryd.func71, Tryd.ntmps71
  go_wp2
  go_loopw [5, 6] (fun rv iv wr => ∃ (k r : Nat) (o : List Nat), k ≤ xs.length ∧ rv = .int .u32 r ∧ iv = .int .i64 ((k : Int) - 1) ∧ DivRel xs b k o r ∧ Pre wr g 71 .u16 o ∧ w.grownBy wr (some g)) (fun _ iv _ => (intOf iv + 1).toNat)
  case atStart => exact ⟨xs.length, 0, xs, Nat.le_refl _, rfl, by go_num, DivRel.start hx hb, hp, World.grownBy.refl _ _⟩
  case round =>
    obtain ⟨k, r, o, hk, rfl, rfl, hr, hrow, hgr⟩ := hrel
    have hrb := hr.2.2.1
    by_cases h0 : 0 < k
    · obtain ⟨m, rfl⟩ : ∃ m, k = m + 1 := ⟨k - 1, by omega⟩
      rw [show ((m + 1 : Nat) : Int) - 1 = (m : Int) by omega]
      have hol := hid hr.1
      have hcell := hrow.cell (i := m) (by have := hr.1; omega)
      have hfr := hrow.frozen m
      have hxm := lim_nth hr.2.1 m
      have hxw := u32_of (s := nth o m) (by omega)
      have Hn := hid (hr.next (by omega))
      have hor := or_shl16 (r := r) (x := nth o m) (by omega) hxm rfl rfl
      go_wp2
      go_roundw
      case rel =>
        have e : ((r : Int) * 65536 + (nth o m : Int)) = ((r * 65536 + nth o m : Nat) : Int) := by omega
        rw [e, ← Int.natCast_ediv, ← Int.natCast_emod, u16_of, Nat.mod_eq_of_lt Hn.out.2]
        exact ⟨m, _, _, by omega, rfl, rfl, Hn.out.1, hrow.set (by have := hol.out; omega) _, gb_set hgr m _⟩
      case measure => simp [intOf]
    · obtain rfl : k = 0 := by omega
      have Hd := hid hr.done
      have hrl := hr.1
      have hrl2 := hr.2.1
      go_wp2
      go_ret
      exact ⟨ret_int (by have := Hd.out.2; omega), o, hrl, hrl2, Hd.out.1, hrow, hgr⟩


set_option maxRecDepth 100000 in
set_option maxHeartbeats 1000000 in
theorem clone_any (A : Option Addr) (c : Nat) (xs : List Nat) (w : World) (hs : Sl w .u16 A xs) (hx : xs ≠ []) (hl : xs.length ≤ 1000000000) :
    Calls Tryd.prog 70 #[.slice A xs.length c] w fun e w' => ∃ g c', e = .returned (.slice (some ⟨g, 0, none⟩) xs.length c') ∧ w.heap.size ≤ g ∧ xs.length ≤ c' ∧ c' ≤ maxLen ∧ Pre w' g 71 .u16 xs ∧ Below w.heap.size w w' := by
  obtain ⟨i0, hi, hz0, hz1, hz2⟩ := info_parts Tryd.info16
  have hpos : 0 < xs.length := List.length_pos_iff.2 hx
  obtain ⟨ad, rfl, hb, hcell0⟩ := hs 0 hpos
  clear hcell0
  have hnil := fun w => Lib.run_eql_slice_nil (P := Tryd.prog) w 22 71 (some ad) xs.length c 0 0 Tryd.underlying22
  simp only [Option.isNone_some] at hnil
  go_enter Tryd.func70, Tryd.ntmps70
  go_wp2_with (at_builtin; refine wpList_append_own _ rfl (.tmp 5) (.tmp 6) 22 rfl w.heap.size 71 i0 (.int .u16 0) 1 2 Tryd.underlying22 hi hz0 hz1 hz2 rfl (by decide) (.slice (some ⟨w.heap.size, 0, none⟩) 0 0) 0 [] rfl (World.ownsRow_made _ _ 0 (Nat.le_refl _) (by unfold maxLen; omega) rfl) ad xs.length c (vals .u16 xs) rfl (by rw [vals_length]; omega) ?c1 ?c2 (by unfold maxLen; omega) (by omega) (by simp) ?_)
  case c1 => exact (hs.below ((Below.refl _ _).alloc (Nat.le_refl _) _)).cells
  case c2 => exact vals_one _ _
  intro v' w1 hown hgrow _
  have hbel := ((Below.refl w.heap.size w).alloc (Nat.le_refl _) (.cells #[] 71)).grown hgrow (by simp) (fun k hk => by simp [Value.ownBlock] at hk; omega)
  obtain ⟨g, c', hv, h1, h2, h3⟩ := own_form hown hpos
  have Hv := hid hv
  clear hv hgrow hnil
  go_wp2
  go_ret
  rw [Hv.out] at hown ⊢
  exact ⟨g, c', rfl, h1, h2, h3, Pre.of_own hown, hbel⟩

end Go.Proofs.YtlfeendebbidhaaDoor
