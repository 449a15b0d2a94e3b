/- appendDigit: limbs times ten plus a digit. For all slices that read as limbs with room for the result. -/
import Derived.Test.YtgdclneolgmggaaGreatDoorMA
namespace Go.Proofs.YtgdclneolgmggaaGreatDoor
open Go.RowKit Kb

/-- Behind k limbs of the multiplication by ten. -/
def AdRel (xs : List Nat) (d k : Nat) (o : List Nat) (c : Nat) : Prop :=
  o.length = xs.length ∧ Lim o ∧ (∀ i, k ≤ i → nth o i = nth xs i) ∧ c < 256 ∧ val (o.take k) + 65536 ^ k * c = 10 * val (xs.take k) + d

theorem AdRel.start {xs : List Nat} {d : Nat} (hx : Lim xs) (hd : d < 256) : AdRel xs d 0 xs d := ⟨rfl, hx, fun _ _ => rfl, hd, by simp [val]⟩

theorem AdRel.next {xs : List Nat} {d k c : Nat} {o : List Nat} (h : AdRel xs d k o c) (hk : k < xs.length) :
    AdRel xs d (k + 1) (o.set k ((c + 10 * nth xs k) % 65536)) ((c + 10 * nth xs k) / 65536) := by
  obtain ⟨h1, h2, h3, h4, h5⟩ := h
  have hx : nth xs k < 65536 := by rw [← h3 k (Nat.le_refl _)]; exact lim_nth h2 k
  have hko : k < o.length := by omega
  refine ⟨by rw [List.length_set]; exact h1, lim_set h2 (Nat.mod_lt _ (by decide)), fun i hi => ?_, by omega, ?_⟩
  · rw [nth_set hko, if_neg (by omega)]; exact h3 i (by omega)
  · rw [take_set_succ hko, val_snoc, List.length_take, Nat.min_eq_left (by omega), val_take_succ', Nat.mul_add, Nat.pow_succ]
    have e : c + 10 * nth xs k = 65536 * ((c + 10 * nth xs k) / 65536) + (c + 10 * nth xs k) % 65536 := (Nat.div_add_mod _ _).symm
    generalize (c + 10 * nth xs k) / 65536 = q at *
    generalize (c + 10 * nth xs k) % 65536 = r at *
    generalize 65536 ^ k = P at *
    generalize val (o.take k) = V at *
    have e2 : P * c + 10 * (P * nth xs k) = P * (65536 * q + r) := by rw [← e, Nat.mul_add, Nat.mul_left_comm P 10]
    rw [Nat.mul_add] at e2
    rw [Nat.mul_assoc]
    omega

theorem AdRel.done {xs : List Nat} {d c : Nat} {o : List Nat} (h : AdRel xs d xs.length o c) (hb : 10 * val xs + d < 65536 ^ xs.length) : val o = 10 * val xs + d := by
  obtain ⟨h1, h2, h3, h4, h5⟩ := h
  rw [val_take_ge (by omega), val_take_ge (Nat.le_refl _)] at h5
  rcases Nat.eq_zero_or_pos c with e | e
  · subst e; omega
  · have := Nat.le_mul_of_pos_right (65536 ^ xs.length) e
    omega

set_option maxRecDepth 100000 in
set_option maxHeartbeats 1000000 in
theorem appendDigit_any (g c d : Nat) (xs : List Nat) (w : World) (hp : Pre w g 74 .u16 xs) (hx : Lim xs) (hd : d < 256) (hl : xs.length ≤ 1000000000) (hb : 10 * val xs + d < 65536 ^ xs.length) :
    Calls Tryz.prog 82 #[.slice (some ⟨g, 0, none⟩) xs.length c, .int .u8 d] w fun e w' =>
      e = .returned (.tuple #[]) ∧ ∃ o, o.length = xs.length ∧ Lim o ∧ val o = 10 * val xs + d ∧ Pre w' g 74 .u16 o ∧ w.grownBy w' (some g) := by
  have hdw := u32_of (s := d) (by omega)
  have Hb := hid hb
  clear hb
  go_enter Tryz.func82, Tryz.ntmps82
  go_wp2
  go_loopw [11, 4] (fun iv cv wr => ∃ (k cr : Nat) (o : List Nat), k ≤ xs.length ∧ iv = .int .i64 k ∧ cv = .int .u32 cr ∧ AdRel xs d k o cr ∧ Pre wr g 74 .u16 o ∧ w.grownBy wr (some g)) (fun iv _ _ => xs.length - (intOf iv).toNat)
  case atStart => exact ⟨0, d, xs, by omega, by go_num, rfl, AdRel.start hx hd, hp, World.grownBy.refl _ _⟩
  case round =>
    obtain ⟨k, cr, o, hk, rfl, rfl, hr, hrow, hgr⟩ := hrel
    by_cases h0 : k < xs.length
    · have hol := hid hr.1
      have hcell := hrow.cell (i := k) (by have := hr.1; omega)
      have hfr := hrow.frozen k
      have hxm := lim_nth hr.2.1 k
      have hxe := hr.2.2.1 k (Nat.le_refl _)
      rw [hxe] at hcell hxm
      have hcr := hr.2.2.2.1
      have hxw := u32_of (s := nth xs k) (by omega)
      have hm := u32_of (s := 10 * nth xs k) (by omega)
      have hs := u32_of (s := cr + 10 * nth xs k) (by omega)
      have Hn := hid (hr.next h0)
      clear hxe
      go_wp2
      refine ⟨⟨k + 1, _, _, by omega, by go_num, ?_, Hn.out, ?_, ?_⟩, by simp [intOf]; omega⟩
      · exact val_int (by omega)
      · have e : ((cr : Int) + 10 * (nth xs k : Int)) = ((cr + 10 * nth xs k : Nat) : Int) := by omega
        rw [e, u16_of]
        exact hrow.set (by have := hol.out; omega) _
      · exact gb_set hgr k _
    · obtain rfl : k = xs.length := by omega
      have Hd := hid (hr.done Hb.out)
      have hrl := hr.1
      have hrl2 := hr.2.1
      clear hr
      go_wp2
      go_end0
      exact ⟨rfl, o, hrl, hrl2, Hd.out, hrow, hgr⟩

end Go.Proofs.YtgdclneolgmggaaGreatDoor
