/- The contracts of addLimbs, subLimbs, mulLimbs: sums, differences and products of numbers. For all numbers whose limbs fit into memory. -/
import Derived.Test.YtlfeendebbidhaaDoorTrim
namespace Go.Proofs.YtlfeendebbidhaaDoor
open Go.RowKit Kb

theorem Tryd.info16 : (Tryd.prog.info? 71).map (fun i => (i.zero, i.size, i.bytes)) = some (some (.int .u16 0), 1, 2) := by kernel_rfl

set_option maxRecDepth 100000 in
set_option maxHeartbeats 1000000 in
theorem addLimbs_ge (A B : Option Addr) (c d a b : Nat) (w : World) (hs : Sl w .u16 A (dig a))
    (hs2 : Sl w .u16 B (dig b)) (hge : (dig b).length ≤ (dig a).length) (hla : (dig a).length ≤ 1000000000) :
    Calls Tryd.prog 45 #[.slice A (dig a).length c, .slice B (dig b).length d] w fun e w' => ∃ v, e = .returned v ∧ Nm w' v (a + b) ∧ Below w.heap.size w w' := by
  obtain ⟨i0, hi, hz0, hz1, hz2⟩ := info_parts Tryd.info16
  have hmk := fun w => run_make_rowOf (P := Tryd.prog) 22 71 i0 .u16 (((dig a).length : Int) + 1) ((dig a).length + 1) w Tryd.underlying22 hi hz0 hz1 (by omega) (by omega) (by omega)
  clear hi hz0 hz1 hz2
  go_enter Tryd.func45, Tryd.ntmps45
  go_wp2
  go_loopw [6, 22] (fun c i wr => ∃ (k cr : Nat) (o : List Nat), k ≤ (dig a).length ∧ c = .int .u32 cr ∧ i = .int .i64 k ∧ AddRel a b k o cr ∧ Row wr w.heap.size 71 .u16 (o ++ List.replicate ((dig a).length + 1 - k) 0) ∧ Below w.heap.size w wr) (fun _ i _ => (dig a).length - (intOf i).toNat)
  case atStart => exact ⟨0, 0, [], Nat.zero_le _, rfl, rfl, AddRel.start a b, Row.new _ _ _ _, (Below.refl _ _).alloc (Nat.le_refl _) _⟩
  case round =>
    obtain ⟨k, cr, o, hk, rfl, rfl, hr, hrow, hbel⟩ := hrel
    have hnx := Hid.out (hid hr.next)
    have Hnx := hid hr.next
    have hcr : cr ≤ 1 := hr.2.2.1
    clear hnx
    have hfr := hrow.frozen k
    by_cases hlt : k < (dig a).length
    · obtain ⟨ad, rfl, hb1, hcell⟩ := (hs.below hbel) k hlt
      have hx := lim_nth (lim_dig a) k
      have hxw := u32_of (s := nth (dig a) k) (by omega)
      have hold := hrow.cell (i := k) (by rw [length_pad hr.1 (by omega)]; omega)
      by_cases hlb : k < (dig b).length
      · obtain ⟨bd, rfl, hb2, hcell2⟩ := (hs2.below hbel) k hlb
        have hy := lim_nth (lim_dig b) k
        have hyw := u32_of (s := nth (dig b) k) (by omega)
        go_wp2
        go_roundw
        case rel =>
          exact ⟨k + 1, (cr + nth (dig a) k + nth (dig b) k) / 65536, _, hlt, val_int (by omega), by go_num, Hnx.out, row_pad_set hrow hr.1 (by omega) (by omega), hbel.setCell (p := ⟨w.heap.size, k, none⟩) (Nat.le_refl _) _⟩
        case measure => simp [intOf]; omega
      · go_wp2
        go_roundw
        case rel =>
          have h0 : nth (dig b) k = 0 := nth_out (by omega)
          exact ⟨k + 1, (cr + nth (dig a) k + nth (dig b) k) / 65536, _, hlt, val_int (by omega), by go_num, Hnx.out, row_pad_set hrow hr.1 (by omega) (by omega), hbel.setCell (p := ⟨w.heap.size, k, none⟩) (Nat.le_refl _) _⟩
        case measure => simp [intOf]; omega
    · obtain rfl : k = (dig a).length := by omega
      have hold := hrow.cell (i := (dig a).length) (by rw [length_pad hr.1 (by omega)]; omega)
      have hrow2 := hrow.set (dig a).length cr
      rw [set_pad hr.1 (by omega), Nat.sub_self, List.replicate_zero, List.append_nil] at hrow2
      have hln : (o ++ [cr]).length = (dig a).length + 1 := by rw [List.length_append, hr.1]; rfl
      have Hln := hid hln; clear hln
      have hlim : Lim (o ++ [cr]) := lim_append.2 ⟨hr.2.1, fun x hm => by rw [List.mem_singleton] at hm; subst hm; omega⟩
      have hv := hr.done (Nat.le_refl _) hge
      rw [trimL_dig hlim] at hv
      have Hv := hid (dig_inj hv); clear hv
      clear hmk
      have hbel2 := hbel.setCell (p := ⟨w.heap.size, (dig a).length, none⟩) (Nat.le_refl _) (.int .u16 (cr : Int))
      go_wp2_with fail
      refine (trim_nm _ _ _ (o ++ [cr]) _ hrow2.sl hlim Hln.out (Nat.le_refl _) (by unfold maxLen; omega)).mono ?_
      rintro e w' ⟨v, rfl, hnm, rfl⟩
      go_wp2
      go_ret
      rw [Hv.out] at hnm
      exact ⟨v, rfl, hnm, hbel2⟩

set_option maxRecDepth 100000 in
set_option maxHeartbeats 1000000 in
theorem addLimbs_lt (A B : Option Addr) (c d a b : Nat) (w : World) (hs : Sl w .u16 A (dig a))
    (hs2 : Sl w .u16 B (dig b)) (hgt : (dig b).length < (dig a).length) (hla : (dig a).length ≤ 1000000000) :
    Calls Tryd.prog 45 #[.slice B (dig b).length d, .slice A (dig a).length c] w fun e w' => ∃ v, e = .returned v ∧ Nm w' v (a + b) ∧ Below w.heap.size w w' := by
  have hge : (dig b).length ≤ (dig a).length := by omega
  obtain ⟨i0, hi, hz0, hz1, hz2⟩ := info_parts Tryd.info16
  have hmk := fun w => run_make_rowOf (P := Tryd.prog) 22 71 i0 .u16 (((dig a).length : Int) + 1) ((dig a).length + 1) w Tryd.underlying22 hi hz0 hz1 (by omega) (by omega) (by omega)
  clear hi hz0 hz1 hz2
  go_enter Tryd.func45, Tryd.ntmps45
  go_wp2
  go_loopw [6, 22] (fun c i wr => ∃ (k cr : Nat) (o : List Nat), k ≤ (dig a).length ∧ c = .int .u32 cr ∧ i = .int .i64 k ∧ AddRel a b k o cr ∧ Row wr w.heap.size 71 .u16 (o ++ List.replicate ((dig a).length + 1 - k) 0) ∧ Below w.heap.size w wr) (fun _ i _ => (dig a).length - (intOf i).toNat)
  case atStart => exact ⟨0, 0, [], Nat.zero_le _, rfl, rfl, AddRel.start a b, Row.new _ _ _ _, (Below.refl _ _).alloc (Nat.le_refl _) _⟩
  case round =>
    obtain ⟨k, cr, o, hk, rfl, rfl, hr, hrow, hbel⟩ := hrel
    have hnx := Hid.out (hid hr.next)
    have Hnx := hid hr.next
    have hcr : cr ≤ 1 := hr.2.2.1
    clear hnx
    have hfr := hrow.frozen k
    by_cases hlt : k < (dig a).length
    · obtain ⟨ad, rfl, hb1, hcell⟩ := (hs.below hbel) k hlt
      have hx := lim_nth (lim_dig a) k
      have hxw := u32_of (s := nth (dig a) k) (by omega)
      have hold := hrow.cell (i := k) (by rw [length_pad hr.1 (by omega)]; omega)
      by_cases hlb : k < (dig b).length
      · obtain ⟨bd, rfl, hb2, hcell2⟩ := (hs2.below hbel) k hlb
        have hy := lim_nth (lim_dig b) k
        have hyw := u32_of (s := nth (dig b) k) (by omega)
        go_wp2
        go_roundw
        case rel =>
          exact ⟨k + 1, (cr + nth (dig a) k + nth (dig b) k) / 65536, _, hlt, val_int (by omega), by go_num, Hnx.out, row_pad_set hrow hr.1 (by omega) (by omega), hbel.setCell (p := ⟨w.heap.size, k, none⟩) (Nat.le_refl _) _⟩
        case measure => simp [intOf]; omega
      · go_wp2
        go_roundw
        case rel =>
          have h0 : nth (dig b) k = 0 := nth_out (by omega)
          exact ⟨k + 1, (cr + nth (dig a) k + nth (dig b) k) / 65536, _, hlt, val_int (by omega), by go_num, Hnx.out, row_pad_set hrow hr.1 (by omega) (by omega), hbel.setCell (p := ⟨w.heap.size, k, none⟩) (Nat.le_refl _) _⟩
        case measure => simp [intOf]; omega
    · obtain rfl : k = (dig a).length := by omega
      have hold := hrow.cell (i := (dig a).length) (by rw [length_pad hr.1 (by omega)]; omega)
      have hrow2 := hrow.set (dig a).length cr
      rw [set_pad hr.1 (by omega), Nat.sub_self, List.replicate_zero, List.append_nil] at hrow2
      have hln : (o ++ [cr]).length = (dig a).length + 1 := by rw [List.length_append, hr.1]; rfl
      have Hln := hid hln; clear hln
      have hlim : Lim (o ++ [cr]) := lim_append.2 ⟨hr.2.1, fun x hm => by rw [List.mem_singleton] at hm; subst hm; omega⟩
      have hv := hr.done (Nat.le_refl _) hge
      rw [trimL_dig hlim] at hv
      have Hv := hid (dig_inj hv); clear hv
      clear hmk
      have hbel2 := hbel.setCell (p := ⟨w.heap.size, (dig a).length, none⟩) (Nat.le_refl _) (.int .u16 (cr : Int))
      go_wp2_with fail
      refine (trim_nm _ _ _ (o ++ [cr]) _ hrow2.sl hlim Hln.out (Nat.le_refl _) (by unfold maxLen; omega)).mono ?_
      rintro e w' ⟨v, rfl, hnm, rfl⟩
      go_wp2
      go_ret
      rw [Hv.out] at hnm
      exact ⟨v, rfl, hnm, hbel2⟩


theorem addLimbs_nm {v u : Value} {a b : Nat} {w : World} (h : Nm w v a) (k : Nm w u b) (ha : (dig a).length ≤ 1000000000) (hb : (dig b).length ≤ 1000000000) :
    Calls Tryd.prog 45 #[v, u] w fun e w' => ∃ v, e = .returned v ∧ Nm w' v (a + b) ∧ Below w.heap.size w w' := by
  obtain ⟨A, c, rfl, h1, h2, h3⟩ := h
  obtain ⟨B, d, rfl, k1, k2, k3⟩ := k
  rcases Nat.lt_or_ge (dig a).length (dig b).length with hlt | hge
  · rw [Nat.add_comm a b]
    exact addLimbs_lt B A d c b a w k1 h1 hlt hb
  · exact addLimbs_ge A B c d a b w h1 k1 hge ha

set_option maxRecDepth 100000 in
set_option maxHeartbeats 1000000 in
theorem subLimbs_any (A B : Option Addr) (c d a b : Nat) (w : World) (hs : Sl w .u16 A (dig a))
    (hs2 : Sl w .u16 B (dig b)) (hge : b ≤ a) (hla : (dig a).length ≤ 1000000000) :
    Calls Tryd.prog 46 #[.slice A (dig a).length c, .slice B (dig b).length d] w fun e w' => ∃ v, e = .returned v ∧ Nm w' v (a - b) ∧ Below w.heap.size w w' := by
  have hlb' := dig_length_mono hge
  obtain ⟨i0, hi, hz0, hz1, hz2⟩ := info_parts Tryd.info16
  have hmk := fun w => run_make_rowOf (P := Tryd.prog) 22 71 i0 .u16 ((dig a).length : Int) (dig a).length w Tryd.underlying22 hi hz0 hz1 rfl (by omega) (by omega)
  clear hi hz0 hz1 hz2
  go_enter Tryd.func46, Tryd.ntmps46
  go_wp2
  go_loopw [6, 15] (fun c i wr => ∃ (k br : Nat) (o : List Nat), k ≤ (dig a).length ∧ c = .int .u32 br ∧ i = .int .i64 k ∧ SubRel a b k o br ∧ Row wr w.heap.size 71 .u16 (o ++ List.replicate ((dig a).length - k) 0) ∧ Below w.heap.size w wr) (fun _ i _ => (dig a).length - (intOf i).toNat)
  case atStart => exact ⟨0, 0, [], Nat.zero_le _, rfl, rfl, SubRel.start a b, Row.new _ _ _ _, (Below.refl _ _).alloc (Nat.le_refl _) _⟩
  case round =>
    obtain ⟨k, br, o, hk, rfl, rfl, hr, hrow, hbel⟩ := hrel
    have hbr : br ≤ 1 := hr.2.2.1
    have hfr := hrow.frozen k
    by_cases hlt : k < (dig a).length
    · obtain ⟨ad, rfl, hb1, hcell⟩ := (hs.below hbel) k hlt
      have hx := lim_nth (lim_dig a) k
      have hxw := u32_of (s := nth (dig a) k) (by omega)
      have hold := hrow.cell (i := k) (by rw [length_pad hr.1 (by omega)]; omega)
      by_cases hlb : k < (dig b).length
      · obtain ⟨bd, rfl, hb2, hcell2⟩ := (hs2.below hbel) k hlb
        have hy := lim_nth (lim_dig b) k
        have hyw := u32_of (s := nth (dig b) k) (by omega)
        go_wp2
        go_roundw
        case rel =>
          obtain ⟨d, br', q1, q2, q3, q4, q5⟩ := sub_digit hx hy hbr rfl
          rw [q4, q5]
          exact ⟨k + 1, br', _, hlt, rfl, by go_num, hr.next q1 q2 q3, row_pad_put hrow hr.1 hlt rfl, hbel.setCell (p := ⟨w.heap.size, k, none⟩) (Nat.le_refl _) _⟩
        case measure => simp [intOf]; omega
      · go_wp2
        go_roundw
        case rel =>
          have h0 : nth (dig b) k = 0 := nth_out (by omega)
          obtain ⟨d, br', q1, q2, q3, q4, q5⟩ := sub_digit (y := nth (dig b) k) (S := (nth (dig a) k : Int) - br) hx (by omega) hbr (by omega)
          rw [q4, q5]
          exact ⟨k + 1, br', _, hlt, rfl, by go_num, hr.next q1 q2 q3, row_pad_put hrow hr.1 hlt rfl, hbel.setCell (p := ⟨w.heap.size, k, none⟩) (Nat.le_refl _) _⟩
        case measure => simp [intOf]; omega
    · obtain rfl : k = (dig a).length := by omega
      rw [Nat.sub_self, List.replicate_zero, List.append_nil] at hrow
      have Hln := hid hr.1
      have Hv := hid (hr.done (Nat.le_refl _) hlb' hge)
      have hlim := hr.2.1
      clear hmk
      go_wp2_with fail
      refine (trim_nm _ _ _ o _ hrow.sl hlim Hln.out (Nat.le_refl _) (by unfold maxLen; omega)).mono ?_
      rintro e w' ⟨v, rfl, hnm, rfl⟩
      go_wp2
      go_ret
      rw [Hv.out] at hnm
      exact ⟨v, rfl, hnm, hbel⟩

theorem subLimbs_nm {v u : Value} {a b : Nat} {w : World} (h : Nm w v a) (k : Nm w u b) (hge : b ≤ a) (ha : (dig a).length ≤ 1000000000) :
    Calls Tryd.prog 46 #[v, u] w fun e w' => ∃ v, e = .returned v ∧ Nm w' v (a - b) ∧ Below w.heap.size w w' := by
  obtain ⟨A, c, rfl, h1, h2, h3⟩ := h
  obtain ⟨B, d, rfl, k1, k2, k3⟩ := k
  exact subLimbs_any A B c d a b w h1 k1 hge ha

end Go.Proofs.YtlfeendebbidhaaDoor
