/- The contracts of the verifier's constructors: limbs, Z, W. For all integers of a machine word. -/
import Derived.Test.YtlfeendebbidhaaDoorSame
namespace Go.Proofs.YtlfeendebbidhaaDoor
open Go.RowKit Kb

theorem Nm.of_own {w : World} {base n : Nat} {v : Value} {o : List Nat} {a : Nat} (h : w.ownsRow base 71 1 v n (vals .u16 o)) (ha : dig a = o) : Nm w v a := by
  have hl := h.1
  rw [vals_length] at hl
  subst ha
  rcases id h.2 with ⟨e, h0⟩ | ⟨g, cap, cur, e, _, _, h1, h2, _⟩
  · subst h0
    have : a = 0 := dig_nil_iff.1 (List.eq_nil_of_length_eq_zero (by omega))
    subst this
    rw [e]
    exact nm_nil w
  · have hn : n = (dig a).length := by omega
    subst hn
    subst e
    exact ⟨_, cap, rfl, Sl.of_own h, h1, h2⟩

set_option maxRecDepth 100000 in
set_option maxHeartbeats 2000000 in
theorem limbs_any (a : Nat) (w : World) (ha : a < 18446744073709551616) :
    Calls Tryd.prog 64 #[.int .u64 a] w fun e w' => ∃ v, e = .returned v ∧ Nm w' v a ∧ Below w.heap.size w w' := by
  have hla : (dig a).length ≤ 4 := dig_length_le (by rw [show (65536 : Nat) ^ 4 = 18446744073709551616 from rfl]; exact ha)
  have Ha := hid ha; clear ha
  obtain ⟨i0, hi, hz0, hz1, hz2⟩ := info_parts Tryd.info16
  go_enter Tryd.func64, Tryd.ntmps64
  go_wp2
  go_loopw [0, 3] (fun x v wr => ∃ (r : Nat) (o : List Nat) (vv : Value), dig a = o ++ dig r ∧ x = .int .u64 r ∧ r ≤ a ∧ vv = v ∧ wr.ownsRow w.heap.size 71 1 vv o.length (vals .u16 o) ∧ Below w.heap.size w wr) (fun x _ _ => (intOf x).toNat)
  case atStart => exact ⟨a, [], _, rfl, rfl, Nat.le_refl _, rfl, World.ownsRow_nil _ _ _ _, Below.refl _ _⟩
  case round =>
    obtain ⟨r, o, v, hd, rfl, hra, hvv, hown, hbel⟩ := hrel
    subst hvv
    have Hd := hid hd; clear hd
    by_cases hr : r = 0
    · have Hd2 := hid (dig_rest Hd.out hr)
      have hr' : ¬ (0 : Int) < (r : Int) := by omega
      clear hr
      go_wp2
      go_ret
      exact ⟨_, rfl, Nm.of_own hown Hd2.out, hbel⟩
    · have hr' : (0 : Int) < (r : Int) := by omega
      have hroom := room_of Hd.out hr hla
      obtain ⟨x, hx⟩ : ∃ x, x = r % 65536 := ⟨_, rfl⟩
      have hd2 := dig_out Hd.out hr
      rw [← hx] at hd2
      have Hd2 := hid hd2
      have hm : bits .and .u64 (r : Int) 65535 = (x : Int) := by
        rw [hx, show (65535 : Int) = ((65535 : Nat) : Int) from rfl, u64_and_nat _ _ (by have := Ha.out; omega) (by decide)]
        have := Nat.and_two_pow_sub_one_eq_mod r 16
        rw [show (2 : Nat) ^ 16 - 1 = 65535 from rfl, show (2 : Nat) ^ 16 = 65536 from rfl] at this
        rw [this]
      have hxw : IntKind.u16.wrap (x : Int) = (x : Int) := by rw [IntKind.wrap_u16]; omega
      have hsz := hbel.size
      have hrp : 0 < r := by omega
      clear hx hd2 hr
      go_wp2_with (at_builtin; (refine wpList_append_own _ rfl (.tmp 8) (.tmp 12) 22 rfl w.heap.size 71 i0 (.int .u16 0) 1 2 Tryd.underlying22 hi hz0 hz1 hz2 rfl (by decide) v o.length (vals .u16 o) rfl (hown.alloc _) ⟨wr.heap.size, 0, none⟩ 1 1 [.int .u16 (x : Int)] rfl rfl (cell_one_new _ _ _) (one_cell _ rfl) (by unfold maxLen; omega) (by omega) (by simp; omega) ?_))
      intro v' w1 hown1 hgrow1 _
      have hl1 := hown.lt
      have hb1 := (hbel.alloc hsz (.cells #[.int .u16 (x : Int)] 71)).grown hgrow1 (by simp; omega) (fun k hk => (hl1 k hk).1)
      rw [vals_snoc .u16 o x _ rfl, show o.length + 1 = (o ++ [x]).length from by simp] at hown1
      have Hown := hid hown1
      clear hown1 hown hgrow1 hl1 hm hxw
      go_wp2
      go_roundw
      case rel => exact ⟨r / 65536, _, _, Hd2.out, by go_num, by omega, rfl, Hown.out, hb1⟩
      case measure => simp [intOf]; omega

set_option maxRecDepth 100000 in
set_option maxHeartbeats 1000000 in
theorem Z_any (z : Int) (w : World) (h1 : -9223372036854775808 ≤ z) (h2 : z ≤ 9223372036854775807) :
    Calls Tryd.prog 34 #[.int .i64 z] w fun e w' => ∃ v, e = .returned v ∧ Nz w' v z ∧ Below w.heap.size w w' := by
  have hb0 := fun o => (Below.refl w.heap.size w).alloc (Nat.le_refl _) o
  by_cases hz : z < 0
  · go_enter Tryd.func34, Tryd.ntmps34
    go_wp2_with fail
    rw [show -(z + 1) + 1 = (z.natAbs : Int) by omega]
    refine (limbs_any z.natAbs _ (by omega)).mono ?_
    rintro e w1 ⟨v1, rfl, hv1, hb1⟩
    obtain ⟨A, c, rfl, hq⟩ := id hv1
    have hb4 := bthen (hb0 _) hb1 (Nat.le_refl _)
    have c0 := box_cell hb1 0
    have c1 := box_cell hb1 1
    have f0 := box_frozen hb1 0
    have f1 := box_frozen hb1 1
    have hbx := hid (box_heap hb1)
    have hz' := box_size hb1
    have h5 := (hb4.setCell (p := ⟨w.heap.size, 0, none⟩) (Nat.le_refl _) (.bool true)).setCell (p := ⟨w.heap.size, 1, none⟩) (Nat.le_refl _) (.slice A (dig z.natAbs).length c)
    have hn5 := hv1.offbox hbx.out (noInt_zero _ _ _ _) (gb2 _ w.heap.size 0 1 (.bool true) (.slice A (dig z.natAbs).length c))
    clear hq
    simp at c0 c1
    go_wp2
    refine bodyPost_ret (v := .agg #[.bool true, .slice A (dig z.natAbs).length c]) (by simp [results, Tryd.results34, go_sem, c0, c1]) rfl ⟨_, rfl, ⟨A, (dig z.natAbs).length, c, ?_, ?_⟩, h5⟩
    · rw [decide_eq_true hz]
    · exact hn5
  · obtain ⟨n, rfl⟩ : ∃ n : Nat, z = n := ⟨z.toNat, by omega⟩
    go_enter Tryd.func34, Tryd.ntmps34
    go_wp2_with fail
    refine (limbs_any n _ (by omega)).mono ?_
    rintro e w1 ⟨v1, rfl, hv1, hb1⟩
    obtain ⟨A, c, rfl, hq⟩ := id hv1
    have hb4 := bthen (hb0 _) hb1 (Nat.le_refl _)
    have c0 := box_cell hb1 0
    have c1 := box_cell hb1 1
    have f0 := box_frozen hb1 0
    have f1 := box_frozen hb1 1
    have hbx := hid (box_heap hb1)
    have hz' := box_size hb1
    have h5 := (hb4.setCell (p := ⟨w.heap.size, 0, none⟩) (Nat.le_refl _) (.bool false)).setCell (p := ⟨w.heap.size, 1, none⟩) (Nat.le_refl _) (.slice A (dig n).length c)
    have hn5 := hv1.offbox hbx.out (noInt_zero _ _ _ _) (gb2 _ w.heap.size 0 1 (.bool false) (.slice A (dig n).length c))
    clear hq
    simp at c0 c1
    go_wp2
    refine bodyPost_ret (v := .agg #[.bool false, .slice A (dig n).length c]) (by simp [results, Tryd.results34, go_sem, c0, c1]) rfl ⟨_, rfl, ⟨A, (dig n).length, c, ?_, ?_⟩, h5⟩
    · rw [decide_eq_false (by omega)]
    · rw [Int.natAbs_natCast]; exact hn5

end Go.Proofs.YtlfeendebbidhaaDoor
