/- Where what the constructors make lies: in new memory. limbs, Z, W at natural numbers of a machine word. -/
import Derived.Test.YtlfeendebbidhaaDoorRat
namespace Go.Proofs.YtlfeendebbidhaaDoor
open Go.RowKit Kb

/-- The slice v, if it isn't nil, lies in block B or behind it. -/
def Fs (B : Nat) (v : Value) : Prop := ∀ ad n c, v = .slice (some ad) n c → B ≤ ad.block
theorem Fs.mono {B B' : Nat} {v : Value} (h : Fs B v) (hB : B' ≤ B) : Fs B' v := fun ad n c e => Nat.le_trans hB (h ad n c e)
theorem Fs.of_own {w : World} {base n : Nat} {e : TypeId} {v : Value} {xs : List Value} (h : w.ownsRow base e 1 v n xs) : Fs base v := fun ad m c hv => by
  rcases h.2 with ⟨e, _⟩ | ⟨g, cap, cur, e, hb, _⟩
  · rw [e] at hv; cases hv
  · rw [e] at hv
    injection hv with h1
    injection h1 with h1
    subst h1
    exact hb

set_option maxRecDepth 100000 in
set_option maxHeartbeats 2000000 in
theorem limbs_new (a : Nat) (w : World) (ha : a < 18446744073709551616) :
    Calls Tryd.prog 64 #[.int .u64 a] w fun e w' => ∃ v, e = .returned v ∧ Nm w' v a ∧ Fs w.heap.size v ∧ Below w.heap.size w w' := by
  have hla : (dig a).length ≤ 4 := dig_length_le (by rw [show (65536 : Nat) ^ 4 = 18446744073709551616 from rfl]; exact ha)
  have Ha := hid ha; clear ha
  obtain ⟨i0, hi, hz0, hz1, hz2⟩ := info_parts Tryd.info16
  go_enter Tryd.func64, Tryd.ntmps64
  go_wp2
  go_loopw [0, 3] (fun x v wr => ∃ (r : Nat) (o : List Nat) (vv : Value), dig a = o ++ dig r ∧ x = .int .u64 r ∧ r ≤ a ∧ vv = v ∧ wr.ownsRow w.heap.size 71 1 vv o.length (vals .u16 o) ∧ Below w.heap.size w wr) (fun x _ _ => (intOf x).toNat)
  case atStart => exact ⟨a, [], _, rfl, rfl, Nat.le_refl _, rfl, World.ownsRow_nil _ _ _ _, Below.refl _ _⟩
  case round =>
    obtain ⟨r, o, v, hd, rfl, hra, hvv, hown, hbel⟩ := hrel
    subst hvv
    have Hd := hid hd; clear hd
    by_cases hr : r = 0
    · have Hd2 := hid (dig_rest Hd.out hr)
      have hr' : ¬ (0 : Int) < (r : Int) := by omega
      clear hr
      go_wp2
      go_ret
      exact ⟨_, rfl, Nm.of_own hown Hd2.out, Fs.of_own hown, hbel⟩
    · have hr' : (0 : Int) < (r : Int) := by omega
      have hroom := room_of Hd.out hr hla
      obtain ⟨x, hx⟩ : ∃ x, x = r % 65536 := ⟨_, rfl⟩
      have hd2 := dig_out Hd.out hr
      rw [← hx] at hd2
      have Hd2 := hid hd2
      have hm : bits .and .u64 (r : Int) 65535 = (x : Int) := by
        rw [hx, show (65535 : Int) = ((65535 : Nat) : Int) from rfl, u64_and_nat _ _ (by have := Ha.out; omega) (by decide)]
        have := Nat.and_two_pow_sub_one_eq_mod r 16
        rw [show (2 : Nat) ^ 16 - 1 = 65535 from rfl, show (2 : Nat) ^ 16 = 65536 from rfl] at this
        rw [this]
      have hxw : IntKind.u16.wrap (x : Int) = (x : Int) := by rw [IntKind.wrap_u16]; omega
      have hsz := hbel.size
      have hrp : 0 < r := by omega
      clear hx hd2 hr
      go_wp2_with (at_builtin; (refine wpList_append_own _ rfl (.tmp 8) (.tmp 12) 22 rfl w.heap.size 71 i0 (.int .u16 0) 1 2 Tryd.underlying22 hi hz0 hz1 hz2 rfl (by decide) v o.length (vals .u16 o) rfl (hown.alloc _) ⟨wr.heap.size, 0, none⟩ 1 1 [.int .u16 (x : Int)] rfl rfl (cell_one_new _ _ _) (one_cell _ rfl) (by unfold maxLen; omega) (by omega) (by simp; omega) ?_))
      intro v' w1 hown1 hgrow1 _
      have hl1 := hown.lt
      have hb1 := (hbel.alloc hsz (.cells #[.int .u16 (x : Int)] 71)).grown hgrow1 (by simp; omega) (fun k hk => (hl1 k hk).1)
      rw [vals_snoc .u16 o x _ rfl, show o.length + 1 = (o ++ [x]).length from by simp] at hown1
      have Hown := hid hown1
      clear hown1 hown hgrow1 hl1 hm hxw
      go_wp2
      go_roundw
      case rel => exact ⟨r / 65536, _, _, Hd2.out, by go_num, by omega, rfl, Hown.out, hb1⟩
      case measure => simp [intOf]; omega

set_option maxRecDepth 100000 in
set_option maxHeartbeats 1000000 in
theorem Z_new (n : Nat) (w : World) (h2 : n ≤ 9223372036854775807) :
    Calls Tryd.prog 34 #[.int .i64 n] w fun e w' => ∃ A m c, e = .returned (.agg #[.bool false, .slice A m c]) ∧ Nm w' (.slice A m c) n ∧ Fs w.heap.size (.slice A m c) ∧ Below w.heap.size w w' := by
  have hb0 := fun o => (Below.refl w.heap.size w).alloc (Nat.le_refl _) o
  go_enter Tryd.func34, Tryd.ntmps34
  go_wp2_with fail
  refine (limbs_new n _ (by omega)).mono ?_
  rintro e w1 ⟨v1, rfl, hv1, hf1, hb1⟩
  obtain ⟨A, c, rfl, hq⟩ := id hv1
  replace hf1 : Fs w.heap.size (.slice A (dig n).length c) := hf1.mono (by simp)
  have hb4 := bthen (hb0 _) hb1 (Nat.le_refl _)
  have c0 := box_cell hb1 0
  have c1 := box_cell hb1 1
  have f0 := box_frozen hb1 0
  have f1 := box_frozen hb1 1
  have hbx := hid (box_heap hb1)
  have hz' := box_size hb1
  have h5 := (hb4.setCell (p := ⟨w.heap.size, 0, none⟩) (Nat.le_refl _) (.bool false)).setCell (p := ⟨w.heap.size, 1, none⟩) (Nat.le_refl _) (.slice A (dig n).length c)
  have hn5 := hv1.offbox hbx.out (noInt_zero _ _ _ _) (gb2 _ w.heap.size 0 1 (.bool false) (.slice A (dig n).length c))
  clear hq
  simp at c0 c1
  go_wp2
  exact bodyPost_ret (v := .agg #[.bool false, .slice A (dig n).length c]) (by simp [results, Tryd.results34, go_sem, c0, c1]) rfl ⟨A, (dig n).length, c, rfl, hn5, hf1, h5⟩

set_option maxRecDepth 100000 in
set_option maxHeartbeats 1000000 in
theorem W_new (n : Nat) (w : World) (h2 : n ≤ 9223372036854775807) :
    Calls Tryd.prog 32 #[.int .i64 n] w fun e w' => ∃ A m c B m' d, e = .returned (.agg #[.bool false, .slice A m c, .bool false, .slice B m' d]) ∧ Nm w' (.slice A m c) n ∧ Nm w' (.slice B m' d) 1 ∧ Fs w.heap.size (.slice A m c) ∧ Fs w.heap.size (.slice B m' d) ∧ Below w.heap.size w w' := by
  have hb0 := fun o => (Below.refl w.heap.size w).alloc (Nat.le_refl _) o
  go_enter Tryd.func32, Tryd.ntmps32
  go_wp2_with fail
  refine (Z_new n _ h2).mono ?_
  rintro e w1 ⟨A1, n1, c1, rfl, hn1, hf1, hb1⟩
  go_wp2_with fail
  refine (Z_new 1 _ (by decide)).mono ?_
  rintro e w2 ⟨A2, n2, c2, rfl, hn2, hf2, hb2⟩
  have hb3 := bthen hb1 hb2 (Nat.le_refl _)
  have hb4 := bthen (hb0 _) hb3 (Nat.le_refl _)
  replace hf1 : Fs w.heap.size (.slice A1 n1 c1) := hf1.mono (by simp)
  replace hf2 : Fs w.heap.size (.slice A2 n2 c2) := hf2.mono (by have := hb1.size; simp at this; omega)
  have c0 := box_cell hb3 0
  have c1' := box_cell hb3 1
  have c2' := box_cell hb3 2
  have c3 := box_cell hb3 3
  have f0 := box_frozen hb3 0
  have f1 := box_frozen hb3 1
  have f2 := box_frozen hb3 2
  have f3 := box_frozen hb3 3
  have hbx := hid (box_heap hb3)
  have h5 := hid (below4 hb4 (Nat.le_refl _) (.bool false) (.slice A1 n1 c1) (.bool false) (.slice A2 n2 c2))
  have m1 := hid ((hn1.below hb2).offbox hbx.out (noInt_four _ _ _ _ _ _ _ _) (gb4 _ _ (.bool false) (.slice A1 n1 c1) (.bool false) (.slice A2 n2 c2)))
  have m2 := hid (hn2.offbox hbx.out (noInt_four _ _ _ _ _ _ _ _) (gb4 _ _ (.bool false) (.slice A1 n1 c1) (.bool false) (.slice A2 n2 c2)))
  clear hb1 hb2 hb3 hb4 hn1 hn2 hb0
  simp at c0 c1' c2' c3
  go_wp2
  exact bodyPost_ret (v := .agg #[.bool false, .slice A1 n1 c1, .bool false, .slice A2 n2 c2]) (by simp [results, Tryd.results32, go_sem, c0, c1', c2', c3]) rfl ⟨A1, n1, c1, A2, n2, c2, rfl, m1.out, m2.out, hf1, hf2, h5.out⟩

end Go.Proofs.YtlfeendebbidhaaDoor
