/- The contracts of limbsOf and mulLimbs. For all numbers whose limbs fit into memory. -/
import Derived.Test.YtlfeendebbidhaaDoorAdd
namespace Go.Proofs.YtlfeendebbidhaaDoor
open Go.RowKit Kb

set_option maxRecDepth 100000 in
set_option maxHeartbeats 1000000 in
theorem limbsOf_any (a : Nat) (w : World) (ha : a < 18446744073709551616) :
    Calls Tryd.prog 43 #[.int .u64 a] w fun e w' => ∃ v, e = .returned v ∧ Nm w' v a ∧ Below w.heap.size w w' := by
  have hla : (dig a).length ≤ 4 := dig_length_le (by rw [show (65536 : Nat) ^ 4 = 18446744073709551616 from rfl]; exact ha)
  have Ha := hid ha; clear ha
  obtain ⟨i0, hi, hz0, hz1, hz2⟩ := info_parts Tryd.info16
  by_cases h0 : a = 0
  · subst h0
    rw [show ((0 : Nat) : Int) = 0 from rfl]
    go_enter Tryd.func43, Tryd.ntmps43
    go_wp2
    go_loop [0, 3] (fun x v => x = .int .u64 0 ∧ v = .slice none 0 0) (fun _ _ => 0)
    case atStart => exact ⟨rfl, rfl⟩
    case round =>
      obtain ⟨rfl, rfl⟩ := hrel
      go_wp2
      go_ret
      exact ⟨_, rfl, nm_nil w, Below.refl _ _⟩
  · have h0' : ((a : Int) != 0) = true := by simp; omega
    have hmk : ∀ w, (Instr.makeSlice 22 (.int .i64 0) (.int .i64 4)).run Tryd.prog w = .ok (.slice (some ⟨w.heap.size, 0, none⟩) 0 4) (w.alloc (.cells #[.int .u16 0, .int .u16 0, .int .u16 0, .int .u16 0] 71)) := fun _ => by kernel_rfl
    go_enter Tryd.func43, Tryd.ntmps43
    go_wp2
    go_loopw [0, 3] (fun x v wr => ∃ (r : Nat) (o : List Nat), dig a = o ++ dig r ∧ x = .int .u64 r ∧ v = .slice (some ⟨w.heap.size, 0, none⟩) o.length 4 ∧ wr.ownsRow w.heap.size 71 1 (.slice (some ⟨w.heap.size, 0, none⟩) o.length 4) o.length (vals .u16 o) ∧ Below w.heap.size w wr) (fun x _ _ => (intOf x).toNat)
    case atStart => exact ⟨a, [], rfl, rfl, rfl, World.ownsRow_made _ _ 4 (Nat.le_refl _) (by unfold maxLen; omega) rfl, (Below.refl _ _).alloc (Nat.le_refl _) _⟩
    case round =>
      obtain ⟨r, o, hd, rfl, rfl, hown, hbel⟩ := hrel
      have Hd := hid hd; clear hd
      by_cases hr : r = 0
      · have hr' : ((r : Int) != 0) = false := by simp; omega
        have Hd2 := hid (dig_rest Hd.out hr)
        clear hr
        go_wp2
        go_ret
        exact ⟨.slice (some ⟨w.heap.size, 0, none⟩) o.length 4, rfl, ⟨some ⟨w.heap.size, 0, none⟩, 4, by rw [Hd2.out], by rw [Hd2.out]; exact Sl.of_own hown, hla, by unfold maxLen; omega⟩, hbel⟩
      · have hr' : ((r : Int) != 0) = true := by simp; omega
        have hroom := room_of Hd.out hr hla
        have Hd2 := hid (dig_out Hd.out hr)
        go_wp2_with (at_builtin; refine wpList_append_fits _ rfl (.tmp 11) (.tmp 14) 22 rfl w.heap.size 71 i0 1 Tryd.underlying22 hi hz1 w.heap.size o.length 4 (vals .u16 o) rfl (hown.alloc _) ⟨wr.heap.size, 0, none⟩ 1 1 [.int .u16 (IntKind.u16.wrap (r : Int))] rfl rfl (cell_one_new _ _ _) (one_cell _ rfl) (by omega) ?_)
        intro w1 hown1 hgrow1
        have hb1 := (hbel.alloc hbel.size (.cells #[.int .u16 (IntKind.u16.wrap (r : Int))] 71)).grown hgrow1 (by have := hbel.size; simp; omega) (fun k hk => by injection hk with hk; omega)
        rw [vals_snoc .u16 o (r % 65536) _ (u16_of r)] at hown1
        have hlen : o.length + 1 = (o ++ [r % 65536]).length := by simp
        rw [hlen] at hown1
        have Hown := hid hown1
        have hrp : 0 < r := by omega
        clear hown1 hown hgrow1 hlen hr
        go_wp2
        go_roundw
        case rel => exact ⟨r / 65536, _, Hd2.out, by go_num, by simp, Hown.out, hb1⟩
        case measure => simp [intOf]; omega


/-- The state of a product: i rows are added. -/
def MulRel (a b i : Nat) (o : List Nat) : Prop :=
  o.length = (dig a).length + (dig b).length ∧ Lim o ∧ val o = val ((dig a).take i) * b ∧ ∀ j, i + (dig b).length ≤ j → nth o j = 0
/-- .. and j digits of the next one, with a carry. -/
def RowRel (a b i j : Nat) (o : List Nat) (cr : Nat) : Prop :=
  o.length = (dig a).length + (dig b).length ∧ Lim o ∧ cr < 65536 ∧ val o + 65536 ^ (i + j) * cr = val ((dig a).take i) * b + 65536 ^ i * (nth (dig a) i * val ((dig b).take j)) ∧ ∀ t, i + (dig b).length ≤ t → nth o t = 0
theorem MulRel.start (a b : Nat) : MulRel a b 0 (List.replicate ((dig a).length + (dig b).length) 0) :=
  ⟨List.length_replicate, lim_replicate _, by rw [val_replicate]; simp [val], fun j _ => nth_replicate _ _⟩
theorem MulRel.row {a b i : Nat} {o : List Nat} (h : MulRel a b i o) : RowRel a b i 0 o 0 := by
  obtain ⟨h1, h2, h3, h4⟩ := h
  exact ⟨h1, h2, by omega, by rw [h3]; simp [val], h4⟩
theorem RowRel.sum_lt {a b i j cr : Nat} {o : List Nat} (h : RowRel a b i j o cr) : cr + nth (dig a) i * nth (dig b) j + nth o (i + j) < 4294967296 := by
  have hx := lim_nth (lim_dig a) i
  have hy := lim_nth (lim_dig b) j
  have hz := lim_nth h.2.1 (i + j)
  have hc := h.2.2.1
  have : nth (dig a) i * nth (dig b) j ≤ 65535 * 65535 := Nat.mul_le_mul (by omega) (by omega)
  omega
theorem RowRel.next {a b i j cr : Nat} {o : List Nat} (h : RowRel a b i j o cr) (hi : i < (dig a).length) (hj : j < (dig b).length) :
    RowRel a b i (j + 1) (o.set (i + j) ((cr + nth (dig a) i * nth (dig b) j + nth o (i + j)) % 65536)) ((cr + nth (dig a) i * nth (dig b) j + nth o (i + j)) / 65536) := by
  have hs := h.sum_lt
  obtain ⟨h1, h2, h3, h4, h5⟩ := h
  refine ⟨by rw [List.length_set, h1], lim_set h2 (by omega), by omega, ?_, fun t ht => ?_⟩
  · rw [val_take_succ']; exact mul_step (by omega) h4
  · rw [nth_set (by omega), if_neg (by omega)]; exact h5 t ht
theorem RowRel.done {a b i cr : Nat} {o : List Nat} (h : RowRel a b i (dig b).length o cr) (hi : i < (dig a).length) : MulRel a b (i + 1) (o.set (i + (dig b).length) cr) := by
  obtain ⟨h1, h2, h3, h4, h5⟩ := h
  refine ⟨by rw [List.length_set, h1], lim_set h2 h3, ?_, fun t ht => ?_⟩
  · have e := val_set (v := cr) (show i + (dig b).length < o.length by omega)
    rw [h5 _ (Nat.le_refl _), Nat.mul_zero, Nat.add_zero] at e
    rw [e, h4, val_take_ge (Nat.le_refl _), val_dig, val_take_succ', Nat.add_mul, Nat.mul_assoc]
  · rw [nth_set (by omega), if_neg (by omega)]; exact h5 t (by omega)
theorem MulRel.done {a b : Nat} {o : List Nat} (h : MulRel a b (dig a).length o) : val o = a * b := by
  rw [h.2.2.1, val_take_ge (Nat.le_refl _), val_dig]

set_option maxRecDepth 100000 in
set_option maxHeartbeats 2000000 in
theorem mulLimbs_long (A B : Option Addr) (c d a b : Nat) (w : World) (hs : Sl w .u16 A (dig a))
    (hs2 : Sl w .u16 B (dig b)) (hbig : 2 < (dig a).length ∨ 2 < (dig b).length) (hla : (dig a).length ≤ 500000000) (hlb : (dig b).length ≤ 500000000) :
    Calls Tryd.prog 57 #[.slice A (dig a).length c, .slice B (dig b).length d] w fun e w' => ∃ v, e = .returned v ∧ Nm w' v (a * b) ∧ Below w.heap.size w w' := by
  have hg : decide ((dig a).length ≤ 2) = true → decide ((dig b).length ≤ 2) = false := by simp; omega
  obtain ⟨i0, hi, hz0, hz1, hz2⟩ := info_parts Tryd.info16
  have hmk := fun w => run_make_rowOf (P := Tryd.prog) 22 71 i0 .u16 (((dig a).length : Int) + ((dig b).length : Int)) ((dig a).length + (dig b).length) w Tryd.underlying22 hi hz0 hz1 (by omega) (by omega) (by omega)
  clear hi hz0 hz1 hz2
  go_enter Tryd.func57, Tryd.ntmps57
  go_wp2
  all_goals
    go_loopw [34] (fun iv wr => ∃ (i : Nat) (o : List Nat), i ≤ (dig a).length ∧ iv = .int .i64 i ∧ MulRel a b i o ∧ Row wr w.heap.size 71 .u16 o ∧ Below w.heap.size w wr) (fun iv _ => (dig a).length - (intOf iv).toNat)
    case atStart => exact ⟨0, _, Nat.zero_le _, rfl, MulRel.start a b, Row.new _ _ _ _, (Below.refl _ _).alloc (Nat.le_refl _) _⟩
    case round =>
      obtain ⟨i, o, hi, rfl, hr, hrow, hbel⟩ := hrel
      by_cases hlt : i < (dig a).length
      · obtain ⟨ad, rfl, hb1, hcell⟩ := (hs.below hbel) i hlt
        have hx := lim_nth (lim_dig a) i
        have hxw := u32_of (s := nth (dig a) i) (by omega)
        go_wp2
        go_quiet (fail)
        have hs2' := hs2.below (hbel.drewN' nq)
        have hrow' : Row (wr.drewN nq) w.heap.size 71 .u16 o := hrow
        have hbel' := hbel.drewN' nq
        have Hr := hid hr.row
        clear hrow hbel hcell hb1 hr hmk
        generalize wr.drewN nq = w0 at *
        go_wp2
        go_loopw [8, 47] (fun cv jv wi => ∃ (j cr : Nat) (o : List Nat), j ≤ (dig b).length ∧ cv = .int .u32 cr ∧ jv = .int .i64 j ∧ RowRel a b i j o cr ∧ Row wi w.heap.size 71 .u16 o ∧ Below w.heap.size w wi) (fun _ jv _ => (dig b).length - (intOf jv).toNat)
        case atStart => exact ⟨0, 0, o, Nat.zero_le _, rfl, rfl, Hr.out, hrow', hbel'⟩
        case round =>
          obtain ⟨j, cr, o', hj, rfl, rfl, hq, hrw, hbl⟩ := hrel
          have hcr := hq.2.2.1
          have hol := hq.1
          by_cases hjt : j < (dig b).length
          · obtain ⟨bd, rfl, hb2, hcell2⟩ := (hs2.below hbl) j hjt
            have hy := lim_nth (lim_dig b) j
            have hyw := u32_of (s := nth (dig b) j) (by omega)
            have hz := lim_nth hq.2.1 (i + j)
            have hzw := u32_of (s := nth o' (i + j)) (by omega)
            have hold := hrw.cell (i := i + j) (by omega)
            have hfr := hrw.frozen (i + j)
            have hm0 : nth (dig a) i * nth (dig b) j ≤ 65535 * 65535 := Nat.mul_le_mul (by omega) (by omega)
            have hm1 : (0 : Int) ≤ (nth (dig a) i : Int) * (nth (dig b) j : Int) := by rw [← Int.natCast_mul]; omega
            have hm2 : (nth (dig a) i : Int) * (nth (dig b) j : Int) ≤ 4294836225 := by rw [← Int.natCast_mul]; omega
            have Hol := hid hol
            clear hol hm0
            go_wp2
            go_roundw
            case rel =>
              have e : ((cr : Int) + ((nth (dig a) i : Int) * (nth (dig b) j : Int) + (nth o' (i + j) : Int))) = ((cr + nth (dig a) i * nth (dig b) j + nth o' (i + j) : Nat) : Int) := by push_cast; omega
              rw [e, u16_of]
              exact ⟨j + 1, (cr + nth (dig a) i * nth (dig b) j + nth o' (i + j)) / 65536, _, hjt, val_int rfl, by go_num, hq.next hlt hjt, hrw.set (i + j) _, hbl.setCell (p := ⟨w.heap.size, i + j, none⟩) (Nat.le_refl _) _⟩
            case measure => simp [intOf]; omega
          · obtain rfl : j = (dig b).length := by omega
            have hold := hrw.cell (i := i + (dig b).length) (by omega)
            have hfr := hrw.frozen (i + (dig b).length)
            have Hol := hid hol
            clear hol
            go_wp2
            go_roundw
            case rel => exact ⟨i + 1, _, by omega, by go_num, hq.done hlt, hrw.set (i + (dig b).length) cr, hbl.setCell (p := ⟨w.heap.size, i + (dig b).length, none⟩) (Nat.le_refl _) _⟩
            case measure => simp [intOf]; omega
      · obtain rfl : i = (dig a).length := by omega
        have Hln := hid hr.1
        have Hv := hid hr.done
        have hlim := hr.2.1
        clear hmk
        go_wp2_with fail
        refine (trim_nm _ _ _ o _ hrow.sl hlim Hln.out (Nat.le_refl _) (by unfold maxLen; omega)).mono ?_
        rintro e w' ⟨v, rfl, hnm, rfl⟩
        go_wp2
        go_ret
        rw [Hv.out] at hnm
        exact ⟨v, rfl, hnm, hbel⟩

set_option maxRecDepth 100000 in
set_option maxHeartbeats 1000000 in
theorem mulLimbs_short (A B : Option Addr) (c d a b : Nat) (w : World) (h1 : Nm w (.slice A (dig a).length c) a) (h2 : Nm w (.slice B (dig b).length d) b)
    (hla : (dig a).length ≤ 2) (hlb : (dig b).length ≤ 2) :
    Calls Tryd.prog 57 #[.slice A (dig a).length c, .slice B (dig b).length d] w fun e w' => ∃ v, e = .returned v ∧ Nm w' v (a * b) ∧ Below w.heap.size w w' := by
  have ha := lt_of_dig_length hla
  have hb := lt_of_dig_length hlb
  rw [show (65536 : Nat) ^ 2 = 4294967296 from rfl] at ha hb
  have hm0 : a * b ≤ 4294967295 * 4294967295 := Nat.mul_le_mul (by omega) (by omega)
  have hm1 : (0 : Int) ≤ (a : Int) * (b : Int) := by rw [← Int.natCast_mul]; omega
  have hm2 : (a : Int) * (b : Int) ≤ 18446744065119617025 := by rw [← Int.natCast_mul]; omega
  have hm3 : a * b < 18446744073709551616 := by omega
  have Hm3 := hid hm3
  have Hw1 := hid (wordOf_nm h1 (by rw [show (65536 : Nat) ^ 4 = 18446744073709551616 from rfl]; omega))
  have Hw2 := hid (wordOf_nm h2 (by rw [show (65536 : Nat) ^ 4 = 18446744073709551616 from rfl]; omega))
  clear hm0 hm3 ha hb h1 h2
  go_enter Tryd.func57, Tryd.ntmps57
  go_wp2_with fail
  refine Hw1.out.mono ?_
  rintro e w' ⟨rfl, rfl⟩
  go_wp2_with fail
  refine Hw2.out.mono ?_
  rintro e w' ⟨rfl, rfl⟩
  go_wp2_with fail
  rw [← Int.natCast_mul]
  refine (limbsOf_any _ _ Hm3.out).mono ?_
  rintro e w' ⟨v, rfl, hnm, hbel⟩
  go_wp2
  go_ret
  exact ⟨v, rfl, hnm, hbel⟩

theorem mulLimbs_nm {v u : Value} {a b : Nat} {w : World} (h : Nm w v a) (k : Nm w u b) (ha : (dig a).length ≤ 500000000) (hb : (dig b).length ≤ 500000000) :
    Calls Tryd.prog 57 #[v, u] w fun e w' => ∃ v, e = .returned v ∧ Nm w' v (a * b) ∧ Below w.heap.size w w' := by
  have h' := h
  have k' := k
  obtain ⟨A, c, rfl, h1, h2, h3⟩ := h
  obtain ⟨B, d, rfl, k1, k2, k3⟩ := k
  by_cases hs : (dig a).length ≤ 2 ∧ (dig b).length ≤ 2
  · exact mulLimbs_short A B c d a b w h' k' hs.1 hs.2
  · exact mulLimbs_long A B c d a b w h1 k1 (by omega) ha hb

end Go.Proofs.YtlfeendebbidhaaDoor
