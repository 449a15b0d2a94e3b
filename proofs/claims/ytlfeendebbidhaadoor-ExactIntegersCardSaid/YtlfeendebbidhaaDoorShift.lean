/- The contracts of shiftedUp, shiftDown, takeProduct, putBack. For all rows of limbs that fit into memory. -/
import Derived.Test.YtlfeendebbidhaaDoorDiv
namespace Go.Proofs.YtlfeendebbidhaaDoor
open Go.RowKit Kb

/-- The state of a shift: k digits are written. -/
def UpRel (xs : List Nat) (s k : Nat) (o : List Nat) (cr : Nat) : Prop :=
  o.length = k ∧ Lim o ∧ cr < 2 ^ s ∧ val o + 65536 ^ k * cr = 2 ^ s * val (xs.take k)
theorem UpRel.start (xs : List Nat) (s : Nat) : UpRel xs s 0 [] 0 := ⟨rfl, lim_nil, Nat.pow_pos (by decide), by simp [val]⟩
theorem UpRel.next {xs o : List Nat} {s k cr : Nat} (h : UpRel xs s k o cr) (hx : Lim xs) :
    UpRel xs s (k + 1) (o ++ [(cr + 2 ^ s * nth xs k) % 65536]) ((cr + 2 ^ s * nth xs k) / 65536) := by
  obtain ⟨h1, h2, h3, h4⟩ := h
  have hk := lim_nth hx k
  refine ⟨by simp [h1], lim_append.2 ⟨h2, fun x hm => by rw [List.mem_singleton] at hm; subst hm; omega⟩, ?_, ?_⟩
  · apply Nat.div_lt_of_lt_mul
    have : 2 ^ s * nth xs k ≤ 2 ^ s * 65535 := Nat.mul_le_mul_left _ (by omega)
    omega
  · have e := add_step (x := 2 ^ s * nth xs k) (y := 0) (va := 2 ^ s * val (xs.take k)) (vb := 0) h1 (by rw [h4]; omega)
    rw [Nat.add_zero] at e
    rw [e, val_take_succ', Nat.mul_add, Nat.mul_left_comm]
    omega

set_option maxRecDepth 100000 in
set_option maxHeartbeats 1000000 in
theorem shiftedUp_any (A : Option Addr) (c s : Nat) (xs : List Nat) (w : World) (hs : Sl w .u16 A xs) (hx : Lim xs) (hs16 : s < 16) (hl : xs.length ≤ 1000000000) :
    Calls Tryd.prog 86 #[.slice A xs.length c, .int .i64 s] w fun e w' => ∃ o, e = .returned (.slice (some ⟨w.heap.size, 0, none⟩) (xs.length + 1) (xs.length + 1)) ∧ o.length = xs.length + 1 ∧ Lim o ∧ val o = 2 ^ s * val xs ∧ Row w' w.heap.size 71 .u16 o ∧ Below w.heap.size w w' := by
  obtain ⟨i0, hi, hz0, hz1, hz2⟩ := info_parts Tryd.info16
  have hmk := fun w => run_make_rowOf (P := Tryd.prog) 22 71 i0 .u16 ((xs.length : Int) + 1) (xs.length + 1) w Tryd.underlying22 hi hz0 hz1 (by omega) (by omega) (by omega)
  clear hi hz0 hz1 hz2
  have hp16 : 2 ^ s ≤ 32768 := by
    have : (2 : Nat) ^ s ≤ 2 ^ 15 := Nat.pow_le_pow_right (by decide) (by omega)
    omega
  go_enter Tryd.func86, Tryd.ntmps86
  go_wp2
  go_loopw [6, 15] (fun cv iv wr => ∃ (k cr : Nat) (o : List Nat), k ≤ xs.length ∧ cv = .int .u32 cr ∧ iv = .int .i64 k ∧ UpRel xs s k o cr ∧ Row wr w.heap.size 71 .u16 (o ++ List.replicate (xs.length + 1 - k) 0) ∧ Below w.heap.size w wr) (fun _ iv _ => xs.length - (intOf iv).toNat)
  case atStart => exact ⟨0, 0, [], Nat.zero_le _, rfl, rfl, UpRel.start xs s, Row.new _ _ _ _, (Below.refl _ _).alloc (Nat.le_refl _) _⟩
  case round =>
    obtain ⟨k, cr, o, hk, rfl, rfl, hr, hrow, hbel⟩ := hrel
    have Hn := hid (hr.next hx)
    have Hcr := hid hr.2.2.1
    have hcr2 : cr < 32768 := Nat.lt_of_lt_of_le hr.2.2.1 hp16
    have hfr := hrow.frozen k
    have hold := hrow.cell (i := k) (by rw [length_pad hr.1 (by omega)]; omega)
    by_cases hlt : k < xs.length
    · obtain ⟨ad, rfl, hb1, hcell⟩ := (hs.below hbel) k hlt
      have hxk := lim_nth hx k
      have hxw := u32_of (s := nth xs k) (by omega)
      clear hp16
      go_wp2
      go_roundw
      case rel =>
        rw [shl_or Hcr.out hxk hs16]
        exact ⟨k + 1, (cr + 2 ^ s * nth xs k) / 65536, _, hlt, val_int (by rw [Int.natCast_ediv]; rfl), by go_num, Hn.out, row_pad_set hrow hr.1 (by omega) rfl, hbel.setCell (p := ⟨w.heap.size, k, none⟩) (Nat.le_refl _) _⟩
      case measure => simp [intOf]; omega
    · obtain rfl : k = xs.length := by omega
      clear hp16
      have hrow2 := hrow.set xs.length cr
      rw [set_pad hr.1 (by omega), Nat.sub_self, List.replicate_zero, List.append_nil] at hrow2
      have Hr := hid hr
      clear hr hmk
      go_wp2
      go_ret
      refine ⟨o ++ [cr], rfl, by rw [List.length_append, Hr.out.1]; rfl, lim_append.2 ⟨Hr.out.2.1, fun x hm => by rw [List.mem_singleton] at hm; subst hm; omega⟩, ?_, hrow2, hbel.setCell (p := ⟨w.heap.size, xs.length, none⟩) (Nat.le_refl _) _⟩
      rw [val_snoc, Hr.out.1, Hr.out.2.2.2, List.take_of_length_le (Nat.le_refl _)]

/-- Digits of a division by a power of two: those below k are shifted. -/
def DownRel (xs : List Nat) (s k : Nat) (o : List Nat) : Prop :=
  o.length = xs.length ∧ Lim o ∧ o.drop k = xs.drop k ∧ ∀ i, i < k → nth o i = nth xs i / 2 ^ s + (nth xs (i + 1) % 2 ^ s) * 2 ^ (16 - s)

theorem DownRel.cur {xs o : List Nat} {s k i : Nat} (h : DownRel xs s k o) (hi : k ≤ i) : nth o i = nth xs i := by
  have e : nth (o.drop k) (i - k) = nth (xs.drop k) (i - k) := by rw [h.2.2.1]
  rw [nth_drop, nth_drop, show k + (i - k) = i by omega] at e
  exact e
theorem DownRel.next {xs o : List Nat} {s k d : Nat} (h : DownRel xs s k o) (hk : k < xs.length) (hd : d < 65536) (he : d = nth xs k / 2 ^ s + (nth xs (k + 1) % 2 ^ s) * 2 ^ (16 - s)) :
    DownRel xs s (k + 1) (o.set k d) := by
  obtain ⟨h1, h2, h3, h4⟩ := h
  refine ⟨by rw [List.length_set, h1], lim_set h2 hd, ?_, fun i hi => ?_⟩
  · rw [drop_set_lt (by omega)]
    have := congrArg (List.drop 1) h3
    rwa [List.drop_drop, List.drop_drop] at this
  · rw [nth_set (by omega)]
    by_cases e : i = k
    · rw [if_pos e, he, e]
    · rw [if_neg e]; exact h4 i (by omega)
theorem set_set_same {l : List Nat} {k a b : Nat} : (l.set k a).set k b = l.set k b := by simp

set_option maxRecDepth 100000 in
set_option maxHeartbeats 2000000 in
theorem shiftDown_any (g c s : Nat) (xs : List Nat) (w : World) (hp : Pre w g 71 .u16 xs) (hx : Lim xs) (hs16 : s < 16) (hl : xs.length ≤ 1000000000) :
    Calls Tryd.prog 88 #[.slice (some ⟨g, 0, none⟩) xs.length c, .int .i64 s] w fun e w' => e = .returned (.tuple #[]) ∧ ∃ o, DownRel xs s xs.length o ∧ Pre w' g 71 .u16 o ∧ w.grownBy w' (some g) := by
  go_enter Tryd.func88, Tryd.ntmps88
  go_wp2
  go_loopw [7] (fun iv wr => ∃ (k : Nat) (o : List Nat), k ≤ xs.length ∧ iv = .int .i64 k ∧ DownRel xs s k o ∧ Pre wr g 71 .u16 o ∧ w.grownBy wr (some g)) (fun iv _ => xs.length - (intOf iv).toNat)
  case atStart => exact ⟨0, xs, Nat.zero_le _, rfl, ⟨rfl, hx, rfl, fun i hi => by omega⟩, hp, World.grownBy.refl _ _⟩
  case round =>
    obtain ⟨k, o, hk, rfl, hr, hrow, hgr⟩ := hrel
    have hol := hid hr.1
    by_cases hlt : k < xs.length
    · have hcell := hrow.cell (i := k) (by have := hol.out; omega)
      have hfr := hrow.frozen k
      by_cases hlt2 : k + 1 < xs.length
      · have hcell2 := hrow.cell (i := k + 1) (by have := hol.out; omega)
        have e1 : (nth o k : Int) / 2 ^ s = ((nth o k / 2 ^ s : Nat) : Int) := by rw [pow_int, Int.natCast_ediv]
        have hrow1 := hrow.set (i := k) (by have := hol.out; omega) (nth o k / 2 ^ s)
        have hg1 := gb_set hgr k (.int .u16 ((nth o k / 2 ^ s : Nat) : Int))
        rw [← e1] at hrow1 hg1
        have E1 := hid e1
        clear e1
        go_wp2_with fail
        clear hcell hcell2 hfr hgr
        generalize wr.setCell ⟨g, k, none⟩ (.int .u16 ((nth o k : Int) / 2 ^ s)) = w1 at *
        have hc1 := hrow1.cell (i := k) (by rw [List.length_set]; have := hol.out; omega)
        have hc2 := hrow1.cell (i := k + 1) (by rw [List.length_set]; have := hol.out; omega)
        rw [nth_set (by have := hol.out; omega), if_pos rfl] at hc1
        rw [nth_set (by have := hol.out; omega), if_neg (by omega)] at hc2
        have hf1 := hrow1.frozen k
        go_region
        all_goals go_wp2
        go_roundw
        case rel =>
          have hb := down_or (a := nth o k) (z := nth o (k + 1)) (s := s) (by rw [hr.cur (Nat.le_refl _)]; exact lim_nth hx _) hs16
          rw [hb]
          have hw := hrow1.set (i := k) (by rw [List.length_set]; have := hol.out; omega) (nth o k / 2 ^ s + (nth o (k + 1) % 2 ^ s) * 2 ^ (16 - s))
          rw [set_set_same] at hw
          refine ⟨k + 1, _, hlt, by go_num, hr.next hlt ?_ (by rw [hr.cur (Nat.le_refl _), hr.cur (Nat.le_succ _)]), hw, gb_drewN (gb_set hg1 k _) 1⟩
          exact down_lt (by rw [hr.cur (Nat.le_refl _)]; exact lim_nth hx _) hs16
        case measure => simp [intOf]; omega
      · have Hh := hid hrow
        go_wp2
        go_roundw
        case rel =>
          have e1 : (nth o k : Int) / 2 ^ s = ((nth o k / 2 ^ s : Nat) : Int) := by rw [pow_int, Int.natCast_ediv]
          rw [e1]
          have h0 : nth xs (k + 1) = 0 := nth_out (by omega)
          refine ⟨k + 1, _, hlt, by go_num, hr.next (d := nth o k / 2 ^ s) hlt ?_ (by rw [hr.cur (Nat.le_refl _), h0]; simp), hrow.set (by have := hol.out; omega) _, gb_set hgr k _⟩
          exact Nat.lt_of_le_of_lt (Nat.div_le_self _ _) (by rw [hr.cur (Nat.le_refl _)]; exact lim_nth hx _)
        case measure => simp [intOf]; omega
    · obtain rfl : k = xs.length := by omega
      go_wp2
      go_end0
      exact ⟨rfl, o, hr, hrow, hgr⟩

end Go.Proofs.YtlfeendebbidhaaDoor
