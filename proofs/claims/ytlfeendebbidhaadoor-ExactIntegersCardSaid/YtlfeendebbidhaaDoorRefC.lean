/- Small, the program's and the reference's. -/
import Derived.Test.YtlfeendebbidhaaDoorRefB
import Derived.Test.YtlfeendebbidhaaDoorFloor
namespace Go.Proofs.YtlfeendebbidhaaDoor
open Go.RowKit Kb

set_option maxRecDepth 100000 in
set_option maxHeartbeats 2000000 in
theorem Small_neg (A : Option Addr) (n c a : Nat) (w : World) (h : Raw w A n c a) (ha : a ≤ 9223372036854775808) :
    Calls Tryd.prog 8 #[.agg #[.bool true, .slice A n c]] w fun e w' => e = .returned (.tuple #[.int .i64 (-(a : Int)), .bool true]) ∧ Below w.heap.size w w' := by
  have hl : (dig a).length ≤ 4 := dig_length_le (by rw [show (65536 : Nat) ^ 4 = 18446744073709551616 from rfl]; omega)
  have hb0 := (Below.refl w.heap.size w).alloc (Nat.le_refl _) (.cells #[.bool true, .slice A n c] 24)
  have j1 := Bk.of_alloc w (.cells #[.bool true, .slice A n c] 24) rfl
  have h0 := h.below hb0
  clear h
  go_enter Tryd.func8, Tryd.ntmps8
  go_wp2_with fail
  refine (size_any true A n c a _ h0).mono ?_
  rintro e w1 ⟨v, rfl, hv, hb1⟩
  replace j1 := j1.step hb1
  obtain ⟨x0, x1, -, -⟩ := j1.c2
  have hl1 := j1.lt
  have hv' := hv
  obtain ⟨A', c', rfl, -⟩ := hv
  have hB1 := bthen hb0 hb1 (Nat.le_refl _)
  have hle : ¬ (4 : Int) < ((dig a).length : Int) := by omega
  go_wp2_with fail
  refine (wordOf_nm hv' (lt_of_dig_length hl)).mono ?_
  rintro e w2 ⟨rfl, rfl⟩
  have hgt : ¬ (9223372036854775808 : Int) < (a : Int) := by omega
  have hw := hid (show wrap64 (-wrap64 (a : Int)) = -(a : Int) by unfold wrap64; omega)
  have hge : (decide ((9223372036854775808 : Int) < (a : Int))) = false := decide_eq_false hgt
  clear ha hle
  go_wp2
  go_ret2
  refine ⟨?_, hB1⟩
  show Ending.returned (.tuple #[.int .i64 (wrap64 (-wrap64 (a : Int))), .bool true]) = _
  rw [hw.out]
set_option maxRecDepth 100000 in
set_option maxHeartbeats 2000000 in
theorem Small_neg_no (A : Option Addr) (n c a : Nat) (w : World) (h : Raw w A n c a) (ha : 9223372036854775808 < a) (hl : (dig a).length ≤ 4) :
    Calls Tryd.prog 8 #[.agg #[.bool true, .slice A n c]] w fun e w' => e = .returned (.tuple #[.int .i64 0, .bool false]) ∧ Below w.heap.size w w' := by
  have hb0 := (Below.refl w.heap.size w).alloc (Nat.le_refl _) (.cells #[.bool true, .slice A n c] 24)
  have j1 := Bk.of_alloc w (.cells #[.bool true, .slice A n c] 24) rfl
  have h0 := h.below hb0
  clear h
  go_enter Tryd.func8, Tryd.ntmps8
  go_wp2_with fail
  refine (size_any true A n c a _ h0).mono ?_
  rintro e w1 ⟨v, rfl, hv, hb1⟩
  replace j1 := j1.step hb1
  obtain ⟨x0, x1, -, -⟩ := j1.c2
  have hl1 := j1.lt
  have hv' := hv
  obtain ⟨A', c', rfl, -⟩ := hv
  have hB1 := bthen hb0 hb1 (Nat.le_refl _)
  have hle : ¬ (4 : Int) < ((dig a).length : Int) := by omega
  go_wp2_with fail
  refine (wordOf_nm hv' (lt_of_dig_length hl)).mono ?_
  rintro e w2 ⟨rfl, rfl⟩
  have hgt : (9223372036854775808 : Int) < (a : Int) := by omega
  have hge : (decide ((9223372036854775808 : Int) < (a : Int))) = true := decide_eq_true hgt
  clear ha hle
  go_wp2
  go_ret2
  exact ⟨rfl, hB1⟩
set_option maxRecDepth 100000 in
set_option maxHeartbeats 2000000 in
theorem Small_pos_no (A : Option Addr) (n c a : Nat) (w : World) (h : Raw w A n c a) (ha : 9223372036854775808 ≤ a) (hl : (dig a).length ≤ 4) :
    Calls Tryd.prog 8 #[.agg #[.bool false, .slice A n c]] w fun e w' => e = .returned (.tuple #[.int .i64 0, .bool false]) ∧ Below w.heap.size w w' := by
  have hb0 := (Below.refl w.heap.size w).alloc (Nat.le_refl _) (.cells #[.bool false, .slice A n c] 24)
  have j1 := Bk.of_alloc w (.cells #[.bool false, .slice A n c] 24) rfl
  have h0 := h.below hb0
  clear h
  go_enter Tryd.func8, Tryd.ntmps8
  go_wp2_with fail
  refine (size_any false A n c a _ h0).mono ?_
  rintro e w1 ⟨v, rfl, hv, hb1⟩
  replace j1 := j1.step hb1
  obtain ⟨x0, x1, -, -⟩ := j1.c2
  have hl1 := j1.lt
  have hv' := hv
  obtain ⟨A', c', rfl, -⟩ := hv
  have hB1 := bthen hb0 hb1 (Nat.le_refl _)
  have hle : ¬ (4 : Int) < ((dig a).length : Int) := by omega
  go_wp2_with fail
  refine (wordOf_nm hv' (lt_of_dig_length hl)).mono ?_
  rintro e w2 ⟨rfl, rfl⟩
  have hgt : (9223372036854775808 : Int) ≤ (a : Int) := by omega
  have hge : (decide ((9223372036854775808 : Int) ≤ (a : Int))) = true := decide_eq_true hgt
  clear ha hle
  go_wp2
  go_ret2
  exact ⟨rfl, hB1⟩
set_option maxRecDepth 100000 in
set_option maxHeartbeats 2000000 in
theorem Small_long (p : Bool) (A : Option Addr) (n c a : Nat) (w : World) (h : Raw w A n c a) (hl : 4 < (dig a).length) :
    Calls Tryd.prog 8 #[.agg #[.bool p, .slice A n c]] w fun e w' => e = .returned (.tuple #[.int .i64 0, .bool false]) ∧ Below w.heap.size w w' := by
  have hb0 := (Below.refl w.heap.size w).alloc (Nat.le_refl _) (.cells #[.bool p, .slice A n c] 24)
  have j1 := Bk.of_alloc w (.cells #[.bool p, .slice A n c] 24) rfl
  have h0 := h.below hb0
  clear h
  go_enter Tryd.func8, Tryd.ntmps8
  go_wp2_with fail
  refine (size_any p A n c a _ h0).mono ?_
  rintro e w1 ⟨v, rfl, hv, hb1⟩
  replace j1 := j1.step hb1
  obtain ⟨x0, x1, -, -⟩ := j1.c2
  have hl1 := j1.lt
  have hv' := hv
  obtain ⟨A', c', rfl, -⟩ := hv
  have hB1 := bthen hb0 hb1 (Nat.le_refl _)
  have hle : (4 : Int) < ((dig a).length : Int) := by omega
  clear hl
  go_wp2
  go_ret2
  exact ⟨rfl, hB1⟩

/-- Does an integer fit into an int? -/
def fits (x : Int) : Bool := decide (-9223372036854775808 ≤ x ∧ x ≤ 9223372036854775807)
def sml (x : Int) : Int := if fits x = true then x else 0
theorem SmallZ {w : World} {s : Bool} {A : Option Addr} {n c : Nat} {x : Int} (h : Zi w s A n c x) :
    Calls Tryd.prog 8 #[.agg #[.bool s, .slice A n c]] w fun e w' => e = .returned (.tuple #[.int .i64 (sml x), .bool (fits x)]) ∧ Below w.heap.size w w' := by
  obtain ⟨a, hr, e⟩ := h
  have e := e.out
  by_cases hl : (dig a).length ≤ 4
  · have ha : a < 65536 ^ 4 := lt_of_dig_length hl
    rw [show (65536 : Nat) ^ 4 = 18446744073709551616 from rfl] at ha
    cases s
    · have ex : x = (a : Int) := by rw [← e]; rfl
      by_cases hb : a < 9223372036854775808
      · have hf : fits x = true := decide_eq_true (by omega)
        unfold sml
        rw [if_pos hf, hf, ex]
        exact Small_nat A n c a w hr hb
      · have hf : fits x = false := decide_eq_false (by omega)
        unfold sml
        rw [hf, if_neg (by decide)]
        exact Small_pos_no A n c a w hr (by omega) hl
    · have ex : x = -(a : Int) := by rw [← e]; rfl
      by_cases hb : a ≤ 9223372036854775808
      · have hf : fits x = true := decide_eq_true (by omega)
        unfold sml
        rw [if_pos hf, hf, ex]
        exact Small_neg A n c a w hr hb
      · have hf : fits x = false := decide_eq_false (by omega)
        unfold sml
        rw [hf, if_neg (by decide)]
        exact Small_neg_no A n c a w hr (by omega) hl
  · have ha : 65536 ^ 4 ≤ a := by
      rcases Nat.lt_or_ge a (65536 ^ 4) with h | h
      · exact absurd (dig_length_le h) hl
      · exact h
    rw [show (65536 : Nat) ^ 4 = 18446744073709551616 from rfl] at ha
    have hf : fits x = false := decide_eq_false (by
      have : x.natAbs = a := by rw [← e, natAbs_toZ]
      omega)
    unfold sml
    rw [hf, if_neg (by decide)]
    exact Small_long s A n c a w hr (by omega)

end Go.Proofs.YtlfeendebbidhaaDoor

namespace Go.Proofs.YtlfeendebbidhaaDoor
open Go.RowKit Kb

theorem drop_le {a j : Nat} (h : j ≤ (dig a).length) : val ((dig a).drop j) ≤ a := by
  have := val_split j h
  rw [val_dig] at this
  have h2 : val ((dig a).drop j) ≤ 65536 ^ j * val ((dig a).drop j) := Nat.le_mul_of_pos_left _ (Nat.pow_pos (by decide))
  omega

set_option maxRecDepth 100000 in
set_option maxHeartbeats 8000000 in
theorem rSmallZ {w : World} {s : Bool} {A : Option Addr} {n c : Nat} {x : Int} (h : Zi w s A n c x) (hn : n ≤ 100000) :
    Calls Tryd.prog 9 #[.agg #[.bool s, .slice A n c]] w fun e w' => e = .returned (.tuple #[.int .i64 (sml x), .bool (fits x)]) ∧ Below w.heap.size w w' := by
  have hal := al1' w (.cells #[.bool s, .slice A n c] 24)
  have j1 := Bk.of_alloc w (.cells #[.bool s, .slice A n c] 24) rfl
  have hr := hid (rreadZ (h.below hal) hn)
  obtain ⟨a, ha⟩ : ∃ a, a = x.natAbs := ⟨_, rfl⟩
  have HX := hid (show toZ s a = x by rw [ha]; exact h.eq)
  rw [← ha] at hr
  clear h ha
  go_enter Tryd.func9, Tryd.ntmps9
  go_wp2_with fail
  refine hr.out.mono ?_
  rintro e w1 ⟨v, rfl, hv, hb1⟩
  obtain ⟨A', c', rfl, hs, hlc, -⟩ := hv
  replace j1 := j1.step hb1
  have hB1 := hid (bthen hal hb1 (Nat.le_refl _))
  clear hb1 hal hr
  by_cases hl : (dig a).length ≤ 4
  · have hle : ¬ (4 : Int) < ((dig a).length : Int) := by omega
    have hbig := hid (show a < 18446744073709551616 from by have := lt_of_dig_length hl; rwa [show (65536 : Nat) ^ 4 = 18446744073709551616 from rfl] at this)
    obtain ⟨g, hg⟩ : ∃ g, w.heap.size = g := ⟨_, rfl⟩
    rw [hg] at j1
    have Hg := hid hg
    go_wp2
    clear hg
    go_loop [5, 6] (fun uv iv => ∃ k : Nat, k ≤ (dig a).length ∧ iv = .int .i64 ((k : Int) - 1) ∧ uv = .int .u64 (val ((dig a).drop k) : Nat)) (fun _ iv => (intOf iv + 1).toNat)
    case atStart => exact ⟨(dig a).length, Nat.le_refl _, by go_num, by rw [List.drop_length]; rfl⟩
    case round =>
      obtain ⟨k, hk, rfl, rfl⟩ := hrel
      by_cases h0 : 0 < k
      · obtain ⟨j, rfl⟩ : ∃ j, k = j + 1 := ⟨k - 1, by omega⟩
        obtain ⟨ad, rfl, hb, hcell⟩ := hs j (by omega)
        obtain ⟨y, hy⟩ : ∃ y, y = nth (dig a) j := ⟨_, rfl⟩
        obtain ⟨U, hU⟩ : ∃ U, U = val ((dig a).drop (j + 1)) := ⟨_, rfl⟩
        have ly : y < 65536 := by rw [hy]; exact lim_nth (lim_dig a) j
        have hV := hid (show val ((dig a).drop j) = y + 65536 * U by rw [hy, hU]; exact val_drop_nth (by omega))
        have hVle := hid (drop_le (a := a) (j := j) (by omega))
        rw [← hy] at hcell
        rw [← hU]
        have f0 : IntKind.u64.wrap (y : Int) = (y : Int) := by rw [IntKind.wrap_u64]; omega
        have f1 : IntKind.u64.wrap ((U : Int) * 65536) = (U : Int) * 65536 := by
          rw [IntKind.wrap_u64]; have := hV.out; have := hVle.out; have := hbig.out; omega
        have f2 : IntKind.u64.wrap ((U : Int) * 65536 + (y : Int)) = (U : Int) * 65536 + (y : Int) := by
          rw [IntKind.wrap_u64]; have := hV.out; have := hVle.out; have := hbig.out; omega
        rw [show (((j + 1 : Nat) : Int) - 1) = (j : Int) by omega]
        clear hy hU
        go_wp2
        go_round
        case rel => exact ⟨j, by omega, rfl, val_int (by rw [hV.out]; omega)⟩
        case measure => simp [intOf]
      · obtain rfl : k = 0 := by omega
        rw [List.drop_zero, val_dig]
        obtain ⟨x0, x1, -, -⟩ := j1.c2
        cases s
        · have ex := hid (show x = (a : Int) by rw [← HX.out]; rfl)
          by_cases hb : a < 9223372036854775808
          · have hf := hid (show fits x = true from decide_eq_true (by have := ex.out; omega))
            have hlt : decide ((a : Int) < (9223372036854775808 : Int)) = true := decide_eq_true (by omega)
            have hlt2 : (a : Int) < (9223372036854775808 : Int) := by omega
            have hw := hid (show IntKind.i64.wrap (a : Int) = (a : Int) by rw [IntKind.wrap_i64]; omega)
            clear hb
            go_wp2
            go_ret2
            refine ⟨?_, hB1.out⟩
            unfold sml
            rw [if_pos hf.out, hf.out, ex.out]
            first | rfl | rw [← hw.out]
          · have hf := hid (show fits x = false from decide_eq_false (by have := ex.out; omega))
            have hlt : decide ((a : Int) < (9223372036854775808 : Int)) = false := decide_eq_false (by omega)
            have hlt2 : ¬ (a : Int) < (9223372036854775808 : Int) := by omega
            clear hb
            go_wp2
            go_ret2
            refine ⟨?_, hB1.out⟩
            unfold sml
            rw [hf.out, if_neg (by decide)]
            exact rfl
        · have ex := hid (show x = -(a : Int) by rw [← HX.out]; rfl)
          by_cases hb : a ≤ 9223372036854775808
          · have hf := hid (show fits x = true from decide_eq_true (by have := ex.out; omega))
            have hlt : decide ((a : Int) ≤ (9223372036854775808 : Int)) = true := decide_eq_true (by omega)
            have hlt2 : (a : Int) ≤ (9223372036854775808 : Int) := by omega
            have hw := hid (show wrap64 (IntKind.u64.wrap (-(a : Int))) = -(a : Int) by unfold wrap64; simp only [IntKind.wrap_u64]; omega)
            clear hb
            go_wp2
            go_ret2
            refine ⟨?_, hB1.out⟩
            unfold sml
            rw [if_pos hf.out, hf.out, ex.out]
            show Ending.returned (.tuple #[.int .i64 (wrap64 (IntKind.u64.wrap (-(a : Int)))), .bool true]) = _
            rw [hw.out]
          · have hf := hid (show fits x = false from decide_eq_false (by have := ex.out; omega))
            have hlt : decide ((a : Int) ≤ (9223372036854775808 : Int)) = false := decide_eq_false (by omega)
            have hlt2 : ¬ (a : Int) ≤ (9223372036854775808 : Int) := by omega
            clear hb
            go_wp2
            go_ret2
            refine ⟨?_, hB1.out⟩
            unfold sml
            rw [hf.out, if_neg (by decide)]
            exact rfl
  · have hle : (4 : Int) < ((dig a).length : Int) := by omega
    have ha : 65536 ^ 4 ≤ a := by
      rcases Nat.lt_or_ge a (65536 ^ 4) with h | h
      · exact absurd (dig_length_le h) hl
      · exact h
    rw [show (65536 : Nat) ^ 4 = 18446744073709551616 from rfl] at ha
    have hf := hid (show fits x = false from decide_eq_false (by
      have : x.natAbs = a := by rw [← HX.out, natAbs_toZ]
      omega))
    clear ha hl
    go_wp2
    go_ret2
    refine ⟨?_, hB1.out⟩
    unfold sml
    rw [hf.out, if_neg (by decide)]
    exact rfl

end Go.Proofs.YtlfeendebbidhaaDoor
