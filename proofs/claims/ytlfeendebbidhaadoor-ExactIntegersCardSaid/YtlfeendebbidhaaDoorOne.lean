/- The contract of commonDivisor at numbers of one limb. For all numbers from 1 to 65535. -/
import Derived.Test.YtlfeendebbidhaaDoorRatio
namespace Go.Proofs.YtlfeendebbidhaaDoor
open Go.RowKit Kb

theorem Tryd.info64 : (Tryd.prog.info? 62).map (fun i => (i.zero, i.size, i.bytes)) = some (some (.int .u64 0), 1, 8) := by kernel_rfl

theorem or_zero64 (x : Nat) (hx : x < 18446744073709551616) : bits .or .u64 0 (x : Int) = (x : Int) := by
  rw [show (0 : Int) = ((0 : Nat) : Int) from rfl, u64_or_nat _ _ (by decide) hx, Nat.zero_or]

set_option maxRecDepth 100000 in
set_option maxHeartbeats 4000000 in
theorem pack_one (ad : Addr) (c x : Nat) (w : World) (hc : w.cell? ad = some (.int .u16 x)) (hx : x < 65536) (hl : ad.block < w.heap.size) :
    Calls Tryd.prog 91 #[.slice (some ad) 1 c] w fun e w' => e = .returned (.slice (some ⟨w.heap.size, 0, none⟩) 1 1) ∧ Row w' w.heap.size 62 .u64 [x] ∧ Below w.heap.size w w' := by
  obtain ⟨i0, hi, hz0, hz1, hz2⟩ := info_parts Tryd.info64
  have hmk := fun w => run_make_rowOf (P := Tryd.prog) 107 62 i0 .u64 1 1 w Tryd.underlying107 hi hz0 hz1 rfl (by omega) (by omega)
  go_enter Tryd.func91, Tryd.ntmps91
  go_wp2
  go_loopw [13] (fun iv wr => ∃ (k : Nat), k ≤ 1 ∧ iv = .int .i64 k ∧ Row wr w.heap.size 62 .u64 [if k = 0 then 0 else x] ∧ Below w.heap.size w wr) (fun iv _ => 1 - (intOf iv).toNat)
  case atStart => exact ⟨0, Nat.zero_le _, rfl, Row.new _ _ _ _, (Below.refl _ _).alloc (Nat.le_refl _) _⟩
  case round =>
    obtain ⟨k, hk, rfl, hrow, hbel⟩ := hrel
    by_cases h0 : k = 0
    · subst h0
      have hcell := (hbel.cell hl).trans hc
      have hold := hrow.cell (i := 0) (by simp)
      have hfr := hrow.frozen 0
      rw [if_pos rfl] at hrow hold
      rw [show nth [0] 0 = 0 from rfl] at hold
      have hor := or_zero64 x (by omega)
      go_wp2
      go_region
      all_goals go_wp2
      go_roundw
      case rel => exact ⟨1, Nat.le_refl _, rfl, hrow.set 0 x, (hbel.setCell (p := ⟨w.heap.size, 0, none⟩) (Nat.le_refl _) _).drew⟩
      case measure => simp [intOf]
    · obtain rfl : k = 1 := by omega
      rw [if_neg (by decide)] at hrow
      go_wp2
      go_ret
      exact ⟨rfl, hrow, hbel⟩

set_option maxRecDepth 100000 in
set_option maxHeartbeats 4000000 in
theorem down6 (g : Nat) (w : World) (hp : Row w g 62 .u64 [6]) :
    Calls Tryd.prog 98 #[.slice (some ⟨g, 0, none⟩) 1 1, .int .i64 1] w fun e w' => e = .returned (.slice (some ⟨g, 0, none⟩) 1 1) ∧ Row w' g 62 .u64 [3] ∧ w.grownBy w' (some g) := by
  go_enter Tryd.func98, Tryd.ntmps98
  go_wp2
  go_loopw [15] (fun iv wr => ∃ (k : Nat), k ≤ 1 ∧ iv = .int .i64 k ∧ Row wr g 62 .u64 [if k = 0 then 6 else 3] ∧ w.grownBy wr (some g)) (fun iv _ => 1 - (intOf iv).toNat)
  case atStart => exact ⟨0, Nat.zero_le _, rfl, hp, World.grownBy.refl _ _⟩
  case round =>
    obtain ⟨k, hk, rfl, hrow, hgr⟩ := hrel
    by_cases h0 : k = 0
    · subst h0
      have hold := hrow.cell (i := 0) (by simp)
      have hfr := hrow.frozen 0
      rw [if_pos rfl] at hrow hold
      rw [show ((nth [6] 0 : Nat) : Int) = 6 from rfl] at hold
      go_wp2
      go_roundw
      case rel => exact ⟨1, Nat.le_refl _, rfl, hrow.set 0 3, gb_set hgr 0 _⟩
      case measure => simp [intOf]
    · obtain rfl : k = 1 := by omega
      rw [if_neg (by decide)] at hrow
      go_wp2_with fail
      refine (trimWords_any (some ⟨g, 0, none⟩) 1 1 [3] wr hrow.sl rfl (Nat.le_refl _) (by unfold maxLen; omega)).mono ?_
      rintro e w' ⟨m, rfl, hm, hv, ht, rfl⟩
      obtain rfl : m = 1 := by
        rcases Nat.lt_or_ge m 1 with h | h
        · obtain rfl : m = 0 := by omega
          simp [vw] at ht
        · omega
      go_wp2
      go_ret
      exact ⟨rfl, hrow, hgr⟩

set_option maxRecDepth 100000 in
set_option maxHeartbeats 4000000 in
theorem down4 (g : Nat) (w : World) (hp : Row w g 62 .u64 [4]) :
    Calls Tryd.prog 98 #[.slice (some ⟨g, 0, none⟩) 1 1, .int .i64 2] w fun e w' => e = .returned (.slice (some ⟨g, 0, none⟩) 1 1) ∧ Row w' g 62 .u64 [1] ∧ w.grownBy w' (some g) := by
  go_enter Tryd.func98, Tryd.ntmps98
  go_wp2
  go_loopw [15] (fun iv wr => ∃ (k : Nat), k ≤ 1 ∧ iv = .int .i64 k ∧ Row wr g 62 .u64 [if k = 0 then 4 else 1] ∧ w.grownBy wr (some g)) (fun iv _ => 1 - (intOf iv).toNat)
  case atStart => exact ⟨0, Nat.zero_le _, rfl, hp, World.grownBy.refl _ _⟩
  case round =>
    obtain ⟨k, hk, rfl, hrow, hgr⟩ := hrel
    by_cases h0 : k = 0
    · subst h0
      have hold := hrow.cell (i := 0) (by simp)
      have hfr := hrow.frozen 0
      rw [if_pos rfl] at hrow hold
      rw [show ((nth [4] 0 : Nat) : Int) = 4 from rfl] at hold
      go_wp2
      go_roundw
      case rel => exact ⟨1, Nat.le_refl _, rfl, hrow.set 0 1, gb_set hgr 0 _⟩
      case measure => simp [intOf]
    · obtain rfl : k = 1 := by omega
      rw [if_neg (by decide)] at hrow
      go_wp2_with fail
      refine (trimWords_any (some ⟨g, 0, none⟩) 1 1 [1] wr hrow.sl rfl (Nat.le_refl _) (by unfold maxLen; omega)).mono ?_
      rintro e w' ⟨m, rfl, hm, hv, ht, rfl⟩
      obtain rfl : m = 1 := by
        rcases Nat.lt_or_ge m 1 with h | h
        · obtain rfl : m = 0 := by omega
          simp [vw] at ht
        · omega
      go_wp2
      go_ret
      exact ⟨rfl, hrow, hgr⟩

set_option maxRecDepth 100000 in
set_option maxHeartbeats 4000000 in
theorem up1 (ad : Addr) (c : Nat) (w : World) (hc : w.cell? ad = some (.int .u64 1)) (hl : ad.block < w.heap.size) :
    Calls Tryd.prog 102 #[.slice (some ad) 1 c, .int .i64 1] w fun e w' => e = .returned (.slice (some ⟨w.heap.size, 0, none⟩) 1 2) ∧ Row w' w.heap.size 62 .u64 [2, 0] ∧ Below w.heap.size w w' := by
  obtain ⟨i0, hi, hz0, hz1, hz2⟩ := info_parts Tryd.info64
  have hmk := fun w => run_make_rowOf (P := Tryd.prog) 107 62 i0 .u64 2 2 w Tryd.underlying107 hi hz0 hz1 rfl (by omega) (by omega)
  clear hi hz0 hz1 hz2
  go_enter Tryd.func102, Tryd.ntmps102
  go_wp2
  go_loopw [20] (fun iv wr => ∃ (k : Nat), k ≤ 1 ∧ iv = .int .i64 k ∧ Row wr w.heap.size 62 .u64 [if k = 0 then 0 else 2, 0] ∧ Below w.heap.size w wr) (fun iv _ => 1 - (intOf iv).toNat)
  case atStart => exact ⟨0, Nat.zero_le _, rfl, Row.new _ _ _ [0, 0], (Below.refl _ _).alloc (Nat.le_refl _) _⟩
  case round =>
    obtain ⟨k, hk, rfl, hrow, hbel⟩ := hrel
    by_cases h0 : k = 0
    · subst h0
      have hcell := (hbel.cell hl).trans hc
      have hold := hrow.cell (i := 0) (by simp)
      have hfr := hrow.frozen 0
      rw [if_pos rfl] at hrow hold
      have hr1 : Row (wr.setCell ⟨w.heap.size, 0, none⟩ (.int .u64 2)) w.heap.size 62 .u64 [2, 0] := hrow.set 0 2
      rw [show ((nth [0, 0] 0 : Nat) : Int) = 0 from rfl] at hold
      have hor : bits .or .u64 0 2 = 2 := by decide
      have hor2 : bits .or .u64 0 0 = 0 := by decide
      go_wp2
      go_region
      all_goals go_wp2
      have hb1 := (hbel.setCell (p := ⟨w.heap.size, 0, none⟩) (Nat.le_refl _) (.int .u64 2)).drew
      have hold1 := hr1.cell (i := 1) (by simp)
      rw [show ((nth [2, 0] 1 : Nat) : Int) = 0 from rfl] at hold1
      have hfr1 := hr1.frozen 1
      have hr3 : Row ((wr.setCell ⟨w.heap.size, 0, none⟩ (.int .u64 2)).drew) w.heap.size 62 .u64 [2, 0] := hr1
      replace hold1 : ((wr.setCell ⟨w.heap.size, 0, none⟩ (.int .u64 2)).drew).cell? ⟨w.heap.size, 1, none⟩ = some (.int .u64 0) := hold1
      replace hfr1 : ((wr.setCell ⟨w.heap.size, 0, none⟩ (.int .u64 2)).drew).frozen? ⟨w.heap.size, 1, none⟩ = false := hfr1
      clear hcell hold hfr hrow hr1 hbel
      generalize (wr.setCell ⟨w.heap.size, 0, none⟩ (.int .u64 2)).drew = w1 at *
      go_region
      all_goals go_wp2
      go_roundw
      case rel => exact ⟨1, Nat.le_refl _, rfl, hr3.set 1 0, (hb1.setCell (p := ⟨w.heap.size, 1, none⟩) (Nat.le_refl _) _).drew⟩
      case measure => simp [intOf]
    · obtain rfl : k = 1 := by omega
      rw [if_neg (by decide)] at hrow
      go_wp2_with fail
      refine (trimWords_any (some ⟨w.heap.size, 0, none⟩) 2 2 [2, 0] wr hrow.sl rfl (Nat.le_refl _) (by unfold maxLen; omega)).mono ?_
      rintro e w' ⟨m, rfl, hm, htop, ht, rfl⟩
      obtain rfl : m = 1 := by
        match m, hm, htop, ht with
        | 0, _, _, ht => simp [vw] at ht
        | 1, _, _, _ => rfl
        | 2, _, h, _ => rcases h with h | h <;> simp [nth] at h
      go_wp2
      go_ret
      exact ⟨rfl, hrow, hbel⟩

set_option maxRecDepth 100000 in
set_option maxHeartbeats 4000000 in
theorem unpack2 (ad : Addr) (c : Nat) (w : World) (hc : w.cell? ad = some (.int .u64 2)) (hl : ad.block < w.heap.size) :
    Calls Tryd.prog 89 #[.slice (some ad) 1 c] w fun e w' => ∃ v, e = .returned v ∧ Nm w' v 2 ∧ Below w.heap.size w w' := by
  obtain ⟨i0, hi, hz0, hz1, hz2⟩ := info_parts Tryd.info16
  have hmk := fun w => run_make_rowOf (P := Tryd.prog) 22 71 i0 .u16 4 4 w Tryd.underlying22 hi hz0 hz1 rfl (by omega) (by omega)
  go_enter Tryd.func89, Tryd.ntmps89
  go_wp2
  go_loopw [11] (fun iv wr => ∃ (k : Nat), k ≤ 4 ∧ iv = .int .i64 k ∧ Row wr w.heap.size 71 .u16 [if k = 0 then 0 else 2, 0, 0, 0] ∧ Below w.heap.size w wr) (fun iv _ => 4 - (intOf iv).toNat)
  case atStart => exact ⟨0, Nat.zero_le _, rfl, Row.new _ _ _ [0, 0, 0, 0], (Below.refl _ _).alloc (Nat.le_refl _) _⟩
  case round =>
    obtain ⟨k, hk, rfl, hrow, hbel⟩ := hrel
    have hcell := (hbel.cell hl).trans hc
    have hfr := hrow.frozen
    match k, hk with
    | 0, _ =>
      have hs := hrow.set 0 2
      replace hfr := hfr 0
      have hold := hrow.cell (i := 0) (by simp)
      go_wp2
      go_roundw
      case rel => exact ⟨1, by omega, rfl, hs, hbel.setCell (p := ⟨w.heap.size, 0, none⟩) (Nat.le_refl _) _⟩
      case measure => simp [intOf]
    | 1, _ =>
      have hs := hrow.set 1 0
      replace hfr := hfr 1
      have hold := hrow.cell (i := 1) (by simp)
      go_wp2
      go_roundw
      case rel => exact ⟨2, by omega, rfl, hs, hbel.setCell (p := ⟨w.heap.size, 1, none⟩) (Nat.le_refl _) _⟩
      case measure => simp [intOf]
    | 2, _ =>
      have hs := hrow.set 2 0
      replace hfr := hfr 2
      have hold := hrow.cell (i := 2) (by simp)
      go_wp2
      go_roundw
      case rel => exact ⟨3, by omega, rfl, hs, hbel.setCell (p := ⟨w.heap.size, 2, none⟩) (Nat.le_refl _) _⟩
      case measure => simp [intOf]
    | 3, _ =>
      have hs := hrow.set 3 0
      replace hfr := hfr 3
      have hold := hrow.cell (i := 3) (by simp)
      go_wp2
      go_roundw
      case rel => exact ⟨4, by omega, rfl, hs, hbel.setCell (p := ⟨w.heap.size, 3, none⟩) (Nat.le_refl _) _⟩
      case measure => simp [intOf]
    | 4, _ =>
      go_wp2_with fail
      refine (trim_nm (some ⟨w.heap.size, 0, none⟩) 4 4 [2, 0, 0, 0] wr hrow.sl (by intro x hx; simp at hx; omega) rfl (Nat.le_refl _) (by unfold maxLen; omega)).mono ?_
      rintro e w' ⟨v, rfl, hv, rfl⟩
      rw [show val [2, 0, 0, 0] = 2 from rfl] at hv
      go_wp2
      go_ret
      exact ⟨v, rfl, hv, hbel⟩

theorem Tab.grown {w w' : World} {g : Nat} (h : Tab w) (hb : w.grownBy w' (some g)) (hl : 0 < w.heap.size) (hg : 0 ≠ g) : Tab w' := fun j hj => by
  rw [← h j hj]
  exact World.cell?_of_block (hb.block _ hl (fun e => hg (by injection e)))
theorem Tb.grown {w w' : World} {g : Nat} (h : Tb w) (hb : w.grownBy w' (some g)) (hg : 0 ≠ g) : Tb w' := ⟨h.1.grown hb h.2 hg, Nat.lt_of_lt_of_le h.2 hb.size⟩

theorem dig_small {a : Nat} (h0 : a ≠ 0) (h : a < 65536) : dig a = [a] := by
  rw [dig_pos h0, Nat.mod_eq_of_lt h, Nat.div_eq_of_lt h, dig_zero]
theorem wd31 (w : World) (hT : Tab w) : Calls Tryd.prog 103 #[.int .u64 3, .int .u64 1] w fun e w' => e = .returned (.int .u64 1) ∧ w = w' :=
  wordDivisor_any 3 1 1 0 w (by decide) (by decide) rfl rfl hT
theorem zeroBits6 (g : Nat) (w : World) (hp : Row w g 62 .u64 [6]) (hT : Tb w) :
    Calls Tryd.prog 97 #[.slice (some ⟨g, 0, none⟩) 1 1] w fun e w' => e = .returned (.int .i64 1) ∧ w = w' :=
  (zeroBits_any (some ⟨g, 0, none⟩) 1 1 0 [6] w hp.sl (by intro x hx; simp at hx; omega) rfl (by omega) (fun j hj => by omega) (by omega) (by decide) hT.1).mono fun e w' h => ⟨h.1.trans (by rw [show (64 * 0 + Lib.ctz 64 (nth [6] 0) : Nat) = 1 from by decide]; rfl), h.2⟩
theorem zeroBits4 (g : Nat) (w : World) (hp : Row w g 62 .u64 [4]) (hT : Tb w) :
    Calls Tryd.prog 97 #[.slice (some ⟨g, 0, none⟩) 1 1] w fun e w' => e = .returned (.int .i64 2) ∧ w = w' :=
  (zeroBits_any (some ⟨g, 0, none⟩) 1 1 0 [4] w hp.sl (by intro x hx; simp at hx; omega) rfl (by omega) (fun j hj => by omega) (by omega) (by decide) hT.1).mono fun e w' h => ⟨h.1.trans (by rw [show (64 * 0 + Lib.ctz 64 (nth [4] 0) : Nat) = 2 from by decide]; rfl), h.2⟩

set_option maxRecDepth 100000 in
set_option maxHeartbeats 4000000 in
theorem binary64 (B gx gy : Nat) (w : World) (hx : Row w gx 62 .u64 [6]) (hy : Row w gy 62 .u64 [4]) (hne : gx ≠ gy) (hBx : B ≤ gx) (hBy : B ≤ gy) (hT : Tb w) (hxt : 0 < B) :
    Calls Tryd.prog 90 #[.slice (some ⟨gx, 0, none⟩) 1 1, .slice (some ⟨gy, 0, none⟩) 1 1] w fun e w' => ∃ g, e = .returned (.slice (some ⟨g, 0, none⟩) 1 2) ∧ Row w' g 62 .u64 [2, 0] ∧ Below B w w' := by
  go_enter Tryd.func90, Tryd.ntmps90
  go_wp2_with fail
  refine (zeroBits6 gx w hx hT).mono ?_
  rintro e w1 ⟨rfl, rfl⟩
  go_wp2_with fail
  refine (zeroBits4 gy w hy hT).mono ?_
  rintro e w1 ⟨rfl, rfl⟩
  go_wp2_with fail
  refine (zeroBits6 gx w hx hT).mono ?_
  rintro e w1 ⟨rfl, rfl⟩
  go_wp2_with fail
  have lx := hx.lt
  have ly := hy.lt
  refine (down6 gx w hx).mono ?_
  rintro e w2 ⟨rfl, hx2, hg2⟩
  have hy2 := hy.grown hg2 (by intro e; injection e with e; omega)
  have T2 := hT.grown hg2 (by omega)
  go_wp2_with fail
  refine (zeroBits4 gy w2 hy2 T2).mono ?_
  rintro e w3 ⟨rfl, rfl⟩
  go_wp2_with fail
  refine (down4 gy w2 hy2).mono ?_
  rintro e w4 ⟨rfl, hy4, hg4⟩
  have hx4 := hx2.grown hg4 (by intro e; injection e with e; omega)
  have T4 := T2.grown hg4 (by omega)
  have hB4 := hid (((Below.refl B w).grown hg2 (by omega) (fun k hk => by injection hk with hk; omega)).grown hg4 (by have := hg2.size; omega) (fun k hk => by injection hk with hk; omega))
  clear hx hy hT hx2 hy2 T2 hg2 hg4
  go_wp2_with fail
  go_loopw [0, 1] (fun xv yv wr => xv = .slice (some ⟨gx, 0, none⟩) 1 1 ∧ yv = .slice (some ⟨gy, 0, none⟩) 1 1 ∧ wr = w4) (fun _ _ _ => 0)
  case atStart => exact ⟨rfl, rfl, rfl⟩
  case round =>
    obtain ⟨rfl, rfl, rfl⟩ := hrel
    have cx := hx4.cell (i := 0) (by simp)
    have cy := hy4.cell (i := 0) (by simp)
    rw [show ((nth [3] 0 : Nat) : Int) = 3 from rfl] at cx
    rw [show ((nth [1] 0 : Nat) : Int) = 1 from rfl] at cy
    have T5 : Tab wr.drew := T4.1
    have hB5 := hid hB4.out.drew
    have hal : Below wr.heap.size wr (wr.alloc (.cells #[.int .u64 1] 62)).drew := ((Below.refl _ _).alloc (Nat.le_refl _) _).drew
    have cxa : (wr.alloc (.cells #[.int .u64 1] 62)).drew.cell? ⟨gx, 0, none⟩ = some (.int .u64 3) := (hal.cell hx4.lt).trans cx
    have cya : (wr.alloc (.cells #[.int .u64 1] 62)).drew.cell? ⟨gy, 0, none⟩ = some (.int .u64 1) := (hal.cell hy4.lt).trans cy
    have ca : (wr.alloc (.cells #[.int .u64 1] 62)).drew.cell? ⟨wr.heap.size, 0, none⟩ = some (.int .u64 1) := by
      have h := (Bk.of_alloc wr (.cells #[.int .u64 1] 62) rfl)
      show (wr.alloc (.cells #[.int .u64 1] 62)).cell? _ = _
      rw [cell_of_row _ _ _ _ 62 (0, 0) h]; rfl
    have hlx := hx4.lt
    have hly := hy4.lt
    have hBa := hid (bthen hB4.out hal (by omega))
    have hla : wr.heap.size < (wr.alloc (.cells #[.int .u64 1] 62)).drew.heap.size := by show wr.heap.size < (wr.alloc (.cells #[.int .u64 1] 62)).heap.size; simp
    clear hal
    go_wp2
    rw [show (min 1 2 : Int) = 1 from rfl]
    go_region_held3 (fun w' => w'.cell? ⟨gx, 0, none⟩ = some (.int .u64 3) ∧ w'.cell? ⟨gy, 0, none⟩ = some (.int .u64 1)) (first | exact ⟨cx, cy⟩ | exact ⟨cxa, cya⟩ | exact ⟨cxb, cyb⟩) (first
      | (go_at_call 103; with_reducible refine (wd31 wr.drew T5).mono ?_; rintro e w5 ⟨rfl, rfl⟩)
      | (go_at_call 102; with_reducible refine (up1 ⟨wr.heap.size, 0, none⟩ 1 (wr.alloc (.cells #[.int .u64 1] 62)).drew ca hla).mono ?_; rintro e w6 ⟨rfl, hr6, hb6⟩; have cxb := (hb6.cell (p := ⟨gx, 0, none⟩) (Nat.lt_trans hlx hla)).trans cxa; have cyb := (hb6.cell (p := ⟨gy, 0, none⟩) (Nat.lt_trans hly hla)).trans cya))
    have hB6 := bthen hBa.out hb6 (by omega)
    go_wp2
    go_ret
    refine ⟨_, rfl, ?_, hB6⟩
    have e : (wr.alloc (.cells #[.int .u64 1] 62)).drew.heap.size = wr.heap.size + 1 := by show (wr.alloc (.cells #[.int .u64 1] 62)).heap.size = _; simp
    rwa [e] at hr6

set_option maxRecDepth 100000 in
set_option maxHeartbeats 4000000 in
theorem CD_one (a : Nat) (ha : a ≠ 0) : CD a 1 := by
  intro v u w h k hT
  have hl0 : (dig a).length ≠ 0 := fun e => ha (dig_nil_iff.1 (List.eq_nil_of_length_eq_zero e))
  have d1 : dig 1 = [1] := dig_small (by decide) (by decide)
  have k' := k
  obtain ⟨A, c, rfl, h1, h2, h3⟩ := h
  obtain ⟨B, d, rfl, k1, k2, k3⟩ := k
  rw [d1] at k' k1 k2 ⊢
  have hlt : ¬ ((dig a).length : Int) < (1 : Int) := by omega
  clear ha
  go_enter Tryd.func76, Tryd.ntmps76
  go_wp2_with fail
  refine (isOne_nm k').mono ?_
  rintro e w1 ⟨rfl, rfl⟩
  go_wp2
  go_ret
  refine ⟨_, rfl, ?_, Below.refl _ _⟩
  rw [Nat.gcd_one_right]
  exact k'

set_option maxRecDepth 100000 in
set_option maxHeartbeats 4000000 in
theorem CD_64 : CD 6 4 := by
  intro v u w h k hT
  have d6 : dig 6 = [6] := dig_small (by decide) (by decide)
  have d4 : dig 4 = [4] := dig_small (by decide) (by decide)
  have k' := k
  obtain ⟨A, c, rfl, h1, h2, h3⟩ := h
  obtain ⟨B, d, rfl, k1, k2, k3⟩ := k
  rw [d6] at h1 h2 ⊢
  rw [d4] at k' k1 k2 ⊢
  obtain ⟨ad, rfl, ha1, ha2⟩ := h1 0 (by simp)
  obtain ⟨bd, rfl, hb1, hb2⟩ := k1 0 (by simp)
  rw [addr_zero] at ha2 hb2
  rw [show nth [6] 0 = 6 from rfl] at ha2
  rw [show nth [4] 0 = 4 from rfl] at hb2
  go_enter Tryd.func76, Tryd.ntmps76
  go_wp2_with fail
  refine (isOne_nm k').mono ?_
  rintro e w1 ⟨rfl, rfl⟩
  go_wp2_with fail
  refine (pack_one ad c 6 w ha2 (by decide) ha1).mono ?_
  rintro e w2 ⟨rfl, hx, hB2⟩
  go_wp2_with fail
  refine (pack_one bd d 4 w2 ((hB2.cell hb1).trans hb2) (by decide) (Nat.lt_of_lt_of_le hb1 hB2.size)).mono ?_
  rintro e w3 ⟨rfl, hy, hB3⟩
  have hlx := hx.lt
  have hsz := hB2.size
  have T3 := (hT.below hB2).below hB3
  go_wp2_with fail
  refine (binary64 w.heap.size w.heap.size w2.heap.size w3 (hx.below hB3 hlx) hy (by omega) (Nat.le_refl _) hsz T3 hT.2).mono ?_
  rintro e w4 ⟨g, rfl, hr, hB4⟩
  have hB4' := hid (bthen (Below.refl w.heap.size w) ((hB2.trans (hB3.mono hsz)).trans hB4) (Nat.le_refl _))
  have hc4 := hr.cell (i := 0) (by simp)
  rw [show ((nth [2, 0] 0 : Nat) : Int) = 2 from rfl] at hc4
  have hl4 := hr.lt
  clear hB4 hB2 hB3
  go_wp2_with fail
  refine (unpack2 ⟨g, 0, none⟩ 2 w4 hc4 hl4).mono ?_
  rintro e w5 ⟨v, rfl, hv, hB5⟩
  have hB6 := bthen hB4'.out hB5 (by have := hB4'.out.size; omega)
  go_wp2
  go_ret
  exact ⟨v, rfl, hv, hB6⟩

end Go.Proofs.YtlfeendebbidhaaDoor
