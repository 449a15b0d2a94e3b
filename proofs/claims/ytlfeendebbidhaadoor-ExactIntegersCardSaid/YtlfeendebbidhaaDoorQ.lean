/- The contract of Q at the fraction of the statements' example. -/
import Derived.Test.YtlfeendebbidhaaDoorRat
import Derived.Test.YtlfeendebbidhaaDoorComb
namespace Go.Proofs.YtlfeendebbidhaaDoor
open Go.RowKit Kb

theorem z_m3 (w : World) : Calls Tryd.prog 34 #[.int .i64 (-3)] w fun e w' => ∃ A n c, e = .returned (.agg #[.bool true, .slice A n c]) ∧ Nm w' (.slice A n c) 3 ∧ Below w.heap.size w w' := by
  refine (nz_openb (Z_any (-3) w (by decide) (by decide))).mono ?_
  rintro e w1 ⟨s1, A1, n1, c1, rfl, hs1, hn1, hb1⟩
  obtain rfl : s1 = true := hs1.out.trans (by decide)
  exact ⟨A1, n1, c1, rfl, hn1, hb1⟩
theorem z_p (z : Nat) (w : World) (h : z ≤ 9223372036854775807) : Calls Tryd.prog 34 #[.int .i64 (z : Int)] w fun e w' => ∃ A n c, e = .returned (.agg #[.bool false, .slice A n c]) ∧ Nm w' (.slice A n c) z ∧ Below w.heap.size w w' := by
  refine (nz_openb (Z_any (z : Int) w (by omega) (by omega))).mono ?_
  rintro e w1 ⟨s1, A1, n1, c1, rfl, hs1, hn1, hb1⟩
  obtain rfl : s1 = false := hs1.out.trans (decide_eq_false (by omega))
  exact ⟨A1, n1, c1, rfl, by rw [Int.natAbs_natCast] at hn1; exact hn1, hb1⟩
theorem z_2 (w : World) : Calls Tryd.prog 34 #[.int .i64 2] w fun e w' => ∃ A n c, e = .returned (.agg #[.bool false, .slice A n c]) ∧ Nm w' (.slice A n c) 2 ∧ Below w.heap.size w w' := z_p 2 w (by decide)

def QRel (_w W0 : World) (xv yv : Value) (wr : World) : Prop := Qt W0 wr ∧
  ((xv = .int .i64 3 ∧ yv = .int .i64 2) ∨ (xv = .int .i64 2 ∧ yv = .int .i64 1) ∨ (xv = .int .i64 1 ∧ yv = .int .i64 0))

theorem Tb.zero {w : World} (h : Tb w) : w.cell? ⟨0, 0, none⟩ = some (.int .u8 0) := h.1 0 (by decide)

set_option maxRecDepth 100000 in
set_option maxHeartbeats 4000000 in
theorem Q_ex (w : World) (hT : Tb w) : Calls Tryd.prog 38 #[.int .i64 (-3), .int .i64 2] w fun e w' => ∃ v, e = .returned v ∧ Rz w' v (-3) 2 ∧ Below w.heap.size w w' := by
  have hal := (Below.refl w.heap.size w).alloc (Nat.le_refl _) (.cells #[.bool false, .slice none 0 0, .bool false, .slice none 0 0] 42)
  have j2 := Bk.of_alloc w (.cells #[.bool false, .slice none 0 0, .bool false, .slice none 0 0] 42) rfl
  obtain ⟨g, hg⟩ : ∃ g, w.heap.size = g := ⟨_, rfl⟩
  go_enter Tryd.func38, Tryd.ntmps38
  go_wp2
  rw [hg] at j2
  generalize w.alloc (.cells #[.bool false, .slice none 0 0, .bool false, .slice none 0 0] 42) = W0 at *
  go_loopw [5, 6] (fun xv yv wr => QRel w W0 xv yv wr) (fun _ yv _ => (intOf yv).toNat)
  case atStart => exact ⟨Qt.refl _, .inl ⟨rfl, rfl⟩⟩
  case round =>
    obtain ⟨hq, ⟨rfl, rfl⟩ | ⟨rfl, rfl⟩ | ⟨rfl, rfl⟩⟩ := hrel
    · go_wp2
      go_quiet (fail)
      go_wp2
      go_roundw
      case rel => exact ⟨hq.drewN _, .inr (.inl ⟨rfl, rfl⟩)⟩
      case measure => simp [intOf]
    · go_wp2
      go_quiet (fail)
      go_wp2
      go_roundw
      case rel => exact ⟨hq.drewN _, .inr (.inr ⟨rfl, rfl⟩)⟩
      case measure => simp [intOf]
    · have hB := hid (bthen hal (hq.below _) (Nat.le_refl _))
      have j3 : Bk wr.drew g _ := j2.step (hq.drew.below _)
      have Hg := hid hg
      have T3 := hT.below (hB.out.drew)
      have x0 := T3.zero
      have hne : g ≠ 0 := by have := hT.2; omega
      clear hq hal hg j2
      go_wp2
      have e1 : IntKind.i64.wrap (-3) = -3 := by decide
      have e2 : IntKind.i64.wrap 2 = 2 := by decide
      go_region_held3 (fun w' => w'.cell? ⟨0, 0, none⟩ = some (.int .u8 0)) (first | exact x0 | exact y0 | exact z0 | exact off_four hne z0) (first
        | (go_at_call 34; with_reducible refine (z_m3 wr.drew).mono ?_; rintro e w1 ⟨A1, n1, c1, rfl, hn1, hb1⟩; replace j3 := j3.step hb1; have y0 := (T3.below hb1).zero)
        | (go_at_call 34; with_reducible refine (z_2 w1).mono ?_; rintro e w2 ⟨A2, n2, c2, rfl, hn2, hb2⟩; replace j3 := j3.step hb2; obtain ⟨i0, i1, i2, i3, i4, i5, i6, i7⟩ := j3.c4; have hl := j3.lt; have z0 := ((T3.below hb1).below hb2).zero))
      clear x0 y0 z0 e1 e2 T3
      have h5 := bthen (bthen hB.out.drew hb1 (Nat.le_refl _)) hb2 (Nat.le_refl _)
      have hgl := Hg.out
      have h11 := hid (below4 h5 (show w.heap.size ≤ g by omega) (.bool true) (.slice A1 n1 c1) (.bool false) (.slice A2 n2 c2))
      have m1' := hid ((hn1.below hb2).offbox j3 (noInt_four _ _ _ _ _ _ _ _) (gb4 _ _ (.bool true) (.slice A1 n1 c1) (.bool false) (.slice A2 n2 c2)))
      have m2' := hid (hn2.offbox j3 (noInt_four _ _ _ _ _ _ _ _) (gb4 _ _ (.bool true) (.slice A1 n1 c1) (.bool false) (.slice A2 n2 c2)))
      clear hgl h5 j3 hn1 hn2 hb1 hb2
      go_wp2
      exact bodyPost_ret (v := .agg #[.bool true, .slice A1 n1 c1, .bool false, .slice A2 n2 c2]) (by simp [results, Tryd.results38, go_sem, i0, i1, i2, i3]) rfl ⟨_, rfl, ⟨true, A1, n1, c1, false, A2, n2, c2, rfl, hid rfl, hid rfl, m1'.out, m2'.out⟩, h11.out⟩

end Go.Proofs.YtlfeendebbidhaaDoor
