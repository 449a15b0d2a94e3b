/- The contracts of CheckCurve, rise, along and Value at the curve and the number of the statements' example. -/
import Derived.Test.YtlfeendebbidhaaDoorStarts
namespace Go.Proofs.YtlfeendebbidhaaDoor
open Go.RowKit Kb

/-- The curve of the example: starts 0 and 10 in block b, slopes 2 and 0 in block sb. -/
structure Crv (w : World) (b sb : Nat) (A1 : Option Addr) (n1 c1 : Nat) (B1 : Option Addr) (m1 d1 : Nat) (A2 : Option Addr) (n2 c2 : Nat) (B2 : Option Addr) (m2 d2 : Nat) : Prop where
  s0 : w.cell? ⟨b, 0, none⟩ = some (.int .i64 0)
  s1 : w.cell? ⟨b, 1, none⟩ = some (.int .i64 10)
  lb : b < w.heap.size
  ls : sb < w.heap.size
  p0 : w.cell? ⟨sb, 0, none⟩ = some (.bool false)
  p1 : w.cell? ⟨sb, 1, none⟩ = some (.slice A1 n1 c1)
  p2 : w.cell? ⟨sb, 2, none⟩ = some (.bool false)
  p3 : w.cell? ⟨sb, 3, none⟩ = some (.slice B1 m1 d1)
  p4 : w.cell? ⟨sb, 4, none⟩ = some (.bool false)
  p5 : w.cell? ⟨sb, 5, none⟩ = some (.slice A2 n2 c2)
  p6 : w.cell? ⟨sb, 6, none⟩ = some (.bool false)
  p7 : w.cell? ⟨sb, 7, none⟩ = some (.slice B2 m2 d2)
  na1 : Nm w (.slice A1 n1 c1) 2
  nb1 : Nm w (.slice B1 m1 d1) 1
  na2 : Nm w (.slice A2 n2 c2) 0
  nb2 : Nm w (.slice B2 m2 d2) 1
section
variable {w w' : World} {b sb n1 c1 m1 d1 n2 c2 m2 d2 : Nat} {A1 B1 A2 B2 : Option Addr}
theorem Crv.below (h : Crv w b sb A1 n1 c1 B1 m1 d1 A2 n2 c2 B2 m2 d2) (hb : Below w.heap.size w w') : Crv w' b sb A1 n1 c1 B1 m1 d1 A2 n2 c2 B2 m2 d2 :=
  ⟨(hb.cell (p := ⟨b, 0, none⟩) h.lb).trans h.s0, (hb.cell (p := ⟨b, 1, none⟩) h.lb).trans h.s1, Nat.lt_of_lt_of_le h.lb hb.size, Nat.lt_of_lt_of_le h.ls hb.size,
   (hb.cell (p := ⟨sb, 0, none⟩) h.ls).trans h.p0, (hb.cell (p := ⟨sb, 1, none⟩) h.ls).trans h.p1, (hb.cell (p := ⟨sb, 2, none⟩) h.ls).trans h.p2, (hb.cell (p := ⟨sb, 3, none⟩) h.ls).trans h.p3,
   (hb.cell (p := ⟨sb, 4, none⟩) h.ls).trans h.p4, (hb.cell (p := ⟨sb, 5, none⟩) h.ls).trans h.p5, (hb.cell (p := ⟨sb, 6, none⟩) h.ls).trans h.p6, (hb.cell (p := ⟨sb, 7, none⟩) h.ls).trans h.p7,
   h.na1.below hb, h.nb1.below hb, h.na2.below hb, h.nb2.below hb⟩
end

set_option maxRecDepth 100000 in
set_option maxHeartbeats 4000000 in
theorem CheckCurve_ex (b sb sc n1 c1 m1 d1 n2 c2 m2 d2 : Nat) (A1 B1 A2 B2 : Option Addr) (w : World) (h : Crv w b sb A1 n1 c1 B1 m1 d1 A2 n2 c2 B2 m2 d2) :
    Calls Tryd.prog 65 #[.agg #[.slice (some ⟨b, 0, none⟩) 2 2, .slice (some ⟨sb, 0, none⟩) 2 sc]] w fun e w' => e = .returned (.int .i64 0) ∧ Below w.heap.size w w' := by
  have hb0 := (Below.refl w.heap.size w).alloc (Nat.le_refl _) (.cells #[.slice (some ⟨b, 0, none⟩) 2 2, .slice (some ⟨sb, 0, none⟩) 2 sc] 58)
  have j1 := Bk.of_alloc w (.cells #[.slice (some ⟨b, 0, none⟩) 2 2, .slice (some ⟨sb, 0, none⟩) 2 sc] 58) rfl
  have h0 := h.below hb0
  obtain ⟨g, hg⟩ : ∃ g, w.heap.size = g := ⟨_, rfl⟩
  go_enter Tryd.func65, Tryd.ntmps65
  go_wp2
  rw [hg] at j1
  generalize w.alloc (.cells #[.slice (some ⟨b, 0, none⟩) 2 2, .slice (some ⟨sb, 0, none⟩) 2 sc] 58) = W0 at *
  go_loopw [19] (fun iv wr => ∃ (k : Nat), k ≤ 2 ∧ iv = .int .i64 k ∧ Below W0.heap.size W0 wr) (fun iv _ => 2 - (intOf iv).toNat)
  case atStart => exact ⟨0, Nat.zero_le _, rfl, Below.refl _ _⟩
  case round =>
    obtain ⟨k, hk, rfl, hbel⟩ := hrel
    have hw := h0.below hbel
    have j2 := j1.step hbel
    obtain ⟨x0, x1, -, -⟩ := j2.c2
    match k, hk with
    | 0, _ =>
      have e0 := hw.s0
      have e1 := hw.s1
      have c0 := hw.p0
      have c1 := hw.p1
      have c2 := hw.p2
      have c3 := hw.p3
      go_wp2_with fail
      refine (ratSign_pos false A1 B1 _ _ _ _ 2 1 wr hw.na1.raw hw.nb1.raw (by decide)).mono ?_
      rintro e w2 ⟨rfl, hb2⟩
      have j3 := j2.step hb2
      have hw2 := hw.below hb2
      have hB2 := hid (hbel.trans (hb2.mono hbel.size))
      obtain ⟨x2, x3, -, -⟩ := j3.c2
      rw [show (toZ false 2).sign = 1 from rfl]
      have f0 := hw2.s0
      have f1 := hw2.s1
      clear e0 e1 c0 c1 c2 c3 x0 x1
      go_wp2
      go_roundw
      case rel => exact ⟨1, by omega, rfl, hB2.out⟩
      case measure => simp [intOf]
    | 1, _ =>
      have e0 := hw.s0
      have e1 := hw.s1
      have c0 := hw.p4
      have c1 := hw.p5
      have c2 := hw.p6
      have c3 := hw.p7
      go_wp2_with fail
      refine (ratSign_pos false A2 B2 _ _ _ _ 0 1 wr hw.na2.raw hw.nb2.raw (by decide)).mono ?_
      rintro e w2 ⟨rfl, hb2⟩
      have j3 := j2.step hb2
      have hw2 := hw.below hb2
      have hB2 := hid (hbel.trans (hb2.mono hbel.size))
      obtain ⟨x2, x3, -, -⟩ := j3.c2
      rw [show (toZ false 0).sign = 0 from rfl]
      have f0 := hw2.s0
      have f1 := hw2.s1
      clear e0 e1 c0 c1 c2 c3 x0 x1
      go_wp2
      go_roundw
      case rel => exact ⟨2, by omega, rfl, hB2.out⟩
      case measure => simp [intOf]
    | 2, _ =>
      have hB2 := bthen hb0 hbel (Nat.le_refl _)
      go_wp2
      go_ret
      exact ⟨rfl, hB2⟩

end Go.Proofs.YtlfeendebbidhaaDoor
