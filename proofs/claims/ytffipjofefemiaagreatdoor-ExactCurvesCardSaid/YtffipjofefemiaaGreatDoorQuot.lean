/- The contract of quotient. For all natural numbers whose limbs fit into memory, the second not 0. -/
import Derived.Test.YtffipjofefemiaaGreatDoorMJ
namespace Go.Proofs.YtffipjofefemiaaGreatDoor
open Go.RowKit Kb

/-- What stays in quotient. -/
structure Qo (w : World) (g : Nat) (A : Option Addr) (n c a : Nat) (B : Option Addr) (m d b : Nat) (wx : World) : Prop where
  j1 : Bk wx g (.cells #[.bool false, .slice A n c] 24 (0, 0))
  j2 : Bk wx (g + 1) (.cells #[.bool false, .slice B m d] 24 (0, 0))
  r : Bk wx (g + 1 + 1) (.cells #[.bool false, .slice none 0 0] 24 (0, 0))
  ha : Raw wx A n c a
  hb : Raw wx B m d b
  bl : Below w.heap.size w wx
section
variable {w wx wy : World} {g n c a m d b : Nat} {A B : Option Addr}
theorem Qo.below (k : Qo w g A n c a B m d b wx) (hb : Below wx.heap.size wx wy) : Qo w g A n c a B m d b wy := ⟨k.j1.step hb, k.j2.step hb, k.r.step hb, k.ha.below hb, k.hb.below hb, bthen k.bl hb (Nat.le_refl _)⟩
theorem Qo.cells (k : Qo w g A n c a B m d b wx) : wx.cell? ⟨g, 0, none⟩ = some (.bool false) ∧ wx.cell? ⟨g, 1, none⟩ = some (.slice A n c) ∧ wx.cell? ⟨g + 1, 0, none⟩ = some (.bool false) ∧ wx.cell? ⟨g + 1, 1, none⟩ = some (.slice B m d) := ⟨k.j1.c2.1, k.j1.c2.2.1, k.j2.c2.1, k.j2.c2.2.1⟩
end
set_option maxRecDepth 100000 in
set_option maxHeartbeats 80000000 in
theorem quotient_q {w : World} {A B : Option Addr} {n c a m d b : Nat} (h : Raw w A n c a) (k : Raw w B m d b) (hb0 : b ≠ 0) (ha : (dig a).length ≤ 400000000) :
    Calls Tryz.prog 136 #[.agg #[.bool false, .slice A n c], .agg #[.bool false, .slice B m d]] w fun e w' => ∃ r C n c, e = .returned (.agg #[.bool r, .slice C n c]) ∧ Zn w' r C n c ((a / b : Nat) : Int) ∧ Below w.heap.size w w' := by
  have b0 := three_new w (.cells #[.bool false, .slice A n c] 24) (.cells #[.bool false, .slice B m d] 24) (.cells #[.bool false, .slice none 0 0] 24)
  have hB := (((Below.refl w.heap.size w).alloc (Nat.le_refl _) (.cells #[.bool false, .slice A n c] 24)).alloc (by simp) (.cells #[.bool false, .slice B m d] 24)).alloc (by simp; omega) (.cells #[.bool false, .slice none 0 0] 24)
  obtain ⟨g, hg⟩ : ∃ g, w.heap.size = g := ⟨_, rfl⟩
  have H0 := hid hb0
  clear hb0
  go_enter Tryz.func136, Tryz.ntmps136
  go_wp2_with fail
  rw [hg] at b0
  generalize ((w.alloc (.cells #[.bool false, .slice A n c] 24)).alloc (.cells #[.bool false, .slice B m d] 24)).alloc (.cells #[.bool false, .slice none 0 0] 24) = W0 at *
  have Q0 : Qo w g A n c a B m d b W0.drew := ⟨b0.1, b0.2.1, b0.2.2, h.below hB.drew, k.below hB.drew, hB.drew⟩
  have Hg := hid hg
  clear hB b0 h k hg
  have hcells := Q0.cells
  go_region_held3 (fun w' => w'.cell? ⟨g, 0, none⟩ = some (.bool false) ∧ w'.cell? ⟨g, 1, none⟩ = some (.slice A n c) ∧ w'.cell? ⟨g + 1, 0, none⟩ = some (.bool false) ∧ w'.cell? ⟨g + 1, 1, none⟩ = some (.slice B m d)) (first | with_reducible exact Qo.cells Q0 | with_reducible exact Qo.cells Q1 | with_reducible exact Qo.cells Q2 | with_reducible exact Qo.cells Q3) (first
    | (go_at_call 76; with_reducible refine (size_any false A n c a _ Q0.ha).mono ?_; rintro e w1 ⟨v1, rfl, hv1, hb1⟩; have Q1 := Q0.below hb1)
    | (go_at_call 76; with_reducible refine (size_any false B m d b _ Q1.hb).mono ?_; rintro e w2 ⟨v2, rfl, hv2, hb2⟩; have Q2 := Q1.below hb2; replace hv1 := hv1.below hb2)
    | (go_at_call 97; with_reducible refine (divLimbs_nm hv1 hv2 H0.out ha).mono ?_; rintro e w3 ⟨v3, r3, rfl, hv3, -, hb3⟩; have Q3 := Q2.below hb3))
  clear Q0 Q1 Q2 hb1 hb2 hb3 hv1 hv2 hcells
  have hcells := Q3.cells
  go_wp2_with fail
  refine (zn_open (integer_nm (neg := false) hv3)).mono ?_
  rintro e w4 ⟨r, C, o, e1, rfl, hn, hb4⟩
  have e0 : toZ false (a / b) = ((a / b : Nat) : Int) := by unfold toZ; rw [if_neg (by decide)]
  rw [e0] at hn
  have Q4 := Q3.below hb4
  have j2 := Q4.r
  have hB2 := hid Q4.bl
  clear Q3 Q4 hb4 hcells hv3 e0
  have hgl := Hg.out
  have h5 := hid ((hB2.out.setCell (p := ⟨g + 1 + 1, 0, none⟩) (by show w.heap.size ≤ g + 1 + 1; omega) (.bool r)).setCell (p := ⟨g + 1 + 1, 1, none⟩) (by show w.heap.size ≤ g + 1 + 1; omega) (.slice C o e1))
  have hN := hid (hn.offbox j2 (noInt_zero _ _ _ _) (gb2 _ (g + 1 + 1) 0 1 (.bool r) (.slice C o e1)))
  have hl3 := j2.lt
  obtain ⟨y0, y1, y2, y3⟩ := j2.c2
  clear j2 hn hgl
  go_wp2
  exact bodyPost_ret (v := .agg #[.bool r, .slice C o e1]) (by simp [results, Tryz.results136, go_sem, y0, y1]) rfl ⟨_, _, _, _, rfl, hN.out, h5.out⟩

end Go.Proofs.YtffipjofefemiaaGreatDoor
