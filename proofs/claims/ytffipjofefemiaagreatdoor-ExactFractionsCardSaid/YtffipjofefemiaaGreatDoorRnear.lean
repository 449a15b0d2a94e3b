/- The reference's Nearest. For all fractions of at most 300 limbs. -/
import Derived.Test.YtffipjofefemiaaGreatDoorRrst
import Derived.Test.YtffipjofefemiaaGreatDoorNear
namespace Go.Proofs.YtffipjofefemiaaGreatDoor
open Go.RowKit Kb

theorem rv_half : rv 1 2 = mkRat 1 2 := by unfold rv pn pd; rfl
theorem half_ql : QL 1 (mkRat 1 2) := mk_ql (by decide) (Le.one (by decide)) (show Le 1 ((2 : Nat) : Int) from by unfold Le; decide)
theorem two_le : Le 1000 (2 : Int) := by
  have h : Le 1 (2 : Int) := by unfold Le; decide
  exact h.mono (by decide)
/-- What stays in Nearest of the reference. -/
structure Ns (w : World) (g : Nat) (s1 : Bool) (A1 : Option Addr) (n1 c1 : Nat) (s2 : Bool) (A2 : Option Addr) (n2 c2 : Nat) (k : Nat) (x : Rat) (wx : World) : Prop where
  a : Rb wx g s1 A1 n1 c1 s2 A2 n2 c2 k x
  r : Bk wx (g + 1) (.cells #[.bool false, .slice none 0 0] 24 (0, 0))
  bl : Below w.heap.size w wx
section
variable {w wx wy : World} {g k : Nat} {x : Rat} {s1 : Bool} {A1 : Option Addr} {n1 c1 : Nat} {s2 : Bool} {A2 : Option Addr} {n2 c2 : Nat}
theorem Ns.below (h : Ns w g s1 A1 n1 c1 s2 A2 n2 c2 k x wx) (hb : Below wx.heap.size wx wy) : Ns w g s1 A1 n1 c1 s2 A2 n2 c2 k x wy := ⟨h.a.below hb, h.r.step hb, bthen h.bl hb (Nat.le_refl _)⟩
theorem Ns.cells (h : Ns w g s1 A1 n1 c1 s2 A2 n2 c2 k x wx) : wx.cell? ⟨g, 0, none⟩ = some (.bool s1) ∧ wx.cell? ⟨g, 1, none⟩ = some (.slice A1 n1 c1) ∧ wx.cell? ⟨g, 2, none⟩ = some (.bool s2) ∧ wx.cell? ⟨g, 3, none⟩ = some (.slice A2 n2 c2) := ⟨h.a.b.c4.1, h.a.b.c4.2.1, h.a.b.c4.2.2.1, h.a.b.c4.2.2.2.1⟩
theorem Ns.off {u v : Value} (h : Ns w g s1 A1 n1 c1 s2 A2 n2 c2 k x wx) : ((wx.setCell ⟨g + 1, 0, none⟩ u).setCell ⟨g + 1, 1, none⟩ v).cell? ⟨g, 0, none⟩ = some (.bool s1) ∧ ((wx.setCell ⟨g + 1, 0, none⟩ u).setCell ⟨g + 1, 1, none⟩ v).cell? ⟨g, 1, none⟩ = some (.slice A1 n1 c1) ∧ ((wx.setCell ⟨g + 1, 0, none⟩ u).setCell ⟨g + 1, 1, none⟩ v).cell? ⟨g, 2, none⟩ = some (.bool s2) ∧ ((wx.setCell ⟨g + 1, 0, none⟩ u).setCell ⟨g + 1, 1, none⟩ v).cell? ⟨g, 3, none⟩ = some (.slice A2 n2 c2) := by
  obtain ⟨e1, e2, e3, e4⟩ := h.cells
  exact ⟨off_two (by omega) e1, off_two (by omega) e2, off_two (by omega) e3, off_two (by omega) e4⟩
end
set_option maxRecDepth 100000 in
set_option maxHeartbeats 20000000 in
theorem rNearest {w : World} {s1 : Bool} {A1 : Option Addr} {n1 c1 : Nat} {s2 : Bool} {A2 : Option Addr} {n2 c2 : Nat} {k : Nat} {x : Rat} (h : Ri w s1 A1 n1 c1 s2 A2 n2 c2 k x) (hk0 : 0 < k) (hk : k ≤ 400) (hk2 : k ≤ 300) :
    Calls Tryz.prog 31 #[.agg #[.bool s1, .slice A1 n1 c1, .bool s2, .slice A2 n2 c2]] w fun e w' => ∃ r C n c, e = .returned (.agg #[.bool r, .slice C n c]) ∧ Zn w' r C n c (x + mkRat 1 2).floor ∧ Below w.heap.size w w' := by
  have b0 := two_new w (.cells #[.bool s1, .slice A1 n1 c1, .bool s2, .slice A2 n2 c2] 26) (.cells #[.bool false, .slice none 0 0] 24)
  have hB := below_two w (.cells #[.bool s1, .slice A1 n1 c1, .bool s2, .slice A2 n2 c2] 26) (.cells #[.bool false, .slice none 0 0] 24)
  obtain ⟨g, hg⟩ : ∃ g, w.heap.size = g := ⟨_, rfl⟩
  have lx := (h.q.ql hk0).add half_ql
  go_enter Tryz.func31, Tryz.ntmps31
  go_wp2_with fail
  rw [hg] at b0
  generalize (w.alloc (.cells #[.bool s1, .slice A1 n1 c1, .bool s2, .slice A2 n2 c2] 26)).alloc (.cells #[.bool false, .slice none 0 0] 24) = W0 at *
  have hB' := hB.drew
  have Q0 : Ns w g s1 A1 n1 c1 s2 A2 n2 c2 k x W0.drew := ⟨⟨b0.1, h.below hB'⟩, b0.2, hB'⟩
  have Hg := hid hg
  clear hB hB' b0 h hg
  have hcells := Q0.cells
  go_region_held3 (fun w' => w'.cell? ⟨g, 0, none⟩ = some (.bool s1) ∧ w'.cell? ⟨g, 1, none⟩ = some (.slice A1 n1 c1) ∧ w'.cell? ⟨g, 2, none⟩ = some (.bool s2) ∧ w'.cell? ⟨g, 3, none⟩ = some (.slice A2 n2 c2)) (first | with_reducible exact Ns.cells Q0 | with_reducible exact Ns.cells Q1 | with_reducible exact Ns.cells Q2 | with_reducible exact Ns.cells Q3 | with_reducible exact Ns.cells Q4 | with_reducible exact Ns.cells Q5 | with_reducible exact Ns.off Q5) (first
    | (go_at_call 15; with_reducible refine (rOf 1 W0.drew (by decide) (by decide)).mono ?_; rintro e w1 ⟨a1, a2, a3, a4, rfl, h1, hb1⟩; have Q1 := Q0.below hb1)
    | (go_at_call 15; with_reducible refine (rOf 2 w1 (by decide) (by decide)).mono ?_; rintro e w2 ⟨b1, b2, b3, b4, rfl, h2, hb2⟩; have Q2 := Q1.below hb2; replace h1 := h1.below hb2)
    | (go_at_call 14; with_reducible refine (rOverN h1 h2 (Le.one (by decide)) two_le).mono ?_; rintro e w3 ⟨d1, d2, d3, d4, d5, d6, d7, d8, rfl, h3, hb3⟩; have Q3 := Q2.below hb3; rw [rv_half] at h3)
    | (go_at_call 18; with_reducible refine (rAddRat Q3.a.z (h3.ri half_ql (by decide)) hk0 (by decide) (by omega) (by decide)).mono ?_; rintro e w4 ⟨e1, e2, e3, e4, e5, e6, e7, e8, rfl, h4, hb4⟩; have Q4 := Q3.below hb4)
    | (go_at_call 29; with_reducible refine (rFloor (h4.ri lx (by omega)) (by omega) (by omega)).mono ?_; rintro e w5 ⟨r, C, n, c, rfl, hq, hb5⟩; have Q5 := Q4.below hb5; have hl3 := Q5.r.lt; obtain ⟨y0, y1, y2, y3⟩ := Q5.r.c2))
  have j2 := Q5.r
  have hB2 := hid Q5.bl
  clear Q0 Q1 Q2 Q3 Q4 Q5 hb1 hb2 hb3 hb4 hb5 h1 h2 h3 h4 hcells
  have hgl := Hg.out
  have h5 := hid ((hB2.out.setCell (p := ⟨g + 1, 0, none⟩) (by show w.heap.size ≤ g + 1; omega) (.bool r)).setCell (p := ⟨g + 1, 1, none⟩) (by show w.heap.size ≤ g + 1; omega) (.slice C n c))
  have hN := hid (hq.offbox j2 (noInt_zero _ _ _ _) (gb2 _ (g + 1) 0 1 (.bool r) (.slice C n c)))
  clear j2 hq hgl 
  go_wp2
  exact bodyPost_ret (v := .agg #[.bool r, .slice C n c]) (by simp [results, Tryz.results31, go_sem, y0, y1]) rfl ⟨_, _, _, _, rfl, hN.out, h5.out⟩

end Go.Proofs.YtffipjofefemiaaGreatDoor
