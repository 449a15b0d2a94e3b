/- The contracts of newTotal, total.value, number and rise. For all fractions of few limbs. -/
import Derived.Test.YtffipjofefemiaaGreatDoorTotq
import Derived.Test.YtffipjofefemiaaGreatDoorMJ
namespace Go.Proofs.YtffipjofefemiaaGreatDoor
open Go.RowKit Kb

theorem newTotal_q (w : World) :
    Calls Tryz.prog 119 #[] w fun e w' => ∃ g, e = .returned (.pointer (some ⟨g, 0, none⟩)) ∧ w.heap.size ≤ g ∧ Tq w' g 1 0 ∧ Below w.heap.size w w' := by
  refine (newTotal_any w).mono ?_
  rintro e w' ⟨g, rfl, hg, ⟨s1, A1, n1, c1, s2, A2, n2, c2, h1, h2, h3, h4, h5⟩, hb⟩
  obtain rfl : s2 = false := h3.out
  exact ⟨g, rfl, hg, ⟨s1, A1, n1, c1, A2, n2, c2, 0, 1, h1, ⟨h2, h4⟩, ⟨hid rfl, h5⟩, whole_pq (k := 1) (z := 0) (Le.zero _) (by decide)⟩, hb⟩
theorem number_q (z : Int) (w : World) (h1 : -9223372036854775808 ≤ z) (h2 : z ≤ 9223372036854775807) :
    Calls Tryz.prog 87 #[.int .i64 z] w fun e w' => ∃ s1 A1 n1 c1 s2 A2 n2 c2, e = .returned (.agg #[.bool s1, .slice A1 n1 c1, .bool s2, .slice A2 n2 c2]) ∧ Qf w' s1 A1 n1 c1 s2 A2 n2 c2 ((z : Rat)) ∧ Below w.heap.size w w' :=
  qf_open (Rat.num_intCast (a := z)).symm (by rw [Rat.den_intCast]; rfl) (number_any z w h1 h2)
theorem bk_put4 {w : World} {g : Nat} {T : TypeId} {a b c d a' b' c' d' : Value} (h : Bk w g (.cells #[a, b, c, d] T (0, 0))) : Bk ((((w.setCell ⟨g, 0, none⟩ a').setCell ⟨g, 1, none⟩ b').setCell ⟨g, 2, none⟩ c').setCell ⟨g, 3, none⟩ d') g (.cells #[a', b', c', d'] T (0, 0)) := by
  unfold Bk at h ⊢
  simp only [World.setCell, Array.getElem?_modify, h]
  simp
theorem Qi.mono {w : World} {s1 s2 : Bool} {A1 A2 : Option Addr} {n1 c1 n2 c2 k l : Nat} {r : Rat} (h : Qi w s1 A1 n1 c1 s2 A2 n2 c2 k r) (hk : k ≤ l) : Qi w s1 A1 n1 c1 s2 A2 n2 c2 l r := by
  obtain ⟨N, D, h1, h2, h3, h4, h5⟩ := h.out
  exact ⟨N, D, h1, h2, h3, h4.mono hk, h5.mono hk⟩
theorem Pz.qi {w : World} {s1 s2 : Bool} {A1 A2 : Option Addr} {n1 c1 n2 c2 k b : Nat} {r : Rat} {a : Int} (h : Pz w s1 A1 n1 c1 s2 A2 n2 c2 k r a b) : Qi w s1 A1 n1 c1 s2 A2 n2 c2 k r :=
  ⟨a, b, h.n.zi, h.d.zi, by rw [rv_nat h.pq.nz, h.pq.eq], h.pq.la, h.pq.lb⟩
theorem Tq.below {w w' : World} {g k : Nat} {r : Rat} (h : Tq w g k r) (hb : Below w.heap.size w w') : Tq w' g k r := by
  obtain ⟨s1, A1, n1, c1, A2, n2, c2, tn, td, h1, h2, h3, h4⟩ := h
  exact ⟨s1, A1, n1, c1, A2, n2, c2, tn, td, h1.step hb, h2.below hb, h3.below hb, h4⟩
theorem Tq.lt {w : World} {g k : Nat} {r : Rat} (h : Tq w g k r) : g < w.heap.size := by
  obtain ⟨s1, A1, n1, c1, A2, n2, c2, tn, td, h1, h2, h3, h4⟩ := h
  exact h1.lt
set_option maxRecDepth 100000 in
set_option maxHeartbeats 80000000 in
theorem total_value_q (g k : Nat) (r : Rat) (w : World) (h : Tq w g k r) (hk : k ≤ 1000) (hT : Tb w) :
    Calls Tryz.prog 122 #[.pointer (some ⟨g, 0, none⟩)] w fun e w' => ∃ s1 A1 n1 c1 s2 A2 n2 c2, e = .returned (.agg #[.bool s1, .slice A1 n1 c1, .bool s2, .slice A2 n2 c2]) ∧ Qf w' s1 A1 n1 c1 s2 A2 n2 c2 (r) ∧ Below w.heap.size w w' := by
  have hal := (Below.refl w.heap.size w).alloc (Nat.le_refl _) (.cells #[.bool false, .slice none 0 0, .bool false, .slice none 0 0] 26)
  have j2 := Bk.of_alloc w (.cells #[.bool false, .slice none 0 0, .bool false, .slice none 0 0] 26) rfl
  have Hlt := h.lt
  obtain ⟨s1, A1, n1, c1, A2, n2, c2, tn, td, hb, hn1, hn2, hpq⟩ := h.below hal.drew
  have HP := hid hpq
  have T1 := hT.below hal.drew
  obtain ⟨g2, hg2⟩ : ∃ g2, w.heap.size = g2 := ⟨_, rfl⟩
  clear h hT hpq
  go_enter Tryz.func122, Tryz.ntmps122
  go_wp2_with fail
  rw [hg2] at j2 hal
  have hal' := hid hal.drew
  replace j2 : Bk (w.alloc (.cells #[.bool false, .slice none 0 0, .bool false, .slice none 0 0] 26)).drew g2 _ := j2
  have hb' : Bk (w.alloc (.cells #[.bool false, .slice none 0 0, .bool false, .slice none 0 0] 26)) g _ := hb
  have hj' : Bk (w.alloc (.cells #[.bool false, .slice none 0 0, .bool false, .slice none 0 0] 26)) g2 _ := j2
  generalize w.alloc (.cells #[.bool false, .slice none 0 0, .bool false, .slice none 0 0] 26) = W0 at *
  obtain ⟨x0, x1, x2, x3, -, -, -, -⟩ := hb'.c4
  have hne : g2 ≠ g := by omega
  go_region_held3 (fun w' => w'.cell? ⟨g, 0, none⟩ = some (.bool s1) ∧ w'.cell? ⟨g, 1, none⟩ = some (.slice A1 n1 c1) ∧ w'.cell? ⟨g, 2, none⟩ = some (.bool false) ∧ w'.cell? ⟨g, 3, none⟩ = some (.slice A2 n2 c2)) (first | exact ⟨x0, x1, x2, x3⟩ | exact ⟨y0, y1, y2, y3⟩ | exact ⟨off_four hne y0, off_four hne y1, off_four hne y2, off_four hne y3⟩) (first
    | (go_at_call 58; with_reducible refine (fraction_q hn1.zi hn2.zi (show ((td : Nat) : Int) ≠ 0 by have := HP.out.nz; omega) (HP.out.la.mono hk) (HP.out.lb.mono hk) T1).mono ?_; rintro e w3 ⟨t1, A3, n3, c3, t2, A4, n4, c4, rfl, hq, hb3⟩; replace j2 := j2.step hb3; replace hb := hb.step hb3; obtain ⟨y0, y1, y2, y3, -, -, -, -⟩ := hb.c4; have hlj := j2.lt; obtain ⟨i0, i1, i2, i3, i4, i5, i6, i7⟩ := j2.c4))
  rw [rv_nat HP.out.nz, HP.out.eq] at hq
  have h3 := bthen hal'.out hb3 (by omega)
  have h11 := hid (below4 h3 (Nat.le_refl g2) (.bool t1) (.slice A3 n3 c3) (.bool t2) (.slice A4 n4 c4))
  have m1 := hid (hq.offbox j2 (noInt_four _ _ _ _ _ _ _ _) (gb4' _ _ (.bool t1) (.slice A3 n3 c3) (.bool t2) (.slice A4 n4 c4)))
  clear x0 x1 x2 x3 y0 y1 y2 y3 hb j2 hn1 hn2 hq hb3 h3 hb' hj'
  go_wp2
  exact bodyPost_ret (v := .agg #[.bool t1, .slice A3 n3 c3, .bool t2, .slice A4 n4 c4]) (by simp [results, Tryz.results122, go_sem, i0, i1, i2, i3]) rfl ⟨_, _, _, _, _, _, _, _, rfl, m1.out, by rw [hg2]; exact h11.out⟩

/-- What stays in rise. -/
structure Rs (w : World) (g : Nat) (p1 : Bool) (A1 : Option Addr) (n1 c1 : Nat) (q1 : Bool) (B1 : Option Addr) (m1 d1 : Nat) (k1 : Nat) (x1 : Rat) (p2 : Bool) (A2 : Option Addr) (n2 c2 : Nat) (q2 : Bool) (B2 : Option Addr) (m2 d2 : Nat) (k2 : Nat) (x2 : Rat) (p3 : Bool) (A3 : Option Addr) (n3 c3 : Nat) (q3 : Bool) (B3 : Option Addr) (m3 d3 : Nat) (k3 : Nat) (x3 : Rat) (wx : World) : Prop where
  a : Xb wx g p1 A1 n1 c1 q1 B1 m1 d1 k1 x1
  b : Xb wx (g + 1) p2 A2 n2 c2 q2 B2 m2 d2 k2 x2
  c : Xb wx (g + 1 + 1) p3 A3 n3 c3 q3 B3 m3 d3 k3 x3
  r : Bk wx (g + 1 + 1 + 1) (.cells #[.bool false, .slice none 0 0, .bool false, .slice none 0 0] 26 (0, 0))
  tb : Tb wx
  bl : Below w.heap.size w wx
section
variable {w wx wy : World} {g k1 k2 k3 : Nat} {x1 x2 x3 : Rat} {p1 : Bool} {A1 : Option Addr} {n1 c1 : Nat} {q1 : Bool} {B1 : Option Addr} {m1 d1 : Nat} {p2 : Bool} {A2 : Option Addr} {n2 c2 : Nat} {q2 : Bool} {B2 : Option Addr} {m2 d2 : Nat} {p3 : Bool} {A3 : Option Addr} {n3 c3 : Nat} {q3 : Bool} {B3 : Option Addr} {m3 d3 : Nat}
theorem Rs.below (h : Rs w g p1 A1 n1 c1 q1 B1 m1 d1 k1 x1 p2 A2 n2 c2 q2 B2 m2 d2 k2 x2 p3 A3 n3 c3 q3 B3 m3 d3 k3 x3 wx) (hb : Below wx.heap.size wx wy) : Rs w g p1 A1 n1 c1 q1 B1 m1 d1 k1 x1 p2 A2 n2 c2 q2 B2 m2 d2 k2 x2 p3 A3 n3 c3 q3 B3 m3 d3 k3 x3 wy := ⟨h.a.below hb, h.b.below hb, h.c.below hb, h.r.step hb, h.tb.below hb, bthen h.bl hb (Nat.le_refl _)⟩
theorem Rs.cells (h : Rs w g p1 A1 n1 c1 q1 B1 m1 d1 k1 x1 p2 A2 n2 c2 q2 B2 m2 d2 k2 x2 p3 A3 n3 c3 q3 B3 m3 d3 k3 x3 wx) : wx.cell? ⟨g, 0, none⟩ = some (.bool p1) ∧ wx.cell? ⟨g, 1, none⟩ = some (.slice A1 n1 c1) ∧ wx.cell? ⟨g, 2, none⟩ = some (.bool q1) ∧ wx.cell? ⟨g, 3, none⟩ = some (.slice B1 m1 d1) ∧ wx.cell? ⟨g + 1, 0, none⟩ = some (.bool p2) ∧ wx.cell? ⟨g + 1, 1, none⟩ = some (.slice A2 n2 c2) ∧ wx.cell? ⟨g + 1, 2, none⟩ = some (.bool q2) ∧ wx.cell? ⟨g + 1, 3, none⟩ = some (.slice B2 m2 d2) ∧ wx.cell? ⟨g + 1 + 1, 0, none⟩ = some (.bool p3) ∧ wx.cell? ⟨g + 1 + 1, 1, none⟩ = some (.slice A3 n3 c3) ∧ wx.cell? ⟨g + 1 + 1, 2, none⟩ = some (.bool q3) ∧ wx.cell? ⟨g + 1 + 1, 3, none⟩ = some (.slice B3 m3 d3) :=
  ⟨h.a.b.c4.1, h.a.b.c4.2.1, h.a.b.c4.2.2.1, h.a.b.c4.2.2.2.1, h.b.b.c4.1, h.b.b.c4.2.1, h.b.b.c4.2.2.1, h.b.b.c4.2.2.2.1, h.c.b.c4.1, h.c.b.c4.2.1, h.c.b.c4.2.2.1, h.c.b.c4.2.2.2.1⟩
theorem Rs.off {u0 u1 u2 u3 : Value} (h : Rs w g p1 A1 n1 c1 q1 B1 m1 d1 k1 x1 p2 A2 n2 c2 q2 B2 m2 d2 k2 x2 p3 A3 n3 c3 q3 B3 m3 d3 k3 x3 wx) : ((((wx.setCell ⟨g + 1 + 1 + 1, 0, none⟩ u0).setCell ⟨g + 1 + 1 + 1, 1, none⟩ u1).setCell ⟨g + 1 + 1 + 1, 2, none⟩ u2).setCell ⟨g + 1 + 1 + 1, 3, none⟩ u3).cell? ⟨g, 0, none⟩ = some (.bool p1) ∧ ((((wx.setCell ⟨g + 1 + 1 + 1, 0, none⟩ u0).setCell ⟨g + 1 + 1 + 1, 1, none⟩ u1).setCell ⟨g + 1 + 1 + 1, 2, none⟩ u2).setCell ⟨g + 1 + 1 + 1, 3, none⟩ u3).cell? ⟨g, 1, none⟩ = some (.slice A1 n1 c1) ∧ ((((wx.setCell ⟨g + 1 + 1 + 1, 0, none⟩ u0).setCell ⟨g + 1 + 1 + 1, 1, none⟩ u1).setCell ⟨g + 1 + 1 + 1, 2, none⟩ u2).setCell ⟨g + 1 + 1 + 1, 3, none⟩ u3).cell? ⟨g, 2, none⟩ = some (.bool q1) ∧ ((((wx.setCell ⟨g + 1 + 1 + 1, 0, none⟩ u0).setCell ⟨g + 1 + 1 + 1, 1, none⟩ u1).setCell ⟨g + 1 + 1 + 1, 2, none⟩ u2).setCell ⟨g + 1 + 1 + 1, 3, none⟩ u3).cell? ⟨g, 3, none⟩ = some (.slice B1 m1 d1) ∧ ((((wx.setCell ⟨g + 1 + 1 + 1, 0, none⟩ u0).setCell ⟨g + 1 + 1 + 1, 1, none⟩ u1).setCell ⟨g + 1 + 1 + 1, 2, none⟩ u2).setCell ⟨g + 1 + 1 + 1, 3, none⟩ u3).cell? ⟨g + 1, 0, none⟩ = some (.bool p2) ∧ ((((wx.setCell ⟨g + 1 + 1 + 1, 0, none⟩ u0).setCell ⟨g + 1 + 1 + 1, 1, none⟩ u1).setCell ⟨g + 1 + 1 + 1, 2, none⟩ u2).setCell ⟨g + 1 + 1 + 1, 3, none⟩ u3).cell? ⟨g + 1, 1, none⟩ = some (.slice A2 n2 c2) ∧ ((((wx.setCell ⟨g + 1 + 1 + 1, 0, none⟩ u0).setCell ⟨g + 1 + 1 + 1, 1, none⟩ u1).setCell ⟨g + 1 + 1 + 1, 2, none⟩ u2).setCell ⟨g + 1 + 1 + 1, 3, none⟩ u3).cell? ⟨g + 1, 2, none⟩ = some (.bool q2) ∧ ((((wx.setCell ⟨g + 1 + 1 + 1, 0, none⟩ u0).setCell ⟨g + 1 + 1 + 1, 1, none⟩ u1).setCell ⟨g + 1 + 1 + 1, 2, none⟩ u2).setCell ⟨g + 1 + 1 + 1, 3, none⟩ u3).cell? ⟨g + 1, 3, none⟩ = some (.slice B2 m2 d2) ∧ ((((wx.setCell ⟨g + 1 + 1 + 1, 0, none⟩ u0).setCell ⟨g + 1 + 1 + 1, 1, none⟩ u1).setCell ⟨g + 1 + 1 + 1, 2, none⟩ u2).setCell ⟨g + 1 + 1 + 1, 3, none⟩ u3).cell? ⟨g + 1 + 1, 0, none⟩ = some (.bool p3) ∧ ((((wx.setCell ⟨g + 1 + 1 + 1, 0, none⟩ u0).setCell ⟨g + 1 + 1 + 1, 1, none⟩ u1).setCell ⟨g + 1 + 1 + 1, 2, none⟩ u2).setCell ⟨g + 1 + 1 + 1, 3, none⟩ u3).cell? ⟨g + 1 + 1, 1, none⟩ = some (.slice A3 n3 c3) ∧ ((((wx.setCell ⟨g + 1 + 1 + 1, 0, none⟩ u0).setCell ⟨g + 1 + 1 + 1, 1, none⟩ u1).setCell ⟨g + 1 + 1 + 1, 2, none⟩ u2).setCell ⟨g + 1 + 1 + 1, 3, none⟩ u3).cell? ⟨g + 1 + 1, 2, none⟩ = some (.bool q3) ∧ ((((wx.setCell ⟨g + 1 + 1 + 1, 0, none⟩ u0).setCell ⟨g + 1 + 1 + 1, 1, none⟩ u1).setCell ⟨g + 1 + 1 + 1, 2, none⟩ u2).setCell ⟨g + 1 + 1 + 1, 3, none⟩ u3).cell? ⟨g + 1 + 1, 3, none⟩ = some (.slice B3 m3 d3) :=
  ⟨off_four (by omega) h.a.b.c4.1, off_four (by omega) h.a.b.c4.2.1, off_four (by omega) h.a.b.c4.2.2.1, off_four (by omega) h.a.b.c4.2.2.2.1, off_four (by omega) h.b.b.c4.1, off_four (by omega) h.b.b.c4.2.1, off_four (by omega) h.b.b.c4.2.2.1, off_four (by omega) h.b.b.c4.2.2.2.1, off_four (by omega) h.c.b.c4.1, off_four (by omega) h.c.b.c4.2.1, off_four (by omega) h.c.b.c4.2.2.1, off_four (by omega) h.c.b.c4.2.2.2.1⟩
end
set_option maxRecDepth 100000 in
set_option maxHeartbeats 80000000 in
theorem rise_q {w : World} {k1 k2 k3 : Nat} {x1 x2 x3 : Rat} {p1 : Bool} {A1 : Option Addr} {n1 c1 : Nat} {q1 : Bool} {B1 : Option Addr} {m1 d1 : Nat} {p2 : Bool} {A2 : Option Addr} {n2 c2 : Nat} {q2 : Bool} {B2 : Option Addr} {m2 d2 : Nat} {p3 : Bool} {A3 : Option Addr} {n3 c3 : Nat} {q3 : Bool} {B3 : Option Addr} {m3 d3 : Nat} (h1 : Qi w p1 A1 n1 c1 q1 B1 m1 d1 k1 x1) (h2 : Qi w p2 A2 n2 c2 q2 B2 m2 d2 k2 x2) (h3 : Qi w p3 A3 n3 c3 q3 B3 m3 d3 k3 x3) (hk1 : 0 < k1) (hk2 : 0 < k2) (hk3 : 0 < k3) (hl1 : k1 ≤ 400) (hl : k3 + k2 + 1 ≤ 400) (hT : Tb w) :
    Calls Tryz.prog 81 #[.agg #[.bool p1, .slice A1 n1 c1, .bool q1, .slice B1 m1 d1], .agg #[.bool p2, .slice A2 n2 c2, .bool q2, .slice B2 m2 d2], .agg #[.bool p3, .slice A3 n3 c3, .bool q3, .slice B3 m3 d3]] w fun e w' => ∃ s1 A1 n1 c1 s2 A2 n2 c2, e = .returned (.agg #[.bool s1, .slice A1 n1 c1, .bool s2, .slice A2 n2 c2]) ∧ Qi w' s1 A1 n1 c1 s2 A2 n2 c2 (k1 + (k3 + k2 + 1)) (x1 * (x3 - x2)) ∧ Below w.heap.size w w' := by
  have k1' := three_new w (.cells #[.bool p1, .slice A1 n1 c1, .bool q1, .slice B1 m1 d1] 26) (.cells #[.bool p2, .slice A2 n2 c2, .bool q2, .slice B2 m2 d2] 26) (.cells #[.bool p3, .slice A3 n3 c3, .bool q3, .slice B3 m3 d3] 26)
  have hB := ((((Below.refl w.heap.size w).alloc (Nat.le_refl _) (.cells #[.bool p1, .slice A1 n1 c1, .bool q1, .slice B1 m1 d1] 26)).alloc (by simp) (.cells #[.bool p2, .slice A2 n2 c2, .bool q2, .slice B2 m2 d2] 26)).alloc (by simp; omega) (.cells #[.bool p3, .slice A3 n3 c3, .bool q3, .slice B3 m3 d3] 26)).alloc (by simp; omega) (.cells #[.bool false, .slice none 0 0, .bool false, .slice none 0 0] 26)
  have jb1 := k1'.1.alloc (.cells #[.bool false, .slice none 0 0, .bool false, .slice none 0 0] 26)
  have jb2 := k1'.2.1.alloc (.cells #[.bool false, .slice none 0 0, .bool false, .slice none 0 0] 26)
  have jb3 := k1'.2.2.alloc (.cells #[.bool false, .slice none 0 0, .bool false, .slice none 0 0] 26)
  have jb4 := Bk.of_alloc (((w.alloc (.cells #[.bool p1, .slice A1 n1 c1, .bool q1, .slice B1 m1 d1] 26)).alloc (.cells #[.bool p2, .slice A2 n2 c2, .bool q2, .slice B2 m2 d2] 26)).alloc (.cells #[.bool p3, .slice A3 n3 c3, .bool q3, .slice B3 m3 d3] 26)) (.cells #[.bool false, .slice none 0 0, .bool false, .slice none 0 0] 26) (g := w.heap.size + 1 + 1 + 1) (by simp)
  obtain ⟨g, hg⟩ : ∃ g, w.heap.size = g := ⟨_, rfl⟩
  have L := (h3.ql hk3).sub (h2.ql hk2)
  go_enter Tryz.func81, Tryz.ntmps81
  go_wp2_with fail
  rw [hg] at jb1 jb2 jb3 jb4
  generalize hW : (((w.alloc (.cells #[.bool p1, .slice A1 n1 c1, .bool q1, .slice B1 m1 d1] 26)).alloc (.cells #[.bool p2, .slice A2 n2 c2, .bool q2, .slice B2 m2 d2] 26)).alloc (.cells #[.bool p3, .slice A3 n3 c3, .bool q3, .slice B3 m3 d3] 26)).alloc (.cells #[.bool false, .slice none 0 0, .bool false, .slice none 0 0] 26) = W0 at *
  clear hW k1'
  have R0 : Rs w g p1 A1 n1 c1 q1 B1 m1 d1 k1 x1 p2 A2 n2 c2 q2 B2 m2 d2 k2 x2 p3 A3 n3 c3 q3 B3 m3 d3 k3 x3 W0.drew := ⟨⟨show Bk W0.drew _ _ from jb1, h1.below hB.drew⟩, ⟨show Bk W0.drew _ _ from jb2, h2.below hB.drew⟩, ⟨show Bk W0.drew _ _ from jb3, h3.below hB.drew⟩, show Bk W0.drew _ _ from jb4, hT.below hB.drew, hB.drew⟩
  have Hg := hid hg
  clear h1 h2 h3 hT hB hg jb1 jb2 jb3 jb4
  have hcells := R0.cells
  go_region_held3 (fun w' => w'.cell? ⟨g, 0, none⟩ = some (.bool p1) ∧ w'.cell? ⟨g, 1, none⟩ = some (.slice A1 n1 c1) ∧ w'.cell? ⟨g, 2, none⟩ = some (.bool q1) ∧ w'.cell? ⟨g, 3, none⟩ = some (.slice B1 m1 d1) ∧ w'.cell? ⟨g + 1, 0, none⟩ = some (.bool p2) ∧ w'.cell? ⟨g + 1, 1, none⟩ = some (.slice A2 n2 c2) ∧ w'.cell? ⟨g + 1, 2, none⟩ = some (.bool q2) ∧ w'.cell? ⟨g + 1, 3, none⟩ = some (.slice B2 m2 d2) ∧ w'.cell? ⟨g + 1 + 1, 0, none⟩ = some (.bool p3) ∧ w'.cell? ⟨g + 1 + 1, 1, none⟩ = some (.slice A3 n3 c3) ∧ w'.cell? ⟨g + 1 + 1, 2, none⟩ = some (.bool q3) ∧ w'.cell? ⟨g + 1 + 1, 3, none⟩ = some (.slice B3 m3 d3)) (first | with_reducible exact Rs.cells R0 | with_reducible exact Rs.cells R1 | with_reducible exact Rs.cells R2 | with_reducible exact Rs.off R2) (first
    | (go_at_call 19; with_reducible refine (SubRat_q R0.c.z R0.b.z hk3 hk2 (by omega) (by omega) R0.tb).mono ?_; rintro e w1 ⟨s1, E1, o1, e1, s2, E2, o2, e2, rfl, h4, hb1⟩; have R1 := R0.below hb1)
    | (go_at_call 72; with_reducible refine (product_q R1.a.z (h4.qi L) hk1 (by omega) hl1 hl R1.tb).mono ?_; rintro e w2 ⟨s3, E3, o3, e3, s4, E4, o4, e4, a, b, rfl, h5, hb2⟩; have R2 := R1.below hb2; have hl10 := R2.r.lt; obtain ⟨i0, i1, i2, i3, i4, i5, i6, i7⟩ := R2.r.c4))
  have j2 := R2.r
  have hgl := Hg.out
  have h11 := hid (below4 R2.bl (show w.heap.size ≤ g + 1 + 1 + 1 by omega) (.bool s3) (.slice E3 o3 e3) (.bool s4) (.slice E4 o4 e4))
  have m1 := hid (h5.qi.offbox j2 (noInt_four _ _ _ _ _ _ _ _) (gb4' _ _ (.bool s3) (.slice E3 o3 e3) (.bool s4) (.slice E4 o4 e4)))
  clear hgl hcells R0 R1 R2 hb1 hb2 h4 h5 j2
  go_wp2
  exact bodyPost_ret (v := .agg #[.bool s3, .slice E3 o3 e3, .bool s4, .slice E4 o4 e4]) (by simp [results, Tryz.results81, go_sem, i0, i1, i2, i3]) rfl ⟨_, _, _, _, _, _, _, _, rfl, m1.out, h11.out⟩

end Go.Proofs.YtffipjofefemiaaGreatDoor
