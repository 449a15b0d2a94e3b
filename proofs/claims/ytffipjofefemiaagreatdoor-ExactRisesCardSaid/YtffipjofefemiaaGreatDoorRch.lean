/- The contract of reach. For all valid curves of few starts, and all fractions of few limbs. -/
import Derived.Test.YtffipjofefemiaaGreatDoorTvl
import Derived.Test.YtffipjofefemiaaGreatDoorCkc
import Derived.Test.YtffipjofefemiaaGreatDoorQlv
import Derived.Deep.DeepCutAuto
namespace Go.Proofs.YtffipjofefemiaaGreatDoor
open Go.RowKit Kb

/-- What stays in reach: the curve, what is left, the box of the result. -/
structure Rl (w : World) (g B0 : Nat) (A : Option Addr) (n c : Nat) (B : Option Addr) (d kc : Nat) (X : Nat → Int) (Q : Nat → Rat) (p1 : Bool) (E1 : Option Addr) (z1 b1 : Nat) (p2 : Bool) (E2 : Option Addr) (z2 b2 : Nat) (kk : Nat) (r : Rat) (wx : World) : Prop where
  cv : Cv wx B0 A n B n kc X Q
  jc : Bk wx g (.cells #[.slice A n c, .slice B n d] 48 (0, 0))
  jv : Bk wx (g + 1) (.cells #[.bool p1, .slice E1 z1 b1, .bool p2, .slice E2 z2 b2] 26 (0, 0))
  jr : Bk wx (g + 1 + 1) (.cells #[.bool false, .slice none 0 0, .bool false, .slice none 0 0] 26 (0, 0))
  qv : Qi wx p1 E1 z1 b1 p2 E2 z2 b2 kk r
  tb : Tb wx
  bl : Below w.heap.size w wx
/-- The same, with slope i. -/
structure Re (w : World) (g B0 : Nat) (A : Option Addr) (n c : Nat) (B : Option Addr) (d kc : Nat) (X : Nat → Int) (Q : Nat → Rat) (p1 : Bool) (E1 : Option Addr) (z1 b1 : Nat) (p2 : Bool) (E2 : Option Addr) (z2 b2 : Nat) (kk : Nat) (r : Rat) (i : Nat) (bd : Addr) (v1 : Bool) (V1 : Option Addr) (lv1 cv1 : Nat) (v2 : Bool) (V2 : Option Addr) (lv2 cv2 : Nat) (wx : World) : Prop where
  l : Rl w g B0 A n c B d kc X Q p1 E1 z1 b1 p2 E2 z2 b2 kk r wx
  q : wx.cell? (bd.add (i * 4)) = some (.bool v1) ∧ wx.cell? ⟨(bd.add (i * 4)).block, (bd.add (i * 4)).off + 1, none⟩ = some (.slice V1 lv1 cv1) ∧ wx.cell? ⟨(bd.add (i * 4)).block, (bd.add (i * 4)).off + 2, none⟩ = some (.bool v2) ∧ wx.cell? ⟨(bd.add (i * 4)).block, (bd.add (i * 4)).off + 3, none⟩ = some (.slice V2 lv2 cv2)
  rq : Qi wx v1 V1 lv1 cv1 v2 V2 lv2 cv2 kc (Q i)
  lb : bd.block < B0
/-- Where the blocks lie. -/
def Sp (w : World) (g B0 : Nat) : Prop := w.heap.size = g ∧ B0 ≤ g ∧ 0 < g
section
variable {w : World} {g B0 : Nat} {A : Option Addr} {n c : Nat} {B : Option Addr} {d kc : Nat} {X : Nat → Int} {Q : Nat → Rat} {wx wy : World} {p1 : Bool} {E1 : Option Addr} {z1 b1 : Nat} {p2 : Bool} {E2 : Option Addr} {z2 b2 : Nat} {kk : Nat} {r : Rat} {i : Nat} {bd : Addr} {v1 : Bool} {V1 : Option Addr} {lv1 cv1 : Nat} {v2 : Bool} {V2 : Option Addr} {lv2 cv2 : Nat} {h : Nat}
theorem Rl.below (h : Rl w g B0 A n c B d kc X Q p1 E1 z1 b1 p2 E2 z2 b2 kk r wx) (hb : Below wx.heap.size wx wy) : Rl w g B0 A n c B d kc X Q p1 E1 z1 b1 p2 E2 z2 b2 kk r wy := ⟨h.cv.below hb, h.jc.step hb, h.jv.step hb, h.jr.step hb, h.qv.below hb, h.tb.below hb, bthen h.bl hb (Nat.le_refl _)⟩
theorem Re.below (k : Re w g B0 A n c B d kc X Q p1 E1 z1 b1 p2 E2 z2 b2 kk r i bd v1 V1 lv1 cv1 v2 V2 lv2 cv2 wx) (hb : Below wx.heap.size wx wy) : Re w g B0 A n c B d kc X Q p1 E1 z1 b1 p2 E2 z2 b2 kk r i bd v1 V1 lv1 cv1 v2 V2 lv2 cv2 wy := by
  have l2 := Nat.lt_of_lt_of_le k.lb k.l.cv.le
  exact ⟨k.l.below hb, ⟨(hb.cell (p := bd.add (i * 4)) (in_add l2)).trans k.q.1, (hb.cell (p := ⟨(bd.add (i * 4)).block, (bd.add (i * 4)).off + 1, none⟩) (in_add l2)).trans k.q.2.1, (hb.cell (p := ⟨(bd.add (i * 4)).block, (bd.add (i * 4)).off + 2, none⟩) (in_add l2)).trans k.q.2.2.1, (hb.cell (p := ⟨(bd.add (i * 4)).block, (bd.add (i * 4)).off + 3, none⟩) (in_add l2)).trans k.q.2.2.2⟩, k.rq.below hb, k.lb⟩
theorem Rl.offb {C : Array Value} {T : TypeId} (k : Rl w g B0 A n c B d kc X Q p1 E1 z1 b1 p2 E2 z2 b2 kk r wx) (hb : wx.heap[h]? = some (.cells C T (0, 0))) (hC : NoInt C) (hg : wx.grownBy wy (some h)) (hs : Sp w g B0) (hn : g + 1 + 1 < h) : Rl w g B0 A n c B d kc X Q p1 E1 z1 b1 p2 E2 z2 b2 kk r wy := by
  obtain ⟨e1, e2, e4⟩ := hs
  have hsz := k.bl.size
  exact ⟨k.cv.off hb hC hg (by omega), k.jc.grown hg (by omega), k.jv.grown hg (by omega), k.jr.grown hg (by omega), k.qv.offbox hb hC hg, k.tb.grown hg (by omega), k.bl.grown hg hsz (fun k hk => by injection hk with hk; omega)⟩
theorem Re.offb {C : Array Value} {T : TypeId} (k : Re w g B0 A n c B d kc X Q p1 E1 z1 b1 p2 E2 z2 b2 kk r i bd v1 V1 lv1 cv1 v2 V2 lv2 cv2 wx) (hb : wx.heap[h]? = some (.cells C T (0, 0))) (hC : NoInt C) (hg : wx.grownBy wy (some h)) (hs : Sp w g B0) (hn : g + 1 + 1 < h) : Re w g B0 A n c B d kc X Q p1 E1 z1 b1 p2 E2 z2 b2 kk r i bd v1 V1 lv1 cv1 v2 V2 lv2 cv2 wy := by
  obtain ⟨e1, e2, e4⟩ := id hs
  have l2 := Nat.lt_of_lt_of_le k.lb k.l.cv.le
  have lb := k.lb
  exact ⟨k.l.offb hb hC hg hs hn, ⟨cell_grown (p := bd.add (i * 4)) hg (in_add l2) (ne_add (show bd.block ≠ h by omega)) k.q.1, cell_grown (p := ⟨(bd.add (i * 4)).block, (bd.add (i * 4)).off + 1, none⟩) hg (in_add l2) (ne_add (show bd.block ≠ h by omega)) k.q.2.1, cell_grown (p := ⟨(bd.add (i * 4)).block, (bd.add (i * 4)).off + 2, none⟩) hg (in_add l2) (ne_add (show bd.block ≠ h by omega)) k.q.2.2.1, cell_grown (p := ⟨(bd.add (i * 4)).block, (bd.add (i * 4)).off + 3, none⟩) hg (in_add l2) (ne_add (show bd.block ≠ h by omega)) k.q.2.2.2⟩, k.rq.offbox hb hC hg, k.lb⟩
theorem Re.clo (k : Re w g B0 A n c B d kc X Q p1 E1 z1 b1 p2 E2 z2 b2 kk r i bd v1 V1 lv1 cv1 v2 V2 lv2 cv2 wx) (hs : Sp w g B0) : Clo4 (Re w g B0 A n c B d kc X Q p1 E1 z1 b1 p2 E2 z2 b2 kk r i bd v1 V1 lv1 cv1 v2 V2 lv2 cv2) wx.heap.size :=
  ⟨fun q hb => q.below hb, fun q hq => q.offb hq.1 (noInt_four _ _ _ _ _ _ _ _) (gb4' _ _ _ _ _ _) hs (Nat.lt_of_lt_of_le k.l.jr.lt hq.2)⟩
theorem Re.cells (k : Re w g B0 A n c B d kc X Q p1 E1 z1 b1 p2 E2 z2 b2 kk r i bd v1 V1 lv1 cv1 v2 V2 lv2 cv2 wx) : wx.cell? ⟨g + 1, 0, none⟩ = some (.bool p1) ∧ wx.cell? ⟨g + 1, 1, none⟩ = some (.slice E1 z1 b1) ∧ wx.cell? ⟨g + 1, 2, none⟩ = some (.bool p2) ∧ wx.cell? ⟨g + 1, 3, none⟩ = some (.slice E2 z2 b2) ∧ wx.cell? ⟨g, 0, none⟩ = some (.slice A n c) ∧ wx.cell? ⟨g, 1, none⟩ = some (.slice B n d) ∧ wx.cell? (bd.add (i * 4)) = some (.bool v1) ∧ wx.cell? ⟨(bd.add (i * 4)).block, (bd.add (i * 4)).off + 1, none⟩ = some (.slice V1 lv1 cv1) ∧ wx.cell? ⟨(bd.add (i * 4)).block, (bd.add (i * 4)).off + 2, none⟩ = some (.bool v2) ∧ wx.cell? ⟨(bd.add (i * 4)).block, (bd.add (i * 4)).off + 3, none⟩ = some (.slice V2 lv2 cv2) :=
  ⟨k.l.jv.c4.1, k.l.jv.c4.2.1, k.l.jv.c4.2.2.1, k.l.jv.c4.2.2.2.1, k.l.jc.c2.1, k.l.jc.c2.2.1, k.q⟩
/-- What is left is written. -/
theorem Rl.putv {o1 : Bool} {O1 : Option Addr} {lo1 co1 : Nat} {o2 : Bool} {O2 : Option Addr} {lo2 co2 : Nat} {l : Nat} {x : Rat} (k : Rl w g B0 A n c B d kc X Q p1 E1 z1 b1 p2 E2 z2 b2 kk r wx) (hs : Sp w g B0) (hq : Qi wx o1 O1 lo1 co1 o2 O2 lo2 co2 l x) :
    Rl w g B0 A n c B d kc X Q o1 O1 lo1 co1 o2 O2 lo2 co2 l x ((((wx.setCell ⟨g + 1, 0, none⟩ (.bool o1)).setCell ⟨g + 1, 1, none⟩ (.slice O1 lo1 co1)).setCell ⟨g + 1, 2, none⟩ (.bool o2)).setCell ⟨g + 1, 3, none⟩ (.slice O2 lo2 co2)) := by
  obtain ⟨e1, e2, e4⟩ := hs
  have hN : NoInt #[.bool p1, .slice E1 z1 b1, .bool p2, .slice E2 z2 b2] := noInt_four _ _ _ _ _ _ _ _
  have hG := gb4' wx (g + 1) (.bool o1) (.slice O1 lo1 co1) (.bool o2) (.slice O2 lo2 co2)
  have hsz := k.bl.size
  exact ⟨k.cv.off k.jv hN hG (by omega), k.jc.grown hG (by omega), bk_put4 k.jv, k.jr.grown hG (by omega), hq.offbox k.jv hN hG, k.tb.grown hG (by omega), k.bl.grown hG hsz (fun k hk => by injection hk with hk; omega)⟩
end
/-- What reach returns. -/
def Rout (n : Nat) (X : Nat → Int) (Q : Nat → Rat) (v : Rat) (w1 : Bool) (W1 : Option Addr) (lw1 cw1 : Nat) (w2 : Bool) (W2 : Option Addr) (lw2 cw2 : Nat) (E : Int) (w : World) : Prop :=
  (∃ i, i < n ∧ (∀ j, j < i → ¬ Kc.Hit n X Q v j) ∧ Kc.Hit n X Q v i ∧ E = 0 ∧ Qf w w1 W1 lw1 cw1 w2 W2 lw2 cw2 (Kc.hitAt X Q v i)) ∨ ((∀ j, j < n → ¬ Kc.Hit n X Q v j) ∧ E = 29 ∧ w1 = false ∧ W1 = none ∧ lw1 = 0 ∧ cw1 = 0 ∧ w2 = false ∧ W2 = none ∧ lw2 = 0 ∧ cw2 = 0)
theorem rout_hit {n : Nat} {X : Nat → Int} {Q : Nat → Rat} {v : Rat} {w1 : Bool} {W1 : Option Addr} {lw1 cw1 : Nat} {w2 : Bool} {W2 : Option Addr} {lw2 cw2 : Nat} {w : World} {i : Nat} (hi : i < n) (h : ∀ j, j < i → ¬ Kc.Hit n X Q v j) (hh : Kc.Hit n X Q v i) (q : Qf w w1 W1 lw1 cw1 w2 W2 lw2 cw2 (Kc.hitAt X Q v i)) : Rout n X Q v w1 W1 lw1 cw1 w2 W2 lw2 cw2 0 w := .inl ⟨i, hi, h, hh, rfl, q⟩
theorem rout_none {n : Nat} {X : Nat → Int} {Q : Nat → Rat} {v : Rat} {w : World} (h : ∀ j, j < n → ¬ Kc.Hit n X Q v j) : Rout n X Q v false none 0 0 false none 0 0 29 w := .inr ⟨h, rfl, rfl, rfl, rfl, rfl, rfl, rfl, rfl, rfl⟩
theorem Rout.off {n : Nat} {X : Nat → Int} {Q : Nat → Rat} {v : Rat} {w1 : Bool} {W1 : Option Addr} {lw1 cw1 : Nat} {w2 : Bool} {W2 : Option Addr} {lw2 cw2 : Nat} {E : Int} {w : World} {g : Nat} {T : TypeId} {a' b' c' d' : Value} (h : Rout n X Q v w1 W1 lw1 cw1 w2 W2 lw2 cw2 E w) (hb : Bk w g (.cells #[.bool false, .slice none 0 0, .bool false, .slice none 0 0] T (0, 0))) : Rout n X Q v w1 W1 lw1 cw1 w2 W2 lw2 cw2 E ((((w.setCell ⟨g, 0, none⟩ a').setCell ⟨g, 1, none⟩ b').setCell ⟨g, 2, none⟩ c').setCell ⟨g, 3, none⟩ d') := by
  rcases h with ⟨i, h1, h2, h3, h4, h5⟩ | h
  · exact .inl ⟨i, h1, h2, h3, h4, h5.offbox hb (noInt_four _ _ _ _ _ _ _ _) (gb4' _ _ _ _ _ _)⟩
  · exact .inr h
theorem pre_succ (X : Nat → Int) (Q : Nat → Rat) (v : Rat) (i : Nat) : v - Kc.pre X Q i - Q i * ((X (i + 1) : Rat) - (X i : Rat)) = v - Kc.pre X Q (i + 1) := by
  have : Kc.pre X Q (i + 1) = Kc.pre X Q i + Q i * ((X (i + 1) : Rat) - (X i : Rat)) := rfl
  rw [this]; grind
theorem Okc.gap {n : Nat} {X : Nat → Int} {Q : Nat → Rat} (h : Okc n X Q) {i : Nat} (hi : i + 1 < n) : QL 2 (((X (i + 1) - X i : Int)) : Rat) := whole_ql (le_of_small (by have := h.far i (by omega); have := h.far (i + 1) hi; omega)) (by decide)
section
variable {w : World} {g B0 : Nat} {A : Option Addr} {n c : Nat} {B : Option Addr} {d kc : Nat} {X : Nat → Int} {Q : Nat → Rat} {wx wy : World} {p1 : Bool} {E1 : Option Addr} {z1 b1 : Nat} {p2 : Bool} {E2 : Option Addr} {z2 b2 : Nat} {kk : Nat} {r : Rat} {i : Nat} {bd : Addr} {v1 : Bool} {V1 : Option Addr} {lv1 cv1 : Nat} {v2 : Bool} {V2 : Option Addr} {lv2 cv2 : Nat} {h : Nat} {g8 : Nat} {w1 : Bool} {W1 : Option Addr} {lw1 cw1 : Nat} {w2 : Bool} {W2 : Option Addr} {lw2 cw2 : Nat} {x : Rat}
theorem m1b (k : M1 (Re w g B0 A n c B d kc X Q p1 E1 z1 b1 p2 E2 z2 b2 kk r i bd v1 V1 lv1 cv1 v2 V2 lv2 cv2) g8 w1 W1 lw1 cw1 w2 W2 lw2 cw2 x wx) (hb : Below wx.heap.size wx wy) : M1 (Re w g B0 A n c B d kc X Q p1 E1 z1 b1 p2 E2 z2 b2 kk r i bd v1 V1 lv1 cv1 v2 V2 lv2 cv2) g8 w1 W1 lw1 cw1 w2 W2 lw2 cw2 x wy := ⟨k.o.below hb, k.l.below hb⟩
theorem m1c (k : M1 (Re w g B0 A n c B d kc X Q p1 E1 z1 b1 p2 E2 z2 b2 kk r i bd v1 V1 lv1 cv1 v2 V2 lv2 cv2) g8 w1 W1 lw1 cw1 w2 W2 lw2 cw2 x wx) : wx.cell? ⟨g8, 0, none⟩ = some (.bool w1) ∧ wx.cell? ⟨g8, 1, none⟩ = some (.slice W1 lw1 cw1) ∧ wx.cell? ⟨g8, 2, none⟩ = some (.bool w2) ∧ wx.cell? ⟨g8, 3, none⟩ = some (.slice W2 lw2 cw2) := ⟨k.l.b.c4.1, k.l.b.c4.2.1, k.l.b.c4.2.2.1, k.l.b.c4.2.2.2.1⟩
end
theorem m1off {wx : World} {g g8 : Nat} {w1 : Bool} {W1 : Option Addr} {lw1 cw1 : Nat} {w2 : Bool} {W2 : Option Addr} {lw2 cw2 : Nat} {x0 x1 x2 x3 : Value} (hn : g < g8) (k : wx.cell? ⟨g8, 0, none⟩ = some (.bool w1) ∧ wx.cell? ⟨g8, 1, none⟩ = some (.slice W1 lw1 cw1) ∧ wx.cell? ⟨g8, 2, none⟩ = some (.bool w2) ∧ wx.cell? ⟨g8, 3, none⟩ = some (.slice W2 lw2 cw2)) : ((((wx.setCell ⟨g, 0, none⟩ x0).setCell ⟨g, 1, none⟩ x1).setCell ⟨g, 2, none⟩ x2).setCell ⟨g, 3, none⟩ x3).cell? ⟨g8, 0, none⟩ = some (.bool w1) ∧ ((((wx.setCell ⟨g, 0, none⟩ x0).setCell ⟨g, 1, none⟩ x1).setCell ⟨g, 2, none⟩ x2).setCell ⟨g, 3, none⟩ x3).cell? ⟨g8, 1, none⟩ = some (.slice W1 lw1 cw1) ∧ ((((wx.setCell ⟨g, 0, none⟩ x0).setCell ⟨g, 1, none⟩ x1).setCell ⟨g, 2, none⟩ x2).setCell ⟨g, 3, none⟩ x3).cell? ⟨g8, 2, none⟩ = some (.bool w2) ∧ ((((wx.setCell ⟨g, 0, none⟩ x0).setCell ⟨g, 1, none⟩ x1).setCell ⟨g, 2, none⟩ x2).setCell ⟨g, 3, none⟩ x3).cell? ⟨g8, 3, none⟩ = some (.slice W2 lw2 cw2) :=
  ⟨off_four (by omega) k.1, off_four (by omega) k.2.1, off_four (by omega) k.2.2.1, off_four (by omega) k.2.2.2⟩
set_option maxRecDepth 100000 in
set_option maxHeartbeats 80000000 in
theorem reach_q {w : World} {A : Option Addr} {n c : Nat} {B : Option Addr} {d B0 kc k : Nat} {X : Nat → Int} {Q : Nat → Rat} {p1 : Bool} {E1 : Option Addr} {z1 b1 : Nat} {p2 : Bool} {E2 : Option Addr} {z2 b2 : Nat} {v : Rat} (h : Cv w B0 A n B n kc X Q) (ok : Okc n X Q) (k0 : Qi w p1 E1 z1 b1 p2 E2 z2 b2 k v) (hkc : 0 < kc) (hk : 0 < k) (hsz : k + 13 * (kc + 3) + 4 ≤ 400) (hT : Tb w) (hv : 0 < v) :
    Calls Tryz.prog 86 #[.agg #[.slice A n c, .slice B n d], .agg #[.bool p1, .slice E1 z1 b1, .bool p2, .slice E2 z2 b2]] w fun e w' => ∃ w1 W1 lw1 cw1 w2 W2 lw2 cw2 E, e = .returned (.tuple #[.agg #[.bool w1, .slice W1 lw1 cw1, .bool w2, .slice W2 lw2 cw2], .int .i64 E]) ∧ Rout n X Q v w1 W1 lw1 cw1 w2 W2 lw2 cw2 E w' ∧ Below w.heap.size w w' := by
  have b0 := three_new w (.cells #[.slice A n c, .slice B n d] 48) (.cells #[.bool p1, .slice E1 z1 b1, .bool p2, .slice E2 z2 b2] 26) (.cells #[.bool false, .slice none 0 0, .bool false, .slice none 0 0] 26)
  have hB := (((Below.refl w.heap.size w).alloc (Nat.le_refl _) (.cells #[.slice A n c, .slice B n d] 48)).alloc (by simp) (.cells #[.bool p1, .slice E1 z1 b1, .bool p2, .slice E2 z2 b2] 26)).alloc (by simp; omega) (.cells #[.bool false, .slice none 0 0, .bool false, .slice none 0 0] 26)
  obtain ⟨g, hg⟩ : ∃ g, w.heap.size = g := ⟨_, rfl⟩
  have HV := hid hv
  clear hv
  go_enter Tryz.func86, Tryz.ntmps86
  go_wp2_with fail
  rw [hg] at b0
  generalize ((w.alloc (.cells #[.slice A n c, .slice B n d] 48)).alloc (.cells #[.bool p1, .slice E1 z1 b1, .bool p2, .slice E2 z2 b2] 26)).alloc (.cells #[.bool false, .slice none 0 0, .bool false, .slice none 0 0] 26) = W0 at *
  have hle := h.le
  have hTl := hT.2
  have e0 : v - Kc.pre X Q 0 = v := by unfold Kc.pre Kc.sm; grind
  have P0 : Rl w g B0 A n c B d kc X Q p1 E1 z1 b1 p2 E2 z2 b2 (k + 0 * (kc + 3)) (v - Kc.pre X Q 0) W0 := by
    rw [e0, Nat.zero_mul, Nat.add_zero]
    exact ⟨h.below hB, b0.1, b0.2.1, b0.2.2, k0.below hB, hT.below hB, hB⟩
  have OK := hid ok
  have HS := hid (show Sp w g B0 from ⟨hg, by omega, by omega⟩)
  have hfew := ok.few
  clear h k0 hT hB hg b0 ok hle hTl e0
  obtain ⟨x0, x1, -, -⟩ := P0.jc.c2
  go_wp2
  go_loopw [14] (fun iv wr => ∃ i p1 E1 z1 b1 p2 E2 z2 b2, i ≤ n ∧ iv = .int .i64 ((i : Nat) : Int) ∧ Hid (∀ j, j < i → ¬ Kc.Hit n X Q v j) ∧ Rl w g B0 A n c B d kc X Q p1 E1 z1 b1 p2 E2 z2 b2 (k + i * (kc + 3)) (v - Kc.pre X Q i) wr) (fun iv _ => n - (intOf iv).toNat)
  case atStart => exact ⟨0, _, _, _, _, _, _, _, _, Nat.zero_le _, rfl, hid (fun j hj => absurd hj (Nat.not_lt_zero _)), P0⟩
  case round =>
    obtain ⟨i, p1, E1, z1, b1, p2, E2, z2, b2, hi', rfl, HN, P⟩ := hrel
    clear P0 x0 x1
    by_cases hi : i < n
    · obtain ⟨x0, x1, -, -⟩ := P.jc.c2
      obtain ⟨ad, hA, la, cs⟩ := P.cv.s i hi
      obtain ⟨bd, v1, V1, lv1, cv1, v2, V2, lv2, cv2, hBd, lb, q0, q1, q2, q3, hq⟩ := P.cv.q i hi
      have hx := OK.out.far i hi
      have LX := OK.out.ql hi
      have Hik := hid (show i * (kc + 3) ≤ 11 * (kc + 3) from Nat.mul_le_mul_right _ (by omega))
      have hkk : k + i * (kc + 3) + kc ≤ 390 := by have := Hik.out; omega
      have R : Re w g B0 A n c B d kc X Q p1 E1 z1 b1 p2 E2 z2 b2 (k + i * (kc + 3)) (v - Kc.pre X Q i) i bd v1 V1 lv1 cv1 v2 V2 lv2 cv2 wr := ⟨P, ⟨q0, q1, q2, q3⟩, hq.q, lb⟩
      have LR := P.qv.ql (show 0 < k + i * (kc + 3) by omega)
      obtain ⟨r, hr⟩ : ∃ r, v - Kc.pre X Q i = r := ⟨_, rfl⟩
      have Hr := hid hr
      rw [hr] at R LR
      obtain ⟨kk, hkke⟩ : ∃ kk, k + i * (kc + 3) = kk := ⟨_, rfl⟩
      have Hkk := hid hkke
      rw [hkke] at R LR hkk
      have hkk0 : 0 < kk := by omega
      have hkc2 : kc ≤ 390 := by omega
      have K := R.clo HS.out
      have hgr := R.l.jr.lt
      subst hA; subst hBd
      clear P q0 q1 q2 q3 hq hr hkke
      go_upto_region 4 with fail
      by_cases hQ0 : Q i = 0
      · have HQ := hid hQ0
        clear hQ0
        go_cut [6, 7, 8, 9] (fun s6 s7 s8 s9 wx => s6 = .int .i64 ((i : Nat) : Int) ∧ s7 = .int .i64 (X i) ∧ (∃ g8, s8 = .pointer (some ⟨g8, 0, none⟩)) ∧ s9 = .int .i64 9 ∧ Re w g B0 (some ad) n c (some bd) d kc X Q p1 E1 z1 b1 p2 E2 z2 b2 kk r i bd v1 V1 lv1 cv1 v2 V2 lv2 cv2 wx)
        case first =>
          go_region_held3 (fun w' => w'.cell? ⟨g + 1, 0, none⟩ = some (.bool p1) ∧ w'.cell? ⟨g + 1, 1, none⟩ = some (.slice E1 z1 b1) ∧ w'.cell? ⟨g + 1, 2, none⟩ = some (.bool p2) ∧ w'.cell? ⟨g + 1, 3, none⟩ = some (.slice E2 z2 b2) ∧ w'.cell? ⟨g, 0, none⟩ = some (.slice (some ad) n c) ∧ w'.cell? ⟨g, 1, none⟩ = some (.slice (some bd) n d) ∧ w'.cell? (bd.add (i * 4)) = some (.bool v1) ∧ w'.cell? ⟨(bd.add (i * 4)).block, (bd.add (i * 4)).off + 1, none⟩ = some (.slice V1 lv1 cv1) ∧ w'.cell? ⟨(bd.add (i * 4)).block, (bd.add (i * 4)).off + 2, none⟩ = some (.bool v2) ∧ w'.cell? ⟨(bd.add (i * 4)).block, (bd.add (i * 4)).off + 3, none⟩ = some (.slice V2 lv2 cv2)) (first
            | with_reducible exact Re.cells (K.below R dr0)
            | with_reducible exact Re.cells (K.below R dr1)
            | with_reducible exact Re.cells R1
            | with_reducible exact Re.cells (K.below R1 al1)
            | with_reducible exact Re.cells (K.set R1 qa)) (first
            | (go_at_call 9; (first | with_reducible refine (QuoRat_zero (K.below R dr0).l.qv (K.below R dr0).rq hkk0 hkc (by omega) (by omega) (K.below R dr0).l.tb HQ.out).mono ?_ | with_reducible refine (QuoRat_zero (K.below R dr1).l.qv (K.below R dr1).rq hkk0 hkc (by omega) (by omega) (K.below R dr1).l.tb HQ.out).mono ?_); rintro e wa1 ⟨rfl, hb1⟩; (first | (have H := sd1q (Nat.le_refl _) hb1; obtain ⟨hc1, qa⟩ := H) | (have hc1 := sd0 hb1)); have R1 := K.below R hc1; have hN1 := hc1.size; (try have lqa := qa.lt); (try obtain ⟨_, _, _, _, _, _, _, _⟩ := qa.1.c4)))
          all_goals
            (try clear lqa)
            go_wp2_with fail
            go_meet
            first
              | with_reducible exact ⟨rfl, rfl, ⟨_, rfl⟩, rfl, K.below R1 al1⟩
              | with_reducible exact ⟨rfl, rfl, ⟨_, rfl⟩, rfl, K.set R1 qa⟩
        case rest =>
          obtain ⟨rfl, rfl, ⟨g8, rfl⟩, rfl, hM⟩ := hcut
          clear R K x0 x1 cs
          rename World => wc
          have HR := hid hM.l
          clear hM
          go_wp2
          go_roundw
          case rel =>
            refine ⟨i + 1, p1, E1, z1, b1, p2, E2, z2, b2, by omega, by go_num, hid (fun j hj => ?_), ?_⟩
            · rcases Nat.lt_or_ge j i with h1 | h1
              · exact HN.out j h1
              · have : j = i := by omega
                subst this
                exact fun hh => hh.1 HQ.out
            · have e1 : v - Kc.pre X Q (i + 1) = r := by rw [← pre_succ, HQ.out, ← Hr.out]; grind
              have h3 := HR.out
              rw [e1]
              exact ⟨h3.cv, h3.jc, h3.jv, h3.jr, h3.qv.mono (by rw [← Hkk.out, Nat.succ_mul]; omega), h3.tb, h3.bl⟩
          case measure => simp [intOf]; omega
      · have HQ := hid hQ0
        have LQ := R.rq.ql hkc
        have LW := LR.div' LQ hQ0 hkk0
        clear hQ0
        go_cut [6, 7, 8, 9] (fun s6 s7 s8 s9 wx => s6 = .int .i64 ((i : Nat) : Int) ∧ s7 = .int .i64 (X i) ∧ One4 (Re w g B0 (some ad) n c (some bd) d kc X Q p1 E1 z1 b1 p2 E2 z2 b2 kk r i bd v1 V1 lv1 cv1 v2 V2 lv2 cv2) wr.heap.size (r / Q i) s8 wx ∧ s9 = .int .i64 0)
        case first =>
          go_region_held3 (fun w' => w'.cell? ⟨g + 1, 0, none⟩ = some (.bool p1) ∧ w'.cell? ⟨g + 1, 1, none⟩ = some (.slice E1 z1 b1) ∧ w'.cell? ⟨g + 1, 2, none⟩ = some (.bool p2) ∧ w'.cell? ⟨g + 1, 3, none⟩ = some (.slice E2 z2 b2) ∧ w'.cell? ⟨g, 0, none⟩ = some (.slice (some ad) n c) ∧ w'.cell? ⟨g, 1, none⟩ = some (.slice (some bd) n d) ∧ w'.cell? (bd.add (i * 4)) = some (.bool v1) ∧ w'.cell? ⟨(bd.add (i * 4)).block, (bd.add (i * 4)).off + 1, none⟩ = some (.slice V1 lv1 cv1) ∧ w'.cell? ⟨(bd.add (i * 4)).block, (bd.add (i * 4)).off + 2, none⟩ = some (.bool v2) ∧ w'.cell? ⟨(bd.add (i * 4)).block, (bd.add (i * 4)).off + 3, none⟩ = some (.slice V2 lv2 cv2)) (first
            | with_reducible exact Re.cells (K.below R dr0)
            | with_reducible exact Re.cells (K.below R dr1)
            | with_reducible exact Re.cells R1
            | with_reducible exact Re.cells (K.below R1 al1)
            | with_reducible exact Re.cells (K.set R1 qa)) (first
            | (go_at_call 9; (first | with_reducible refine (QuoRat_q (K.below R dr0).l.qv (K.below R dr0).rq hkk0 hkc (by omega) (by omega) (K.below R dr0).l.tb HQ.out).mono ?_ | with_reducible refine (QuoRat_q (K.below R dr1).l.qv (K.below R dr1).rq hkk0 hkc (by omega) (by omega) (K.below R dr1).l.tb HQ.out).mono ?_); rintro e wa1 ⟨w1, W1, lw1, cw1, w2, W2, lw2, cw2, rfl, h4, hb1⟩; (first | (have H := sd1q (Nat.le_refl _) hb1; obtain ⟨hc1, qa⟩ := H) | (have hc1 := sd0 hb1)); have R1 := K.below R hc1; have hN1 := hc1.size; (try have lqa := qa.lt); (try obtain ⟨_, _, _, _, _, _, _, _⟩ := qa.1.c4)))
          all_goals
            (try clear lqa)
            go_wp2_with fail
            go_meet
            first
              | with_reducible exact ⟨rfl, rfl, one4a K R1 h4 hN1, rfl⟩
              | with_reducible exact ⟨rfl, rfl, one4b K R1 h4 qa, rfl⟩
        case rest =>
          obtain ⟨rfl, rfl, ⟨g8, w1, W1, lw1, cw1, w2, W2, lw2, cw2, rfl, hN8, j8, hM⟩, rfl⟩ := hcut
          have hg8 : g + 1 + 1 < g8 := Nat.lt_of_lt_of_le hgr hN8
          clear R K x0 x1 cs hN8 hgr
          rename World => wc
          have P : M1 (Re w g B0 (some ad) n c (some bd) d kc X Q p1 E1 z1 b1 p2 E2 z2 b2 kk r i bd v1 V1 lv1 cv1 v2 V2 lv2 cv2) g8 w1 W1 lw1 cw1 w2 W2 lw2 cw2 (r / Q i) wc := ⟨hM, j8⟩
          obtain ⟨x0, x1, -, -⟩ := P.o.l.jc.c2
          clear hM j8
          by_cases hlast : i + 1 = n
          · have hd1 : decide ((i : Int) = (n : Int) - 1) = true := decide_eq_true (by omega)
            have hb1 : ((i : Int) == (n : Int) - 1) = true := beq_iff_eq.2 (by omega)
            have Hl := hid hlast
            clear hlast
            go_upto_region 7 with fail
            have hw0 := P.l.b.c4
            obtain ⟨y0, y1, y2, y3, -, -, -, -⟩ := hw0
            have P0 := m1b P (dr0 (W := wc))
            have hcells := m1c P0
            have hne : g + 1 + 1 < g8 := hg8
            clear P y0 y1 y2 y3
            go_region_held3 (fun w' => w'.cell? ⟨g8, 0, none⟩ = some (.bool w1) ∧ w'.cell? ⟨g8, 1, none⟩ = some (.slice W1 lw1 cw1) ∧ w'.cell? ⟨g8, 2, none⟩ = some (.bool w2) ∧ w'.cell? ⟨g8, 3, none⟩ = some (.slice W2 lw2 cw2)) (first | with_reducible exact m1c P0 | with_reducible exact m1c P1 | with_reducible exact m1c P2 | with_reducible exact m1off hne (m1c P2)) (first
              | (go_at_call 87; with_reducible refine (number_q (X i) _ (by omega) (by omega)).mono ?_; rintro e wf1 ⟨f1, F1, lf1, cf1, f2, F2, lf2, cf2, rfl, h4, hb4⟩; have P1 := m1b P0 hb4)
              | (go_at_call 17; with_reducible refine (AddRat_q (h4.qi LX) (P1.l.z.qi LW) (by decide) (by omega) (by omega) (by omega) P1.o.l.tb).mono ?_; rintro e wf2 ⟨r1, R1, lr1, cr1, r2, R2, lr2, cr2, rfl, h5, hb5⟩; have P2 := m1b P1 hb5; have hlj := P2.o.l.jr.lt; obtain ⟨i0, i1, i2, i3, i4, i5, i6, i7⟩ := P2.o.l.jr.c4))
            have j2 := P2.o.l.jr
            have h11 := hid (below4 P2.o.l.bl (show w.heap.size ≤ g + 1 + 1 by have := HS.out.1; omega) (.bool r1) (.slice R1 lr1 cr1) (.bool r2) (.slice R2 lr2 cr2))
            have m1' := hid (h5.offbox j2 (noInt_four _ _ _ _ _ _ _ _) (gb4' _ _ (.bool r1) (.slice R1 lr1 cr1) (.bool r2) (.slice R2 lr2 cr2)))
            clear P0 P1 P2 h4 h5 hb4 hb5 j2 hcells
            go_wp2
            exact bodyPost_ret (v := .tuple #[.agg #[.bool r1, .slice R1 lr1 cr1, .bool r2, .slice R2 lr2 cr2], .int .i64 0]) (by simp [results, Tryz.results86, go_sem, i0, i1, i2, i3]) rfl ⟨_, _, _, _, _, _, _, _, _, rfl, rout_hit hi HN.out (⟨HQ.out, .inl Hl.out⟩) (by have := m1'.out; rw [← Hr.out] at this; exact this), h11.out⟩
          · have hlt : i + 1 < n := by omega
            have hd1 : decide ((i : Int) = (n : Int) - 1) = false := decide_eq_false (by omega)
            have hb1 : ((i : Int) == (n : Int) - 1) = false := beq_eq_false_iff_ne.2 (by omega)
            obtain ⟨ad2, hA2, -, cs2⟩ := P.o.l.cv.s (i + 1) hlt
            injection hA2 with hA2
            subst hA2
            rw [add_at] at cs2
            obtain ⟨hxa, hxb⟩ := OK.out.far (i + 1) hlt
            obtain ⟨hxc, hxd⟩ := hx
            have LG := OK.out.gap hlt
            have HG := hid (show (((X (i + 1) - X i : Int)) : Rat) = (X (i + 1) : Rat) - (X i : Rat) by simp)
            have Hl := hid hlast
            clear hlast
            go_wp2_with fail
            refine (number_q (X (i + 1) - X i) _ (by omega) (by omega)).mono ?_
            rintro e w8 ⟨o1, O1, lo1, co1, o2, O2, lo2, co2, rfl, hq8, hb8⟩
            have P8 := m1b (m1b P hb8) (alo (o := (.cells #[.bool o1, .slice O1 lo1 co1, .bool o2, .slice O2 lo2 co2] 26)))
            have j10 := Jq.made hq8
            obtain ⟨G, hGe⟩ : ∃ G : Rat, (((X (i + 1) - X i : Int)) : Rat) = G := ⟨_, rfl⟩
            have HGe := hid hGe
            rw [hGe] at LG j10
            have hl8 := P8.l.b.lt
            clear P hb8 hq8 x0 x1 cs2 hGe
            obtain ⟨y0, y1, y2, y3, -, -, -, -⟩ := P8.l.b.c4
            go_upto_region 9 with fail
            generalize w8.alloc (.cells #[.bool o1, .slice O1 lo1 co1, .bool o2, .slice O2 lo2 co2] 26) = W8 at *
            generalize w8.heap.size = g10 at *
            obtain ⟨y4, y5, y6, y7, -, -, -, -⟩ := j10.b.c4
            go_wp2_with fail
            refine (CmpRat_q (P8.l.z.qi LW) (j10.z.qi LG) (by omega) (by decide) (by omega) (by decide) P8.o.l.tb).mono ?_
            rintro e w9 ⟨rfl, hb9⟩
            have P := m1b P8 hb9
            have j11 := j10.below hb9
            clear P8 j10 hb9 y0 y1 y2 y3 y4 y5 y6 y7
            by_cases hcmp : r / Q i ≤ G
            · have hdc : decide (cmpQ (r / Q i) G ≤ 0) = true := decide_eq_true (by have := cmpQ_le hcmp; omega)
              have Hc := hid (show (v - Kc.pre X Q i) / Q i ≤ (X (i + 1) : Rat) - (X i : Rat) by rw [Hr.out, ← HG.out, HGe.out]; exact hcmp)
              clear hcmp j11 hl8
              go_upto_region 10 with fail
              have hw0 := P.l.b.c4
              obtain ⟨y0, y1, y2, y3, -, -, -, -⟩ := hw0
              have P0 := m1b P (dr0 (W := w9))
              have hcells := m1c P0
              have hne : g + 1 + 1 < g8 := hg8
              clear P y0 y1 y2 y3
              go_region_held3 (fun w' => w'.cell? ⟨g8, 0, none⟩ = some (.bool w1) ∧ w'.cell? ⟨g8, 1, none⟩ = some (.slice W1 lw1 cw1) ∧ w'.cell? ⟨g8, 2, none⟩ = some (.bool w2) ∧ w'.cell? ⟨g8, 3, none⟩ = some (.slice W2 lw2 cw2)) (first | with_reducible exact m1c P0 | with_reducible exact m1c P1 | with_reducible exact m1c P2 | with_reducible exact m1off hne (m1c P2)) (first
                | (go_at_call 87; with_reducible refine (number_q (X i) _ (by omega) (by omega)).mono ?_; rintro e wf1 ⟨f1, F1, lf1, cf1, f2, F2, lf2, cf2, rfl, h4, hb4⟩; have P1 := m1b P0 hb4)
                | (go_at_call 17; with_reducible refine (AddRat_q (h4.qi LX) (P1.l.z.qi LW) (by decide) (by omega) (by omega) (by omega) P1.o.l.tb).mono ?_; rintro e wf2 ⟨r1, R1, lr1, cr1, r2, R2, lr2, cr2, rfl, h5, hb5⟩; have P2 := m1b P1 hb5; have hlj := P2.o.l.jr.lt; obtain ⟨i0, i1, i2, i3, i4, i5, i6, i7⟩ := P2.o.l.jr.c4))
              have j2 := P2.o.l.jr
              have h11 := hid (below4 P2.o.l.bl (show w.heap.size ≤ g + 1 + 1 by have := HS.out.1; omega) (.bool r1) (.slice R1 lr1 cr1) (.bool r2) (.slice R2 lr2 cr2))
              have m1' := hid (h5.offbox j2 (noInt_four _ _ _ _ _ _ _ _) (gb4' _ _ (.bool r1) (.slice R1 lr1 cr1) (.bool r2) (.slice R2 lr2 cr2)))
              clear P0 P1 P2 h4 h5 hb4 hb5 j2 hcells
              go_wp2
              exact bodyPost_ret (v := .tuple #[.agg #[.bool r1, .slice R1 lr1 cr1, .bool r2, .slice R2 lr2 cr2], .int .i64 0]) (by simp [results, Tryz.results86, go_sem, i0, i1, i2, i3]) rfl ⟨_, _, _, _, _, _, _, _, _, rfl, rout_hit hi HN.out (⟨HQ.out, .inr Hc.out⟩) (by have := m1'.out; rw [← Hr.out] at this; exact this), h11.out⟩
            · have hdc : decide (cmpQ (r / Q i) G ≤ 0) = false := decide_eq_false (by have := cmpQ_gt (Rat.not_le.1 hcmp); omega)
              have Hc := hid (show ¬ (v - Kc.pre X Q i) / Q i ≤ (X (i + 1) : Rat) - (X i : Rat) by rw [Hr.out, ← HG.out, HGe.out]; exact hcmp)
              clear hcmp hl8
              go_upto_region 11 with fail
              have Q0 := P.o.below (dr0 (W := w9))
              have j12 := j11.below (dr0 (W := w9))
              clear P j11
              have hcl0 := Q0.cells
              obtain ⟨a0, a1, a2, a3, -, -, -, -⟩ := j12.b.c4
              obtain ⟨-, -, -, -, ff0, ff1, ff2, ff3⟩ := Q0.l.jv.c4
              have hl0 := Q0.l.jv.lt
              go_region_with (first
                | (go_at_call 72; with_reducible refine (product_q Q0.rq (j12.z.qi LG) hkc (by decide) (by omega) (by decide) Q0.l.tb).mono ?_; rintro e wg1 ⟨f1, F1, lf1, cf1, f2, F2, lf2, cf2, fa, fb, rfl, h4, hb4⟩; have Q1 := Q0.below hb4; have j13 := j12.below hb4; have hcl1 := Q1.cells; obtain ⟨a4, a5, a6, a7, -, -, -, -⟩ := j13.b.c4; obtain ⟨-, -, -, -, fg0, fg1, fg2, fg3⟩ := Q1.l.jv.c4; have hl1 := Q1.l.jv.lt)
                | (go_at_call 19; with_reducible refine (SubRat_q Q1.l.qv h4.qi hkk0 (by omega) (by omega) (by omega) Q1.l.tb).mono ?_; rintro e wg2 ⟨o1, O1, lo1, co1, o2, O2, lo2, co2, rfl, h5, hb5⟩; have Q2 := Q1.below hb5; have hcl2 := Q2.cells; obtain ⟨-, -, -, -, fh0, fh1, fh2, fh3⟩ := Q2.l.jv.c4; have hl2 := Q2.l.jv.lt))
              all_goals
                have LN := LR.sub (LQ.mul LG)
                have HP := hid (Q2.l.putv HS.out (h5.qi LN))
                clear hcl0 hcl1 hcl2 a0 a1 a2 a3 a4 a5 a6 a7 ff0 ff1 ff2 ff3 fg0 fg1 fg2 fg3 fh0 fh1 fh2 fh3 hl0 hl1 hl2 Q0 Q1 Q2 j12 j13 h4 h5 hb4 hb5
                go_wp2
                go_roundw
                case rel =>
                  refine ⟨i + 1, o1, O1, lo1, co1, o2, O2, lo2, co2, by omega, by go_num, hid (fun j hj => ?_), ?_⟩
                  · rcases Nat.lt_or_ge j i with h1 | h1
                    · exact HN.out j h1
                    · have : j = i := by omega
                      subst this
                      exact fun hh => hh.2.elim (fun e => by omega) (fun e => Hc.out e)
                  · have e1 : v - Kc.pre X Q (i + 1) = r - Q i * G := by rw [← pre_succ, Hr.out, ← HG.out, HGe.out]
                    have h3 := HP.out
                    rw [e1]
                    exact ⟨h3.cv, h3.jc, h3.jv, h3.jr, h3.qv.mono (by rw [← Hkk.out, Nat.succ_mul]; omega), h3.tb, h3.bl⟩
                case measure => simp [intOf]; omega
    · have : i = n := by omega
      subst this
      have j2 := P.jr
      have hlj := j2.lt
      have h11 := hid (below4 P.bl (show w.heap.size ≤ g + 1 + 1 by have := HS.out.1; omega) (.bool false) (.slice none 0 0) (.bool false) (.slice none 0 0))
      obtain ⟨i0, i1, i2, i3, i4, i5, i6, i7⟩ := j2.c4
      clear j2 P
      go_wp2
      exact bodyPost_ret (v := .tuple #[.agg #[.bool false, .slice none 0 0, .bool false, .slice none 0 0], .int .i64 29]) (by simp [results, Tryz.results86, go_sem, i0, i1, i2, i3]) rfl ⟨_, _, _, _, _, _, _, _, _, rfl, rout_none HN.out, h11.out⟩
set_option maxRecDepth 100000 in
set_option maxHeartbeats 80000000 in
theorem Reach_pos {w : World} {A : Option Addr} {n c : Nat} {B : Option Addr} {d B0 kc k : Nat} {X : Nat → Int} {Q : Nat → Rat} {p1 : Bool} {E1 : Option Addr} {z1 b1 : Nat} {p2 : Bool} {E2 : Option Addr} {z2 b2 : Nat} {v : Rat} (h : Cv w B0 A n B n kc X Q) (ok : Okc n X Q) (k0 : Qi w p1 E1 z1 b1 p2 E2 z2 b2 k v) (hkc : 0 < kc) (hk : 0 < k) (hsz : k + 13 * (kc + 3) + 4 ≤ 400) (hT : Tb w) (hv : 0 < v) :
    Calls Tryz.prog 37 #[.agg #[.slice A n c, .slice B n d], .agg #[.bool p1, .slice E1 z1 b1, .bool p2, .slice E2 z2 b2]] w fun e w' => ∃ w1 W1 lw1 cw1 w2 W2 lw2 cw2 E, e = .returned (.tuple #[.agg #[.bool w1, .slice W1 lw1 cw1, .bool w2, .slice W2 lw2 cw2], .int .i64 E]) ∧ Rout n X Q v w1 W1 lw1 cw1 w2 W2 lw2 cw2 E w' ∧ Below w.heap.size w w' := by
  have b0 := three_new w (.cells #[.slice A n c, .slice B n d] 48) (.cells #[.bool p1, .slice E1 z1 b1, .bool p2, .slice E2 z2 b2] 26) (.cells #[.bool false, .slice none 0 0, .bool false, .slice none 0 0] 26)
  have hB := (((Below.refl w.heap.size w).alloc (Nat.le_refl _) (.cells #[.slice A n c, .slice B n d] 48)).alloc (by simp) (.cells #[.bool p1, .slice E1 z1 b1, .bool p2, .slice E2 z2 b2] 26)).alloc (by simp; omega) (.cells #[.bool false, .slice none 0 0, .bool false, .slice none 0 0] 26)
  obtain ⟨g, hg⟩ : ∃ g, w.heap.size = g := ⟨_, rfl⟩
  have HV := hid hv
  have hsg : decide (cmpQ v 0 ≤ 0) = false := decide_eq_false (by have := cmpQ_gt hv; omega)
  clear hv
  go_enter Tryz.func37, Tryz.ntmps37
  go_wp2_with fail
  rw [hg] at b0
  generalize ((w.alloc (.cells #[.slice A n c, .slice B n d] 48)).alloc (.cells #[.bool p1, .slice E1 z1 b1, .bool p2, .slice E2 z2 b2] 26)).alloc (.cells #[.bool false, .slice none 0 0, .bool false, .slice none 0 0] 26) = W0 at *
  have P0 : Rl w g B0 A n c B d kc X Q p1 E1 z1 b1 p2 E2 z2 b2 k v W0 := ⟨h.below hB, b0.1, b0.2.1, b0.2.2, k0.below hB, hT.below hB, hB⟩
  have OK := hid ok
  have Hg := hid hg
  clear h k0 hT hB hg b0 ok
  refine (CheckCurve_ok P0.cv hkc OK.out).mono ?_
  rintro e w1 ⟨rfl, hb1⟩
  have P1 := P0.below hb1
  clear P0 hb1
  obtain ⟨x2, x3, x4, x5, -, -, -, -⟩ := P1.jv.c4
  go_wp2_with fail
  refine (ratSign_q P1.qv hk).mono ?_
  rintro e w2 ⟨rfl, hb2⟩
  have P2 := P1.below hb2
  clear P1 hb2 x2 x3 x4 x5
  obtain ⟨x0, x1, -, -⟩ := P2.jc.c2
  obtain ⟨x2, x3, x4, x5, -, -, -, -⟩ := P2.jv.c4
  go_wp2_with fail
  refine (reach_q P2.cv OK.out P2.qv hkc hk hsz P2.tb HV.out).mono ?_
  rintro e w3 ⟨w1, W1, lw1, cw1, w2, W2, lw2, cw2, E, rfl, HR, hb3⟩
  have P3 := P2.below hb3
  have j2 := P3.jr
  have hl7 := j2.lt
  obtain ⟨i0, i1, i2, i3, i4, i5, i6, i7⟩ := j2.c4
  have h11 := hid (below4 P3.bl (show w.heap.size ≤ g + 1 + 1 by have := Hg.out; omega) (.bool w1) (.slice W1 lw1 cw1) (.bool w2) (.slice W2 lw2 cw2))
  have m1' := hid (HR.off (a' := .bool w1) (b' := .slice W1 lw1 cw1) (c' := .bool w2) (d' := .slice W2 lw2 cw2) j2)
  clear P2 P3 HR hb3 j2 x0 x1 x2 x3 x4 x5
  go_wp2
  exact bodyPost_ret (v := .tuple #[.agg #[.bool w1, .slice W1 lw1 cw1, .bool w2, .slice W2 lw2 cw2], .int .i64 E]) (by simp [results, Tryz.results37, go_sem, i0, i1, i2, i3]) rfl ⟨_, _, _, _, _, _, _, _, _, rfl, m1'.out, h11.out⟩
set_option maxRecDepth 100000 in
set_option maxHeartbeats 80000000 in
theorem Reach_neg {w : World} {A : Option Addr} {n c : Nat} {B : Option Addr} {d B0 kc k : Nat} {X : Nat → Int} {Q : Nat → Rat} {p1 : Bool} {E1 : Option Addr} {z1 b1 : Nat} {p2 : Bool} {E2 : Option Addr} {z2 b2 : Nat} {v : Rat} (h : Cv w B0 A n B n kc X Q) (ok : Okc n X Q) (k0 : Qi w p1 E1 z1 b1 p2 E2 z2 b2 k v) (hkc : 0 < kc) (hk : 0 < k) (hT : Tb w) (hv : ¬ 0 < v) :
    Calls Tryz.prog 37 #[.agg #[.slice A n c, .slice B n d], .agg #[.bool p1, .slice E1 z1 b1, .bool p2, .slice E2 z2 b2]] w fun e w' => e = .returned (.tuple #[.agg #[.bool false, .slice none 0 0, .bool false, .slice none 0 0], .int .i64 2]) ∧ Below w.heap.size w w' := by
  have b0 := three_new w (.cells #[.slice A n c, .slice B n d] 48) (.cells #[.bool p1, .slice E1 z1 b1, .bool p2, .slice E2 z2 b2] 26) (.cells #[.bool false, .slice none 0 0, .bool false, .slice none 0 0] 26)
  have hB := (((Below.refl w.heap.size w).alloc (Nat.le_refl _) (.cells #[.slice A n c, .slice B n d] 48)).alloc (by simp) (.cells #[.bool p1, .slice E1 z1 b1, .bool p2, .slice E2 z2 b2] 26)).alloc (by simp; omega) (.cells #[.bool false, .slice none 0 0, .bool false, .slice none 0 0] 26)
  obtain ⟨g, hg⟩ : ∃ g, w.heap.size = g := ⟨_, rfl⟩
  have hsg : decide (cmpQ v 0 ≤ 0) = true := decide_eq_true (by have := cmpQ_le (show v ≤ 0 by grind); omega)
  clear hv
  go_enter Tryz.func37, Tryz.ntmps37
  go_wp2_with fail
  rw [hg] at b0
  generalize ((w.alloc (.cells #[.slice A n c, .slice B n d] 48)).alloc (.cells #[.bool p1, .slice E1 z1 b1, .bool p2, .slice E2 z2 b2] 26)).alloc (.cells #[.bool false, .slice none 0 0, .bool false, .slice none 0 0] 26) = W0 at *
  have P0 : Rl w g B0 A n c B d kc X Q p1 E1 z1 b1 p2 E2 z2 b2 k v W0 := ⟨h.below hB, b0.1, b0.2.1, b0.2.2, k0.below hB, hT.below hB, hB⟩
  have OK := hid ok
  have Hg := hid hg
  clear h k0 hT hB hg b0 ok
  refine (CheckCurve_ok P0.cv hkc OK.out).mono ?_
  rintro e w1 ⟨rfl, hb1⟩
  have P1 := P0.below hb1
  clear P0 hb1
  obtain ⟨x2, x3, x4, x5, -, -, -, -⟩ := P1.jv.c4
  go_wp2_with fail
  refine (ratSign_q P1.qv hk).mono ?_
  rintro e w2 ⟨rfl, hb2⟩
  have P2 := P1.below hb2
  have j2 := P2.jr
  have hl7 := j2.lt
  obtain ⟨i0, i1, i2, i3, i4, i5, i6, i7⟩ := j2.c4
  have h11 := hid (below4 P2.bl (show w.heap.size ≤ g + 1 + 1 by have := Hg.out; omega) (.bool false) (.slice none 0 0) (.bool false) (.slice none 0 0))
  clear P1 P2 hb2 j2 x2 x3 x4 x5
  go_wp2
  exact bodyPost_ret (v := .tuple #[.agg #[.bool false, .slice none 0 0, .bool false, .slice none 0 0], .int .i64 2]) (by simp [results, Tryz.results37, go_sem, i0, i1, i2, i3]) rfl ⟨rfl, h11.out⟩

end Go.Proofs.YtffipjofefemiaaGreatDoor
