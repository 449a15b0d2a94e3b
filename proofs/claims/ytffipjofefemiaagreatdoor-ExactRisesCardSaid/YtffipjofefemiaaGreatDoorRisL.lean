/- ExactRises where the curve or a number has more than the statement looks at. -/
import Derived.Test.YtffipjofefemiaaGreatDoorVal
import Derived.Test.YtffipjofefemiaaGreatDoorHvy
namespace Go.Proofs.YtffipjofefemiaaGreatDoor
open Go.RowKit Kb

/-- The boxes of what came in. -/
structure L0 (w : World) (g : Nat) (A : Option Addr) (n c : Nat) (B : Option Addr) (m d : Nat) (y1 : Bool) (Y1 : Option Addr) (ly1 cy1 : Nat) (y2 : Bool) (Y2 : Option Addr) (ly2 cy2 : Nat) (z1 : Bool) (Z1 : Option Addr) (lz1 cz1 : Nat) (z2 : Bool) (Z2 : Option Addr) (lz2 cz2 : Nat) (wx : World) : Prop where
  jc : Bk wx g (.cells #[.slice A n c, .slice B m d] 48 (0, 0))
  jy : Bk wx (g + 1) (.cells #[.bool y1, .slice Y1 ly1 cy1, .bool y2, .slice Y2 ly2 cy2] 26 (0, 0))
  jz : Bk wx (g + 1 + 1) (.cells #[.bool z1, .slice Z1 lz1 cz1, .bool z2, .slice Z2 lz2 cz2] 26 (0, 0))
  bl : Below w.heap.size w wx
/-- The same with two values. -/
structure Lv (w : World) (g : Nat) (A : Option Addr) (n c : Nat) (B : Option Addr) (m d : Nat) (y1 : Bool) (Y1 : Option Addr) (ly1 cy1 : Nat) (y2 : Bool) (Y2 : Option Addr) (ly2 cy2 : Nat) (z1 : Bool) (Z1 : Option Addr) (lz1 cz1 : Nat) (z2 : Bool) (Z2 : Option Addr) (lz2 cz2 : Nat) (g7 : Nat) (v1 : Bool) (V1 : Option Addr) (lv1 cv1 : Nat) (v2 : Bool) (V2 : Option Addr) (lv2 cv2 : Nat) (vy : Rat) (g9 : Nat) (w1 : Bool) (W1 : Option Addr) (lw1 cw1 : Nat) (w2 : Bool) (W2 : Option Addr) (lw2 cw2 : Nat) (vz : Rat) (wx : World) : Prop where
  o : L0 w g A n c B m d y1 Y1 ly1 cy1 y2 Y2 ly2 cy2 z1 Z1 lz1 cz1 z2 Z2 lz2 cz2 wx
  a : Jq wx g7 v1 V1 lv1 cv1 v2 V2 lv2 cv2 vy
  b : Jq wx g9 w1 W1 lw1 cw1 w2 W2 lw2 cw2 vz
/-- The same with the greatest slope and what is gained. -/
structure Lx (w : World) (g : Nat) (A : Option Addr) (n c : Nat) (B : Option Addr) (m d : Nat) (y1 : Bool) (Y1 : Option Addr) (ly1 cy1 : Nat) (y2 : Bool) (Y2 : Option Addr) (ly2 cy2 : Nat) (z1 : Bool) (Z1 : Option Addr) (lz1 cz1 : Nat) (z2 : Bool) (Z2 : Option Addr) (lz2 cz2 : Nat) (g7 : Nat) (v1 : Bool) (V1 : Option Addr) (lv1 cv1 : Nat) (v2 : Bool) (V2 : Option Addr) (lv2 cv2 : Nat) (vy : Rat) (g9 : Nat) (w1 : Bool) (W1 : Option Addr) (lw1 cw1 : Nat) (w2 : Bool) (W2 : Option Addr) (lw2 cw2 : Nat) (vz : Rat) (g11 : Nat) (o1 : Bool) (O1 : Option Addr) (lo1 co1 : Nat) (o2 : Bool) (O2 : Option Addr) (lo2 co2 : Nat) (M : Rat) (g13 : Nat) (r1 : Bool) (R1 : Option Addr) (lr1 cr1 : Nat) (r2 : Bool) (R2 : Option Addr) (lr2 cr2 : Nat) (R : Rat) (wx : World) : Prop where
  p : Lv w g A n c B m d y1 Y1 ly1 cy1 y2 Y2 ly2 cy2 z1 Z1 lz1 cz1 z2 Z2 lz2 cz2 g7 v1 V1 lv1 cv1 v2 V2 lv2 cv2 vy g9 w1 W1 lw1 cw1 w2 W2 lw2 cw2 vz wx
  m : Jq wx g11 o1 O1 lo1 co1 o2 O2 lo2 co2 M
  r : Jq wx g13 r1 R1 lr1 cr1 r2 R2 lr2 cr2 R
section
variable {w : World} {g : Nat} {A : Option Addr} {n c : Nat} {B : Option Addr} {m d : Nat} {y1 : Bool} {Y1 : Option Addr} {ly1 cy1 : Nat} {y2 : Bool} {Y2 : Option Addr} {ly2 cy2 : Nat} {z1 : Bool} {Z1 : Option Addr} {lz1 cz1 : Nat} {z2 : Bool} {Z2 : Option Addr} {lz2 cz2 : Nat} {g7 : Nat} {v1 : Bool} {V1 : Option Addr} {lv1 cv1 : Nat} {v2 : Bool} {V2 : Option Addr} {lv2 cv2 : Nat} {vy : Rat} {g9 : Nat} {w1 : Bool} {W1 : Option Addr} {lw1 cw1 : Nat} {w2 : Bool} {W2 : Option Addr} {lw2 cw2 : Nat} {vz : Rat} {g11 : Nat} {o1 : Bool} {O1 : Option Addr} {lo1 co1 : Nat} {o2 : Bool} {O2 : Option Addr} {lo2 co2 : Nat} {M : Rat} {g13 : Nat} {r1 : Bool} {R1 : Option Addr} {lr1 cr1 : Nat} {r2 : Bool} {R2 : Option Addr} {lr2 cr2 : Nat} {R : Rat} {wx wy : World} {h : Nat}
theorem L0.below (k : L0 w g A n c B m d y1 Y1 ly1 cy1 y2 Y2 ly2 cy2 z1 Z1 lz1 cz1 z2 Z2 lz2 cz2 wx) (hb : Below wx.heap.size wx wy) : L0 w g A n c B m d y1 Y1 ly1 cy1 y2 Y2 ly2 cy2 z1 Z1 lz1 cz1 z2 Z2 lz2 cz2 wy := ⟨k.jc.step hb, k.jy.step hb, k.jz.step hb, bthen k.bl hb (Nat.le_refl _)⟩
theorem Lv.below (k : Lv w g A n c B m d y1 Y1 ly1 cy1 y2 Y2 ly2 cy2 z1 Z1 lz1 cz1 z2 Z2 lz2 cz2 g7 v1 V1 lv1 cv1 v2 V2 lv2 cv2 vy g9 w1 W1 lw1 cw1 w2 W2 lw2 cw2 vz wx) (hb : Below wx.heap.size wx wy) : Lv w g A n c B m d y1 Y1 ly1 cy1 y2 Y2 ly2 cy2 z1 Z1 lz1 cz1 z2 Z2 lz2 cz2 g7 v1 V1 lv1 cv1 v2 V2 lv2 cv2 vy g9 w1 W1 lw1 cw1 w2 W2 lw2 cw2 vz wy := ⟨k.o.below hb, k.a.below hb, k.b.below hb⟩
theorem Lx.below (k : Lx w g A n c B m d y1 Y1 ly1 cy1 y2 Y2 ly2 cy2 z1 Z1 lz1 cz1 z2 Z2 lz2 cz2 g7 v1 V1 lv1 cv1 v2 V2 lv2 cv2 vy g9 w1 W1 lw1 cw1 w2 W2 lw2 cw2 vz g11 o1 O1 lo1 co1 o2 O2 lo2 co2 M g13 r1 R1 lr1 cr1 r2 R2 lr2 cr2 R wx) (hb : Below wx.heap.size wx wy) : Lx w g A n c B m d y1 Y1 ly1 cy1 y2 Y2 ly2 cy2 z1 Z1 lz1 cz1 z2 Z2 lz2 cz2 g7 v1 V1 lv1 cv1 v2 V2 lv2 cv2 vy g9 w1 W1 lw1 cw1 w2 W2 lw2 cw2 vz g11 o1 O1 lo1 co1 o2 O2 lo2 co2 M g13 r1 R1 lr1 cr1 r2 R2 lr2 cr2 R wy := ⟨k.p.below hb, k.m.below hb, k.r.below hb⟩
theorem L0.offb (k : L0 w g A n c B m d y1 Y1 ly1 cy1 y2 Y2 ly2 cy2 z1 Z1 lz1 cz1 z2 Z2 lz2 cz2 wx) (hg : wx.grownBy wy (some h)) (hw : w.heap.size ≤ h) (hn : g + 1 + 1 < h) : L0 w g A n c B m d y1 Y1 ly1 cy1 y2 Y2 ly2 cy2 z1 Z1 lz1 cz1 z2 Z2 lz2 cz2 wy := by
  have hsz := k.bl.size
  exact ⟨k.jc.grown hg (by omega), k.jy.grown hg (by omega), k.jz.grown hg (by omega), k.bl.grown hg hsz (fun k hk => by injection hk with hk; omega)⟩
theorem Lv.offb {C : Array Value} {T : TypeId} (k : Lv w g A n c B m d y1 Y1 ly1 cy1 y2 Y2 ly2 cy2 z1 Z1 lz1 cz1 z2 Z2 lz2 cz2 g7 v1 V1 lv1 cv1 v2 V2 lv2 cv2 vy g9 w1 W1 lw1 cw1 w2 W2 lw2 cw2 vz wx) (hb : wx.heap[h]? = some (.cells C T (0, 0))) (hC : NoInt C) (hg : wx.grownBy wy (some h)) (hw : w.heap.size ≤ h) (hn : g + 1 + 1 < h) (h7 : g7 ≠ h) (h9 : g9 ≠ h) : Lv w g A n c B m d y1 Y1 ly1 cy1 y2 Y2 ly2 cy2 z1 Z1 lz1 cz1 z2 Z2 lz2 cz2 g7 v1 V1 lv1 cv1 v2 V2 lv2 cv2 vy g9 w1 W1 lw1 cw1 w2 W2 lw2 cw2 vz wy :=
  ⟨k.o.offb hg hw hn, ⟨k.a.b.grown hg h7, k.a.z.offbox hb hC hg⟩, ⟨k.b.b.grown hg h9, k.b.z.offbox hb hC hg⟩⟩
theorem Lx.cells (k : Lx w g A n c B m d y1 Y1 ly1 cy1 y2 Y2 ly2 cy2 z1 Z1 lz1 cz1 z2 Z2 lz2 cz2 g7 v1 V1 lv1 cv1 v2 V2 lv2 cv2 vy g9 w1 W1 lw1 cw1 w2 W2 lw2 cw2 vz g11 o1 O1 lo1 co1 o2 O2 lo2 co2 M g13 r1 R1 lr1 cr1 r2 R2 lr2 cr2 R wx) : wx.cell? ⟨g13, 0, none⟩ = some (.bool r1) ∧ wx.cell? ⟨g13, 1, none⟩ = some (.slice R1 lr1 cr1) ∧ wx.cell? ⟨g13, 2, none⟩ = some (.bool r2) ∧ wx.cell? ⟨g13, 3, none⟩ = some (.slice R2 lr2 cr2) ∧ wx.cell? ⟨g11, 0, none⟩ = some (.bool o1) ∧ wx.cell? ⟨g11, 1, none⟩ = some (.slice O1 lo1 co1) ∧ wx.cell? ⟨g11, 2, none⟩ = some (.bool o2) ∧ wx.cell? ⟨g11, 3, none⟩ = some (.slice O2 lo2 co2) ∧ wx.cell? ⟨g + 1 + 1, 0, none⟩ = some (.bool z1) ∧ wx.cell? ⟨g + 1 + 1, 1, none⟩ = some (.slice Z1 lz1 cz1) ∧ wx.cell? ⟨g + 1 + 1, 2, none⟩ = some (.bool z2) ∧ wx.cell? ⟨g + 1 + 1, 3, none⟩ = some (.slice Z2 lz2 cz2) ∧ wx.cell? ⟨g + 1, 0, none⟩ = some (.bool y1) ∧ wx.cell? ⟨g + 1, 1, none⟩ = some (.slice Y1 ly1 cy1) ∧ wx.cell? ⟨g + 1, 2, none⟩ = some (.bool y2) ∧ wx.cell? ⟨g + 1, 3, none⟩ = some (.slice Y2 ly2 cy2) :=
  ⟨k.r.b.c4.1, k.r.b.c4.2.1, k.r.b.c4.2.2.1, k.r.b.c4.2.2.2.1, k.m.b.c4.1, k.m.b.c4.2.1, k.m.b.c4.2.2.1, k.m.b.c4.2.2.2.1, k.p.o.jz.c4.1, k.p.o.jz.c4.2.1, k.p.o.jz.c4.2.2.1, k.p.o.jz.c4.2.2.2.1, k.p.o.jy.c4.1, k.p.o.jy.c4.2.1, k.p.o.jy.c4.2.2.1, k.p.o.jy.c4.2.2.2.1⟩
theorem Lv.cells (k : Lv w g A n c B m d y1 Y1 ly1 cy1 y2 Y2 ly2 cy2 z1 Z1 lz1 cz1 z2 Z2 lz2 cz2 g7 v1 V1 lv1 cv1 v2 V2 lv2 cv2 vy g9 w1 W1 lw1 cw1 w2 W2 lw2 cw2 vz wx) : wx.cell? ⟨g9, 0, none⟩ = some (.bool w1) ∧ wx.cell? ⟨g9, 1, none⟩ = some (.slice W1 lw1 cw1) ∧ wx.cell? ⟨g9, 2, none⟩ = some (.bool w2) ∧ wx.cell? ⟨g9, 3, none⟩ = some (.slice W2 lw2 cw2) := ⟨k.b.b.c4.1, k.b.b.c4.2.1, k.b.b.c4.2.2.1, k.b.b.c4.2.2.2.1⟩
end
/-- A variable of a fraction is written anew. -/
theorem Jq.put {w : World} {g : Nat} {o1 : Bool} {O1 : Option Addr} {lo1 co1 : Nat} {o2 : Bool} {O2 : Option Addr} {lo2 co2 : Nat} {r1 : Bool} {R1 : Option Addr} {lr1 cr1 : Nat} {r2 : Bool} {R2 : Option Addr} {lr2 cr2 : Nat} {x y : Rat} (k : Jq w g o1 O1 lo1 co1 o2 O2 lo2 co2 x) (q : Qf w r1 R1 lr1 cr1 r2 R2 lr2 cr2 y) : Jq ((((w.setCell ⟨g, 0, none⟩ (.bool r1)).setCell ⟨g, 1, none⟩ (.slice R1 lr1 cr1)).setCell ⟨g, 2, none⟩ (.bool r2)).setCell ⟨g, 3, none⟩ (.slice R2 lr2 cr2)) g r1 R1 lr1 cr1 r2 R2 lr2 cr2 y :=
  ⟨bk_put4 k.b, q.offbox k.b (noInt_four _ _ _ _ _ _ _ _) (gb4' _ _ _ _ _ _)⟩
set_option maxRecDepth 100000 in
set_option maxHeartbeats 80000000 in
theorem rises_heavy {w : World} {A : Option Addr} {n c : Nat} {B : Option Addr} {m d : Nat} {Q : Nat → Rat} {wd : Nat → Bool} {y1 : Bool} {Y1 : Option Addr} {ly1 cy1 : Nat} {y2 : Bool} {Y2 : Option Addr} {ly2 cy2 : Nat} {z1 : Bool} {Z1 : Option Addr} {lz1 cz1 : Nat} {z2 : Bool} {Z2 : Option Addr} {lz2 cz2 : Nat} (hq : Sq0 w w.heap.size B m Q wd) (hT : Tb w) (hv : 60 < n ∨ (n ≤ 60 ∧ (60 < m ∨ (m ≤ 60 ∧ ∃ i, i < m ∧ wd i = true))) ∨ (n ≤ 40 ∧ 12 < n ∧ m ≤ 60 ∧ ∀ i, i < m → wd i = false)) :
    Calls Tryz.prog 6 #[.agg #[.slice A n c, .slice B m d], .agg #[.bool y1, .slice Y1 ly1 cy1, .bool y2, .slice Y2 ly2 cy2], .agg #[.bool z1, .slice Z1 lz1 cz1, .bool z2, .slice Z2 lz2 cz2]] w fun e w' => e = .returned (.bool true) ∧ Below w.heap.size w w' := by
  have HV := hid hv
  clear hv
  have b0 := three_new w (.cells #[.slice A n c, .slice B m d] 48) (.cells #[.bool y1, .slice Y1 ly1 cy1, .bool y2, .slice Y2 ly2 cy2] 26) (.cells #[.bool z1, .slice Z1 lz1 cz1, .bool z2, .slice Z2 lz2 cz2] 26)
  have hB := (((Below.refl w.heap.size w).alloc (Nat.le_refl _) (.cells #[.slice A n c, .slice B m d] 48)).alloc (by simp) (.cells #[.bool y1, .slice Y1 ly1 cy1, .bool y2, .slice Y2 ly2 cy2] 26)).alloc (by simp; omega) (.cells #[.bool z1, .slice Z1 lz1 cz1, .bool z2, .slice Z2 lz2 cz2] 26)
  obtain ⟨g, hg⟩ : ∃ g, w.heap.size = g := ⟨_, rfl⟩
  go_enter Tryz.func6, Tryz.ntmps6
  go_wp2_with fail
  rw [hg] at b0
  generalize ((w.alloc (.cells #[.slice A n c, .slice B m d] 48)).alloc (.cells #[.bool y1, .slice Y1 ly1 cy1, .bool y2, .slice Y2 ly2 cy2] 26)).alloc (.cells #[.bool z1, .slice Z1 lz1 cz1, .bool z2, .slice Z2 lz2 cz2] 26) = W0 at *
  have R0 : L0 w g A n c B m d y1 Y1 ly1 cy1 y2 Y2 ly2 cy2 z1 Z1 lz1 cz1 z2 Z2 lz2 cz2 W0 := ⟨b0.1, b0.2.1, b0.2.2, hB⟩
  have Hg := hid hg
  clear hB hg b0
  refine (heavy_yes (hq.below R0.bl (Nat.le_refl _)) R0.bl.size HV.out).mono ?_
  rintro e w1 ⟨rfl, hb1⟩
  have R1 := R0.below hb1
  clear R0 hb1 hq
  go_wp2_with fail
  refine (awake_true _ (hT.below R1.bl)).mono ?_
  rintro e w9 ⟨rfl, hb9⟩
  have hE := bthen R1.bl hb9 (Nat.le_refl _)
  clear hb9 R1
  go_wp2
  go_ret
  exact ⟨rfl, hE⟩

set_option maxRecDepth 100000 in
set_option maxHeartbeats 80000000 in
theorem rises_wide {w : World} {A : Option Addr} {n c : Nat} {B : Option Addr} {m d : Nat} {Q : Nat → Rat} {wd : Nat → Bool} {y1 : Bool} {Y1 : Option Addr} {ly1 cy1 : Nat} {y2 : Bool} {Y2 : Option Addr} {ly2 cy2 : Nat} {z1 : Bool} {Z1 : Option Addr} {lz1 cz1 : Nat} {z2 : Bool} {Z2 : Option Addr} {lz2 cz2 : Nat} (hq : Sq0 w w.heap.size B m Q wd) (hT : Tb w) (hn : n ≤ 60) (hm : m ≤ 60) (hwd : ∀ i, i < m → wd i = false) (ho : 40 < n ∨ n ≤ 12) (hw : (12 < ly1 ∨ (ly1 ≤ 12 ∧ 12 < ly2)) ∨ ((ly1 ≤ 12 ∧ ly2 ≤ 12) ∧ (12 < lz1 ∨ (lz1 ≤ 12 ∧ 12 < lz2)))) :
    Calls Tryz.prog 6 #[.agg #[.slice A n c, .slice B m d], .agg #[.bool y1, .slice Y1 ly1 cy1, .bool y2, .slice Y2 ly2 cy2], .agg #[.bool z1, .slice Z1 lz1 cz1, .bool z2, .slice Z2 lz2 cz2]] w fun e w' => e = .returned (.bool true) ∧ Below w.heap.size w w' := by
  have HD := hid hwd
  clear hwd
  have b0 := three_new w (.cells #[.slice A n c, .slice B m d] 48) (.cells #[.bool y1, .slice Y1 ly1 cy1, .bool y2, .slice Y2 ly2 cy2] 26) (.cells #[.bool z1, .slice Z1 lz1 cz1, .bool z2, .slice Z2 lz2 cz2] 26)
  have hB := (((Below.refl w.heap.size w).alloc (Nat.le_refl _) (.cells #[.slice A n c, .slice B m d] 48)).alloc (by simp) (.cells #[.bool y1, .slice Y1 ly1 cy1, .bool y2, .slice Y2 ly2 cy2] 26)).alloc (by simp; omega) (.cells #[.bool z1, .slice Z1 lz1 cz1, .bool z2, .slice Z2 lz2 cz2] 26)
  obtain ⟨g, hg⟩ : ∃ g, w.heap.size = g := ⟨_, rfl⟩
  go_enter Tryz.func6, Tryz.ntmps6
  go_wp2_with fail
  rw [hg] at b0
  generalize ((w.alloc (.cells #[.slice A n c, .slice B m d] 48)).alloc (.cells #[.bool y1, .slice Y1 ly1 cy1, .bool y2, .slice Y2 ly2 cy2] 26)).alloc (.cells #[.bool z1, .slice Z1 lz1 cz1, .bool z2, .slice Z2 lz2 cz2] 26) = W0 at *
  have R0 : L0 w g A n c B m d y1 Y1 ly1 cy1 y2 Y2 ly2 cy2 z1 Z1 lz1 cz1 z2 Z2 lz2 cz2 W0 := ⟨b0.1, b0.2.1, b0.2.2, hB⟩
  have Hg := hid hg
  clear hB hg b0
  refine (heavy_no (hq.below R0.bl (Nat.le_refl _)) R0.bl.size hn hm HD.out ho).mono ?_
  rintro e w1 ⟨rfl, hb1⟩
  have R1 := R0.below hb1
  clear R0 hb1 hq
  obtain ⟨x2, x3, x4, x5, -, -, -, -⟩ := R1.jy.c4
  rcases hw with hw | ⟨⟨hw1, hw2⟩, hw⟩
  · go_wp2_with fail
    refine (wide_yes hw).mono ?_
    rintro e w2 ⟨rfl, hb2⟩
    have R2 := R1.below hb2
    clear R1 hb2 x2 x3 x4 x5
    go_wp2_with fail
    refine (awake_true _ (hT.below R2.bl)).mono ?_
    rintro e w9 ⟨rfl, hb9⟩
    have hE := bthen R2.bl hb9 (Nat.le_refl _)
    clear hb9 R2
    go_wp2
    go_ret
    exact ⟨rfl, hE⟩
  · go_wp2_with fail
    refine (wide_no hw1 hw2).mono ?_
    rintro e w2 ⟨rfl, hb2⟩
    have R2 := R1.below hb2
    clear R1 hb2 x2 x3 x4 x5
    obtain ⟨x2, x3, x4, x5, -, -, -, -⟩ := R2.jz.c4
    go_wp2_with fail
    refine (wide_yes hw).mono ?_
    rintro e w3 ⟨rfl, hb3⟩
    have R3 := R2.below hb3
    clear R2 hb3 x2 x3 x4 x5
    go_wp2_with fail
    refine (awake_true _ (hT.below R3.bl)).mono ?_
    rintro e w9 ⟨rfl, hb9⟩
    have hE := bthen R3.bl hb9 (Nat.le_refl _)
    clear hb9 R3
    go_wp2
    go_ret
    exact ⟨rfl, hE⟩


end Go.Proofs.YtffipjofefemiaaGreatDoor
