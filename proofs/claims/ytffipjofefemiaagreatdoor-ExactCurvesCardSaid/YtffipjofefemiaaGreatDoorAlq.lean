/- The contracts of along over rise, and of Value. For all valid curves of few starts, at fractions of few limbs. -/
import Derived.Test.YtffipjofefemiaaGreatDoorTvl
import Derived.Test.YtffipjofefemiaaGreatDoorTotw
import Derived.Test.YtffipjofefemiaaGreatDoorUpt
import Derived.Test.YtffipjofefemiaaGreatDoorCkc
import Derived.Deep.DeepCutAuto
namespace Go.Proofs.YtffipjofefemiaaGreatDoor
open Go.RowKit Kb

/-- What stays in along. -/
structure Al (w : World) (g B0 : Nat) (A : Option Addr) (n c : Nat) (B : Option Addr) (m d kc : Nat) (X : Nat → Int) (Q : Nat → Rat) (s1 : Bool) (A1 : Option Addr) (n1 c1 : Nat) (s2 : Bool) (A2 : Option Addr) (n2 c2 k : Nat) (y : Rat) (wx : World) : Prop where
  cv : Cv wx B0 A n B m kc X Q
  jc : Bk wx g (.cells #[.slice A n c, .slice B m d] 48 (0, 0))
  jy : Bk wx (g + 1) (.cells #[.bool s1, .slice A1 n1 c1, .bool s2, .slice A2 n2 c2] 26 (0, 0))
  jr : Bk wx (g + 1 + 1) (.cells #[.bool false, .slice none 0 0, .bool false, .slice none 0 0] 26 (0, 0))
  qy : Qi wx s1 A1 n1 c1 s2 A2 n2 c2 k y
  tb : Tb wx
  bl : Below w.heap.size w wx
/-- What stays in a round of along. -/
structure Ar (w : World) (g B0 : Nat) (A : Option Addr) (n c : Nat) (B : Option Addr) (m d kc : Nat) (X : Nat → Int) (Q : Nat → Rat) (s1 : Bool) (A1 : Option Addr) (n1 c1 : Nat) (s2 : Bool) (A2 : Option Addr) (n2 c2 k : Nat) (y : Rat) (gt kk : Nat) (r : Rat) (tb : Nat) (t1 : Bool) (T1 : Option Addr) (o1 e1 : Nat) (t2 : Bool) (T2 : Option Addr) (o2 e2 : Nat) (tv : Rat) (i : Nat) (ad bd : Addr) (v1 : Bool) (V1 : Option Addr) (lv1 cv1 : Nat) (v2 : Bool) (V2 : Option Addr) (lv2 cv2 : Nat) (wx : World) : Prop where
  al : Al w g B0 A n c B m d kc X Q s1 A1 n1 c1 s2 A2 n2 c2 k y wx
  tq : Tq wx gt kk r
  jt : Bk wx tb (.cells #[.bool t1, .slice T1 o1 e1, .bool t2, .slice T2 o2 e2] 26 (0, 0))
  qt : Qi wx t1 T1 o1 e1 t2 T2 o2 e2 k tv
  cs : wx.cell? (ad.add i) = some (.int .i64 (X i))
  q0 : wx.cell? (bd.add (i * 4)) = some (.bool v1)
  q1 : wx.cell? ⟨(bd.add (i * 4)).block, (bd.add (i * 4)).off + 1, none⟩ = some (.slice V1 lv1 cv1)
  q2 : wx.cell? ⟨(bd.add (i * 4)).block, (bd.add (i * 4)).off + 2, none⟩ = some (.bool v2)
  q3 : wx.cell? ⟨(bd.add (i * 4)).block, (bd.add (i * 4)).off + 3, none⟩ = some (.slice V2 lv2 cv2)
  rq : Qi wx v1 V1 lv1 cv1 v2 V2 lv2 cv2 kc (Q i)
  la : ad.block < B0
  lb : bd.block < B0
section
variable {w wx wy : World} {g B0 gt kk : Nat} {r : Rat} {A : Option Addr} {n c : Nat} {B : Option Addr} {m d kc : Nat} {X : Nat → Int} {Q : Nat → Rat} {s1 : Bool} {A1 : Option Addr} {n1 c1 : Nat} {s2 : Bool} {A2 : Option Addr} {n2 c2 k : Nat} {y : Rat} {tb : Nat} {t1 : Bool} {T1 : Option Addr} {o1 e1 : Nat} {t2 : Bool} {T2 : Option Addr} {o2 e2 : Nat} {tv : Rat} {i : Nat} {ad bd : Addr} {v1 : Bool} {V1 : Option Addr} {lv1 cv1 : Nat} {v2 : Bool} {V2 : Option Addr} {lv2 cv2 : Nat}
theorem Al.below (h : Al w g B0 A n c B m d kc X Q s1 A1 n1 c1 s2 A2 n2 c2 k y wx) (hb : Below wx.heap.size wx wy) : Al w g B0 A n c B m d kc X Q s1 A1 n1 c1 s2 A2 n2 c2 k y wy := ⟨h.cv.below hb, h.jc.step hb, h.jy.step hb, h.jr.step hb, h.qy.below hb, h.tb.below hb, bthen h.bl hb (Nat.le_refl _)⟩
/-- Where the blocks lie. -/
def Sep (w : World) (g B0 gt : Nat) : Prop := w.heap.size = g ∧ B0 ≤ g ∧ g + 1 + 1 < gt ∧ 0 < gt
theorem Tq.block (h : Tq wx gt kk r) : ∃ C T, wx.heap[gt]? = some (.cells C T (0, 0)) ∧ NoInt C := by
  obtain ⟨x1, E1, p1, z1, E2, p2, z2, tn, td, h1, h2, h3, h4⟩ := h
  exact ⟨_, _, h1, noInt_four _ _ _ _ _ _ _ _⟩
theorem Al.offb {C : Array Value} {T : TypeId} (h : Al w g B0 A n c B m d kc X Q s1 A1 n1 c1 s2 A2 n2 c2 k y wx) (hb : wx.heap[gt]? = some (.cells C T (0, 0))) (hC : NoInt C) (hg : wx.grownBy wy (some gt)) (hs : Sep w g B0 gt) : Al w g B0 A n c B m d kc X Q s1 A1 n1 c1 s2 A2 n2 c2 k y wy := by
  obtain ⟨e1, e2, e3, e4⟩ := hs
  have hsz := h.bl.size
  exact ⟨h.cv.off hb hC hg (by omega), h.jc.grown hg (by omega), h.jy.grown hg (by omega), h.jr.grown hg (by omega), h.qy.offbox hb hC hg, h.tb.grown hg (by omega), h.bl.grown hg hsz (fun k hk => by injection hk with hk; omega)⟩
theorem Al.off (h : Al w g B0 A n c B m d kc X Q s1 A1 n1 c1 s2 A2 n2 c2 k y wx) (q : Tq wx gt kk r) (hg : wx.grownBy wy (some gt)) (hs : Sep w g B0 gt) : Al w g B0 A n c B m d kc X Q s1 A1 n1 c1 s2 A2 n2 c2 k y wy := by
  obtain ⟨C, T, hb, hC⟩ := q.block
  exact h.offb hb hC hg hs
theorem Tq.offb {C : Array Value} {T : TypeId} (h : Tq wx gt kk r) (hb : wx.heap[tb]? = some (.cells C T (0, 0))) (hC : NoInt C) (hg : wx.grownBy wy (some tb)) (hn : gt ≠ tb) : Tq wy gt kk r := by
  obtain ⟨x1, E1, p1, z1, E2, p2, z2, tn, td, h1, h2, h3, h4⟩ := h
  exact ⟨x1, E1, p1, z1, E2, p2, z2, tn, td, h1.grown hg hn, h2.offbox hb hC hg, h3.offbox hb hC hg, h4⟩
theorem Ar.below (h : Ar w g B0 A n c B m d kc X Q s1 A1 n1 c1 s2 A2 n2 c2 k y gt kk r tb t1 T1 o1 e1 t2 T2 o2 e2 tv i ad bd v1 V1 lv1 cv1 v2 V2 lv2 cv2 wx) (hb : Below wx.heap.size wx wy) : Ar w g B0 A n c B m d kc X Q s1 A1 n1 c1 s2 A2 n2 c2 k y gt kk r tb t1 T1 o1 e1 t2 T2 o2 e2 tv i ad bd v1 V1 lv1 cv1 v2 V2 lv2 cv2 wy := by
  have l1 := Nat.lt_of_lt_of_le h.la h.al.cv.le
  have l2 := Nat.lt_of_lt_of_le h.lb h.al.cv.le
  exact ⟨h.al.below hb, h.tq.below hb, h.jt.step hb, h.qt.below hb, (hb.cell (p := ad.add i) (in_add l1)).trans h.cs, (hb.cell (p := bd.add (i * 4)) (in_add l2)).trans h.q0, (hb.cell (p := ⟨(bd.add (i * 4)).block, (bd.add (i * 4)).off + 1, none⟩) (in_add l2)).trans h.q1, (hb.cell (p := ⟨(bd.add (i * 4)).block, (bd.add (i * 4)).off + 2, none⟩) (in_add l2)).trans h.q2, (hb.cell (p := ⟨(bd.add (i * 4)).block, (bd.add (i * 4)).off + 3, none⟩) (in_add l2)).trans h.q3, h.rq.below hb, h.la, h.lb⟩
theorem Ar.cells (h : Ar w g B0 A n c B m d kc X Q s1 A1 n1 c1 s2 A2 n2 c2 k y gt kk r tb t1 T1 o1 e1 t2 T2 o2 e2 tv i ad bd v1 V1 lv1 cv1 v2 V2 lv2 cv2 wx) : wx.cell? ⟨g, 0, none⟩ = some (.slice A n c) ∧ wx.cell? ⟨g, 1, none⟩ = some (.slice B m d) ∧ wx.cell? ⟨tb, 0, none⟩ = some (.bool t1) ∧ wx.cell? ⟨tb, 1, none⟩ = some (.slice T1 o1 e1) ∧ wx.cell? ⟨tb, 2, none⟩ = some (.bool t2) ∧ wx.cell? ⟨tb, 3, none⟩ = some (.slice T2 o2 e2) ∧ wx.cell? (bd.add (i * 4)) = some (.bool v1) ∧ wx.cell? ⟨(bd.add (i * 4)).block, (bd.add (i * 4)).off + 1, none⟩ = some (.slice V1 lv1 cv1) ∧ wx.cell? ⟨(bd.add (i * 4)).block, (bd.add (i * 4)).off + 2, none⟩ = some (.bool v2) ∧ wx.cell? ⟨(bd.add (i * 4)).block, (bd.add (i * 4)).off + 3, none⟩ = some (.slice V2 lv2 cv2) ∧ wx.cell? (ad.add i) = some (.int .i64 (X i)) :=
  ⟨h.al.jc.c2.1, h.al.jc.c2.2.1, h.jt.c4.1, h.jt.c4.2.1, h.jt.c4.2.2.1, h.jt.c4.2.2.2.1, h.q0, h.q1, h.q2, h.q3, h.cs⟩
theorem Ar.kept (h : Ar w g B0 A n c B m d kc X Q s1 A1 n1 c1 s2 A2 n2 c2 k y gt kk r tb t1 T1 o1 e1 t2 T2 o2 e2 tv i ad bd v1 V1 lv1 cv1 v2 V2 lv2 cv2 wx) (hg : wx.grownBy wy (some gt)) (hs : Sep w g B0 gt) (hn : tb ≠ gt) : wy.cell? ⟨g, 0, none⟩ = some (.slice A n c) ∧ wy.cell? ⟨g, 1, none⟩ = some (.slice B m d) ∧ wy.cell? ⟨tb, 0, none⟩ = some (.bool t1) ∧ wy.cell? ⟨tb, 1, none⟩ = some (.slice T1 o1 e1) ∧ wy.cell? ⟨tb, 2, none⟩ = some (.bool t2) ∧ wy.cell? ⟨tb, 3, none⟩ = some (.slice T2 o2 e2) ∧ wy.cell? (bd.add (i * 4)) = some (.bool v1) ∧ wy.cell? ⟨(bd.add (i * 4)).block, (bd.add (i * 4)).off + 1, none⟩ = some (.slice V1 lv1 cv1) ∧ wy.cell? ⟨(bd.add (i * 4)).block, (bd.add (i * 4)).off + 2, none⟩ = some (.bool v2) ∧ wy.cell? ⟨(bd.add (i * 4)).block, (bd.add (i * 4)).off + 3, none⟩ = some (.slice V2 lv2 cv2) ∧ wy.cell? (ad.add i) = some (.int .i64 (X i)) := by
  obtain ⟨e1, e2, e3, e4⟩ := hs
  have l1 := Nat.lt_of_lt_of_le h.la h.al.cv.le
  have l2 := Nat.lt_of_lt_of_le h.lb h.al.cv.le
  have la := h.la
  have lb := h.lb
  obtain ⟨c0, c1, c2, c3, c4, c5, c6, c7, c8, c9, c10⟩ := h.cells
  exact ⟨gb_cell hg c0 (by omega), gb_cell hg c1 (by omega), gb_cell hg c2 hn, gb_cell hg c3 hn, gb_cell hg c4 hn, gb_cell hg c5 hn, cell_grown (p := bd.add (i * 4)) hg (in_add l2) (ne_add (show bd.block ≠ gt by omega)) c6, cell_grown (p := ⟨(bd.add (i * 4)).block, (bd.add (i * 4)).off + 1, none⟩) hg (in_add l2) (ne_add (show bd.block ≠ gt by omega)) c7, cell_grown (p := ⟨(bd.add (i * 4)).block, (bd.add (i * 4)).off + 2, none⟩) hg (in_add l2) (ne_add (show bd.block ≠ gt by omega)) c8, cell_grown (p := ⟨(bd.add (i * 4)).block, (bd.add (i * 4)).off + 3, none⟩) hg (in_add l2) (ne_add (show bd.block ≠ gt by omega)) c9, cell_grown (p := ad.add i) hg (in_add l1) (ne_add (show ad.block ≠ gt by omega)) c10⟩
end
theorem Tq.cast {w : World} {g k l : Nat} {r x : Rat} (h : Tq w g k r) (e : k = l) (f : r = x) : Tq w g l x := by subst e; subst f; exact h
/-- The end of a part. -/
def tov (X : Nat → Int) (u : Nat) (y : Rat) (i : Nat) : Rat := if i + 1 < u then (X (i + 1) : Rat) else y
theorem term_tov {X : Nat → Int} {Q : Nat → Rat} {u i : Nat} {y : Rat} : Q i * (tov X u y i - (X i : Rat)) = Kc.term X Q u y i := rfl
set_option maxRecDepth 100000 in
set_option maxHeartbeats 80000000 in
theorem along_rise {w : World} {A : Option Addr} {n c : Nat} {B : Option Addr} {m d B0 kc k : Nat} {X : Nat → Int} {Q : Nat → Rat} {s1 : Bool} {A1 : Option Addr} {n1 c1 : Nat} {s2 : Bool} {A2 : Option Addr} {n2 c2 : Nat} {y : Rat} (h : Cv w B0 A n B m kc X Q) (hm : n ≤ m) (ok : Okc n X Q) (k0 : Qi w s1 A1 n1 c1 s2 A2 n2 c2 k y) (hkc : 0 < kc) (hk : 2 ≤ k) (hsz : kc + k ≤ 29) (hT : Tb w) :
    Calls Tryz.prog 80 #[.agg #[.slice A n c, .slice B m d], .agg #[.bool s1, .slice A1 n1 c1, .bool s2, .slice A2 n2 c2], .func (.func 81) #[] #[]] w fun e w' => ∃ s1 A1 n1 c1 s2 A2 n2 c2, e = .returned (.agg #[.bool s1, .slice A1 n1 c1, .bool s2, .slice A2 n2 c2]) ∧ Qf w' s1 A1 n1 c1 s2 A2 n2 c2 (Kc.vl n X Q y) ∧ Below w.heap.size w w' := by
  have b0 := three_new w (.cells #[.slice A n c, .slice B m d] 48) (.cells #[.bool s1, .slice A1 n1 c1, .bool s2, .slice A2 n2 c2] 26) (.cells #[.bool false, .slice none 0 0, .bool false, .slice none 0 0] 26)
  have hB := (((Below.refl w.heap.size w).alloc (Nat.le_refl _) (.cells #[.slice A n c, .slice B m d] 48)).alloc (by simp) (.cells #[.bool s1, .slice A1 n1 c1, .bool s2, .slice A2 n2 c2] 26)).alloc (by simp; omega) (.cells #[.bool false, .slice none 0 0, .bool false, .slice none 0 0] 26)
  obtain ⟨g, hg⟩ : ∃ g, w.heap.size = g := ⟨_, rfl⟩
  go_enter Tryz.func80, Tryz.ntmps80
  go_wp2_with fail
  rw [hg] at b0
  generalize ((w.alloc (.cells #[.slice A n c, .slice B m d] 48)).alloc (.cells #[.bool s1, .slice A1 n1 c1, .bool s2, .slice A2 n2 c2] 26)).alloc (.cells #[.bool false, .slice none 0 0, .bool false, .slice none 0 0] 26) = W0 at *
  have hle := h.le
  have hTl := hT.2
  have P0 : Al w g B0 A n c B m d kc X Q s1 A1 n1 c1 s2 A2 n2 c2 k y W0 := ⟨h.below hB, b0.1, b0.2.1, b0.2.2, k0.below hB, hT.below hB, hB⟩
  have OK := hid ok
  have Hg := hid (show w.heap.size = g ∧ B0 ≤ g ∧ 0 < g from ⟨hg, by omega, by omega⟩)
  have l0 := P0.jr.lt
  clear h k0 hT hB hg b0 ok hle hTl
  refine (newTotal_q _).mono ?_
  rintro e w1 ⟨gt, rfl, hgt, ht1, hb1⟩
  have P1 := P0.below hb1
  have HS := hid (show Sep w g B0 gt from ⟨Hg.out.1, Hg.out.2.1, by omega, by have := Hg.out.2.2; omega⟩)
  clear P0 hb1 hgt l0
  obtain ⟨x0, x1, -, -⟩ := P1.jc.c2
  obtain ⟨x2, x3, x4, x5, -, -, -, -⟩ := P1.jy.c4
  go_wp2_with fail
  refine (startsUpTo_q P1.cv.s P1.cv.le OK.out.inc (by have := OK.out.few; omega) OK.out.far P1.qy (by omega) (by omega)).mono ?_
  rintro e w2 ⟨u, rfl, HU, hb2⟩
  have P2 := P1.below hb2
  have t2 := ht1.below hb2
  have hu := HU.out.le
  have hu12 := Nat.le_trans hu OK.out.few
  clear P1 hb2 ht1 x0 x1 x2 x3 x4 x5
  go_wp2
  go_loopw [16] (fun iv wr => ∃ i, i ≤ u ∧ iv = .int .i64 ((i : Nat) : Int) ∧ Tq wr gt (1 + i * (kc + k + 4)) (Kc.sm (Kc.term X Q u y) i) ∧ Al w g B0 A n c B m d kc X Q s1 A1 n1 c1 s2 A2 n2 c2 k y wr) (fun iv _ => u - (intOf iv).toNat)
  case atStart => exact ⟨0, Nat.zero_le _, rfl, t2.cast (by omega) rfl, P2⟩
  case round =>
    obtain ⟨i, hi, rfl, ht, P⟩ := hrel
    clear P2 t2
    by_cases hlt : i < u
    · obtain ⟨x0, x1, -, -⟩ := P.jc.c2
      obtain ⟨x2, x3, x4, x5, -, -, -, -⟩ := P.jy.c4
      have hgr := ht.lt
      have Hk := hid (show i * (kc + k + 4) ≤ 11 * (29 + 4) from Nat.mul_le_mul (by omega) (by omega))
      have hal := alo (W := wr) (o := (.cells #[.bool s1, .slice A1 n1 c1, .bool s2, .slice A2 n2 c2] 26))
      have j10 := Bk.of_alloc wr (.cells #[.bool s1, .slice A1 n1 c1, .bool s2, .slice A2 n2 c2] 26) rfl
      have Pa := P.below hal
      have ta := ht.below hal
      go_upto_if 23 with fail
      go_cut [10] (fun s10 wx => ∃ tb t1 T1 o1 e1 t2 T2 o2 e2, s10 = .pointer (some ⟨tb, 0, none⟩) ∧ gt < tb ∧ Bk wx tb (.cells #[.bool t1, .slice T1 o1 e1, .bool t2, .slice T2 o2 e2] 26 (0, 0)) ∧ Qi wx t1 T1 o1 e1 t2 T2 o2 e2 k (tov X u y i) ∧ Tq wx gt (1 + i * (kc + k + 4)) (Kc.sm (Kc.term X Q u y) i) ∧ Al w g B0 A n c B m d kc X Q s1 A1 n1 c1 s2 A2 n2 c2 k y wx)
      case first =>
        by_cases h1 : i + 1 < u
        · obtain ⟨ad, hA, -, cs⟩ := Pa.cv.s (i + 1) (by omega)
          have hx := OK.out.far (i + 1) (by omega)
          have Hv := hid (show ((X (i + 1) : Int) : Rat) = tov X u y i by unfold tov; rw [if_pos h1])
          have LQ := (OK.out.ql (show i + 1 < n by omega)).mono hk
          have hd1 : decide ((i : Int) + 1 < (u : Int)) = true := decide_eq_true (by omega)
          obtain ⟨y0, y1, -, -⟩ := Pa.jc.c2
          rw [add_at] at cs
          subst hA
          go_wp2_with fail
          refine (number_q (X (i + 1)) _ (by omega) (by omega)).mono ?_
          rintro e w3 ⟨p1, E1, z1, b1, p2, E2, z2, b2, rfl, hq3, hb3⟩
          have P3 := Pa.below hb3
          have t3 := ta.below hb3
          have j3 := j10.step hb3
          have hl3 := j3.lt
          have hN : NoInt #[.bool s1, .slice A1 n1 c1, .bool s2, .slice A2 n2 c2] := noInt_four _ _ _ _ _ _ _ _
          have hG := gb4' w3 wr.heap.size (.bool p1) (.slice E1 z1 b1) (.bool p2) (.slice E2 z2 b2)
          have HP := hid (P3.offb j3 hN hG (show Sep w g B0 wr.heap.size from ⟨HS.out.1, HS.out.2.1, by have := HS.out.2.2.1; omega, by have := HS.out.2.2.2; omega⟩))
          have HT := hid (t3.offb j3 hN hG (Nat.ne_of_lt hgr))
          have HQ := hid (hq3.offbox j3 hN hG)
          have HJ := hid (bk_put4 (a' := .bool p1) (b' := .slice E1 z1 b1) (c' := .bool p2) (d' := .slice E2 z2 b2) j3)
          obtain ⟨y4, y5, y6, y7, f0, f1, f2, f3⟩ := j3.c4
          clear P3 t3 j3 hN hG hb3 hq3 Pa ta j10 hal cs y0 y1 x0 x1 x2 x3 x4 x5 P ht
          go_wp2_with fail
          go_meet
          exact ⟨_, _, _, _, _, _, _, _, _, rfl, hgr, HJ.out, by rw [← Hv.out]; exact HQ.out.qi LQ, HT.out, HP.out⟩
        · have Hv := hid (show y = tov X u y i by unfold tov; rw [if_neg h1])
          have hd1 : decide ((i : Int) + 1 < (u : Int)) = false := decide_eq_false (by omega)
          have HPa := hid Pa
          have Hta := hid ta
          have Hj := hid j10
          clear Pa ta j10 hal P ht
          go_wp2_with fail
          go_meet
          exact ⟨_, _, _, _, _, _, _, _, _, rfl, hgr, Hj.out, by rw [← Hv.out]; exact HPa.out.qy, Hta.out, HPa.out⟩
      case rest =>
        obtain ⟨tb, t1, T1, o1, e1, t2, T2, o2, e2, rfl, htb, hjt, hqt, ht', P'⟩ := hcut
        clear P ht Pa ta j10 hal x0 x1 x2 x3 x4 x5 hgr
        rename World => wc
        obtain ⟨ad, hA, la, cs⟩ := P'.cv.s i (by omega)
        obtain ⟨bd, v1, V1, lv1, cv1, v2, V2, lv2, cv2, hBd, lb, q0, q1, q2, q3, hq⟩ := P'.cv.q i (by omega)
        have hin : i < n := by omega
        have him : i < m := by omega
        have hx := OK.out.far i (by omega)
        have LX := OK.out.ql (show i < n by omega)
        have R0 := Ar.below (i := i) (ad := ad) (bd := bd) ⟨P', ht', hjt, hqt, cs, q0, q1, q2, q3, hq.q, la, lb⟩ (dr0 (W := wc))
        subst hA; subst hBd
        clear P' ht' hjt hqt cs q0 q1 q2 q3 hq la lb
        go_upto_region 9 with fail
        have hcells := R0.cells
        have Hne := hid (show tb ≠ gt by omega)
        have hgt0 := R0.tq.lt
        go_region_held3 (fun w' => w'.cell? ⟨g, 0, none⟩ = some (.slice (some ad) n c) ∧ w'.cell? ⟨g, 1, none⟩ = some (.slice (some bd) m d) ∧ w'.cell? ⟨tb, 0, none⟩ = some (.bool t1) ∧ w'.cell? ⟨tb, 1, none⟩ = some (.slice T1 o1 e1) ∧ w'.cell? ⟨tb, 2, none⟩ = some (.bool t2) ∧ w'.cell? ⟨tb, 3, none⟩ = some (.slice T2 o2 e2) ∧ w'.cell? (bd.add (i * 4)) = some (.bool v1) ∧ w'.cell? ⟨(bd.add (i * 4)).block, (bd.add (i * 4)).off + 1, none⟩ = some (.slice V1 lv1 cv1) ∧ w'.cell? ⟨(bd.add (i * 4)).block, (bd.add (i * 4)).off + 2, none⟩ = some (.bool v2) ∧ w'.cell? ⟨(bd.add (i * 4)).block, (bd.add (i * 4)).off + 3, none⟩ = some (.slice V2 lv2 cv2) ∧ w'.cell? (ad.add i) = some (.int .i64 (X i))) (first | with_reducible exact Ar.cells R0 | with_reducible exact Ar.cells R1 | with_reducible exact Ar.cells R2 | with_reducible exact Ar.kept R2 hgb6 HS.out Hne.out) (first
          | (go_at_call 87; with_reducible refine (number_q (X i) _ (by omega) (by omega)).mono ?_; rintro e w4 ⟨p3, E3, z3, b3, p4, E4, z4, b4, rfl, h4, hb4⟩; have R1 := R0.below hb4)
          | (go_at_call 81; with_reducible refine (rise_q R1.rq (h4.qi LX) R1.qt hkc (by decide) (by omega) (by omega) (by omega) R1.al.tb).mono ?_; rintro e w5 ⟨p5, E5, z5, b5, p6, E6, z6, b6, rfl, h5, hb5⟩; have R2 := R1.below hb5)
          | (go_at_call 121; with_reducible refine (total_add_q gt _ _ _ _ w5 R2.tq h5 (by omega) (by have := Hk.out; omega) (by omega) R2.al.tb).mono ?_; rintro e w6 ⟨rfl, ht6, hgb6⟩))
        have HT := hid (ht6.cast (l := 1 + (i + 1) * (kc + k + 4)) (x := Kc.sm (Kc.term X Q u y) (i + 1)) (by rw [Nat.succ_mul]; omega) (by rw [term_tov]; rfl))
        have HP := hid (R2.al.off R2.tq hgb6 HS.out)
        clear R0 R1 R2 hcells h4 h5 hb4 hb5 hgb6 ht6
        go_wp2
        go_roundw
        case rel => exact ⟨i + 1, by omega, by go_num, HT.out, HP.out⟩
        case measure => simp [intOf]; omega
    · have : i = u := by omega
      subst this
      have Hk := hid (show i * (kc + k + 4) ≤ 12 * (29 + 4) from Nat.mul_le_mul (by omega) (by omega))
      have HV := hid (Kc.along_vl (Q := Q) OK.out.inc HU.out.le HU.out.lo HU.out.hi)
      go_wp2_with fail
      refine (total_value_q gt _ _ wr ht (by have := Hk.out; omega) P.tb).mono ?_
      rintro e w7 ⟨t1, A3, n3, c3, t2, A4, n4, c4, rfl, hq, hb7⟩
      rw [HV.out] at hq
      have P7 := P.below hb7
      have j2 := P7.jr
      have hl7 := j2.lt
      obtain ⟨i0, i1, i2, i3, i4, i5, i6, i7⟩ := j2.c4
      have h11 := hid (below4 P7.bl (show w.heap.size ≤ g + 1 + 1 by have := HS.out.1; omega) (.bool t1) (.slice A3 n3 c3) (.bool t2) (.slice A4 n4 c4))
      have m1 := hid (hq.offbox j2 (noInt_four _ _ _ _ _ _ _ _) (gb4' _ _ (.bool t1) (.slice A3 n3 c3) (.bool t2) (.slice A4 n4 c4)))
      clear P7 P hq hb7 ht j2
      go_wp2
      exact bodyPost_ret (v := .agg #[.bool t1, .slice A3 n3 c3, .bool t2, .slice A4 n4 c4]) (by simp [results, Tryz.results80, go_sem, i0, i1, i2, i3]) rfl ⟨_, _, _, _, _, _, _, _, rfl, m1.out, h11.out⟩

end Go.Proofs.YtffipjofefemiaaGreatDoor
