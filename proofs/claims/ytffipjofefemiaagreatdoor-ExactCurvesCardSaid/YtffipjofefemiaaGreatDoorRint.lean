/- The contract of the reference's Integral. For all valid curves of few starts, at fractions of few limbs. -/
import Derived.Test.YtffipjofefemiaaGreatDoorRval
import Derived.Test.YtffipjofefemiaaGreatDoorIntg
namespace Go.Proofs.YtffipjofefemiaaGreatDoor
open Go.RowKit Kb

structure Ii (w : World) (g B0 : Nat) (A : Option Addr) (n c : Nat) (B : Option Addr) (m d kc : Nat) (X : Nat → Int) (Q : Nat → Rat) (y1 : Bool) (Y1 : Option Addr) (ly1 cy1 : Nat) (y2 : Bool) (Y2 : Option Addr) (ly2 cy2 : Nat) (k : Nat) (y : Rat) (ad bd : Addr) (i : Nat) (s1 : Bool) (S1 : Option Addr) (ls1 cs1 : Nat) (s2 : Bool) (S2 : Option Addr) (ls2 cs2 : Nat) (q : Rat) (g5 : Nat) (o1 : Bool) (O1 : Option Addr) (lo1 co1 : Nat) (o2 : Bool) (O2 : Option Addr) (lo2 co2 : Nat) (ov : Rat) (g7 : Nat) (v1 : Bool) (V1 : Option Addr) (lv1 cv1 : Nat) (v2 : Bool) (V2 : Option Addr) (lv2 cv2 : Nat) (nv : Rat) (wx : World) : Prop where
  al : Al w g B0 A n c B m d kc X Q y1 Y1 ly1 cy1 y2 Y2 ly2 cy2 k y wx
  el : El wx B0 bd i s1 S1 ls1 cs1 s2 S2 ls2 cs2 kc q
  es : Es wx B0 ad i (X i)
  jo : Jq wx g5 o1 O1 lo1 co1 o2 O2 lo2 co2 ov
  jn : Jq wx g7 v1 V1 lv1 cv1 v2 V2 lv2 cv2 nv
section
variable {w : World} {g B0 : Nat} {A : Option Addr} {n c : Nat} {B : Option Addr} {m d kc : Nat} {X : Nat → Int} {Q : Nat → Rat} {y1 : Bool} {Y1 : Option Addr} {ly1 cy1 : Nat} {y2 : Bool} {Y2 : Option Addr} {ly2 cy2 : Nat} {k : Nat} {y : Rat} {ad bd : Addr} {i : Nat} {s1 : Bool} {S1 : Option Addr} {ls1 cs1 : Nat} {s2 : Bool} {S2 : Option Addr} {ls2 cs2 : Nat} {q : Rat} {g5 : Nat} {o1 : Bool} {O1 : Option Addr} {lo1 co1 : Nat} {o2 : Bool} {O2 : Option Addr} {lo2 co2 : Nat} {ov : Rat} {g7 : Nat} {v1 : Bool} {V1 : Option Addr} {lv1 cv1 : Nat} {v2 : Bool} {V2 : Option Addr} {lv2 cv2 : Nat} {nv : Rat} {wx wy : World}
theorem Ii.below (h : Ii w g B0 A n c B m d kc X Q y1 Y1 ly1 cy1 y2 Y2 ly2 cy2 k y ad bd i s1 S1 ls1 cs1 s2 S2 ls2 cs2 q g5 o1 O1 lo1 co1 o2 O2 lo2 co2 ov g7 v1 V1 lv1 cv1 v2 V2 lv2 cv2 nv wx) (hb : Below wx.heap.size wx wy) : Ii w g B0 A n c B m d kc X Q y1 Y1 ly1 cy1 y2 Y2 ly2 cy2 k y ad bd i s1 S1 ls1 cs1 s2 S2 ls2 cs2 q g5 o1 O1 lo1 co1 o2 O2 lo2 co2 ov g7 v1 V1 lv1 cv1 v2 V2 lv2 cv2 nv wy := ⟨h.al.below hb, h.el.below hb, h.es.below hb, h.jo.below hb, h.jn.below hb⟩
theorem Ii.cells (h : Ii w g B0 A n c B m d kc X Q y1 Y1 ly1 cy1 y2 Y2 ly2 cy2 k y ad bd i s1 S1 ls1 cs1 s2 S2 ls2 cs2 q g5 o1 O1 lo1 co1 o2 O2 lo2 co2 ov g7 v1 V1 lv1 cv1 v2 V2 lv2 cv2 nv wx) : wx.cell? ⟨g, 0, none⟩ = some (.slice A n c) ∧ wx.cell? ⟨g, 1, none⟩ = some (.slice B m d) ∧ wx.cell? (ad.add i) = some (.int .i64 (X i)) ∧ wx.cell? (bd.add (i * 4)) = some (.bool s1) ∧ wx.cell? ⟨(bd.add (i * 4)).block, (bd.add (i * 4)).off + 1, none⟩ = some (.slice S1 ls1 cs1) ∧ wx.cell? ⟨(bd.add (i * 4)).block, (bd.add (i * 4)).off + 2, none⟩ = some (.bool s2) ∧ wx.cell? ⟨(bd.add (i * 4)).block, (bd.add (i * 4)).off + 3, none⟩ = some (.slice S2 ls2 cs2) ∧ wx.cell? ⟨g7, 0, none⟩ = some (.bool v1) ∧ wx.cell? ⟨g7, 1, none⟩ = some (.slice V1 lv1 cv1) ∧ wx.cell? ⟨g7, 2, none⟩ = some (.bool v2) ∧ wx.cell? ⟨g7, 3, none⟩ = some (.slice V2 lv2 cv2) :=
  ⟨h.al.jc.c2.1, h.al.jc.c2.2.1, h.es.s, h.el.q0, h.el.q1, h.el.q2, h.el.q3, h.jn.b.c4.1, h.jn.b.c4.2.1, h.jn.b.c4.2.2.1, h.jn.b.c4.2.2.2.1⟩
end
section
variable {w : World} {g B0 : Nat} {A : Option Addr} {n c : Nat} {B : Option Addr} {m d kc : Nat} {X : Nat → Int} {Q : Nat → Rat} {y1 : Bool} {Y1 : Option Addr} {ly1 cy1 : Nat} {y2 : Bool} {Y2 : Option Addr} {ly2 cy2 : Nat} {k : Nat} {y : Rat} {ad bd : Addr} {i : Nat} {s1 : Bool} {S1 : Option Addr} {ls1 cs1 : Nat} {s2 : Bool} {S2 : Option Addr} {ls2 cs2 : Nat} {q : Rat} {g5 : Nat} {o1 : Bool} {O1 : Option Addr} {lo1 co1 : Nat} {o2 : Bool} {O2 : Option Addr} {lo2 co2 : Nat} {ov : Rat} {g7 : Nat} {v1 : Bool} {V1 : Option Addr} {lv1 cv1 : Nat} {v2 : Bool} {V2 : Option Addr} {lv2 cv2 : Nat} {nv : Rat} {wx wy : World} {g8 g9 : Nat} {f1 : Bool} {F1 : Option Addr} {lf1 cf1 : Nat} {f2 : Bool} {F2 : Option Addr} {lf2 cf2 : Nat} {fv : Rat} {u1 : Bool} {U1 : Option Addr} {lu1 cu1 : Nat} {u2 : Bool} {U2 : Option Addr} {lu2 cu2 : Nat} {uv : Rat}
theorem El.offi {C : Array Value} {T : TypeId} {gt : Nat} (h : El wx B0 bd i s1 S1 ls1 cs1 s2 S2 ls2 cs2 kc q) (hb : wx.heap[gt]? = some (.cells C T (0, 0))) (hC : NoInt C) (hg : wx.grownBy wy (some gt)) (hB : B0 ≤ gt) : El wy B0 bd i s1 S1 ls1 cs1 s2 S2 ls2 cs2 kc q := by
  have l0 := h.lb
  have l1 : bd.block < wx.heap.size := Nat.lt_of_lt_of_le h.lb h.le
  have l2 : bd.block ≠ gt := by omega
  exact ⟨cell_grown (p := bd.add (i * 4)) hg (in_add l1) (ne_add l2) h.q0, cell_grown (p := ⟨(bd.add (i * 4)).block, (bd.add (i * 4)).off + 1, none⟩) hg (in_add l1) (ne_add l2) h.q1, cell_grown (p := ⟨(bd.add (i * 4)).block, (bd.add (i * 4)).off + 2, none⟩) hg (in_add l1) (ne_add l2) h.q2, cell_grown (p := ⟨(bd.add (i * 4)).block, (bd.add (i * 4)).off + 3, none⟩) hg (in_add l1) (ne_add l2) h.q3, ⟨h.r.q.offbox hb hC hg, h.r.h1, h.r.h2⟩, h.lb, Nat.le_trans h.le hg.size⟩
theorem Es.offi {gt : Nat} (h : Es wx B0 ad i (X i)) (hg : wx.grownBy wy (some gt)) (hB : B0 ≤ gt) : Es wy B0 ad i (X i) := by
  have l0 := h.la
  have l1 : ad.block < wx.heap.size := Nat.lt_of_lt_of_le h.la h.le
  have l2 : ad.block ≠ gt := by omega
  exact ⟨cell_grown (p := ad.add i) hg (in_add l1) (ne_add l2) h.s, h.la, Nat.le_trans h.le hg.size⟩
theorem Ii.clo (kk : Ii w g B0 A n c B m d kc X Q y1 Y1 ly1 cy1 y2 Y2 ly2 cy2 k y ad bd i s1 S1 ls1 cs1 s2 S2 ls2 cs2 q g5 o1 O1 lo1 co1 o2 O2 lo2 co2 ov g7 v1 V1 lv1 cv1 v2 V2 lv2 cv2 nv wx) (h1 : w.heap.size = g) (h2 : B0 ≤ g) (h3 : 0 < g) : Clo4 (Ii w g B0 A n c B m d kc X Q y1 Y1 ly1 cy1 y2 Y2 ly2 cy2 k y ad bd i s1 S1 ls1 cs1 s2 S2 ls2 cs2 q g5 o1 O1 lo1 co1 o2 O2 lo2 co2 ov g7 v1 V1 lv1 cv1 v2 V2 lv2 cv2 nv) wx.heap.size :=
  ⟨fun q hb => q.below hb, fun {a h' u0 u1 u2 u3} q hq => by
    have e1 := Nat.lt_of_lt_of_le kk.al.jr.lt hq.2
    have e2 := Nat.lt_of_lt_of_le kk.jo.b.lt hq.2
    have e3 := Nat.lt_of_lt_of_le kk.jn.b.lt hq.2
    have hG := gb4' a h' u0 u1 u2 u3
    have hN := noInt_four false false none none 0 0 0 0
    exact ⟨q.al.offb hq.1 hN hG ⟨h1, h2, e1, Nat.lt_trans h3 (by omega)⟩, q.el.offi hq.1 hN hG (by omega), q.es.offi hG (by omega), q.jo.offb hq.1 hN hG (Nat.ne_of_lt e2), q.jn.offb hq.1 hN hG (Nat.ne_of_lt e3)⟩⟩
theorem i8c (kk : M1 (Ii w g B0 A n c B m d kc X Q y1 Y1 ly1 cy1 y2 Y2 ly2 cy2 k y ad bd i s1 S1 ls1 cs1 s2 S2 ls2 cs2 q g5 o1 O1 lo1 co1 o2 O2 lo2 co2 ov g7 v1 V1 lv1 cv1 v2 V2 lv2 cv2 nv) g8 f1 F1 lf1 cf1 f2 F2 lf2 cf2 (fv) wx) : wx.cell? ⟨g, 0, none⟩ = some (.slice A n c) ∧ wx.cell? ⟨g, 1, none⟩ = some (.slice B m d) ∧ wx.cell? (ad.add i) = some (.int .i64 (X i)) ∧ wx.cell? (bd.add (i * 4)) = some (.bool s1) ∧ wx.cell? ⟨(bd.add (i * 4)).block, (bd.add (i * 4)).off + 1, none⟩ = some (.slice S1 ls1 cs1) ∧ wx.cell? ⟨(bd.add (i * 4)).block, (bd.add (i * 4)).off + 2, none⟩ = some (.bool s2) ∧ wx.cell? ⟨(bd.add (i * 4)).block, (bd.add (i * 4)).off + 3, none⟩ = some (.slice S2 ls2 cs2) ∧ wx.cell? ⟨g7, 0, none⟩ = some (.bool v1) ∧ wx.cell? ⟨g7, 1, none⟩ = some (.slice V1 lv1 cv1) ∧ wx.cell? ⟨g7, 2, none⟩ = some (.bool v2) ∧ wx.cell? ⟨g7, 3, none⟩ = some (.slice V2 lv2 cv2) := kk.o.cells
theorem i9b (kk : M1 (M1 (Ii w g B0 A n c B m d kc X Q y1 Y1 ly1 cy1 y2 Y2 ly2 cy2 k y ad bd i s1 S1 ls1 cs1 s2 S2 ls2 cs2 q g5 o1 O1 lo1 co1 o2 O2 lo2 co2 ov g7 v1 V1 lv1 cv1 v2 V2 lv2 cv2 nv) g8 f1 F1 lf1 cf1 f2 F2 lf2 cf2 (fv)) g9 u1 U1 lu1 cu1 u2 U2 lu2 cu2 (uv) wx) (hb : Below wx.heap.size wx wy) : M1 (M1 (Ii w g B0 A n c B m d kc X Q y1 Y1 ly1 cy1 y2 Y2 ly2 cy2 k y ad bd i s1 S1 ls1 cs1 s2 S2 ls2 cs2 q g5 o1 O1 lo1 co1 o2 O2 lo2 co2 ov g7 v1 V1 lv1 cv1 v2 V2 lv2 cv2 nv) g8 f1 F1 lf1 cf1 f2 F2 lf2 cf2 (fv)) g9 u1 U1 lu1 cu1 u2 U2 lu2 cu2 (uv) wy := ⟨⟨kk.o.o.below hb, kk.o.l.below hb⟩, kk.l.below hb⟩
theorem i9c (kk : M1 (M1 (Ii w g B0 A n c B m d kc X Q y1 Y1 ly1 cy1 y2 Y2 ly2 cy2 k y ad bd i s1 S1 ls1 cs1 s2 S2 ls2 cs2 q g5 o1 O1 lo1 co1 o2 O2 lo2 co2 ov g7 v1 V1 lv1 cv1 v2 V2 lv2 cv2 nv) g8 f1 F1 lf1 cf1 f2 F2 lf2 cf2 (fv)) g9 u1 U1 lu1 cu1 u2 U2 lu2 cu2 (uv) wx) : wx.cell? ⟨g5, 0, none⟩ = some (.bool o1) ∧ wx.cell? ⟨g5, 1, none⟩ = some (.slice O1 lo1 co1) ∧ wx.cell? ⟨g5, 2, none⟩ = some (.bool o2) ∧ wx.cell? ⟨g5, 3, none⟩ = some (.slice O2 lo2 co2) ∧ wx.cell? ⟨g8, 0, none⟩ = some (.bool f1) ∧ wx.cell? ⟨g8, 1, none⟩ = some (.slice F1 lf1 cf1) ∧ wx.cell? ⟨g8, 2, none⟩ = some (.bool f2) ∧ wx.cell? ⟨g8, 3, none⟩ = some (.slice F2 lf2 cf2) ∧ wx.cell? ⟨g7, 0, none⟩ = some (.bool v1) ∧ wx.cell? ⟨g7, 1, none⟩ = some (.slice V1 lv1 cv1) ∧ wx.cell? ⟨g7, 2, none⟩ = some (.bool v2) ∧ wx.cell? ⟨g7, 3, none⟩ = some (.slice V2 lv2 cv2) ∧ wx.cell? ⟨g9, 0, none⟩ = some (.bool u1) ∧ wx.cell? ⟨g9, 1, none⟩ = some (.slice U1 lu1 cu1) ∧ wx.cell? ⟨g9, 2, none⟩ = some (.bool u2) ∧ wx.cell? ⟨g9, 3, none⟩ = some (.slice U2 lu2 cu2) := ⟨kk.o.o.jo.b.c4.1, kk.o.o.jo.b.c4.2.1, kk.o.o.jo.b.c4.2.2.1, kk.o.o.jo.b.c4.2.2.2.1, kk.o.l.b.c4.1, kk.o.l.b.c4.2.1, kk.o.l.b.c4.2.2.1, kk.o.l.b.c4.2.2.2.1, kk.o.o.jn.b.c4.1, kk.o.o.jn.b.c4.2.1, kk.o.o.jn.b.c4.2.2.1, kk.o.o.jn.b.c4.2.2.2.1, kk.l.b.c4.1, kk.l.b.c4.2.1, kk.l.b.c4.2.2.1, kk.l.b.c4.2.2.2.1⟩
end

theorem two_le4 : Le 1000 (2 : Int) := by
  have h : Le 1 (2 : Int) := by unfold Le; decide
  exact h.mono (by decide)
theorem pc_pos {n : Nat} {X : Nat → Int} {i : Nat} {y : Rat} (hI : Kc.Inc n X) (h : Kc.pc n X i y ≠ 0) : (X i : Rat) ≤ y ∧ (Kc.pc n X i y).num.sign = 1 := by
  refine ⟨?_, Int.sign_eq_one_of_pos (by have h1 := Rat.num_nonneg.2 (Kc.pc_nonneg hI (i := i) y); have h2 : (Kc.pc n X i y).num ≠ 0 := fun e => h (Rat.num_eq_zero.1 e); omega)⟩
  rcases Rat.not_lt.1 (fun hlt => h (pc_none hlt)) with h
  exact h
set_option maxRecDepth 100000 in
set_option maxHeartbeats 80000000 in
theorem rIntegral {w : World} {A : Option Addr} {n c : Nat} {B : Option Addr} {d B0 kc k : Nat} {X : Nat → Int} {Q : Nat → Rat} {y : Rat} {y1 : Bool} {Y1 : Option Addr} {ly1 cy1 : Nat} {y2 : Bool} {Y2 : Option Addr} {ly2 cy2 : Nat} (h : Cv w B0 A n B n kc X Q) (ok : Okc n X Q) (k0 : Ri w y1 Y1 ly1 cy1 y2 Y2 ly2 cy2 k y) (hkc : 0 < kc) (hk0 : 2 ≤ k) (hkc12 : kc ≤ 12) (hk12 : k ≤ 12) (hT : Tb w) :
    Calls Tryz.prog 44 #[.agg #[.slice A n c, .slice B n d], .agg #[.bool y1, .slice Y1 ly1 cy1, .bool y2, .slice Y2 ly2 cy2]] w fun e w' => ∃ t1 T1 lt1 ct1 t2 T2 lt2 ct2, e = .returned (.agg #[.bool t1, .slice T1 lt1 ct1, .bool t2, .slice T2 lt2 ct2]) ∧ Qf w' t1 T1 lt1 ct1 t2 T2 lt2 ct2 (ig n X Q y) ∧ Below w.heap.size w w' := by
  have b0 := three_new w (.cells #[.slice A n c, .slice B n d] 48) (.cells #[.bool y1, .slice Y1 ly1 cy1, .bool y2, .slice Y2 ly2 cy2] 26) (.cells #[.bool false, .slice none 0 0, .bool false, .slice none 0 0] 26)
  have hB := (((Below.refl w.heap.size w).alloc (Nat.le_refl _) (.cells #[.slice A n c, .slice B n d] 48)).alloc (by simp) (.cells #[.bool y1, .slice Y1 ly1 cy1, .bool y2, .slice Y2 ly2 cy2] 26)).alloc (by simp; omega) (.cells #[.bool false, .slice none 0 0, .bool false, .slice none 0 0] 26)
  obtain ⟨g, hg⟩ : ∃ g, w.heap.size = g := ⟨_, rfl⟩
  have hw1 := k0.h1
  have hw2 := k0.h2
  have hn12 := ok.few
  obtain ⟨u, hu⟩ := upto_ex ok.inc y
  have HU := hid hu
  clear hu
  have hqQ : ∀ i, i < n → QL kc (Q i) := fun i hi => by
    obtain ⟨_, _, _, _, _, _, _, _, _, _, _, _, _, _, _, hr⟩ := h.q i hi
    exact hr.q.ql hkc
  have HQ := hid hqQ
  have LY := k0.q.ql (show 0 < k by omega)
  go_enter Tryz.func44, Tryz.ntmps44
  go_wp2_with fail
  rw [hg] at b0
  generalize ((w.alloc (.cells #[.slice A n c, .slice B n d] 48)).alloc (.cells #[.bool y1, .slice Y1 ly1 cy1, .bool y2, .slice Y2 ly2 cy2] 26)).alloc (.cells #[.bool false, .slice none 0 0, .bool false, .slice none 0 0] 26) = W0 at *
  have hle := h.le
  have hTl := hT.2
  have P0 : Al w g B0 A n c B n d kc X Q y1 Y1 ly1 cy1 y2 Y2 ly2 cy2 k y W0 := ⟨h.below hB, b0.1, b0.2.1, b0.2.2, k0.q.below hB, hT.below hB, hB⟩
  have OK := hid ok
  have Hg := hid (show w.heap.size = g ∧ B0 ≤ g ∧ 0 < g from ⟨hg, by omega, by omega⟩)
  clear h k0 hT hB hg b0 ok hle hTl hqQ
  refine (rQ 0 _ (by decide) (by decide)).mono ?_
  rintro e w1 ⟨o1, O1, lo1, co1, o2, O2, lo2, co2, rfl, hq0, hb1⟩
  have P1 := (P0.below hb1).below (alo (o := (.cells #[.bool o1, .slice O1 lo1 co1, .bool o2, .slice O2 lo2 co2] 26)))
  have j5 := Jq.made hq0
  have hg5 : g + 1 + 1 < w1.heap.size := (P0.below hb1).jr.lt
  clear P0 hb1 hq0
  go_upto_region 2 with fail
  generalize w1.alloc (.cells #[.bool o1, .slice O1 lo1 co1, .bool o2, .slice O2 lo2 co2] 26) = W1 at *
  generalize w1.heap.size = g5 at *
  go_wp2
  go_loopw [6] (fun iv wr => ∃ (i : Nat) (o1 : Bool) (O1 : Option Addr) (lo1 co1 : Nat) (o2 : Bool) (O2 : Option Addr) (lo2 co2 : Nat), i ≤ n ∧ iv = .int .i64 ((i : Nat) : Int) ∧ Al w g B0 A n c B n d kc X Q y1 Y1 ly1 cy1 y2 Y2 ly2 cy2 k y wr ∧ Jq wr g5 o1 O1 lo1 co1 o2 O2 lo2 co2 (Kc.sm (irf n X Q y) i)) (fun iv _ => n - (intOf iv).toNat)
  case atStart => exact ⟨0, o1, O1, lo1, co1, o2, O2, lo2, co2, Nat.zero_le _, rfl, P1, j5⟩
  case round =>
    obtain ⟨i, o1, O1, lo1, co1, o2, O2, lo2, co2, hi', rfl, P, jo⟩ := hrel
    clear P1 j5
    obtain ⟨x0, x1, -, -⟩ := P.jc.c2
    by_cases hi : i < n
    · obtain ⟨bd, s1, S1, ls1, cs1, s2, S2, ls2, cs2, hBd, el⟩ := P.cv.el hi
      obtain ⟨ad, hA, es⟩ := P.cv.es hi
      have LN := pc_ql OK.out hi LY hk0
      have LX := OK.out.ql hi
      have hx := OK.out.far i hi
      subst hBd; subst hA
      obtain ⟨y0, y1', y2', y3, -, -, -, -⟩ := P.jy.c4
      go_wp2_with fail
      refine (rpiece P.cv OK.out hi (Ri.mk P.qy hw1 hw2) hk0 (by omega) P.tb).mono ?_
      rintro e w3 ⟨v1, V1, lv1, cv1, v2, V2, lv2, cv2, rfl, hqn, hb3⟩
      have T0 : Ii w g B0 (some ad) n c (some bd) n d kc X Q y1 Y1 ly1 cy1 y2 Y2 ly2 cy2 k y ad bd i s1 S1 ls1 cs1 s2 S2 ls2 cs2 (Q i) g5 o1 O1 lo1 co1 o2 O2 lo2 co2 (Kc.sm (irf n X Q y) i) w3.heap.size v1 V1 lv1 cv1 v2 V2 lv2 cv2 (Kc.pc n X i y) (w3.alloc (.cells #[.bool v1, .slice V1 lv1 cv1, .bool v2, .slice V2 lv2 cv2] 26)) := have hA := alo (W := w3) (o := (.cells #[.bool v1, .slice V1 lv1 cv1, .bool v2, .slice V2 lv2 cv2] 26)); Ii.mk ((P.below hb3).below hA) ((el.below hb3).below hA) ((es.below hb3).below hA) ((jo.below hb3).below hA) (Jq.made hqn)
      clear P el es jo hqn hb3 x0 x1 y0 y1' y2' y3
      go_upto_region 6 with fail
      generalize w3.alloc (.cells #[.bool v1, .slice V1 lv1 cv1, .bool v2, .slice V2 lv2 cv2] 26) = W3 at *
      generalize w3.heap.size = g7 at *
      obtain ⟨n0, n1, n2, n3, -, -, -, -⟩ := T0.jn.b.c4
      go_wp2_with fail
      refine (rSignRat (T0.jn.z.ri LN (by omega)) (by omega) (by omega)).mono ?_
      rintro e w4 ⟨rfl, hb4⟩
      have R := T0.below hb4
      clear T0 hb4 n0 n1 n2 n3
      by_cases hpc : Kc.pc n X i y = 0
      · have hsg : (Kc.pc n X i y).num.sign = 0 := by rw [hpc]; rfl
        have HE := hid (show Kc.sm (irf n X Q y) (i + 1) = Kc.sm (irf n X Q y) i by
          show Kc.sm (irf n X Q y) i + irf n X Q y i = _
          unfold irf
          rw [hpc]
          grind)
        have HP := hid R.al
        have HJ := hid R.jo
        clear hpc R
        go_wp2
        go_roundw
        case rel => exact ⟨i + 1, o1, O1, lo1, co1, o2, O2, lo2, co2, by omega, by go_num, HP.out, by rw [HE.out]; exact HJ.out⟩
        case measure => simp [intOf]; omega
      · obtain ⟨hge, hsg⟩ := pc_pos OK.out.inc hpc
        have hiu : i + 1 ≤ u := by
          rcases Nat.lt_or_ge i u with h1 | h1
          · exact h1
          · exact absurd hge (Rat.not_le.2 (HU.out.hi i h1 hi))
        have LO : QL (1 + i * (kc + 12)) (Kc.sm (irf n X Q y) i) := by
          rw [irf_whole OK.out.inc HU.out hiu]
          exact whole_ql' OK.out HQ.out hi
        have LP := pre_ql OK.out HQ.out hi
        have LS := HQ.out i hi
        have LS2 := LS.mul (LN.mul LN)
        have LH := LS2.mul hf_ql
        have Hm1 := hid (show i * (kc + 12) ≤ 11 * 24 from Nat.mul_le_mul (by omega) (by omega))
        have Hm2 := hid (show i * (kc + 3) ≤ 11 * 15 from Nat.mul_le_mul (by omega) (by omega))
        have hm1 : 1 + i * (kc + 12) ≤ 265 := by have := Hm1.out; omega
        have hm2 : 1 + i * (kc + 3) ≤ 166 := by have := Hm2.out; omega
        have HV := hid (Kc.vl_at (Q := Q) OK.out.inc hi)
        clear hge hpc hiu
        have K := R.clo Hg.out.1 Hg.out.2.1 Hg.out.2.2
        go_upto_region 7 with fail
        go_cut [8] (fun s8 wx => One4 (Ii w g B0 (some ad) n c (some bd) n d kc X Q y1 Y1 ly1 cy1 y2 Y2 ly2 cy2 k y ad bd i s1 S1 ls1 cs1 s2 S2 ls2 cs2 (Q i) g5 o1 O1 lo1 co1 o2 O2 lo2 co2 (Kc.sm (irf n X Q y) i) g7 v1 V1 lv1 cv1 v2 V2 lv2 cv2 (Kc.pc n X i y)) w4.heap.size (Kc.vl n X Q ((X i : Int) : Rat)) s8 wx)
        case first =>
          go_region_held3 (fun w' => w'.cell? ⟨g, 0, none⟩ = some (.slice (some ad) n c) ∧ w'.cell? ⟨g, 1, none⟩ = some (.slice (some bd) n d) ∧ w'.cell? (ad.add i) = some (.int .i64 (X i)) ∧ w'.cell? (bd.add (i * 4)) = some (.bool s1) ∧ w'.cell? ⟨(bd.add (i * 4)).block, (bd.add (i * 4)).off + 1, none⟩ = some (.slice S1 ls1 cs1) ∧ w'.cell? ⟨(bd.add (i * 4)).block, (bd.add (i * 4)).off + 2, none⟩ = some (.bool s2) ∧ w'.cell? ⟨(bd.add (i * 4)).block, (bd.add (i * 4)).off + 3, none⟩ = some (.slice S2 ls2 cs2) ∧ w'.cell? ⟨g7, 0, none⟩ = some (.bool v1) ∧ w'.cell? ⟨g7, 1, none⟩ = some (.slice V1 lv1 cv1) ∧ w'.cell? ⟨g7, 2, none⟩ = some (.bool v2) ∧ w'.cell? ⟨g7, 3, none⟩ = some (.slice V2 lv2 cv2)) (first
            | with_reducible exact Ii.cells (K.below R dr0)
            | with_reducible exact Ii.cells (K.below R dr1)
            | with_reducible exact Ii.cells R1
            | with_reducible exact Ii.cells (K.below R1 al1)
            | with_reducible exact Ii.cells R2
            | with_reducible exact Ii.cells (K.below R2 al1)
            | with_reducible exact Ii.cells (K.set R2 qa)) (first
            | (go_at_call 88; (first | with_reducible refine (rQ (X i) _ (by omega) (by omega)).mono ?_ | with_reducible refine (rQ (X i) _ (by omega) (by omega)).mono ?_); rintro e wa1 ⟨r1, E1, o3, e1, r2, E2, o4, e2, rfl, h4, hb1⟩; (first | (have H := sd1q (Nat.le_refl _) hb1; obtain ⟨hc1, qa⟩ := H) | (have hc1 := sd0 hb1)); have R1 := K.below R hc1; have hN1 := hc1.size)
            | (go_at_call 42; (first | with_reducible refine (rValue R1.al.cv OK.out (h4.ri LX (by decide)) hkc (by decide) (by omega) R1.al.tb).mono ?_ | with_reducible refine (rValue (K.below R1 al1).al.cv OK.out ((h4.below al1).ri LX (by decide)) hkc (by decide) (by omega) (K.below R1 al1).al.tb).mono ?_); rintro e wa2 ⟨f1, F1, lf1, cf1, f2, F2, lf2, cf2, rfl, h5, hb2⟩; (first | (have H := se1q hN1 hb2; obtain ⟨hc2, qa⟩ := H) | (have hc2 := hb2; (try replace qa := qa.step hc2))); have R2 := K.below R1 hc2; have hN2 := Nat.le_trans hN1 hc2.size; replace h4 := h4.below hc2; (try have lqa := qa.lt); (try obtain ⟨_, _, _, _, _, _, _, _⟩ := qa.1.c4)))
          all_goals
            (try clear lqa)
            go_wp2_with fail
            go_meet
            first
              | with_reducible exact one4a K R2 h5 hN2
              | with_reducible exact one4b K R2 h5 qa
        case rest =>
          obtain ⟨g8, f1, F1, lf1, cf1, f2, F2, lf2, cf2, rfl, hN8, j8, hM⟩ := hcut
          rw [HV.out] at j8
          clear R K hN8
          rename World => wc
          have K := (Ii.clo hM Hg.out.1 Hg.out.2.1 Hg.out.2.2).m1 (Nat.le_refl _) j8.b.lt (r := Kc.pre X Q i) (s1 := f1) (A1 := F1) (n1 := lf1) (c1 := cf1) (s2 := f2) (A2 := F2) (n2 := lf2) (c2 := cf2)
          have R : M1 (Ii w g B0 (some ad) n c (some bd) n d kc X Q y1 Y1 ly1 cy1 y2 Y2 ly2 cy2 k y ad bd i s1 S1 ls1 cs1 s2 S2 ls2 cs2 (Q i) g5 o1 O1 lo1 co1 o2 O2 lo2 co2 (Kc.sm (irf n X Q y) i) g7 v1 V1 lv1 cv1 v2 V2 lv2 cv2 (Kc.pc n X i y)) g8 f1 F1 lf1 cf1 f2 F2 lf2 cf2 (Kc.pre X Q i) wc := ⟨hM, j8⟩
          clear hM j8
          go_upto_region 8 with fail
          go_cut [9] (fun s9 wx => One4 (M1 (Ii w g B0 (some ad) n c (some bd) n d kc X Q y1 Y1 ly1 cy1 y2 Y2 ly2 cy2 k y ad bd i s1 S1 ls1 cs1 s2 S2 ls2 cs2 (Q i) g5 o1 O1 lo1 co1 o2 O2 lo2 co2 (Kc.sm (irf n X Q y) i) g7 v1 V1 lv1 cv1 v2 V2 lv2 cv2 (Kc.pc n X i y)) g8 f1 F1 lf1 cf1 f2 F2 lf2 cf2 (Kc.pre X Q i)) wc.heap.size ((Q i * (Kc.pc n X i y * Kc.pc n X i y)) * rv 1 2) s9 wx)
          case first =>
            go_region_held3 (fun w' => w'.cell? ⟨g, 0, none⟩ = some (.slice (some ad) n c) ∧ w'.cell? ⟨g, 1, none⟩ = some (.slice (some bd) n d) ∧ w'.cell? (ad.add i) = some (.int .i64 (X i)) ∧ w'.cell? (bd.add (i * 4)) = some (.bool s1) ∧ w'.cell? ⟨(bd.add (i * 4)).block, (bd.add (i * 4)).off + 1, none⟩ = some (.slice S1 ls1 cs1) ∧ w'.cell? ⟨(bd.add (i * 4)).block, (bd.add (i * 4)).off + 2, none⟩ = some (.bool s2) ∧ w'.cell? ⟨(bd.add (i * 4)).block, (bd.add (i * 4)).off + 3, none⟩ = some (.slice S2 ls2 cs2) ∧ w'.cell? ⟨g7, 0, none⟩ = some (.bool v1) ∧ w'.cell? ⟨g7, 1, none⟩ = some (.slice V1 lv1 cv1) ∧ w'.cell? ⟨g7, 2, none⟩ = some (.bool v2) ∧ w'.cell? ⟨g7, 3, none⟩ = some (.slice V2 lv2 cv2)) (first
              | with_reducible exact i8c (K.below R dr0)
              | with_reducible exact i8c (K.below R dr1)
              | with_reducible exact i8c R1
              | with_reducible exact i8c (K.below R1 al1)
              | with_reducible exact i8c R2
              | with_reducible exact i8c (K.below R2 al1)
              | with_reducible exact i8c R3
              | with_reducible exact i8c (K.below R3 al1)
              | with_reducible exact i8c R4
              | with_reducible exact i8c (K.below R4 al1)
              | with_reducible exact i8c R5
              | with_reducible exact i8c (K.below R5 al1)
              | with_reducible exact i8c R6
              | with_reducible exact i8c (K.below R6 al1)
              | with_reducible exact i8c (K.set R6 qa)) (first
              | (go_at_call 22; (first | with_reducible refine (rMulRat ((K.below R dr0).o.jn.z.ri LN (by omega)) ((K.below R dr0).o.jn.z.ri LN (by omega)) (by omega) (by omega) (by omega) (by omega)).mono ?_ | with_reducible refine (rMulRat ((K.below R dr1).o.jn.z.ri LN (by omega)) ((K.below R dr1).o.jn.z.ri LN (by omega)) (by omega) (by omega) (by omega) (by omega)).mono ?_); rintro e wa1 ⟨r1, E1, o3, e1, r2, E2, o4, e2, rfl, h4, hb1⟩; (first | (have H := sd1q (Nat.le_refl _) hb1; obtain ⟨hc1, qa⟩ := H) | (have hc1 := sd0 hb1)); have R1 := K.below R hc1; have hN1 := hc1.size)
              | (go_at_call 22; (first | with_reducible refine (rMulRat R1.o.el.r (h4.ri (LN.mul LN) (by omega)) hkc (by omega) (by omega) (by omega)).mono ?_ | with_reducible refine (rMulRat (K.below R1 al1).o.el.r ((h4.below al1).ri (LN.mul LN) (by omega)) hkc (by omega) (by omega) (by omega)).mono ?_); rintro e wa2 ⟨r3, E3, o5, e3, r4, E4, o6, e4, rfl, h5, hb2⟩; (first | (have H := se1q hN1 hb2; obtain ⟨hc2, qa⟩ := H) | (have hc2 := hb2; (try replace qa := qa.step hc2))); have R2 := K.below R1 hc2; have hN2 := Nat.le_trans hN1 hc2.size; replace h4 := h4.below hc2)
              | (go_at_call 15; (first | with_reducible refine (rOf 1 _ (by decide) (by decide)).mono ?_ | with_reducible refine (rOf 1 _ (by decide) (by decide)).mono ?_); rintro e wa3 ⟨a1, F1, o7, e5, rfl, h6, hb3⟩; (first | (have H := se1q hN2 hb3; obtain ⟨hc3, qa⟩ := H) | (have hc3 := hb3; (try replace qa := qa.step hc3))); have R3 := K.below R2 hc3; have hN3 := Nat.le_trans hN2 hc3.size; replace h4 := h4.below hc3; replace h5 := h5.below hc3)
              | (go_at_call 15; (first | with_reducible refine (rOf 2 _ (by decide) (by decide)).mono ?_ | with_reducible refine (rOf 2 _ (by decide) (by decide)).mono ?_); rintro e wa4 ⟨a2, F2, o8, e6, rfl, h7, hb4⟩; (first | (have H := se1q hN3 hb4; obtain ⟨hc4, qa⟩ := H) | (have hc4 := hb4; (try replace qa := qa.step hc4))); have R4 := K.below R3 hc4; have hN4 := Nat.le_trans hN3 hc4.size; replace h4 := h4.below hc4; replace h5 := h5.below hc4; replace h6 := h6.below hc4)
              | (go_at_call 14; (first | with_reducible refine (rOverN h6 h7 (Le.one (by decide)) two_le4).mono ?_ | with_reducible refine (rOverN (h6.below al1) (h7.below al1) (Le.one (by decide)) two_le4).mono ?_); rintro e wa5 ⟨r5, E5, o9, e7, r6, E6, p9, e8, rfl, h8, hb5⟩; (first | (have H := se1q hN4 hb5; obtain ⟨hc5, qa⟩ := H) | (have hc5 := hb5; (try replace qa := qa.step hc5))); have R5 := K.below R4 hc5; have hN5 := Nat.le_trans hN4 hc5.size; replace h4 := h4.below hc5; replace h5 := h5.below hc5; replace h6 := h6.below hc5; replace h7 := h7.below hc5)
              | (go_at_call 22; (first | with_reducible refine (rMulRat (h5.ri LS2 (by omega)) (h8.ri (rv_half ▸ hf_ql) (by decide)) (by omega) (by decide) (by omega) (by decide)).mono ?_ | with_reducible refine (rMulRat ((h5.below al1).ri LS2 (by omega)) ((h8.below al1).ri (rv_half ▸ hf_ql) (by decide)) (by omega) (by decide) (by omega) (by decide)).mono ?_); rintro e wa6 ⟨u1, U1, lu1, cu1, u2, U2, lu2, cu2, rfl, h9, hb6⟩; (first | (have H := se1q hN5 hb6; obtain ⟨hc6, qa⟩ := H) | (have hc6 := hb6; (try replace qa := qa.step hc6))); have R6 := K.below R5 hc6; have hN6 := Nat.le_trans hN5 hc6.size; replace h4 := h4.below hc6; replace h5 := h5.below hc6; replace h6 := h6.below hc6; replace h7 := h7.below hc6; replace h8 := h8.below hc6; (try have lqa := qa.lt); (try obtain ⟨_, _, _, _, _, _, _, _⟩ := qa.1.c4)))
            all_goals
              (try clear lqa)
              go_wp2_with fail
              go_meet
              first
                | with_reducible exact one4a K R6 h9 hN6
                | with_reducible exact one4b K R6 h9 qa
          case rest =>
            obtain ⟨g9, u1, U1, lu1, cu1, u2, U2, lu2, cu2, rfl, hN9, j9, hM⟩ := hcut
            rw [rv_half] at j9
            clear R K hN9
            rename World => wd
            go_upto_region 9 with fail
            have Q0 : M1 (M1 (Ii w g B0 (some ad) n c (some bd) n d kc X Q y1 Y1 ly1 cy1 y2 Y2 ly2 cy2 k y ad bd i s1 S1 ls1 cs1 s2 S2 ls2 cs2 (Q i) g5 o1 O1 lo1 co1 o2 O2 lo2 co2 (Kc.sm (irf n X Q y) i) g7 v1 V1 lv1 cv1 v2 V2 lv2 cv2 (Kc.pc n X i y)) g8 f1 F1 lf1 cf1 f2 F2 lf2 cf2 (Kc.pre X Q i)) g9 u1 U1 lu1 cu1 u2 U2 lu2 cu2 ((Q i * (Kc.pc n X i y * Kc.pc n X i y)) * hf) wd.drew := i9b ⟨hM, j9⟩ (dr0 (W := wd))
            clear hM j9
            refine wp_region_late 7 (fun w' => w'.cell? ⟨g5, 0, none⟩ = some (.bool o1) ∧ w'.cell? ⟨g5, 1, none⟩ = some (.slice O1 lo1 co1) ∧ w'.cell? ⟨g5, 2, none⟩ = some (.bool o2) ∧ w'.cell? ⟨g5, 3, none⟩ = some (.slice O2 lo2 co2) ∧ w'.cell? ⟨g8, 0, none⟩ = some (.bool f1) ∧ w'.cell? ⟨g8, 1, none⟩ = some (.slice F1 lf1 cf1) ∧ w'.cell? ⟨g8, 2, none⟩ = some (.bool f2) ∧ w'.cell? ⟨g8, 3, none⟩ = some (.slice F2 lf2 cf2) ∧ w'.cell? ⟨g7, 0, none⟩ = some (.bool v1) ∧ w'.cell? ⟨g7, 1, none⟩ = some (.slice V1 lv1 cv1) ∧ w'.cell? ⟨g7, 2, none⟩ = some (.bool v2) ∧ w'.cell? ⟨g7, 3, none⟩ = some (.slice V2 lv2 cv2) ∧ w'.cell? ⟨g9, 0, none⟩ = some (.bool u1) ∧ w'.cell? ⟨g9, 1, none⟩ = some (.slice U1 lu1 cu1) ∧ w'.cell? ⟨g9, 2, none⟩ = some (.bool u2) ∧ w'.cell? ⟨g9, 3, none⟩ = some (.slice U2 lu2 cu2)) (by kernel_rfl) (by with_reducible exact i9c Q0) (fun hHeld => ?_)
            refine wpLate_take 0 [0, 7] (v := ?_) rfl (by kernel_rfl) (by kernel_rfl) (by kernel_rfl) (fun _ _ _ h => h) (by kernel_rfl) (by kernel_rfl) (Or.inl ⟨by rfl, ?_⟩) hHeld ?_
            rotate_left
            · intro w hSw
              (try dsimp only at hSw)
              go_simp
              (try with_reducible rfl)
            (try simp only [Act.put, List.setIfInBounds_toArray, List.set_cons_zero, List.set_cons_succ])
            refine wpLate_take 1 [1, 7] (v := ?_) rfl (by kernel_rfl) (by kernel_rfl) (by kernel_rfl) (fun _ _ _ h => h) (by kernel_rfl) (by kernel_rfl) (Or.inl ⟨by rfl, ?_⟩) hHeld ?_
            rotate_left
            · intro w hSw
              (try dsimp only at hSw)
              go_simp
              (try with_reducible rfl)
            (try simp only [Act.put, List.setIfInBounds_toArray, List.set_cons_zero, List.set_cons_succ])
            refine wpLate_take 2 [2, 7] (v := ?_) rfl (by kernel_rfl) (by kernel_rfl) (by kernel_rfl) (fun _ _ _ h => h) (by kernel_rfl) (by kernel_rfl) (Or.inl ⟨by rfl, ?_⟩) hHeld ?_
            rotate_left
            · intro w hSw
              (try dsimp only at hSw)
              go_simp
              (try with_reducible rfl)
            (try simp only [Act.put, List.setIfInBounds_toArray, List.set_cons_zero, List.set_cons_succ])
            refine wpLate_take 4 [4, 7] (v := ?_) rfl (by kernel_rfl) (by kernel_rfl) (by kernel_rfl) (fun _ _ _ h => h) (by kernel_rfl) (by kernel_rfl) (Or.inl ⟨by rfl, ?_⟩) hHeld ?_
            rotate_left
            · intro w hSw
              (try dsimp only at hSw)
              go_simp
              (try with_reducible rfl)
            (try simp only [Act.put, List.setIfInBounds_toArray, List.set_cons_zero, List.set_cons_succ])
            refine wpLate_one 3 (by kernel_rfl) rfl (fun K hK => ?_)
            go_simp
            with_reducible refine (rMulRat (Q0.o.l.z.ri LP (by omega)) (Q0.o.o.jn.z.ri LN (by omega)) (by omega) (by omega) (by omega) (by omega)).mono ?_
            rintro e wv1 ⟨r1, E1, o3, e1, r2, E2, o4, e2, rfl, h4, hb1⟩
            have Q1 := i9b Q0 hb1
            clear hHeld
            refine hK.out _ _ (by with_reducible exact i9c Q1) (fun hHeld => ?_)
            clear hK K
            (try simp only [Act.put, List.setIfInBounds_toArray, List.set_cons_zero, List.set_cons_succ])
            refine wpLate_one 5 (by kernel_rfl) rfl (fun K hK => ?_)
            go_simp
            with_reducible refine (rAddRat (h4.ri (LP.mul LN) (by omega)) (Q1.l.z.ri LH (by omega)) (by omega) (by omega) (by omega) (by omega)).mono ?_
            rintro e wv2 ⟨r3, E3, o5, e3, r4, E4, o6, e4, rfl, h5, hb2⟩
            have Q2 := i9b Q1 hb2
            clear hHeld
            refine hK.out _ _ (by with_reducible exact i9c Q2) (fun hHeld => ?_)
            clear hK K
            (try simp only [Act.put, List.setIfInBounds_toArray, List.set_cons_zero, List.set_cons_succ])
            refine wpLate_one 6 (by kernel_rfl) rfl (fun K hK => ?_)
            go_simp
            with_reducible refine (rAddRat (Q2.o.o.jo.z.ri LO (by omega)) (h5.ri ((LP.mul LN).add LH) (by omega)) (by omega) (by omega) (by omega) (by omega)).mono ?_
            rintro e wv3 ⟨t1, T1, lt1, ct1, t2, T2, lt2, ct2, rfl, hq, hb3⟩
            have Q3 := i9b Q2 hb3
            obtain ⟨a0, a1, a2, a3, f0, f1', f2', f3⟩ := Q3.o.o.jo.b.c4
            have hlo := Q3.o.o.jo.b.lt
            clear hHeld
            refine hK.out _ _ (by with_reducible exact i9c Q3) (fun hHeld => ?_)
            clear hK K
            (try simp only [Act.put, List.setIfInBounds_toArray, List.set_cons_zero, List.set_cons_succ])
            clear hHeld
            refine wpLate_last 7 rfl (by kernel_rfl) (by kernel_rfl) rfl (fun K hK => ?_)
            go_simp
            refine hK.out _ _ ?_
            clear hK K
            (try simp only [Act.put, List.setIfInBounds_toArray, List.set_cons_zero, List.set_cons_succ])
            have HP := hid (Q3.o.o.al.offb Q3.o.o.jo.b (noInt_four _ _ _ _ _ _ _ _) (gb4' wv3 g5 (.bool t1) (.slice T1 lt1 ct1) (.bool t2) (.slice T2 lt2 ct2)) ⟨Hg.out.1, Hg.out.2.1, hg5, Nat.lt_trans Hg.out.2.2 (by omega)⟩)
            have HJ := hid (Q3.o.o.jo.put2 hq)
            clear a0 a1 a2 a3 f0 f1' f2' f3 hlo Q0 Q1 Q2 Q3 hq h4 h5 hb1 hb2 hb3
            go_wp2
            go_roundw
            case rel => exact ⟨i + 1, t1, T1, lt1, ct1, t2, T2, lt2, ct2, by omega, by go_num, HP.out, HJ.out⟩
            case measure => simp [intOf]; omega
    · have hin : n = i := by omega
      subst hin
      have j2 := P.jr
      have hl7 := j2.lt
      obtain ⟨i0, i1, i2, i3, i4, i5, i6, i7⟩ := j2.c4
      obtain ⟨y0, y1', y2', y3, -, -, -, -⟩ := jo.b.c4
      have h11 := hid (below4 P.bl (show w.heap.size ≤ g + 1 + 1 by have := Hg.out.1; omega) (.bool o1) (.slice O1 lo1 co1) (.bool o2) (.slice O2 lo2 co2))
      have m1 := hid (jo.z.offbox j2 (noInt_four _ _ _ _ _ _ _ _) (gb4' _ _ (.bool o1) (.slice O1 lo1 co1) (.bool o2) (.slice O2 lo2 co2)))
      clear P jo j2
      go_wp2
      exact bodyPost_ret (v := .agg #[.bool o1, .slice O1 lo1 co1, .bool o2, .slice O2 lo2 co2]) (by simp [results, Tryz.results44, go_sem, i0, i1, i2, i3]) rfl ⟨_, _, _, _, _, _, _, _, rfl, m1.out, h11.out⟩

end Go.Proofs.YtffipjofefemiaaGreatDoor
