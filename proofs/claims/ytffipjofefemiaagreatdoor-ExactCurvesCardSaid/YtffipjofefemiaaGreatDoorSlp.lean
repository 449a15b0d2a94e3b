/- The contracts of normal, slopeAt, Slope and Capacity. For all valid curves of few starts. -/
import Derived.Test.YtffipjofefemiaaGreatDoorElc
import Derived.Test.YtffipjofefemiaaGreatDoorVal
namespace Go.Proofs.YtffipjofefemiaaGreatDoor
open Go.RowKit Kb

theorem dupZ {w : World} {s : Bool} {A : Option Addr} {n c : Nat} {z : Int} (h : Zi w s A n c z) (lz : Le 1000 z) :
    Calls Tryz.prog 73 #[.agg #[.bool s, .slice A n c]] w fun e w' => ∃ r C n c, e = .returned (.agg #[.bool r, .slice C n c]) ∧ Zn w' r C n c z ∧ Below w.heap.size w w' := by
  obtain ⟨a, ha, ea⟩ := h
  have la : (dig a).length ≤ 1000 := by rw [Zi.nat ea.out]; exact lz.len
  refine (zn_open (duplicate_any s A n c a _ ha (by omega))).mono ?_
  rintro e w1 ⟨r1, R1, o1, e1', rfl, hn1, hb1⟩
  rw [ea.out] at hn1
  exact ⟨_, _, _, _, rfl, hn1, hb1⟩
structure Nn (w : World) (g g1 : Nat) (p : Bool) (A : Option Addr) (n c : Nat) (B : Option Addr) (m d k : Nat) (x : Rat) (a : Int) (b : Nat) (wx : World) : Prop where
  j3 : Bk wx g1 (.cells #[.bool p, .slice A n c] 24 (0, 0))
  j4 : Bk wx (g1 + 1) (.cells #[.bool false, .slice B m d] 24 (0, 0))
  f : Pf wx p A n c B m d k x a b
  r : Bk wx g (.cells #[.bool false, .slice none 0 0, .bool false, .slice none 0 0] 26 (0, 0))
  tb : Tb wx
  bl : Below w.heap.size w wx
section
variable {w : World} {g g1 : Nat} {p : Bool} {A : Option Addr} {n c : Nat} {B : Option Addr} {m d k : Nat} {x : Rat} {a : Int} {b : Nat} {wx wy : World}
theorem Nn.below (h : Nn w g g1 p A n c B m d k x a b wx) (hb : Below wx.heap.size wx wy) : Nn w g g1 p A n c B m d k x a b wy := ⟨h.j3.step hb, h.j4.step hb, h.f.below hb, h.r.step hb, h.tb.below hb, bthen h.bl hb (Nat.le_refl _)⟩
theorem Nn.cells (h : Nn w g g1 p A n c B m d k x a b wx) : wx.cell? ⟨g1, 0, none⟩ = some (.bool p) ∧ wx.cell? ⟨g1, 1, none⟩ = some (.slice A n c) ∧ wx.cell? ⟨g1 + 1, 0, none⟩ = some (.bool false) ∧ wx.cell? ⟨g1 + 1, 1, none⟩ = some (.slice B m d) :=
  ⟨h.j3.c2.1, h.j3.c2.2.1, h.j4.c2.1, h.j4.c2.2.1⟩
end

set_option maxRecDepth 100000 in
set_option maxHeartbeats 80000000 in
theorem normal_q {w : World} {k : Nat} {x : Rat} {s1 : Bool} {S1 : Option Addr} {ls1 cs1 : Nat} {s2 : Bool} {S2 : Option Addr} {ls2 cs2 : Nat} (h : Qi w s1 S1 ls1 cs1 s2 S2 ls2 cs2 k x) (hk0 : 0 < k) (hk : k ≤ 1000) (hT : Tb w) :
    Calls Tryz.prog 82 #[.agg #[.bool s1, .slice S1 ls1 cs1, .bool s2, .slice S2 ls2 cs2]] w fun e w' => ∃ s1 A1 n1 c1 s2 A2 n2 c2, e = .returned (.agg #[.bool s1, .slice A1 n1 c1, .bool s2, .slice A2 n2 c2]) ∧ Qf w' s1 A1 n1 c1 s2 A2 n2 c2 (x) ∧ Below w.heap.size w w' := by
  have b0 := two_new w (.cells #[.bool s1, .slice S1 ls1 cs1, .bool s2, .slice S2 ls2 cs2] 26) (.cells #[.bool false, .slice none 0 0, .bool false, .slice none 0 0] 26)
  have hB := below_two w (.cells #[.bool s1, .slice S1 ls1 cs1, .bool s2, .slice S2 ls2 cs2] 26) (.cells #[.bool false, .slice none 0 0, .bool false, .slice none 0 0] 26)
  obtain ⟨g, hg⟩ : ∃ g, w.heap.size = g := ⟨_, rfl⟩
  go_enter Tryz.func82, Tryz.ntmps82
  go_wp2_with fail
  rw [hg] at b0
  generalize (w.alloc (.cells #[.bool s1, .slice S1 ls1 cs1, .bool s2, .slice S2 ls2 cs2] 26)).alloc (.cells #[.bool false, .slice none 0 0, .bool false, .slice none 0 0] 26) = W0 at *
  have h0 := h.below hB
  have T0 := hT.below hB
  have j0 : Bk W0 (g + 1) _ := b0.2
  have HB := hid hB
  have Hg := hid hg
  have l0 := j0.lt
  clear h hT hB b0 hg
  refine (parts_q h0 hk0).mono ?_
  rintro e w1 ⟨p, A, n, c, B, m, d, a, b, rfl, hf, hb1⟩
  have hal := al2 (W := w1) (o := (.cells #[.bool p, .slice A n c] 24)) (p := (.cells #[.bool false, .slice B m d] 24))
  have P : Nn w (g + 1) w1.heap.size p A n c B m d k x a b ((w1.alloc (.cells #[.bool p, .slice A n c] 24)).alloc (.cells #[.bool false, .slice B m d] 24)) :=
    ⟨box1 _ _ _, box2 _ _ _, hf.below hal, (j0.step hb1).step hal, (T0.below hb1).below hal, bthen (bthen HB.out hb1 (Nat.le_refl _)) hal (Nat.le_refl _)⟩
  have hlt : g + 1 < w1.heap.size := Nat.lt_of_lt_of_le l0 hb1.size
  clear hf hb1 h0 T0 j0 hal l0
  go_upto_region 2 with fail
  generalize (w1.alloc (.cells #[.bool p, .slice A n c] 24)).alloc (.cells #[.bool false, .slice B m d] 24) = W1 at *
  generalize w1.heap.size = g1 at *
  have R0 := P.below (dr0 (W := W1))
  clear P
  have hcells := R0.cells
  have HP := hid R0.f.pq
  have hne : g + 1 ≠ g1 := by omega
  have hne2 : g + 1 ≠ g1 + 1 := by omega
  go_region_held3 (fun w' => w'.cell? ⟨g1, 0, none⟩ = some (.bool p) ∧ w'.cell? ⟨g1, 1, none⟩ = some (.slice A n c) ∧ w'.cell? ⟨g1 + 1, 0, none⟩ = some (.bool false) ∧ w'.cell? ⟨g1 + 1, 1, none⟩ = some (.slice B m d)) (first | with_reducible exact Nn.cells R0 | with_reducible exact Nn.cells R1 | with_reducible exact Nn.cells R2 | with_reducible exact Nn.cells R3 | exact ⟨off_four hne y0, off_four hne y1, off_four hne2 y2, off_four hne2 y3⟩) (first
    | (go_at_call 73; with_reducible refine (dupZ R0.f.num (HP.out.la.mono hk)).mono ?_; rintro e wv1 ⟨r1, R1', o1, e1, rfl, h1, hb1⟩; have R1 := R0.below hb1)
    | (go_at_call 73; with_reducible refine (dupZ R1.f.zi (HP.out.lb.mono hk)).mono ?_; rintro e wv2 ⟨r2, R2', o2, e2, rfl, h2, hb2⟩; have R2 := R1.below hb2; replace h1 := h1.below hb2)
    | (go_at_call 58; with_reducible refine (fraction_q h1.zi h2.zi (show ((b : Nat) : Int) ≠ 0 by have := HP.out.nz; omega) (HP.out.la.mono hk) (HP.out.lb.mono hk) R2.tb).mono ?_; rintro e wv3 ⟨t1, T1, lt1, ct1, t2, T2, lt2, ct2, rfl, hq, hb3⟩; have R3 := R2.below hb3; obtain ⟨y0, y1, y2, y3⟩ := R3.cells; have hlj := R3.r.lt; obtain ⟨i0, i1, i2, i3, i4, i5, i6, i7⟩ := R3.r.c4))
  rw [rv_nat HP.out.nz, HP.out.eq] at hq
  have j2 := R3.r
  have h11 := hid (below4 R3.bl (show w.heap.size ≤ g + 1 by have := Hg.out; omega) (.bool t1) (.slice T1 lt1 ct1) (.bool t2) (.slice T2 lt2 ct2))
  have m1 := hid (hq.offbox j2 (noInt_four _ _ _ _ _ _ _ _) (gb4' _ _ (.bool t1) (.slice T1 lt1 ct1) (.bool t2) (.slice T2 lt2 ct2)))
  clear R0 R1 R2 R3 hq hb1 hb2 hb3 h1 h2 j2 y0 y1 y2 y3 hcells
  go_wp2
  exact bodyPost_ret (v := .agg #[.bool t1, .slice T1 lt1 ct1, .bool t2, .slice T2 lt2 ct2]) (by simp [results, Tryz.results82, go_sem, i0, i1, i2, i3]) rfl ⟨_, _, _, _, _, _, _, _, rfl, m1.out, h11.out⟩

/-- The slope behind u starts. -/
def slq (Q : Nat → Rat) (u : Nat) : Rat := if u = 0 then 0 else Q (u - 1)
theorem ri_zero (w : World) (k : Nat) : Ri w false none 0 0 false none 0 0 k 0 := (⟨⟨0, 0, (show Zn w false none 0 0 0 from ⟨hid rfl, nm_nil w⟩).zi, (show Zn w false none 0 0 0 from ⟨hid rfl, nm_nil w⟩).zi, rfl, Le.zero _, Le.zero _⟩, by decide, by decide⟩)
set_option maxRecDepth 100000 in
set_option maxHeartbeats 80000000 in
theorem slopeAt_q {w : World} {A : Option Addr} {n c : Nat} {B : Option Addr} {m d B0 kc k : Nat} {X : Nat → Int} {Q : Nat → Rat} {y : Rat} {y1 : Bool} {Y1 : Option Addr} {ly1 cy1 : Nat} {y2 : Bool} {Y2 : Option Addr} {ly2 cy2 : Nat} (h : Cv w B0 A n B m kc X Q) (hm : n ≤ m) (ok : Okc n X Q) (k0 : Qi w y1 Y1 ly1 cy1 y2 Y2 ly2 cy2 k y) (hk0 : 0 < k) (hk : k ≤ 400) (hT : Tb w) :
    Calls Tryz.prog 83 #[.agg #[.slice A n c, .slice B m d], .agg #[.bool y1, .slice Y1 ly1 cy1, .bool y2, .slice Y2 ly2 cy2]] w fun e w' => ∃ t1 T1 lt1 ct1 t2 T2 lt2 ct2 u, e = .returned (.agg #[.bool t1, .slice T1 lt1 ct1, .bool t2, .slice T2 lt2 ct2]) ∧ Hid (Upto n X y u) ∧ Ri w' t1 T1 lt1 ct1 t2 T2 lt2 ct2 kc (slq Q u) ∧ Below w.heap.size w w' := by
  have b0 := three_new w (.cells #[.slice A n c, .slice B m d] 48) (.cells #[.bool y1, .slice Y1 ly1 cy1, .bool y2, .slice Y2 ly2 cy2] 26) (.cells #[.bool false, .slice none 0 0, .bool false, .slice none 0 0] 26)
  have hB := (((Below.refl w.heap.size w).alloc (Nat.le_refl _) (.cells #[.slice A n c, .slice B m d] 48)).alloc (by simp) (.cells #[.bool y1, .slice Y1 ly1 cy1, .bool y2, .slice Y2 ly2 cy2] 26)).alloc (by simp; omega) (.cells #[.bool false, .slice none 0 0, .bool false, .slice none 0 0] 26)
  obtain ⟨g, hg⟩ : ∃ g, w.heap.size = g := ⟨_, rfl⟩
  go_enter Tryz.func83, Tryz.ntmps83
  go_wp2_with fail
  rw [hg] at b0
  generalize ((w.alloc (.cells #[.slice A n c, .slice B m d] 48)).alloc (.cells #[.bool y1, .slice Y1 ly1 cy1, .bool y2, .slice Y2 ly2 cy2] 26)).alloc (.cells #[.bool false, .slice none 0 0, .bool false, .slice none 0 0] 26) = W0 at *
  have P0 : Al w g B0 A n c B m d kc X Q y1 Y1 ly1 cy1 y2 Y2 ly2 cy2 k y W0 := ⟨h.below hB, b0.1, b0.2.1, b0.2.2, k0.below hB, hT.below hB, hB⟩
  have OK := hid ok
  have Hg := hid hg
  clear h k0 hT hB hg b0 ok
  refine (startsUpTo_q P0.cv.s P0.cv.le OK.out.inc (by have := OK.out.few; omega) OK.out.far P0.qy hk0 hk).mono ?_
  rintro e w1 ⟨u, rfl, HU, hb1⟩
  have P1 := P0.below hb1
  have j2 := P1.jr
  have hl7 := j2.lt
  have hu := HU.out.le
  have hu12 := Nat.le_trans hu OK.out.few
  clear P0 hb1
  obtain ⟨x0, x1, -, -⟩ := P1.jc.c2
  obtain ⟨i0, i1, i2, i3, i4, i5, i6, i7⟩ := j2.c4
  by_cases hu0 : u = 0
  · subst hu0
    have h11 := hid (below4 P1.bl (show w.heap.size ≤ g + 1 + 1 by have := Hg.out; omega) (.bool false) (.slice none 0 0) (.bool false) (.slice none 0 0))
    clear P1 j2
    go_wp2
    exact bodyPost_ret (v := .agg #[.bool false, .slice none 0 0, .bool false, .slice none 0 0]) (by simp [results, Tryz.results83, go_sem, i0, i1, i2, i3]) rfl ⟨_, _, _, _, _, _, _, _, 0, rfl, HU, ri_zero _ _, h11.out⟩
  · obtain ⟨bd, s1, S1, ls1, cs1, s2, S2, ls2, cs2, hBd, E⟩ := P1.cv.el (i := u - 1) (by omega)
    have hpos : decide ((0 : Int) < (u : Int)) = true := decide_eq_true (by omega)
    have hpos2 : decide (0 < u) = true := decide_eq_true (by omega)
    have hu1 : (1 : Int) ≤ (u : Int) := by omega
    have hum : u - 1 < m := by omega
    have e0 := hid (show slq Q u = Q (u - 1) by unfold slq; rw [if_neg hu0])
    have h11 := hid (below4 P1.bl (show w.heap.size ≤ g + 1 + 1 by have := Hg.out; omega) (.bool s1) (.slice S1 ls1 cs1) (.bool s2) (.slice S2 ls2 cs2))
    have m1 := hid (E.r.offbox j2 (noInt_four _ _ _ _ _ _ _ _) (gb4' _ _ (.bool s1) (.slice S1 ls1 cs1) (.bool s2) (.slice S2 ls2 cs2)))
    have q0 := E.q0
    have q1 := E.q1
    have q2 := E.q2
    have q3 := E.q3
    subst hBd
    clear P1 j2 E hu0
    go_wp2
    exact bodyPost_ret (v := .agg #[.bool s1, .slice S1 ls1 cs1, .bool s2, .slice S2 ls2 cs2]) (by simp [results, Tryz.results83, go_sem, i0, i1, i2, i3]) rfl ⟨_, _, _, _, _, _, _, _, u, rfl, HU, by rw [e0.out]; exact m1.out, h11.out⟩

end Go.Proofs.YtffipjofefemiaaGreatDoor
