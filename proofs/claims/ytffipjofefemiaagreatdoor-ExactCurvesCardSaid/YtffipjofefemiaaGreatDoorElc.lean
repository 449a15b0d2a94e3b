/- Words for curves in memory: a slope, a start; the contract of the reference's Q. -/
import Derived.Test.YtffipjofefemiaaGreatDoorAlq
import Derived.Test.YtffipjofefemiaaGreatDoorCkr
namespace Go.Proofs.YtffipjofefemiaaGreatDoor
open Go.RowKit Kb

/-- Slope i of a curve. -/
structure El (wx : World) (B0 : Nat) (bd : Addr) (i : Nat) (s1 : Bool) (S1 : Option Addr) (ls1 cs1 : Nat) (s2 : Bool) (S2 : Option Addr) (ls2 cs2 : Nat) (kc : Nat) (q : Rat) : Prop where
  q0 : wx.cell? (bd.add (i * 4)) = some (.bool s1)
  q1 : wx.cell? ⟨(bd.add (i * 4)).block, (bd.add (i * 4)).off + 1, none⟩ = some (.slice S1 ls1 cs1)
  q2 : wx.cell? ⟨(bd.add (i * 4)).block, (bd.add (i * 4)).off + 2, none⟩ = some (.bool s2)
  q3 : wx.cell? ⟨(bd.add (i * 4)).block, (bd.add (i * 4)).off + 3, none⟩ = some (.slice S2 ls2 cs2)
  r : Ri wx s1 S1 ls1 cs1 s2 S2 ls2 cs2 kc q
  lb : bd.block < B0
  le : B0 ≤ wx.heap.size
/-- Start i of a curve. -/
structure Es (wx : World) (B0 : Nat) (ad : Addr) (i : Nat) (x : Int) : Prop where
  s : wx.cell? (ad.add i) = some (.int .i64 x)
  la : ad.block < B0
  le : B0 ≤ wx.heap.size
section
variable {w w' : World} {B0 g i n m k kc : Nat} {A B : Option Addr} {X : Nat → Int} {Q : Nat → Rat} {ad bd : Addr} {x : Int} {q : Rat} {s1 : Bool} {S1 : Option Addr} {ls1 cs1 : Nat} {s2 : Bool} {S2 : Option Addr} {ls2 cs2 : Nat}
theorem El.below (h : El w B0 bd i s1 S1 ls1 cs1 s2 S2 ls2 cs2 kc q) (hb : Below w.heap.size w w') : El w' B0 bd i s1 S1 ls1 cs1 s2 S2 ls2 cs2 kc q := by
  have l := Nat.lt_of_lt_of_le h.lb h.le
  exact ⟨(hb.cell (p := bd.add (i * 4)) (in_add l)).trans h.q0, (hb.cell (p := ⟨(bd.add (i * 4)).block, (bd.add (i * 4)).off + 1, none⟩) (in_add l)).trans h.q1, (hb.cell (p := ⟨(bd.add (i * 4)).block, (bd.add (i * 4)).off + 2, none⟩) (in_add l)).trans h.q2, (hb.cell (p := ⟨(bd.add (i * 4)).block, (bd.add (i * 4)).off + 3, none⟩) (in_add l)).trans h.q3, h.r.below hb, h.lb, Nat.le_trans h.le hb.size⟩
theorem Es.below (h : Es w B0 ad i x) (hb : Below w.heap.size w w') : Es w' B0 ad i x := by
  have l := Nat.lt_of_lt_of_le h.la h.le
  exact ⟨(hb.cell (p := ad.add i) (in_add l)).trans h.s, h.la, Nat.le_trans h.le hb.size⟩
theorem Cv.el (h : Cv w B0 A n B m k X Q) (hi : i < m) : ∃ bd s1 S1 ls1 cs1 s2 S2 ls2 cs2, B = some bd ∧ El w B0 bd i s1 S1 ls1 cs1 s2 S2 ls2 cs2 k (Q i) := by
  obtain ⟨bd, s1, S1, ls1, cs1, s2, S2, ls2, cs2, e, h1, h2, h3, h4, h5, h6⟩ := h.q i hi
  exact ⟨bd, s1, S1, ls1, cs1, s2, S2, ls2, cs2, e, ⟨h2, h3, h4, h5, h6, h1, h.le⟩⟩
theorem Cv.es (h : Cv w B0 A n B m k X Q) (hi : i < n) : ∃ ad, A = some ad ∧ Es w B0 ad i (X i) := by
  obtain ⟨ad, e, h1, h2⟩ := h.s i hi
  exact ⟨ad, e, ⟨h2, h1, h.le⟩⟩
theorem Es.next (h : Es w B0 ad (i + 1) x) : w.cell? ⟨ad.block, ad.off + (i + 1), none⟩ = some (.int .i64 x) := by
  have := h.s
  rwa [add_at] at this
theorem Jq.offb {s1 s2 : Bool} {A1 A2 : Option Addr} {n1 c1 n2 c2 h : Nat} {r : Rat} {C : Array Value} {T : TypeId} (k : Jq w g s1 A1 n1 c1 s2 A2 n2 c2 r) (hb : w.heap[h]? = some (.cells C T (0, 0))) (hC : NoInt C) (hg : w.grownBy w' (some h)) (hn : g ≠ h) : Jq w' g s1 A1 n1 c1 s2 A2 n2 c2 r := ⟨k.b.grown hg hn, k.z.offbox hb hC hg⟩
/-- A variable of a fraction is written anew. -/
theorem Jq.put2 {o1 o2 r1 r2 : Bool} {O1 O2 R1 R2 : Option Addr} {lo1 co1 lo2 co2 lr1 cr1 lr2 cr2 : Nat} {x y : Rat} (k : Jq w g o1 O1 lo1 co1 o2 O2 lo2 co2 x) (q : Qf w r1 R1 lr1 cr1 r2 R2 lr2 cr2 y) : Jq ((((w.setCell ⟨g, 0, none⟩ (.bool r1)).setCell ⟨g, 1, none⟩ (.slice R1 lr1 cr1)).setCell ⟨g, 2, none⟩ (.bool r2)).setCell ⟨g, 3, none⟩ (.slice R2 lr2 cr2)) g r1 R1 lr1 cr1 r2 R2 lr2 cr2 y :=
  ⟨bk_put4 k.b, q.offbox k.b (noInt_four _ _ _ _ _ _ _ _) (gb4' _ _ _ _ _ _)⟩
end

set_option maxRecDepth 100000 in
set_option maxHeartbeats 80000000 in
theorem rQ (z : Int) (w : World) (h1 : -9223372036854775808 ≤ z) (h2 : z ≤ 9223372036854775807) :
    Calls Tryz.prog 88 #[.int .i64 z] w fun e w' => ∃ s1 A1 n1 c1 s2 A2 n2 c2, e = .returned (.agg #[.bool s1, .slice A1 n1 c1, .bool s2, .slice A2 n2 c2]) ∧ Qf w' s1 A1 n1 c1 s2 A2 n2 c2 ((z : Rat)) ∧ Below w.heap.size w w' := by
  have hB := alo (W := w) (o := (.cells #[.bool false, .slice none 0 0, .bool false, .slice none 0 0] 26))
  have j0 := Bk.of_alloc w (.cells #[.bool false, .slice none 0 0, .bool false, .slice none 0 0] 26) rfl
  obtain ⟨g, hg⟩ : ∃ g, w.heap.size = g := ⟨_, rfl⟩
  go_enter Tryz.func88, Tryz.ntmps88
  go_wp2_with fail
  rw [hg] at j0
  generalize w.alloc (.cells #[.bool false, .slice none 0 0, .bool false, .slice none 0 0] 26) = W0 at *
  have Hg := hid hg
  have HB := hid hB
  clear hB hg
  refine (rOf z _ h1 h2).mono ?_
  rintro e w1 ⟨r1, R1, o1, e1, rfl, hn1, hb1⟩
  have j1 := j0.step hb1
  have hB1 := hid (bthen HB.out hb1 (Nat.le_refl _))
  clear j0 hb1
  go_wp2_with fail
  refine (rOf 1 _ (by decide) (by decide)).mono ?_
  rintro e w2 ⟨r2, R2, o2, e2, rfl, hn2, hb2⟩
  have j2 := j1.step hb2
  have hq : Qf w2 r1 R1 o1 e1 r2 R2 o2 e2 ((z : Int) : Rat) := ⟨by rw [Rat.num_intCast]; exact hn1.below hb2, by rw [Rat.den_intCast]; exact hn2⟩
  have hB2 := bthen hB1.out hb2 (Nat.le_refl _)
  have h11 := hid (below4 hB2 (show w.heap.size ≤ g by have := Hg.out; omega) (.bool r1) (.slice R1 o1 e1) (.bool r2) (.slice R2 o2 e2))
  have m1 := hid (hq.offbox j2 (noInt_four _ _ _ _ _ _ _ _) (gb4' _ _ (.bool r1) (.slice R1 o1 e1) (.bool r2) (.slice R2 o2 e2)))
  have hl10 := j2.lt
  obtain ⟨i0, i1, i2, i3, i4, i5, i6, i7⟩ := j2.c4
  clear j1 j2 hq hn1 hn2 hb2 hB2
  go_wp2
  exact bodyPost_ret (v := .agg #[.bool r1, .slice R1 o1 e1, .bool r2, .slice R2 o2 e2]) (by simp [results, Tryz.results88, go_sem, i0, i1, i2, i3]) rfl ⟨_, _, _, _, _, _, _, _, rfl, m1.out, h11.out⟩

end Go.Proofs.YtffipjofefemiaaGreatDoor
