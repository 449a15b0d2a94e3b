/- Two boxes of integers, made in any order. -/
import Derived.Test.YtlfeendebbidhaaDoorRing0
namespace Go.Proofs.YtlfeendebbidhaaDoor
open Go.RowKit Kb

/-- A new box, not yet written, at N or behind it. -/
def Bq (v : World) (g N : Nat) : Prop := Bk v g (.cells #[.bool false, .slice none 0 0] 24 (0, 0)) ∧ N ≤ g
theorem Bq.step {v u : World} {g N : Nat} (h : Bq v g N) (hb : Below v.heap.size v u) : Bq u g N := ⟨h.1.step hb, h.2⟩
theorem Bq.lt {v : World} {g N : Nat} (h : Bq v g N) : g < v.heap.size := h.1.lt
theorem Bq.set {v : World} {g h N : Nat} (k : Bq v g N) (hne : g ≠ h) (a b : Value) : Bq ((v.setCell ⟨h, 0, none⟩ a).setCell ⟨h, 1, none⟩ b) g N := ⟨k.1.grown (gb2 _ _ _ _ _ _) hne, k.2⟩
section
variable {W v : World} {o p : Obj} {N : Nat}
theorem al1 : Below W.heap.size W (W.alloc o) := (Below.refl _ _).alloc (Nat.le_refl _) o
theorem al2 : Below W.heap.size W ((W.alloc o).alloc p) := below_two W o p
theorem dr0 : Below W.heap.size W W.drew := (Below.refl _ _).drew
theorem dr1 : Below W.heap.size W (W.alloc o).drew := al1.drew
theorem dr2 : Below W.heap.size W ((W.alloc o).alloc p).drew := al2.drew
/-- Behind a call: with no new box ahead of it, with one, with two. -/
theorem sd0 (hb : Below W.drew.heap.size W.drew v) : Below W.heap.size W v := bthen dr0 hb (Nat.le_refl _)
theorem sd1 (hN : N ≤ W.heap.size) (hb : Below (W.alloc (.cells #[.bool false, .slice none 0 0] 24)).drew.heap.size (W.alloc (.cells #[.bool false, .slice none 0 0] 24)).drew v) : Below W.heap.size W v ∧ Bq v W.heap.size N :=
  ⟨bthen dr1 hb (Nat.le_refl _), Bq.step (v := (W.alloc (.cells #[.bool false, .slice none 0 0] 24)).drew) ⟨show Bk (W.alloc (.cells #[.bool false, .slice none 0 0] 24)) W.heap.size _ from Bk.of_alloc W _ rfl, hN⟩ hb⟩
theorem sd2 (hN : N ≤ W.heap.size) (hb : Below ((W.alloc (.cells #[.bool false, .slice none 0 0] 24)).alloc (.cells #[.bool false, .slice none 0 0] 24)).drew.heap.size ((W.alloc (.cells #[.bool false, .slice none 0 0] 24)).alloc (.cells #[.bool false, .slice none 0 0] 24)).drew v) : Below W.heap.size W v ∧ Bq v W.heap.size N ∧ Bq v (W.heap.size + 1) N :=
  ⟨bthen dr2 hb (Nat.le_refl _), Bq.step (v := ((W.alloc (.cells #[.bool false, .slice none 0 0] 24)).alloc (.cells #[.bool false, .slice none 0 0] 24)).drew) ⟨show Bk ((W.alloc (.cells #[.bool false, .slice none 0 0] 24)).alloc (.cells #[.bool false, .slice none 0 0] 24)) W.heap.size _ from box1 _ _ _, hN⟩ hb,
    Bq.step (v := ((W.alloc (.cells #[.bool false, .slice none 0 0] 24)).alloc (.cells #[.bool false, .slice none 0 0] 24)).drew) ⟨show Bk ((W.alloc (.cells #[.bool false, .slice none 0 0] 24)).alloc (.cells #[.bool false, .slice none 0 0] 24)) (W.heap.size + 1) _ from box2 _ _ _, Nat.le_succ_of_le hN⟩ hb⟩
theorem se1 (hN : N ≤ W.heap.size) (hb : Below (W.alloc (.cells #[.bool false, .slice none 0 0] 24)).heap.size (W.alloc (.cells #[.bool false, .slice none 0 0] 24)) v) : Below W.heap.size W v ∧ Bq v W.heap.size N :=
  ⟨bthen al1 hb (Nat.le_refl _), Bq.step ⟨Bk.of_alloc W _ rfl, hN⟩ hb⟩
theorem se2 (hN : N ≤ W.heap.size) (hb : Below ((W.alloc (.cells #[.bool false, .slice none 0 0] 24)).alloc (.cells #[.bool false, .slice none 0 0] 24)).heap.size ((W.alloc (.cells #[.bool false, .slice none 0 0] 24)).alloc (.cells #[.bool false, .slice none 0 0] 24)) v) : Below W.heap.size W v ∧ Bq v W.heap.size N ∧ Bq v (W.heap.size + 1) N :=
  ⟨bthen al2 hb (Nat.le_refl _), Bq.step ⟨box1 _ _ _, hN⟩ hb, Bq.step ⟨box2 _ _ _, Nat.le_succ_of_le hN⟩ hb⟩
end

/-- What stays: when memory is made, and when a new box at N or behind it is written. -/
structure Clo (M : World → Prop) (N : Nat) : Prop where
  below : ∀ {a b : World}, M a → Below a.heap.size a b → M b
  set : ∀ {a : World} {h : Nat} {u v : Value}, M a → Bq a h N → M ((a.setCell ⟨h, 0, none⟩ u).setCell ⟨h, 1, none⟩ v)
/-- Two variables of integers have been made. -/
def Two (M : World → Prop) (x y : Int) (s t : Value) (w : World) : Prop :=
  ∃ g r A n c h r' A' n' c', s = .pointer (some ⟨g, 0, none⟩) ∧ t = .pointer (some ⟨h, 0, none⟩) ∧ Jb w g r A n c x ∧ Jb w h r' A' n' c' y ∧ M w
section
variable {M : World → Prop} {N g h n c n' c' : Nat} {x y : Int} {w : World} {r r' : Bool} {A A' : Option Addr}
theorem two1 (K : Clo M N) (hM : M w) (k : Zn w r A n c x) (k' : Zn w r' A' n' c' y) :
    Two M x y (.pointer (some ⟨w.heap.size, 0, none⟩)) (.pointer (some ⟨w.heap.size + 1, 0, none⟩)) ((w.alloc (.cells #[.bool r, .slice A n c] 24)).alloc (.cells #[.bool r', .slice A' n' c'] 24)) :=
  ⟨_, r, A, n, c, _, r', A', n', c', rfl, rfl, ⟨box1 _ _ _, k.below al2⟩, ⟨box2 _ _ _, k'.below al2⟩, K.below hM al2⟩
theorem two2 (K : Clo M N) (hM : M w) (k : Zn w r A n c x) (k' : Zn w r' A' n' c' y) :
    Two M x y (.pointer (some ⟨w.heap.size + 1, 0, none⟩)) (.pointer (some ⟨w.heap.size, 0, none⟩)) ((w.alloc (.cells #[.bool r', .slice A' n' c'] 24)).alloc (.cells #[.bool r, .slice A n c] 24)) :=
  ⟨_, r, A, n, c, _, r', A', n', c', rfl, rfl, ⟨box2 _ _ _, k.below al2⟩, ⟨box1 _ _ _, k'.below al2⟩, K.below hM al2⟩
theorem two3 (K : Clo M N) (hM : M w) (k : Zn w r A n c x) (k' : Zn w r' A' n' c' y) (q : Bq w g N) :
    Two M x y (.pointer (some ⟨g, 0, none⟩)) (.pointer (some ⟨w.heap.size, 0, none⟩)) (((w.setCell ⟨g, 0, none⟩ (.bool r)).setCell ⟨g, 1, none⟩ (.slice A n c)).alloc (.cells #[.bool r', .slice A' n' c'] 24)) :=
  ⟨_, r, A, n, c, _, r', A', n', c', rfl, rfl, (Jb.fill q.1 k).below al1, ⟨Bk.of_alloc _ _ (by simp [World.setCell]), (k'.offbox q.1 (noInt_zero _ _ _ _) (gb2 _ _ _ _ _ _)).below al1⟩, K.below (K.set hM q) al1⟩
theorem two4 (K : Clo M N) (hM : M w) (k : Zn w r A n c x) (k' : Zn w r' A' n' c' y) (q : Bq w h N) :
    Two M x y (.pointer (some ⟨w.heap.size, 0, none⟩)) (.pointer (some ⟨h, 0, none⟩)) (((w.setCell ⟨h, 0, none⟩ (.bool r')).setCell ⟨h, 1, none⟩ (.slice A' n' c')).alloc (.cells #[.bool r, .slice A n c] 24)) :=
  ⟨_, r, A, n, c, _, r', A', n', c', rfl, rfl, ⟨Bk.of_alloc _ _ (by simp [World.setCell]), (k.offbox q.1 (noInt_zero _ _ _ _) (gb2 _ _ _ _ _ _)).below al1⟩, (Jb.fill q.1 k').below al1, K.below (K.set hM q) al1⟩
theorem two5 (K : Clo M N) (hM : M w) (k : Zn w r A n c x) (k' : Zn w r' A' n' c' y) (q : Bq w g N) (q' : Bq w h N) (hne : g ≠ h) :
    Two M x y (.pointer (some ⟨g, 0, none⟩)) (.pointer (some ⟨h, 0, none⟩)) ((((w.setCell ⟨g, 0, none⟩ (.bool r)).setCell ⟨g, 1, none⟩ (.slice A n c)).setCell ⟨h, 0, none⟩ (.bool r')).setCell ⟨h, 1, none⟩ (.slice A' n' c')) := by
  have q1 := q'.set (h := g) (fun e => hne e.symm) (.bool r) (.slice A n c)
  exact ⟨_, r, A, n, c, _, r', A', n', c', rfl, rfl, (Jb.fill q.1 k).off q1.1 (noInt_zero _ _ _ _) hne, Jb.fill q1.1 (k'.offbox q.1 (noInt_zero _ _ _ _) (gb2 _ _ _ _ _ _)), K.set (K.set hM q) q1⟩
end

section
variable {w wx : World} {g n1 c1 n2 c2 n3 c3 : Nat} {p1 p2 p3 : Bool} {A1 A2 A3 : Option Addr} {x y z : Int}
theorem R3.clo (k : R3 w g p1 A1 n1 c1 x p2 A2 n2 c2 y p3 A3 n3 c3 z wx) : Clo (R3 w g p1 A1 n1 c1 x p2 A2 n2 c2 y p3 A3 n3 c3 z) wx.heap.size :=
  ⟨fun h hb => h.below hb, fun h q => h.off q.1 (noInt_zero _ _ _ _) (Nat.lt_of_lt_of_le k.c.b.lt q.2) (Nat.lt_of_lt_of_le k.tb.2 q.2) (Nat.le_trans k.bl.size q.2)⟩
theorem R3.cells (k : R3 w g p1 A1 n1 c1 x p2 A2 n2 c2 y p3 A3 n3 c3 z wx) : wx.cell? ⟨g, 0, none⟩ = some (.bool p1) ∧ wx.cell? ⟨g, 1, none⟩ = some (.slice A1 n1 c1) ∧ wx.cell? ⟨g + 1, 0, none⟩ = some (.bool p2) ∧ wx.cell? ⟨g + 1, 1, none⟩ = some (.slice A2 n2 c2) ∧ wx.cell? ⟨g + 1 + 1, 0, none⟩ = some (.bool p3) ∧ wx.cell? ⟨g + 1 + 1, 1, none⟩ = some (.slice A3 n3 c3) :=
  ⟨k.a.b.c2.1, k.a.b.c2.2.1, k.b.b.c2.1, k.b.b.c2.2.1, k.c.b.c2.1, k.c.b.c2.2.1⟩
end

end Go.Proofs.YtlfeendebbidhaaDoor

namespace Go.Proofs.YtlfeendebbidhaaDoor
open Go.RowKit Kb

/-- One variable of an integer has been made. -/
def One (M : World → Prop) (N : Nat) (x : Int) (s : Value) (w : World) : Prop := ∃ g r A n c, s = .pointer (some ⟨g, 0, none⟩) ∧ N ≤ g ∧ Jb w g r A n c x ∧ M w
section
variable {M : World → Prop} {N g n c : Nat} {x : Int} {w : World} {r : Bool} {A : Option Addr}
theorem one1 (K : Clo M N) (hM : M w) (k : Zn w r A n c x) (hN : N ≤ w.heap.size) : One M N x (.pointer (some ⟨w.heap.size, 0, none⟩)) (w.alloc (.cells #[.bool r, .slice A n c] 24)) :=
  ⟨_, r, A, n, c, rfl, hN, Jb.made k, K.below hM al1⟩
theorem one2 (K : Clo M N) (hM : M w) (k : Zn w r A n c x) (q : Bq w g N) : One M N x (.pointer (some ⟨g, 0, none⟩)) ((w.setCell ⟨g, 0, none⟩ (.bool r)).setCell ⟨g, 1, none⟩ (.slice A n c)) :=
  ⟨_, r, A, n, c, rfl, q.2, Jb.fill q.1 k, K.set hM q⟩
end

/-- Two boxes of integers besides. -/
structure M2 (M : World → Prop) (g : Nat) (r : Bool) (A : Option Addr) (n c : Nat) (x : Int) (h : Nat) (r' : Bool) (A' : Option Addr) (n' c' : Nat) (y : Int) (w : World) : Prop where
  o : M w
  l : Jb w g r A n c x
  m : Jb w h r' A' n' c' y
theorem Clo.m2 {M : World → Prop} {N N' g h n c n' c' : Nat} {x y : Int} {r r' : Bool} {A A' : Option Addr} (K : Clo M N) (hN : N ≤ N') (hg : g < N') (hh : h < N') : Clo (M2 M g r A n c x h r' A' n' c' y) N' :=
  ⟨fun k hb => ⟨K.below k.o hb, k.l.below hb, k.m.below hb⟩, fun k q => ⟨K.set k.o ⟨q.1, Nat.le_trans hN q.2⟩, k.l.off q.1 (noInt_zero _ _ _ _) (Nat.ne_of_lt (Nat.lt_of_lt_of_le hg q.2)), k.m.off q.1 (noInt_zero _ _ _ _) (Nat.ne_of_lt (Nat.lt_of_lt_of_le hh q.2))⟩⟩

end Go.Proofs.YtlfeendebbidhaaDoor

namespace Go.Proofs.YtlfeendebbidhaaDoor
open Go.RowKit Kb

/-- A bound that no tactic looks into. -/
structure Bd (k : Nat) (z : Int) : Prop where
  out : Le k z
/-- Two variables of integers have been made, at N or behind it. -/
def Tw (M : World → Prop) (N : Nat) (x y : Int) (s t : Value) (w : World) : Prop :=
  ∃ g r A n c h r' A' n' c', s = .pointer (some ⟨g, 0, none⟩) ∧ t = .pointer (some ⟨h, 0, none⟩) ∧ N ≤ g ∧ N ≤ h ∧ g ≠ h ∧ Jb w g r A n c x ∧ Jb w h r' A' n' c' y ∧ M w
section
variable {M : World → Prop} {N g h n c n' c' : Nat} {x y : Int} {w : World} {r r' : Bool} {A A' : Option Addr}
theorem tw1 (K : Clo M N) (hM : M w) (k : Zn w r A n c x) (k' : Zn w r' A' n' c' y) (hN : N ≤ w.heap.size) :
    Tw M N x y (.pointer (some ⟨w.heap.size, 0, none⟩)) (.pointer (some ⟨w.heap.size + 1, 0, none⟩)) ((w.alloc (.cells #[.bool r, .slice A n c] 24)).alloc (.cells #[.bool r', .slice A' n' c'] 24)) :=
  ⟨_, r, A, n, c, _, r', A', n', c', rfl, rfl, hN, Nat.le_succ_of_le hN, by omega, ⟨box1 _ _ _, k.below al2⟩, ⟨box2 _ _ _, k'.below al2⟩, K.below hM al2⟩
theorem tw2 (K : Clo M N) (hM : M w) (k : Zn w r A n c x) (k' : Zn w r' A' n' c' y) (hN : N ≤ w.heap.size) :
    Tw M N x y (.pointer (some ⟨w.heap.size + 1, 0, none⟩)) (.pointer (some ⟨w.heap.size, 0, none⟩)) ((w.alloc (.cells #[.bool r', .slice A' n' c'] 24)).alloc (.cells #[.bool r, .slice A n c] 24)) :=
  ⟨_, r, A, n, c, _, r', A', n', c', rfl, rfl, Nat.le_succ_of_le hN, hN, by omega, ⟨box2 _ _ _, k.below al2⟩, ⟨box1 _ _ _, k'.below al2⟩, K.below hM al2⟩
theorem tw3 (K : Clo M N) (hM : M w) (k : Zn w r A n c x) (k' : Zn w r' A' n' c' y) (q : Bq w g N) (hN : N ≤ w.heap.size) :
    Tw M N x y (.pointer (some ⟨g, 0, none⟩)) (.pointer (some ⟨w.heap.size, 0, none⟩)) (((w.setCell ⟨g, 0, none⟩ (.bool r)).setCell ⟨g, 1, none⟩ (.slice A n c)).alloc (.cells #[.bool r', .slice A' n' c'] 24)) :=
  ⟨_, r, A, n, c, _, r', A', n', c', rfl, rfl, q.2, hN, Nat.ne_of_lt q.lt, (Jb.fill q.1 k).below al1, ⟨Bk.of_alloc _ _ (by simp [World.setCell]), (k'.offbox q.1 (noInt_zero _ _ _ _) (gb2 _ _ _ _ _ _)).below al1⟩, K.below (K.set hM q) al1⟩
theorem tw4 (K : Clo M N) (hM : M w) (k : Zn w r A n c x) (k' : Zn w r' A' n' c' y) (q : Bq w h N) (hN : N ≤ w.heap.size) :
    Tw M N x y (.pointer (some ⟨w.heap.size, 0, none⟩)) (.pointer (some ⟨h, 0, none⟩)) (((w.setCell ⟨h, 0, none⟩ (.bool r')).setCell ⟨h, 1, none⟩ (.slice A' n' c')).alloc (.cells #[.bool r, .slice A n c] 24)) :=
  ⟨_, r, A, n, c, _, r', A', n', c', rfl, rfl, hN, q.2, fun e => Nat.ne_of_lt q.lt e.symm, ⟨Bk.of_alloc _ _ (by simp [World.setCell]), (k.offbox q.1 (noInt_zero _ _ _ _) (gb2 _ _ _ _ _ _)).below al1⟩, (Jb.fill q.1 k').below al1, K.below (K.set hM q) al1⟩
theorem tw5 (K : Clo M N) (hM : M w) (k : Zn w r A n c x) (k' : Zn w r' A' n' c' y) (q : Bq w g N) (q' : Bq w h N) (hne : g ≠ h) :
    Tw M N x y (.pointer (some ⟨g, 0, none⟩)) (.pointer (some ⟨h, 0, none⟩)) ((((w.setCell ⟨g, 0, none⟩ (.bool r)).setCell ⟨g, 1, none⟩ (.slice A n c)).setCell ⟨h, 0, none⟩ (.bool r')).setCell ⟨h, 1, none⟩ (.slice A' n' c')) := by
  have q1 := q'.set (h := g) (fun e => hne e.symm) (.bool r) (.slice A n c)
  exact ⟨_, r, A, n, c, _, r', A', n', c', rfl, rfl, q.2, q'.2, hne, (Jb.fill q.1 k).off q1.1 (noInt_zero _ _ _ _) hne, Jb.fill q1.1 (k'.offbox q.1 (noInt_zero _ _ _ _) (gb2 _ _ _ _ _ _)), K.set (K.set hM q) q1⟩
end

end Go.Proofs.YtlfeendebbidhaaDoor
