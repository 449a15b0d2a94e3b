/- Two boxes of integers, made in any order. -/
import Derived.Test.YtffipjofefemiaaGreatDoorMJ
namespace Go.Proofs.YtffipjofefemiaaGreatDoor
open Go.RowKit Kb

/-- One variable of an integer has been made. -/
def One (M : World → Prop) (N : Nat) (x : Int) (s : Value) (w : World) : Prop := ∃ g r A n c, s = .pointer (some ⟨g, 0, none⟩) ∧ N ≤ g ∧ Jb w g r A n c x ∧ M w
section
variable {M : World → Prop} {N g n c : Nat} {x : Int} {w : World} {r : Bool} {A : Option Addr}
theorem one1 (K : Clo M N) (hM : M w) (k : Zn w r A n c x) (hN : N ≤ w.heap.size) : One M N x (.pointer (some ⟨w.heap.size, 0, none⟩)) (w.alloc (.cells #[.bool r, .slice A n c] 24)) :=
  ⟨_, r, A, n, c, rfl, hN, Jb.made k, K.below hM al1⟩
theorem one2 (K : Clo M N) (hM : M w) (k : Zn w r A n c x) (q : Bq w g N) : One M N x (.pointer (some ⟨g, 0, none⟩)) ((w.setCell ⟨g, 0, none⟩ (.bool r)).setCell ⟨g, 1, none⟩ (.slice A n c)) :=
  ⟨_, r, A, n, c, rfl, q.2, Jb.fill q.1 k, K.set hM q⟩
end

/-- Two boxes of integers besides. -/
structure M2 (M : World → Prop) (g : Nat) (r : Bool) (A : Option Addr) (n c : Nat) (x : Int) (h : Nat) (r' : Bool) (A' : Option Addr) (n' c' : Nat) (y : Int) (w : World) : Prop where
  o : M w
  l : Jb w g r A n c x
  m : Jb w h r' A' n' c' y
theorem Clo.m2 {M : World → Prop} {N N' g h n c n' c' : Nat} {x y : Int} {r r' : Bool} {A A' : Option Addr} (K : Clo M N) (hN : N ≤ N') (hg : g < N') (hh : h < N') : Clo (M2 M g r A n c x h r' A' n' c' y) N' :=
  ⟨fun k hb => ⟨K.below k.o hb, k.l.below hb, k.m.below hb⟩, fun k q => ⟨K.set k.o ⟨q.1, Nat.le_trans hN q.2⟩, k.l.off q.1 (noInt_zero _ _ _ _) (Nat.ne_of_lt (Nat.lt_of_lt_of_le hg q.2)), k.m.off q.1 (noInt_zero _ _ _ _) (Nat.ne_of_lt (Nat.lt_of_lt_of_le hh q.2))⟩⟩

end Go.Proofs.YtffipjofefemiaaGreatDoor

namespace Go.Proofs.YtffipjofefemiaaGreatDoor
open Go.RowKit Kb

/-- A bound that no tactic looks into. -/
structure Bd (k : Nat) (z : Int) : Prop where
  out : Le k z
/-- Two variables of integers have been made, at N or behind it. -/
def Tw (M : World → Prop) (N : Nat) (x y : Int) (s t : Value) (w : World) : Prop :=
  ∃ g r A n c h r' A' n' c', s = .pointer (some ⟨g, 0, none⟩) ∧ t = .pointer (some ⟨h, 0, none⟩) ∧ N ≤ g ∧ N ≤ h ∧ g ≠ h ∧ Jb w g r A n c x ∧ Jb w h r' A' n' c' y ∧ M w
section
variable {M : World → Prop} {N g h n c n' c' : Nat} {x y : Int} {w : World} {r r' : Bool} {A A' : Option Addr}
theorem tw1 (K : Clo M N) (hM : M w) (k : Zn w r A n c x) (k' : Zn w r' A' n' c' y) (hN : N ≤ w.heap.size) :
    Tw M N x y (.pointer (some ⟨w.heap.size, 0, none⟩)) (.pointer (some ⟨w.heap.size + 1, 0, none⟩)) ((w.alloc (.cells #[.bool r, .slice A n c] 24)).alloc (.cells #[.bool r', .slice A' n' c'] 24)) :=
  ⟨_, r, A, n, c, _, r', A', n', c', rfl, rfl, hN, Nat.le_succ_of_le hN, by omega, ⟨box1 _ _ _, k.below al2⟩, ⟨box2 _ _ _, k'.below al2⟩, K.below hM al2⟩
theorem tw2 (K : Clo M N) (hM : M w) (k : Zn w r A n c x) (k' : Zn w r' A' n' c' y) (hN : N ≤ w.heap.size) :
    Tw M N x y (.pointer (some ⟨w.heap.size + 1, 0, none⟩)) (.pointer (some ⟨w.heap.size, 0, none⟩)) ((w.alloc (.cells #[.bool r', .slice A' n' c'] 24)).alloc (.cells #[.bool r, .slice A n c] 24)) :=
  ⟨_, r, A, n, c, _, r', A', n', c', rfl, rfl, Nat.le_succ_of_le hN, hN, by omega, ⟨box2 _ _ _, k.below al2⟩, ⟨box1 _ _ _, k'.below al2⟩, K.below hM al2⟩
theorem tw3 (K : Clo M N) (hM : M w) (k : Zn w r A n c x) (k' : Zn w r' A' n' c' y) (q : Bq w g N) (hN : N ≤ w.heap.size) :
    Tw M N x y (.pointer (some ⟨g, 0, none⟩)) (.pointer (some ⟨w.heap.size, 0, none⟩)) (((w.setCell ⟨g, 0, none⟩ (.bool r)).setCell ⟨g, 1, none⟩ (.slice A n c)).alloc (.cells #[.bool r', .slice A' n' c'] 24)) :=
  ⟨_, r, A, n, c, _, r', A', n', c', rfl, rfl, q.2, hN, Nat.ne_of_lt q.lt, (Jb.fill q.1 k).below al1, ⟨Bk.of_alloc _ _ (by simp [World.setCell]), (k'.offbox q.1 (noInt_zero _ _ _ _) (gb2 _ _ _ _ _ _)).below al1⟩, K.below (K.set hM q) al1⟩
theorem tw4 (K : Clo M N) (hM : M w) (k : Zn w r A n c x) (k' : Zn w r' A' n' c' y) (q : Bq w h N) (hN : N ≤ w.heap.size) :
    Tw M N x y (.pointer (some ⟨w.heap.size, 0, none⟩)) (.pointer (some ⟨h, 0, none⟩)) (((w.setCell ⟨h, 0, none⟩ (.bool r')).setCell ⟨h, 1, none⟩ (.slice A' n' c')).alloc (.cells #[.bool r, .slice A n c] 24)) :=
  ⟨_, r, A, n, c, _, r', A', n', c', rfl, rfl, hN, q.2, fun e => Nat.ne_of_lt q.lt e.symm, ⟨Bk.of_alloc _ _ (by simp [World.setCell]), (k.offbox q.1 (noInt_zero _ _ _ _) (gb2 _ _ _ _ _ _)).below al1⟩, (Jb.fill q.1 k').below al1, K.below (K.set hM q) al1⟩
theorem tw5 (K : Clo M N) (hM : M w) (k : Zn w r A n c x) (k' : Zn w r' A' n' c' y) (q : Bq w g N) (q' : Bq w h N) (hne : g ≠ h) :
    Tw M N x y (.pointer (some ⟨g, 0, none⟩)) (.pointer (some ⟨h, 0, none⟩)) ((((w.setCell ⟨g, 0, none⟩ (.bool r)).setCell ⟨g, 1, none⟩ (.slice A n c)).setCell ⟨h, 0, none⟩ (.bool r')).setCell ⟨h, 1, none⟩ (.slice A' n' c')) := by
  have q1 := q'.set (h := g) (fun e => hne e.symm) (.bool r) (.slice A n c)
  exact ⟨_, r, A, n, c, _, r', A', n', c', rfl, rfl, q.2, q'.2, hne, (Jb.fill q.1 k).off q1.1 (noInt_zero _ _ _ _) hne, Jb.fill q1.1 (k'.offbox q.1 (noInt_zero _ _ _ _) (gb2 _ _ _ _ _ _)), K.set (K.set hM q) q1⟩
end

end Go.Proofs.YtffipjofefemiaaGreatDoor
