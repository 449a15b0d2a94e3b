/- One variable of an integer, made in an open order; boxes besides. -/
import Derived.Test.YtlfeendebbidhaaDoorTwo
namespace Go.Proofs.YtlfeendebbidhaaDoor
open Go.RowKit Kb

/-- One variable of an integer has been made. -/
def One (M : World → Prop) (N : Nat) (x : Int) (s : Value) (w : World) : Prop := ∃ g r A n c, s = .pointer (some ⟨g, 0, none⟩) ∧ N ≤ g ∧ Jb w g r A n c x ∧ M w
section
variable {M : World → Prop} {N g n c : Nat} {x : Int} {w : World} {r : Bool} {A : Option Addr}
theorem one1 (K : Clo M N) (hM : M w) (k : Zn w r A n c x) (hN : N ≤ w.heap.size) : One M N x (.pointer (some ⟨w.heap.size, 0, none⟩)) (w.alloc (.cells #[.bool r, .slice A n c] 24)) :=
  ⟨_, r, A, n, c, rfl, hN, Jb.made k, K.below hM al1⟩
theorem one2 (K : Clo M N) (hM : M w) (k : Zn w r A n c x) (q : Bq w g N) : One M N x (.pointer (some ⟨g, 0, none⟩)) ((w.setCell ⟨g, 0, none⟩ (.bool r)).setCell ⟨g, 1, none⟩ (.slice A n c)) :=
  ⟨_, r, A, n, c, rfl, q.2, Jb.fill q.1 k, K.set hM q⟩
end

/-- Two boxes of integers besides. -/
structure M2 (M : World → Prop) (g : Nat) (r : Bool) (A : Option Addr) (n c : Nat) (x : Int) (h : Nat) (r' : Bool) (A' : Option Addr) (n' c' : Nat) (y : Int) (w : World) : Prop where
  o : M w
  l : Jb w g r A n c x
  m : Jb w h r' A' n' c' y
theorem Clo.m2 {M : World → Prop} {N N' g h n c n' c' : Nat} {x y : Int} {r r' : Bool} {A A' : Option Addr} (K : Clo M N) (hN : N ≤ N') (hg : g < N') (hh : h < N') : Clo (M2 M g r A n c x h r' A' n' c' y) N' :=
  ⟨fun k hb => ⟨K.below k.o hb, k.l.below hb, k.m.below hb⟩, fun k q => ⟨K.set k.o ⟨q.1, Nat.le_trans hN q.2⟩, k.l.off q.1 (noInt_zero _ _ _ _) (Nat.ne_of_lt (Nat.lt_of_lt_of_le hg q.2)), k.m.off q.1 (noInt_zero _ _ _ _) (Nat.ne_of_lt (Nat.lt_of_lt_of_le hh q.2))⟩⟩

end Go.Proofs.YtlfeendebbidhaaDoor
