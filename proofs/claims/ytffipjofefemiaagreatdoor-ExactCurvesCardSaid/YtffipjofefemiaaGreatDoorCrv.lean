/- Curves in memory: a slice of starts and a slice of slopes, in whatever form. No program in it. -/
import Derived.Test.YtffipjofefemiaaGreatDoorSi
import Derived.Test.YtffipjofefemiaaGreatDoorMJ
import Derived.Test.YtffipjofefemiaaGreatDoorRovr
namespace Go.Proofs.YtffipjofefemiaaGreatDoor
open Go.RowKit Kb

/-- The slice at B reads as the fractions Q i of size k. -/
def Sq (w : World) (B0 : Nat) (B : Option Addr) (m k : Nat) (Q : Nat → Rat) : Prop := ∀ i, i < m → ∃ ad s1 A1 n1 c1 s2 A2 n2 c2, B = some ad ∧ ad.block < B0 ∧ w.cell? (ad.add (i * 4)) = some (.bool s1) ∧ w.cell? ⟨(ad.add (i * 4)).block, (ad.add (i * 4)).off + 1, none⟩ = some (.slice A1 n1 c1) ∧ w.cell? ⟨(ad.add (i * 4)).block, (ad.add (i * 4)).off + 2, none⟩ = some (.bool s2) ∧ w.cell? ⟨(ad.add (i * 4)).block, (ad.add (i * 4)).off + 3, none⟩ = some (.slice A2 n2 c2) ∧ Ri w s1 A1 n1 c1 s2 A2 n2 c2 k (Q i)
/-- A curve: starts and slopes, below block B0. -/
structure Cv (w : World) (B0 : Nat) (A : Option Addr) (n : Nat) (B : Option Addr) (m k : Nat) (X : Nat → Int) (Q : Nat → Rat) : Prop where
  s : Si w B0 A n X
  q : Sq w B0 B m k Q
  le : B0 ≤ w.heap.size
section
variable {w w' : World} {B0 g n m k : Nat} {A B : Option Addr} {X : Nat → Int} {Q : Nat → Rat}
theorem add_at (ad : Addr) (j : Nat) : ad.add (j + 1) = ⟨ad.block, ad.off + (j + 1), none⟩ := by unfold Addr.add; rw [if_neg (by omega)]
theorem in_add {ad : Addr} {j B : Nat} (h : ad.block < B) : (ad.add j).block < B := by rw [block_of_add]; exact h
theorem ne_add {ad : Addr} {j B : Nat} (h : ad.block ≠ B) : (ad.add j).block ≠ B := by rw [block_of_add]; exact h
theorem Sq.below (h : Sq w B0 B m k Q) (hb : Below w.heap.size w w') (hB : B0 ≤ w.heap.size) : Sq w' B0 B m k Q := fun i hi => by
  obtain ⟨ad, s1, A1, n1, c1, s2, A2, n2, c2, e, h1, h2, h3, h4, h5, h6⟩ := h i hi
  have l : ad.block < w.heap.size := by omega
  exact ⟨ad, s1, A1, n1, c1, s2, A2, n2, c2, e, h1, (hb.cell (p := ad.add (i * 4)) (in_add l)).trans h2, (hb.cell (p := ⟨(ad.add (i * 4)).block, (ad.add (i * 4)).off + 1, none⟩) (in_add l)).trans h3, (hb.cell (p := ⟨(ad.add (i * 4)).block, (ad.add (i * 4)).off + 2, none⟩) (in_add l)).trans h4, (hb.cell (p := ⟨(ad.add (i * 4)).block, (ad.add (i * 4)).off + 3, none⟩) (in_add l)).trans h5, h6.below hb⟩
theorem Cv.below (h : Cv w B0 A n B m k X Q) (hb : Below w.heap.size w w') : Cv w' B0 A n B m k X Q := ⟨h.s.below hb h.le, h.q.below hb h.le, Nat.le_trans h.le hb.size⟩
theorem Ri.offbox {s1 s2 : Bool} {A1 A2 : Option Addr} {n1 c1 n2 c2 : Nat} {r : Rat} {C : Array Value} {T : TypeId} (q : Ri w s1 A1 n1 c1 s2 A2 n2 c2 k r) (hb : w.heap[g]? = some (.cells C T (0, 0))) (hC : NoInt C) (hg : w.grownBy w' (some g)) : Ri w' s1 A1 n1 c1 s2 A2 n2 c2 k r :=
  ⟨q.q.offbox hb hC hg, q.h1, q.h2⟩
theorem cell_grown {p : Addr} {v : Value} (hg : w.grownBy w' (some g)) (hl : p.block < w.heap.size) (hne : p.block ≠ g) (h : w.cell? p = some v) : w'.cell? p = some v :=
  (World.cell?_of_block (hg.block p.block hl (fun e => hne (by injection e)))).trans h
/-- A block behind the curve is written. -/
theorem Cv.off {C : Array Value} {T : TypeId} (h : Cv w B0 A n B m k X Q) (hb : w.heap[g]? = some (.cells C T (0, 0))) (hC : NoInt C) (hg : w.grownBy w' (some g)) (hB : B0 ≤ g) : Cv w' B0 A n B m k X Q := by
  have hle := h.le
  refine ⟨fun i hi => ?_, fun i hi => ?_, Nat.le_trans h.le hg.size⟩
  · obtain ⟨ad, e, h1, h2⟩ := h.s i hi
    exact ⟨ad, e, h1, cell_grown (p := ad.add i) hg (in_add (show ad.block < w.heap.size by omega)) (ne_add (show ad.block ≠ g by omega)) h2⟩
  · obtain ⟨ad, s1, A1, n1, c1, s2, A2, n2, c2, e, h1, h2, h3, h4, h5, h6⟩ := h.q i hi
    have l1 : ad.block < w.heap.size := by omega
    have l2 : ad.block ≠ g := by omega
    exact ⟨ad, s1, A1, n1, c1, s2, A2, n2, c2, e, h1, cell_grown (p := ad.add (i * 4)) hg (in_add l1) (ne_add l2) h2, cell_grown (p := ⟨(ad.add (i * 4)).block, (ad.add (i * 4)).off + 1, none⟩) hg (in_add l1) (ne_add l2) h3, cell_grown (p := ⟨(ad.add (i * 4)).block, (ad.add (i * 4)).off + 2, none⟩) hg (in_add l1) (ne_add l2) h4, cell_grown (p := ⟨(ad.add (i * 4)).block, (ad.add (i * 4)).off + 3, none⟩) hg (in_add l1) (ne_add l2) h5, h6.offbox hb hC hg⟩
end
/-- A valid curve of few numbers. -/
structure Okc (n : Nat) (X : Nat → Int) (Q : Nat → Rat) : Prop where
  few : n ≤ 12
  inc : Kc.Inc n X
  far : ∀ i, i < n → -10000000 ≤ X i ∧ X i ≤ 10000000
  pos : ∀ i, i < n → 0 ≤ Q i
theorem le_of_small {z : Int} (h : z.natAbs < 4294967296) : Le 2 z := by
  unfold Le; rw [show (65536 : Nat) ^ 2 = 4294967296 from rfl]; exact h
theorem Okc.ql {n : Nat} {X : Nat → Int} {Q : Nat → Rat} (h : Okc n X Q) {i : Nat} (hi : i < n) : QL 2 ((X i : Int) : Rat) := whole_ql (le_of_small (by have := h.far i hi; omega)) (by decide)

end Go.Proofs.YtffipjofefemiaaGreatDoor
