/- Words for basins and marks in memory; names; the small tests of numbers, of the program and of the reference. -/
import Derived.Test.YtndcopljjnbkbaaBase
import Derived.Test.YtndcopljjnbkbaaWbm
namespace Go.Proofs.Ytndcopljjnbkbaa
open Go.RowKit Kb Wb

theorem alo {W : World} {o : Obj} : Below W.heap.size W (W.alloc o) := (Below.refl _ _).alloc (Nat.le_refl _) o
section
variable {W : World}
theorem dr0 : Below W.heap.size W W.drew := (Below.refl _ _).drew
end
theorem ret_bool {a b : Bool} (h : a = b) : Ending.returned (.bool a) = .returned (.bool b) := by rw [h]
theorem add_at (ad : Addr) (j : Nat) : ad.add (j + 1) = ⟨ad.block, ad.off + (j + 1), none⟩ := by unfold Addr.add; rw [if_neg (by omega)]
theorem in_add {ad : Addr} {j B : Nat} (h : ad.block < B) : (ad.add j).block < B := by rw [block_of_add]; exact h
/-- A block that stands. -/
def Bk (W : World) (g : Nat) (o : Obj) : Prop := W.heap[g]? = some o
theorem Bk.below {W W' : World} {g N : Nat} {o : Obj} (h : Bk W g o) (hb : Below N W W') (hN : g < N) : Bk W' g o := (hb.block _ hN).trans h
theorem Bk.step {W W' : World} {g : Nat} {o : Obj} (h : Bk W g o) (hb : Below W.heap.size W W') : Bk W' g o := h.below hb (Array.getElem?_eq_some_iff.1 h).1
theorem Bk.lt {W : World} {g : Nat} {o : Obj} (h : Bk W g o) : g < W.heap.size := (Array.getElem?_eq_some_iff.1 h).1
theorem Bk.of_alloc (w : World) (o : Obj) {g : Nat} (hg : w.heap.size = g) : Bk (w.alloc o) g o := by subst hg; exact heap_alloc_new w o
theorem Bk.alloc {W : World} {g : Nat} {o : Obj} (h : Bk W g o) (o' : Obj) : Bk (W.alloc o') g o := (Below.heap_alloc _ _ _ h.lt).trans h
theorem Bk.c3 {W : World} {g : Nat} {a b c : Value} {T : TypeId} (h : Bk W g (.cells #[a, b, c] T (0, 0))) :
    W.cell? ⟨g, 0, none⟩ = some a ∧ W.cell? ⟨g, 1, none⟩ = some b ∧ W.cell? ⟨g, 2, none⟩ = some c := by
  have hh := fun i => cell_of_row W g i _ T (0, 0) h
  exact ⟨(hh 0).trans rfl, (hh 1).trans rfl, (hh 2).trans rfl⟩

theorem Bk.c2 {W : World} {g : Nat} {a b : Value} {T : TypeId} (h : Bk W g (.cells #[a, b] T (0, 0))) :
    W.cell? ⟨g, 0, none⟩ = some a ∧ W.cell? ⟨g, 1, none⟩ = some b := by
  have hh := fun i => cell_of_row W g i _ T (0, 0) h
  exact ⟨(hh 0).trans rfl, (hh 1).trans rfl⟩

/-- A number of an int. -/
def I64 (x : Int) : Prop := -9223372036854775808 ≤ x ∧ x ≤ 9223372036854775807
/-- The slice at A reads as n pairs of integers, in a block below B0. -/
structure Pa (w : World) (B0 : Nat) (A : Option Addr) (n : Nat) (F S : Nat → Int) : Prop where
  at_ : ∀ i, i < n → ∃ ad, A = some ad ∧ ad.block < B0 ∧ w.cell? (ad.add (i * 2)) = some (.int .i64 (F i)) ∧ w.cell? ⟨(ad.add (i * 2)).block, (ad.add (i * 2)).off + 1, none⟩ = some (.int .i64 (S i)) ∧ I64 (F i) ∧ I64 (S i)
  le : B0 ≤ w.heap.size
theorem Pa.below {w w' : World} {B0 n : Nat} {A : Option Addr} {F S : Nat → Int} (h : Pa w B0 A n F S) (hb : Below w.heap.size w w') : Pa w' B0 A n F S :=
  ⟨fun i hi => by
    obtain ⟨ad, e, h1, h2, h3, h4, h5⟩ := h.at_ i hi
    have l := Nat.lt_of_lt_of_le h1 h.le
    exact ⟨ad, e, h1, (hb.cell (p := ad.add (i * 2)) (in_add l)).trans h2, (hb.cell (p := ⟨(ad.add (i * 2)).block, (ad.add (i * 2)).off + 1, none⟩) (in_add l)).trans h3, h4, h5⟩, Nat.le_trans h.le hb.size⟩

/-- Whether a number is within two. -/
def inB (n a b : Int) : Bool := decide (a ≤ n ∧ n ≤ b)
theorem inB_t {n a b : Int} (h : a ≤ n ∧ n ≤ b) : inB n a b = true := decide_eq_true h
theorem inB_f {n a b : Int} (h : ¬ (a ≤ n ∧ n ≤ b)) : inB n a b = false := decide_eq_false h
theorem inB_iff {n a b : Int} : inB n a b = true ↔ a ≤ n ∧ n ≤ b := by unfold inB; exact decide_eq_true_iff

theorem Within_any (n a b : Int) (w : World) :
    Calls Try.prog 71 #[.int .i64 n, .int .i64 a, .int .i64 b] w fun e w' => e = .returned (.bool (inB n a b)) ∧ w = w' := by
  by_cases h1 : a ≤ n <;> by_cases h2 : n ≤ b
  all_goals
    have hp : inB n a b = decide (a ≤ n ∧ n ≤ b) := rfl
    simp only [h1, h2, and_self, and_true, and_false, decide_true, decide_false] at hp
    rw [hp]
    clear hp
    go_enter Try.func71, Try.ntmps71
    go_wp2
    go_ret
    exact ⟨rfl, rfl⟩
theorem inside_any (n a b : Int) (w : World) :
    Calls Try.prog 51 #[.int .i64 n, .int .i64 a, .int .i64 b] w fun e w' => e = .returned (.bool (inB n a b)) ∧ w = w' := by
  by_cases h1 : a ≤ n <;> by_cases h2 : n ≤ b
  all_goals
    have hp : inB n a b = decide (a ≤ n ∧ n ≤ b) := rfl
    simp only [h1, h2, and_self, and_true, and_false, decide_true, decide_false] at hp
    rw [hp]
    clear hp
    go_enter Try.func51, Try.ntmps51
    go_wp2
    go_ret
    exact ⟨rfl, rfl⟩
theorem isLevel_any (n : Int) (w : World) :
    Calls Try.prog 73 #[.int .i64 n] w fun e w' => e = .returned (.bool (inB n (-1000000) 1000000)) ∧ w = w' := by
  go_enter Try.func73, Try.ntmps73
  go_wp2_with ((with_reducible refine (Within_any _ _ _ _).mono ?_); rintro e w' ⟨rfl, rfl⟩)
  go_ret
  exact ⟨rfl, rfl⟩

end Go.Proofs.Ytndcopljjnbkbaa
