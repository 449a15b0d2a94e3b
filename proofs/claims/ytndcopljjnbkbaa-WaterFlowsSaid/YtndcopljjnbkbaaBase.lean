/- Words for memory: slices that read as limbs, rows that a call has made. For any worlds. -/
import Derived.Test.YtndcopljjnbkbaaChecked
import Derived.WalkKit
import Derived.WalkSpells
import Derived.WalkLawsBesides
import Derived.Deep.Draws
import Derived.WalkSmall
import Derived.Deep.QuietTactic
import Derived.BigQuiet
import Derived.Test.YtndcopljjnbkbaaNum
import Derived.Test.YtndcopljjnbkbaaBits
namespace Go.Proofs.Ytndcopljjnbkbaa
open Go.RowKit Kb

theorem hid {p : Prop} (h : p) : Hid p := h
theorem block_of_add (a : Addr) (n : Nat) : (a.add n).block = a.block := by unfold Addr.add; split <;> rfl
theorem addr_zero (a : Addr) : a.add 0 = a := by unfold Addr.add; simp
theorem add_of_add (a : Addr) (i j : Nat) : (a.add i).add j = a.add (i + j) := by
  unfold Addr.add
  by_cases hi : i = 0 <;> by_cases hj : j = 0 <;> simp [hi, hj, Nat.add_assoc]

/-- The slice at A reads as the numbers xs of kind k. -/
def Sl (w : World) (k : IntKind) (A : Option Addr) (xs : List Nat) : Prop :=
  ∀ i, i < xs.length → ∃ ad, A = some ad ∧ ad.block < w.heap.size ∧ w.cell? (ad.add i) = some (.int k (nth xs i))

section
variable {w w' : World} {k : IntKind} {A : Option Addr} {xs : List Nat}
theorem Sl.nil (w : World) (k : IntKind) (A : Option Addr) : Sl w k A [] := fun i h => by simp at h
theorem Sl.keep (h : Sl w k A xs) (hz : w.heap.size ≤ w'.heap.size) (hk : ∀ p : Addr, p.block < w.heap.size → w'.cell? p = w.cell? p) : Sl w' k A xs := fun i hi => by
  obtain ⟨ad, e, hb, hc⟩ := h i hi
  exact ⟨ad, e, by omega, (hk _ (by rw [block_of_add]; exact hb)).trans hc⟩
theorem Sl.below (h : Sl w k A xs) (hb : Below w.heap.size w w') : Sl w' k A xs := h.keep hb.size fun _ hp => hb.cell hp
theorem Sl.take (h : Sl w k A xs) (n : Nat) : Sl w k A (xs.take n) := fun i hi => by
  rw [List.length_take] at hi
  obtain ⟨ad, e, hb, hc⟩ := h i (by omega)
  exact ⟨ad, e, hb, by rw [hc, nth_take (by omega)]⟩
theorem Sl.drop (h : Sl w k A xs) (n : Nat) : Sl w k (A.map (·.add n)) (xs.drop n) := fun i hi => by
  rw [List.length_drop] at hi
  obtain ⟨ad, e, hb, hc⟩ := h (n + i) (by omega)
  subst e
  exact ⟨ad.add n, rfl, by rw [block_of_add]; exact hb, by rw [add_of_add, hc, nth_drop]⟩
end

/-- Nothing but draws. -/
def Qt (w w' : World) : Prop := ∃ n, w.drewN n = w'
theorem Qt.refl (w : World) : Qt w w := ⟨0, rfl⟩
theorem Qt.drewN {w w' : World} (h : Qt w w') (n : Nat) : Qt w (w'.drewN n) := by
  obtain ⟨m, rfl⟩ := h; exact ⟨m + n, (World.drewN_drewN ..).symm⟩
theorem Qt.drew {w w' : World} (h : Qt w w') : Qt w w'.drew := by
  obtain ⟨m, rfl⟩ := h; exact ⟨m + 1, rfl⟩
theorem Qt.trans {a b c : World} (h : Qt a b) (k : Qt b c) : Qt a c := by
  obtain ⟨m, rfl⟩ := k; exact h.drewN m
theorem Qt.below {w w' : World} (h : Qt w w') (B : Nat) : Below B w w' := by
  obtain ⟨m, rfl⟩ := h; exact below_drewN (Below.refl _ _) m
theorem Sl.qt {w w' : World} {k : IntKind} {A : Option Addr} {xs : List Nat} (h : Sl w k A xs) (hq : Qt w w') : Sl w' k A xs := h.below (hq.below _)
theorem quiet_left {P : Program} {f : FuncId} {args : Array Value} {w : World} {n : Nat} {v : Value}
    (h : Calls P f args (w.drewN n) fun e w' => e = .returned v ∧ w.drewN n = w') : Calls P f args (w.drewN n) fun e w'' => e = .returned v ∧ ∃ m, w'' = w.drewN m :=
  h.mono fun _ _ ⟨he, hm⟩ => ⟨he, n, hm.symm⟩
theorem quiet_qt {P : Program} {f : FuncId} {args : Array Value} {w : World} {n : Nat} {v : Value}
    (h : Calls P f args (w.drewN n) fun e w' => e = .returned v ∧ Qt (w.drewN n) w') : Calls P f args (w.drewN n) fun e w'' => e = .returned v ∧ ∃ m, w'' = w.drewN m :=
  h.mono fun _ _ ⟨he, m, hm⟩ => ⟨he, n + m, by rw [← hm, World.drewN_drewN]⟩

/-- The slice v is the number a: its limbs, no 0 at the end. -/
def Nm (w : World) (v : Value) (a : Nat) : Prop :=
  ∃ A c, v = .slice A (dig a).length c ∧ Sl w .u16 A (dig a) ∧ (dig a).length ≤ c ∧ c ≤ maxLen
theorem Nm.below {w w' : World} {v : Value} {a : Nat} (h : Nm w v a) (hb : Below w.heap.size w w') : Nm w' v a := by
  obtain ⟨A, c, e, h1, h2, h3⟩ := h
  exact ⟨A, c, e, h1.below hb, h2, h3⟩
theorem Nm.qt {w w' : World} {v : Value} {a : Nat} (h : Nm w v a) (hq : Qt w w') : Nm w' v a := h.below (hq.below _)
theorem nm_nil (w : World) : Nm w (.slice none 0 0) 0 := ⟨none, 0, by rw [dig_zero]; rfl, by rw [dig_zero]; exact Sl.nil _ _ _, by rw [dig_zero]; exact Nat.le_refl _, by unfold maxLen; omega⟩
theorem Nm.len {w : World} {v : Value} {a : Nat} (h : Nm w v a) : (dig a).length ≤ 9223372036854775807 := by
  obtain ⟨A, c, _, _, h2, h3⟩ := h
  unfold maxLen at h3
  omega

/-- The cells of a row of numbers. -/
def rowOf (k : IntKind) (xs : List Nat) : Array Value := (xs.map fun (x : Nat) => Value.int k (x : Int)).toArray
/-- Numbers as values of kind k. -/
def vals (k : IntKind) (xs : List Nat) : List Value := xs.map fun (x : Nat) => Value.int k (x : Int)
theorem vals_snoc (k : IntKind) (xs : List Nat) (x : Nat) (X : Int) (h : X = (x : Int)) : vals k xs ++ [Value.int k X] = vals k (xs ++ [x]) := by subst h; simp [vals]
theorem vals_length (k : IntKind) (xs : List Nat) : (vals k xs).length = xs.length := by simp [vals]
/-- What the call owns reads. -/
theorem Sl.of_own {w : World} {base n cap : Nat} {e : TypeId} {k : IntKind} {A : Option Addr} {xs : List Nat} (h : w.ownsRow base e 1 (.slice A n cap) n (vals k xs)) : Sl w k A xs := fun i hi => by
  have hl := h.1
  rw [vals_length] at hl
  rcases h.2 with ⟨_, h2⟩ | ⟨g, c, cur, hv, _, hg, _⟩
  · omega
  · injection hv with h1
    subst h1
    exact ⟨_, rfl, (Array.getElem?_eq_some_iff.1 hg).1, h.cells (g := g) rfl i _ (by simp [vals, hi, nth_eq hi])⟩
theorem Sl.cells {w : World} {k : IntKind} {ad : Addr} {xs : List Nat} (h : Sl w k (some ad) xs) : ∀ j u, (vals k xs)[j]? = some u → w.cell? (ad.add j) = some u := fun j u hu => by
  have hj : j < xs.length := by
    rcases Nat.lt_or_ge j xs.length with h1 | h1
    · exact h1
    · rw [List.getElem?_eq_none (by rw [vals_length]; exact h1)] at hu; cases hu
  obtain ⟨ad', e, _, hc⟩ := h j hj
  injection e with e
  subst e
  rw [hc, ← hu]
  simp [vals, hj, nth_eq hj]
theorem vals_one (k : IntKind) (xs : List Nat) : ∀ u ∈ vals k xs, u.oneCell' = true := fun u hu => by
  obtain ⟨_, _, rfl⟩ := List.mem_map.1 hu
  rfl
/-- What is owned and not empty lies in a block of its own. -/
theorem own_form {w : World} {base n : Nat} {e : TypeId} {k : IntKind} {v : Value} {xs : List Nat} (h : w.ownsRow base e 1 v n (vals k xs)) (hn : 0 < n) :
    ∃ g c, v = .slice (some ⟨g, 0, none⟩) n c ∧ base ≤ g ∧ n ≤ c ∧ c ≤ maxLen := by
  rcases h.2 with ⟨_, h2⟩ | ⟨g, c, cur, hv, hb, _, h3, h4, _⟩
  · omega
  · exact ⟨g, c, hv, hb, h3, h4⟩
theorem one_cell (v : Value) (h : v.oneCell' = true) : ∀ u ∈ [v], u.oneCell' = true := fun u hu => by
  rw [List.mem_singleton] at hu; rw [hu]; exact h

theorem _root_.Go.RowKit.Below.drewN' {B : Nat} {a w : World} (h : Below B a w) (n : Nat) : Below B a (w.drewN n) := below_drewN h n
/-- Block g is the row of the numbers xs, nothing else. -/
def Row (w : World) (g : Nat) (t : TypeId) (k : IntKind) (xs : List Nat) : Prop :=
  w.heap[g]? = some (.cells (rowOf k xs) t (0, 0))
theorem Row.new (w : World) (t : TypeId) (k : IntKind) (xs : List Nat) : Row (w.alloc (.cells (rowOf k xs) t)) w.heap.size t k xs := heap_alloc_new w _

section
variable {w w' : World} {g : Nat} {t : TypeId} {k : IntKind} {xs : List Nat}
theorem Row.lt (h : Row w g t k xs) : g < w.heap.size := by
  rcases Nat.lt_or_ge g w.heap.size with hlt | hge
  · exact hlt
  · unfold Row at h; rw [Array.getElem?_eq_none hge] at h; cases h
theorem Row.cell (h : Row w g t k xs) {i : Nat} (hi : i < xs.length) : w.cell? ⟨g, i, none⟩ = some (.int k (nth xs i)) := by
  rw [cell_of_row w g i _ t (0, 0) h]
  simp [rowOf, hi, nth_eq hi]
theorem Row.frozen (h : Row w g t k xs) (i : Nat) : w.frozen? ⟨g, i, none⟩ = false := by
  unfold Row at h
  simp [World.frozen?, h]
theorem Row.set (h : Row w g t k xs) (i v : Nat) : Row (w.setCell ⟨g, i, none⟩ (.int k (v : Int))) g t k (xs.set i v) := by
  unfold Row at h ⊢
  simp only [World.setCell, Array.getElem?_modify, h]
  simp [rowOf, List.map_set]
theorem Row.far (h : Row w g t k xs) {p : Addr} (hp : g ≠ p.block) (u : Value) : Row (w.setCell p u) g t k xs := (Below.heap_setCell w p u g hp).trans h
theorem Row.alloc (h : Row w g t k xs) (o : Obj) : Row (w.alloc o) g t k xs := (Below.heap_alloc w o g h.lt).trans h
theorem Row.below {B : Nat} (h : Row w g t k xs) (hb : Below B w w') (hg : g < B) : Row w' g t k xs := (hb.block g hg).trans h
theorem Row.grown {r : Option Nat} (h : Row w g t k xs) (hb : w.grownBy w' r) (hg : some g ≠ r) : Row w' g t k xs := (hb.block g h.lt hg).trans h
theorem Row.sl (h : Row w g t k xs) : Sl w k (some ⟨g, 0, none⟩) xs := fun i hi =>
  ⟨_, rfl, h.lt, by rw [Addr.add_lit, Nat.zero_add]; exact h.cell hi⟩
theorem madeCells_int (k : IntKind) (n : Nat) : madeCells #[Value.int k 0] (n * 1) = rowOf k (List.replicate n 0) := by
  unfold rowOf
  apply Array.ext
  · simp [madeCells]
  · intro i h1 h2
    simp [madeCells, Nat.mod_one]
/-- 'make([]T, n)' of an integer type: a new row of zeros. -/
theorem run_make_rowOf {P : Program} (T e : TypeId) (i : TypeInfo) (k : IntKind) (L : Int) (n : Nat) (w : World) (ht : P.underlying T = some (.slice e)) (hi : P.info? e = some i) (hz : i.zero = some (.int k 0)) (hs : i.size = 1)
    (hL : L = (n : Int)) (hn : n ≤ 2000000000) (hb : i.bytes ≤ 8) :
    (Instr.makeSlice T (.int .i64 L) (.int .i64 L)).run P w = .ok (.slice (some ⟨w.heap.size, 0, none⟩) n n) (w.alloc (.cells (rowOf k (List.replicate n 0)) e)) := by
  subst hL
  have h1 : i.bytes * n ≤ 8 * n := Nat.mul_le_mul_right _ hb
  rw [run_make (P := P) w T e i (.int k 0) ht hi hz .i64 .i64 n n (Int.natCast_nonneg n) (Int.le_refl _) (by rw [← Int.natCast_mul]; omega) (by omega)]
  rw [hs, Int.toNat_natCast, show (Value.int k 0).cells = #[Value.int k 0] from rfl, madeCells_int]
end
theorem row_pad_set {wr : World} {g k n s : Nat} {T : TypeId} {o : List Nat} {S : Int} (hrow : Row wr g T .u16 (o ++ List.replicate (n - k) 0)) (hl : o.length = k) (hk : k < n) (hS : S = (s : Nat)) :
    Row (wr.setCell ⟨g, k, none⟩ (.int .u16 (IntKind.u16.wrap S))) g T .u16 ((o ++ [s % 65536]) ++ List.replicate (n - (k + 1)) 0) := by
  subst hS
  rw [u16_of, ← set_pad hl hk]
  exact hrow.set k _
theorem row_pad_put {wr : World} {g k n s : Nat} {T : TypeId} {o : List Nat} {S : Int} (hrow : Row wr g T .u16 (o ++ List.replicate (n - k) 0)) (hl : o.length = k) (hk : k < n) (hS : S = (s : Nat)) :
    Row (wr.setCell ⟨g, k, none⟩ (.int .u16 S)) g T .u16 ((o ++ [s]) ++ List.replicate (n - (k + 1)) 0) := by
  subst hS
  rw [← set_pad hl hk]
  exact hrow.set k _
theorem val_int {k : IntKind} {a b : Int} (h : a = b) : Value.int k a = Value.int k b := by rw [h]
/-- Block g begins with the numbers xs. -/
def Pre (w : World) (g : Nat) (t : TypeId) (k : IntKind) (xs : List Nat) : Prop :=
  ∃ cur : Array Value, w.heap[g]? = some (.cells cur t (0, 0)) ∧ xs.length ≤ cur.size ∧ ∀ i, i < xs.length → cur[i]? = some (.int k (nth xs i : Nat))
section
variable {w w' : World} {g : Nat} {t : TypeId} {k : IntKind} {xs : List Nat}
theorem Row.pre (h : Row w g t k xs) : Pre w g t k xs := ⟨rowOf k xs, h, by simp [rowOf], fun i hi => by simp [rowOf, hi, nth_eq hi]⟩
theorem Pre.lt (h : Pre w g t k xs) : g < w.heap.size := by
  obtain ⟨cur, h, _⟩ := h
  exact (Array.getElem?_eq_some_iff.1 h).1
theorem Pre.cell (h : Pre w g t k xs) {i : Nat} (hi : i < xs.length) : w.cell? ⟨g, i, none⟩ = some (.int k (nth xs i)) := by
  obtain ⟨cur, h1, h2, h3⟩ := h
  rw [cell_of_row w g i _ t (0, 0) h1]
  exact h3 i hi
theorem Pre.frozen (h : Pre w g t k xs) (i : Nat) : w.frozen? ⟨g, i, none⟩ = false := by
  obtain ⟨cur, h1, h2, h3⟩ := h
  simp [World.frozen?, h1]
theorem Pre.set (h : Pre w g t k xs) {i : Nat} (hi : i < xs.length) (v : Nat) : Pre (w.setCell ⟨g, i, none⟩ (.int k (v : Int))) g t k (xs.set i v) := by
  obtain ⟨cur, h1, h2, h3⟩ := h
  refine ⟨cur.setIfInBounds i (.int k (v : Int)), ?_, by simpa using h2, fun j hj => ?_⟩
  · simp only [World.setCell, Array.getElem?_modify, h1]
    simp
  · rw [List.length_set] at hj
    rw [nth_set hi, Array.getElem?_setIfInBounds]
    by_cases e : i = j
    · subst e
      rw [if_pos rfl, if_pos rfl, if_pos (by omega)]
    · rw [if_neg e, if_neg (fun x => e x.symm)]
      exact h3 j hj
theorem Pre.below {B : Nat} (h : Pre w g t k xs) (hb : Below B w w') (hg : g < B) : Pre w' g t k xs := by
  obtain ⟨cur, h1, h2, h3⟩ := h
  exact ⟨cur, (hb.block g hg).trans h1, h2, h3⟩
theorem Pre.grown {r : Option Nat} (h : Pre w g t k xs) (hb : w.grownBy w' r) (hg : some g ≠ r) : Pre w' g t k xs := by
  have hl := h.lt
  obtain ⟨cur, h1, h2, h3⟩ := h
  exact ⟨cur, (hb.block g hl hg).trans h1, h2, h3⟩
theorem Pre.take (h : Pre w g t k xs) (n : Nat) : Pre w g t k (xs.take n) := by
  obtain ⟨cur, h1, h2, h3⟩ := h
  refine ⟨cur, h1, by rw [List.length_take]; omega, fun i hi => ?_⟩
  rw [List.length_take] at hi
  rw [nth_take (by omega)]
  exact h3 i (by omega)
theorem Pre.sl (h : Pre w g t k xs) : Sl w k (some ⟨g, 0, none⟩) xs := fun i hi =>
  ⟨_, rfl, h.lt, by rw [Addr.add_lit, Nat.zero_add]; exact h.cell hi⟩
theorem Pre.of_own {base n c : Nat} (h : w.ownsRow base t 1 (.slice (some ⟨g, 0, none⟩) n c) n (vals k xs)) : Pre w g t k xs := by
  have hl := h.1
  rw [vals_length] at hl
  rcases h.2 with ⟨e, _⟩ | ⟨g', cap, cur, e, _, hh, hnc, _, hs, ht⟩
  · cases e
  · injection e with e1 e2 e3
    injection e1 with e1
    injection e1 with e1
    subst e1; subst e3
    refine ⟨cur, hh, by omega, fun i hi => ?_⟩
    have h4 : (vals k xs)[i]? = some (.int k (nth xs i : Nat)) := by simp [vals, hi, nth_eq hi]
    rw [← ht, List.getElem?_take, if_pos (by omega)] at h4
    simpa using h4
theorem Sl.grown {A : Option Addr} {r : Option Nat} (h : Sl w k A xs) (hb : w.grownBy w' r) (hne : ∀ ad, A = some ad → xs ≠ [] → some ad.block ≠ r) : Sl w' k A xs := fun i hi => by
  obtain ⟨ad, e, hl, hc⟩ := h i hi
  have hx : xs ≠ [] := by intro e; subst e; simp at hi
  refine ⟨ad, e, Nat.lt_of_lt_of_le hl hb.size, ?_⟩
  rw [← hc]
  exact World.cell?_of_block (by rw [block_of_add]; exact hb.block _ hl (hne ad e hx))
end
theorem gb_set {w w' : World} {g : Nat} (h : w.grownBy w' (some g)) (i : Nat) (v : Value) : w.grownBy (w'.setCell ⟨g, i, none⟩ v) (some g) :=
  ⟨h.os, h.tape, h.output, by have := h.size; simpa [World.setCell] using this, fun k hk hne => by
    rw [Below.heap_setCell _ _ _ _ (fun e => hne (by rw [e]))]
    exact h.block k hk hne⟩
theorem gb_drewN {w w' : World} {r : Option Nat} (h : w.grownBy w' r) (n : Nat) : w.grownBy (w'.drewN n) r := ⟨h.os, h.tape, h.output, h.size, h.block⟩
theorem gb_trans {a b c : World} {r : Option Nat} (h : a.grownBy b r) (k : b.grownBy c r) : a.grownBy c r :=
  ⟨k.os.trans h.os, k.tape.trans h.tape, k.output.trans h.output, Nat.le_trans h.size k.size, fun i hi hne => (k.block i (Nat.lt_of_lt_of_le hi h.size) hne).trans (h.block i hi hne)⟩
theorem gb_of_below {a b : World} {r : Option Nat} (h : Below a.heap.size a b) : a.grownBy b r := ⟨h.os, h.tape, h.output, h.size, fun i hi _ => h.block i hi⟩
theorem bthen {B : Nat} {w w1 w2 : World} (h1 : Below B w w1) (h2 : Below w1.heap.size w1 w2) (hB : B ≤ w.heap.size) : Below B w w2 := h1.trans (h2.mono (Nat.le_trans hB h1.size))
section
variable {w w2 : World} {C : Array Value} {T : TypeId}
theorem box_heap (hb : Below (w.alloc (.cells C T)).heap.size (w.alloc (.cells C T)) w2) : w2.heap[w.heap.size]? = some (.cells C T (0, 0)) := (hb.block _ (by simp)).trans (heap_alloc_new w _)
theorem box_cell (hb : Below (w.alloc (.cells C T)).heap.size (w.alloc (.cells C T)) w2) (i : Nat) : w2.cell? ⟨w.heap.size, i, none⟩ = C[i]? := cell_of_row w2 _ i _ T (0, 0) (box_heap hb)
theorem box_frozen (hb : Below (w.alloc (.cells C T)).heap.size (w.alloc (.cells C T)) w2) (i : Nat) : w2.frozen? ⟨w.heap.size, i, none⟩ = false := by
  have := box_heap hb
  simp [World.frozen?, this]
theorem box_size (hb : Below (w.alloc (.cells C T)).heap.size (w.alloc (.cells C T)) w2) : w.heap.size < w2.heap.size := by
  have := hb.size
  simp at this
  omega
end
theorem ret_slice {A : Option Addr} {m n c : Nat} (h : m = n) : Ending.returned (.slice A m c) = .returned (.slice A n c) := by rw [h]
theorem ret_int {k : IntKind} {a b : Int} (h : a = b) : Ending.returned (.int k a) = .returned (.int k b) := by rw [h]
def lenOf : Value → Nat | .slice _ n _ => n | _ => 0

end Go.Proofs.Ytndcopljjnbkbaa
